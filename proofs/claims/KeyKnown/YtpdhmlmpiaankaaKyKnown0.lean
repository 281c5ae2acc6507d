/- Chapter 5's examples. -/
import Derived.Test.YtpdhmlmpiaankaaKyAwake
import Derived.Test.YtpdhmlmpiaankaaKyAfter
namespace Go.Proofs.Ytpdhmlmpiaankaa
open Go.RowKit

def gLst (n : Nat) (l : Nat → GV) : GV := .mk 0 0 ⟨#[]⟩ n l 0 (fun _ => ⟨#[]⟩) (fun _ => .nil)
theorem lies_lst {w : World} {a : Option Addr} {n c : Nat} {l : Nat → GV} (h : Vals w a n l) (h1 : n ≤ c) (h2 : c ≤ maxLen) : Lies w (gLst n l) (.agg #[.int .i64 0, .int .i64 0, .string ⟨#[]⟩, .slice a n c, .slice none 0 0]) :=
  ⟨a, c, none, 0, rfl, small64 (by omega), small64 (by omega), by decide, h1, h2, by omega, by unfold maxLen; omega, h, fun i hi => absurd hi (Nat.not_lt_zero _)⟩
theorem same_lst {n : Nat} {l l' : Nat → GV} (h : ∀ i, i < n → (l i).same (l' i) = true) : (gLst n l).same (gLst n l') = true := by
  simp [gLst, GV.same]
  exact h

set_option maxHeartbeats 1000000 in
set_option maxRecDepth 1000000 in
theorem list_any (a a' : Option Addr) (n c c' : Nat) (l l' : Nat → GV) (w : World) (h : Vals w a n l) (h' : Vals w a' n l') (h1 : n ≤ c) (h2 : c ≤ maxLen) (h3 : n ≤ c') (h4 : c' ≤ maxLen) (hs : ∀ i, i < n → (l i).same (l' i) = true) :
    Calls Try.prog 18 #[.slice a n c, .slice a' n c'] w fun e w' => e = .returned (.bool true) ∧ RowKit.Below w.heap.size w w' := by
  have HC : Hid (Calls Try.prog 25 #[.agg #[.int .i64 0, .int .i64 0, .string ⟨#[]⟩, .slice a n c, .slice none 0 0], .agg #[.int .i64 0, .int .i64 0, .string ⟨#[]⟩, .slice a' n c', .slice none 0 0]] w fun e w' => e = .returned (.bool true) ∧ RowKit.Below w.heap.size w w') := by
    have h := Same_any _ _ _ _ w (lies_lst h h1 h2) (lies_lst h' h3 h4)
    rw [same_lst hs] at h
    exact h
  clear h h'
  go_enter Try.func18, Try.ntmps18
  go_wp2_with fail
  refine HC.out.mono ?_
  rintro e w1 ⟨rfl, b1⟩
  have B1 := mkHid b1
  clear b1
  go_wp2_with fail
  go_ret
  exact ⟨rfl, B1.out⟩


/-- 'is' of bytes in a new block. -/
theorem is_new (g : GV) (v : Value) (bs : List UInt8) (cs : Array Value) (u : World) (hcs : cs = (Lib.byteCells bs).toArray) (hL : Lies u g v) (hN : g.nodes ≤ 16384) (he : g.err = 0) (hk : g.key = bs) :
    Calls Try.prog 13 #[v, .slice (some ⟨u.heap.size, 0, none⟩) bs.length bs.length] (u.alloc (.cells cs 5)) fun e w' => e = .returned (.bool true) ∧ RowKit.Below u.heap.size u w' := by
  have hb := (RowKit.Below.refl u.heap.size u).alloc (Nat.le_refl _) (.cells cs 5)
  have hB : Byts (u.alloc (.cells cs 5)) (some ⟨u.heap.size, 0, none⟩) g.key := by
    intro i hi
    refine ⟨u.heap.size, 0, rfl, ?_⟩
    rw [cell_of_row _ u.heap.size _ cs 5 (0, 0) (heap_alloc_new u _), hcs]
    rw [hk] at hi
    simp [Lib.byteCells, hk, hi]
  have h := is_yes g v (some ⟨u.heap.size, 0, none⟩) bs.length (u.alloc (.cells cs 5)) (hL.below hb) hN he hB
  rw [hk] at h
  refine h.mono ?_
  rintro e w' ⟨rfl, b⟩
  exact ⟨rfl, hb.trans (b.mono hb.size)⟩
theorem gN_key : gN.key = [10] ∧ gN.err = 0 ∧ gN.every GV.nOk = true := by decide +kernel
theorem two_no (g : GV) (h1 : g.err = 0) (h2 : g.every GV.nOk = true) : ([10, 10] : List UInt8) ≠ g.key := by
  intro e
  obtain ⟨k1, k2, k3⟩ := gN_key
  obtain ⟨h, _⟩ := begins_same (l := [10, 10]) (g := g) (g' := gN) (rest := []) (rest' := [10]) ⟨h1, by simpa using e⟩ ⟨k2, by rw [k1]; rfl⟩ h2 k3
  exact absurd h (by simp)
theorem byts_new (u : World) (bs : List UInt8) (cs : Array Value) (hcs : cs = (Lib.byteCells bs).toArray) : Byts (u.alloc (.cells cs 5)) (some ⟨u.heap.size, 0, none⟩) bs := by
  intro i hi
  refine ⟨u.heap.size, 0, rfl, ?_⟩
  rw [cell_of_row _ u.heap.size _ cs 5 (0, 0) (heap_alloc_new u _), hcs]
  simp [Lib.byteCells, hi]
/-- Back of 10, 10: refused. -/
theorem back_two (u : World) : Calls Try.prog 9 #[.slice (some ⟨u.heap.size, 0, none⟩) 2 2] (u.alloc (.cells #[.int .u8 10, .int .u8 10] 5)) fun e w' => e = .returned (.tuple #[.agg #[.int .i64 0, .int .i64 0, .string ⟨#[]⟩, .slice none 0 0, .slice none 0 0], .int .i64 4]) ∧ RowKit.Below u.heap.size u w' := by
  have hb := (RowKit.Below.refl u.heap.size u).alloc (Nat.le_refl _) (.cells #[.int .u8 10, .int .u8 10] 5)
  refine (Back_any (some ⟨u.heap.size, 0, none⟩) 2 [10, 10] _ (byts_new u [10, 10] _ rfl) (by simp) (by unfold maxLen; omega) (by simp)).mono ?_
  rintro e w' ⟨b, ⟨f, h1, h2, _, h4⟩ | ⟨_, rfl⟩⟩
  · exact absurd h2 (two_no f.g h1 (nOk_lies h4.lies))
  · exact ⟨rfl, hb.trans (b.mono hb.size)⟩
/-- Split of 10, 10 into two: Null, Null. -/
theorem split_two (u : World) : Calls Try.prog 10 #[.slice (some ⟨u.heap.size, 0, none⟩) 2 2, .int .i64 2] (u.alloc (.cells #[.int .u8 10, .int .u8 10] 5)) fun e w' => (∃ a c l, e = .returned (.tuple #[.slice a 2 c, .int .i64 0]) ∧ 2 ≤ c ∧ c ≤ maxLen ∧ Vals w' a 2 l ∧ ∀ i, i < 2 → (l i).same gN = true) ∧ RowKit.Below u.heap.size u w' := by
  have hb := (RowKit.Below.refl u.heap.size u).alloc (Nat.le_refl _) (.cells #[.int .u8 10, .int .u8 10] 5)
  obtain ⟨k1, k2, k3⟩ := gN_key
  refine (Split_any (some ⟨u.heap.size, 0, none⟩) 2 [10, 10] 2 _ (byts_new u [10, 10] _ rfl) (by simp) (by unfold maxLen; omega) (by omega) (by simp)).mono ?_
  rintro e w' ⟨b, ⟨v, fs, h1, h2, h3, rfl⟩ | ⟨h, _⟩⟩
  · refine ⟨?_, hb.trans (b.mono hb.size)⟩
    match fs, h1 with
    | [f, f'], _ =>
      have hf := h3.trees f (by simp)
      have hf' := h3.trees f' (by simp)
      have hkk : ([10, 10] : List UInt8) = f.g.key ++ f'.g.key := by rw [h2]; simp [keysF]
      obtain ⟨e1, e2, _⟩ := begins_same (l := [10, 10]) (g := f.g) (g' := gN) (rest := f'.g.key) (rest' := [10]) ⟨hf.2, hkk⟩ ⟨k2, by rw [k1]; rfl⟩ (nOk_lies hf.1.lies) k3
      have s1 := key_same hf.2 k2 (nOk_lies hf.1.lies) k3 e2
      have s2 := key_same hf'.2 k2 (nOk_lies hf'.1.lies) k3 (by rw [e1, k1])
      obtain ⟨a, c, rfl, q1, q2, hV⟩ := vals_own (l := fun i => if i = 0 then f.g else f'.g) h3.own (by simp) (fun i hi => by
        have hi2 : i < 2 := by simpa using hi
        obtain rfl | rfl : i = 0 ∨ i = 1 := by omega
        · exact hf.1.lies
        · exact hf'.1.lies)
      refine ⟨a, c, _, rfl, q1, q2, hV, fun i hi => ?_⟩
      obtain rfl | rfl : i = 0 ∨ i = 1 := by omega
      · exact s1
      · exact s2
  · refine absurd ⟨rfl, ?_, ?_⟩ (h [gN, gN])
    · intro g hg
      simp at hg
      rw [hg]
      exact ⟨k2, k3⟩
    · simp [k1]
theorem after_yes (u : World) : Calls Try.prog 11 #[.slice (some ⟨u.heap.size, 0, none⟩) 2 2] (u.alloc (.cells #[.int .u8 1, .int .u8 255] 5)) fun e w' => (∃ v, e = .returned (.tuple #[v, .bool true]) ∧ w'.ownsRow u.heap.size 5 1 v 1 (Lib.byteCells [2])) ∧ RowKit.Below u.heap.size u w' := by
  have hb := (RowKit.Below.refl u.heap.size u).alloc (Nat.le_refl _) (.cells #[.int .u8 1, .int .u8 255] 5)
  refine (After_any (some ⟨u.heap.size, 0, none⟩) 2 [1, 255] _ (byts_new u [1, 255] _ rfl) (by simp) (by unfold maxLen; omega) (by simp)).mono ?_
  rintro e w' ⟨b, ⟨h, _⟩ | ⟨_, v, rfl, ho⟩⟩
  · exact absurd h (by decide)
  · refine ⟨⟨v, rfl, ?_⟩, hb.trans (b.mono hb.size)⟩
    have e : riseR [1, 255] = [2] := by decide
    rw [e] at ho
    exact own_more ho hb.size
theorem after_no (u : World) : Calls Try.prog 11 #[.slice (some ⟨u.heap.size, 0, none⟩) 1 1] (u.alloc (.cells #[.int .u8 255] 5)) fun e w' => e = .returned (.tuple #[.slice none 0 0, .bool false]) ∧ RowKit.Below u.heap.size u w' := by
  have hb := (RowKit.Below.refl u.heap.size u).alloc (Nat.le_refl _) (.cells #[.int .u8 255] 5)
  refine (After_any (some ⟨u.heap.size, 0, none⟩) 1 [255] _ (byts_new u [255] _ rfl) (by simp) (by unfold maxLen; omega) (by simp)).mono ?_
  rintro e w' ⟨b, ⟨_, rfl⟩ | ⟨h, _⟩⟩
  · exact ⟨rfl, hb.trans (b.mono hb.size)⟩
  · exact absurd (by decide) h
end Go.Proofs.Ytpdhmlmpiaankaa
