/- The statements' fails, and the document's List and Reply: are two replies the same? -/
import Derived.Test.YtfnmmpakejdlgaaDoorZCBackL
import Derived.Test.YtfnmmpakejdlgaaDoorZCGetR
namespace Go.Proofs.YtfnmmpakejdlgaaDoor
open Go.RowKit

/-- A list by itself, as a value. -/
def gLst (n : Nat) (l : Nat → GV) : GV := .mk 0 0 ⟨#[]⟩ n l 0 (fun _ => ⟨#[]⟩) (fun _ => .nil)
theorem lies_lst {w : World} {a : Option Addr} {n c : Nat} {l : Nat → GV} (h : Vals w a n l) (h1 : n ≤ c) (h2 : c ≤ maxLen) : Lies w (gLst n l) (.agg #[.int .i64 0, .int .i64 0, .string ⟨#[]⟩, .slice a n c, .slice none 0 0]) :=
  ⟨a, c, none, 0, rfl, small64 (by omega), small64 (by omega), by decide, h1, h2, by omega, by unfold maxLen; omega, h, fun i hi => absurd hi (Nat.not_lt_zero _)⟩
theorem same_lst {n : Nat} {l l' : Nat → GV} (h : ∀ i, i < n → (l i).same (l' i) = true) : (gLst n l).same (gLst n l') = true := by
  simp [gLst, GV.same]
  exact h

set_option maxHeartbeats 1000000 in
set_option maxRecDepth 1000000 in
theorem list_any (a a' : Option Addr) (n c c' : Nat) (l l' : Nat → GV) (w : World) (h : Vals w a n l) (h' : Vals w a' n l') (h1 : n ≤ c) (h2 : c ≤ maxLen) (h3 : n ≤ c') (h4 : c' ≤ maxLen) (hs : ∀ i, i < n → (l i).same (l' i) = true) :
    Calls Tryd.prog 38 #[.slice a n c, .slice a' n c'] w fun e w' => e = .returned (.bool true) ∧ RowKit.Below w.heap.size w w' := by
  have HC : Hid (Calls Tryd.prog 49 #[.agg #[.int .i64 0, .int .i64 0, .string ⟨#[]⟩, .slice a n c, .slice none 0 0], .agg #[.int .i64 0, .int .i64 0, .string ⟨#[]⟩, .slice a' n c', .slice none 0 0]] w fun e w' => e = .returned (.bool true) ∧ RowKit.Below w.heap.size w w') := by
    have h := Same_any _ _ _ _ w (lies_lst h h1 h2) (lies_lst h' h3 h4)
    rw [same_lst hs] at h
    exact h
  clear h h'
  go_enter Tryd.func38, Tryd.ntmps38
  go_wp2_with fail
  refine HC.out.mono ?_
  rintro e w1 ⟨rfl, b1⟩
  have B1 := mkHid b1
  clear b1
  go_wp2_with fail
  go_ret
  exact ⟨rfl, B1.out⟩

set_option maxHeartbeats 2000000 in
set_option maxRecDepth 1000000 in
/-- Two replies of the same numbers, whose documents are the same. -/
theorem rReply_any (E N : Int) (a a' : Option Addr) (n c c' : Nat) (l l' : Nat → GV) (w : World) (h : Vals w a n l) (h' : Vals w a' n l') (h1 : n ≤ c) (h2 : c ≤ maxLen) (h3 : n ≤ c') (h4 : c' ≤ maxLen) (hs : ∀ i, i < n → (l i).same (l' i) = true) :
    Calls Tryd.prog 17 #[.agg #[.int .i64 E, .int .i64 N, .slice a n c], .agg #[.int .i64 E, .int .i64 N, .slice a' n c']] w fun e w' => e = .returned (.bool true) ∧ RowKit.Below w.heap.size w w' := by
  have hb : RowKit.Below w.heap.size w ((w.alloc (.cells #[.int .i64 E, .int .i64 N, .slice a n c] 35)).alloc (.cells #[.int .i64 E, .int .i64 N, .slice a' n c'] 35)) := ((RowKit.Below.refl _ w).alloc (Nat.le_refl _) _).alloc (by simp) _
  have HC := mkHid (list_any a a' n c c' l l' _ (h.below hb) (h'.below hb) h1 h2 h3 h4 hs)
  have HB := mkHid hb
  have hx : Blk3 (w.alloc (.cells #[.int .i64 E, .int .i64 N, .slice a n c] 35)) w.heap.size _ _ _ := Blk3.new w _ _ _
  have hx2 := hx.keep (((RowKit.Below.refl _ (w.alloc (.cells #[.int .i64 E, .int .i64 N, .slice a n c] 35))).alloc (Nat.le_refl _) (.cells #[.int .i64 E, .int .i64 N, .slice a' n c'] 35)).block w.heap.size (by simp))
  have hy : Blk3 ((w.alloc (.cells #[.int .i64 E, .int .i64 N, .slice a n c] 35)).alloc (.cells #[.int .i64 E, .int .i64 N, .slice a' n c'] 35)) (w.alloc (.cells #[.int .i64 E, .int .i64 N, .slice a n c] 35)).heap.size _ _ _ := Blk3.new _ _ _ _
  obtain ⟨c0, c1, c2⟩ := hx2.cells
  obtain ⟨d0, d1, d2⟩ := hy.cells
  rw [show (w.alloc (.cells #[.int .i64 E, .int .i64 N, .slice a n c] 35)).heap.size = w.heap.size + 1 by simp] at d0 d1 d2
  clear h h' hb hx hx2 hy hs
  go_enter Tryd.func17, Tryd.ntmps17
  go_wp2_with fail
  refine HC.out.mono ?_
  rintro e w1 ⟨rfl, b1⟩
  have B1 := mkHid (HB.out.trans (b1.mono HB.out.size))
  clear b1 c0 c1 c2 d0 d1 d2
  go_wp2_with fail
  go_ret
  exact ⟨rfl, B1.out⟩

set_option maxHeartbeats 2000000 in
set_option maxRecDepth 1000000 in
/-- Bytes that Get refuses. -/
theorem fails_any (x : Int) (a : Option Addr) (n c : Nat) (l : List UInt8) (w : World) (hn : n = l.length) (hB : Byts w a l) (hl : l.length ≤ 140737488355328) (hlc : l.length ≤ c) (hcm : c ≤ maxLen) (hT : Tabs w) (hx : (getR l).2 = x) (hx0 : x ≠ 0) :
    Calls Tryd.prog 16 #[.int .i64 x, .slice a n c] w fun e w' => e = .returned (.bool true) ∧ RowKit.Below w.heap.size w w' := by
  subst hn
  have HC : Hid (∀ u : World, RowKit.Below w.heap.size w u → Calls Tryd.prog 23 #[.slice a l.length c] u fun e w' => e = .returned (.tuple #[.agg #[.int .i64 0, .int .i64 0, .string ⟨#[]⟩, .slice none 0 0, .slice none 0 0], .int .i64 x]) ∧ RowKit.Below u.heap.size u w') := by
    intro u hu
    refine (get_of a c l u (hB.below hu) hl hlc hcm (hT.below hu)).mono ?_
    rintro e w' ⟨h1, h2⟩
    rcases h2 with h2 | h2
    · exact absurd h2.1 (by rw [hx]; exact hx0)
    · rw [hx] at h2
      exact ⟨h2.2, h1⟩
  obtain ⟨n, hn⟩ : ∃ n, n = l.length := ⟨_, rfl⟩
  rw [← hn] at HC ⊢
  have HZ := mkHid zero3_any
  clear hB hT hx hn hl hlc
  go_enter Tryd.func16, Tryd.ntmps16
  go_wp2_with fail
  refine (HC.out _ (RowKit.Below.refl _ _)).mono ?_
  rintro e w1 ⟨rfl, b1⟩
  have B1 := mkHid (b1.alloc b1.size (.cells #[.int .i64 0, .int .i64 0, .string ⟨#[]⟩, .slice none 0 0, .slice none 0 0] 29))
  clear b1
  go_wp2_with fail
  refine (HZ.out _).mono ?_
  rintro e w2 ⟨rfl, b2⟩
  have B2 := mkHid (B1.out.trans (b2.mono B1.out.size))
  clear b2
  go_wp2_with fail
  go_ret
  exact ⟨rfl, B2.out⟩
end Go.Proofs.YtfnmmpakejdlgaaDoor
