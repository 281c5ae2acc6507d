/- key.Join and key.Of: joint keys of values. -/
import Derived.Test.YticbcoklpgfkhaaK2
import Derived.Test.YticbcoklpgfkhaaKyLen
namespace Go.Proofs.Yticbcoklpgfkhaa
open Go.RowKit

/-- The first values' keys, one behind the other. -/
def keysN (l : Nat → GV) (j : Nat) : List UInt8 := (List.range j).flatMap fun i => (l i).key
theorem keysN_len {l : Nat → GV} {j : Nat} (h : ∀ i, i < j → (l i).err = 0) : (keysN l j).length ≤ j * 10239 := by
  induction j with
  | zero => simp [keysN]
  | succ j ih =>
    have h1 := ih fun i hi => h i (by omega)
    have h2 := key_most (h j (by omega))
    unfold keysN at h1 ⊢
    rw [flat_snoc, List.length_append]
    omega
/-- What Join tells. -/
def JoinSay (n : Nat) (l : Nat → GV) (w : World) (e : Ending) (w' : World) : Prop :=
  RowKit.Below w.heap.size w w' ∧ ((∃ j, j < n ∧ (∀ i, i < j → (l i).err = 0) ∧ (l j).err ≠ 0 ∧ e = .returned (.tuple #[.slice none 0 0, .int .i64 (l j).err])) ∨ ((∀ i, i < n → (l i).err = 0) ∧ ∃ v', e = .returned (.tuple #[v', .int .i64 0]) ∧ w'.ownsRow w.heap.size 5 1 v' (keysN l n).length (Lib.byteCells (keysN l n))))

set_option maxHeartbeats 4000000 in
set_option maxRecDepth 1000000 in
theorem Join_any (n c : Nat) (a : Option Addr) (l : Nat → GV) (w : World) (hV : Vals w a n l) (hN : ∀ i, i < n → (l i).nodes ≤ 16384) (_hnc : n ≤ c) (_hcm : c ≤ maxLen) (hn : n ≤ 10000000) :
    Calls Try.prog 26 #[.slice a n c] w fun e w' => JoinSay n l w e w' := by
  have hml : maxLen = 9223372036854775807 := rfl
  have HV : Hid (∀ i, i < n → ∃ b o v', a = some ⟨b, o, none⟩ ∧ Lies w (l i) v' ∧ At5 w b (o + i * 5) v') := hV
  have HN := mkHid hN
  have hb1 := (RowKit.Below.refl w.heap.size w).alloc (Nat.le_refl _) (.cells #[.slice none 0 0] 72)
  have H1 : Hid (Wr w.heap.size w.heap.size [] (.slice none 0 0) (w.alloc (.cells #[.slice none 0 0] 72))) := ⟨heap_alloc_new w _, ⟨rfl, Or.inl ⟨rfl, rfl⟩⟩, by simp [Value.ownBlock], Nat.le_refl _⟩
  have HB1 := mkHid hb1
  clear hV hN hb1
  go_enter Try.func26, Try.ntmps26
  go_wp2_with fail
  go_loopw [10] (fun i wr => ∃ (j : Nat) (v : Value), i = .int .i64 j ∧ j ≤ n ∧ (∀ i, i < j → (l i).err = 0) ∧ Wr w.heap.size w.heap.size (keysN l j) v wr ∧ RowKit.Below w.heap.size w wr) (fun i _ => n - (intOf i).toNat)
  case atStart => exact ⟨0, _, rfl, by omega, fun i hi => absurd hi (Nat.not_lt_zero _), H1.out, HB1.out⟩
  case round =>
    obtain ⟨j, v, rfl, hj, hok, hw, hb⟩ := hrel
    have hsz := hb.size
    by_cases hlt : j < n
    · obtain ⟨b', o', v', rfl, hLj, hAj⟩ := HV.out j hlt
      have hag := hLj.agg
      obtain ⟨k', n', s', la', ln', lc', fa', fn', fc', rfl⟩ := hag
      obtain ⟨q0, q1, q2, q3, q4⟩ := hAj.five
      have p0 := below_keeps hb _ _ _ q0
      have p1 := below_keeps hb _ _ _ q1
      have p2 := below_keeps hb _ _ _ q2
      have p3 := below_keeps hb _ _ _ q3
      have p4 := below_keeps hb _ _ _ q4
      obtain ⟨O, hO⟩ : ∃ O : Obj, O = .cells #[.int .i64 k', .int .i64 n', .string s', .slice la' ln' lc', .slice fa' fn' fc'] 25 := ⟨_, rfl⟩
      have hbe := (RowKit.Below.refl wr.heap.size wr).alloc (Nat.le_refl _) O
      have hba : RowKit.Below w.heap.size w (wr.alloc O) := hb.trans (hbe.mono hsz)
      have HGD := mkHid (Good_any (l j) _ (wr.alloc O) (hLj.below hba) (HN.out j hlt))
      have hbox : Blk5 (wr.alloc O) wr.heap.size (.int .i64 k') (.int .i64 n') (.string s') (.slice la' ln' lc') (.slice fa' fn' fc') := by rw [hO]; exact Blk5.new wr _ _ _ _ _
      have HBX := mkHid hbox
      have HU := mkHid (und_all hLj)
      have HBA := mkHid hba
      have HW := mkHid (hw.new hbe)
      have HO := mkHid hO
      have HOK := mkHid hok
      have hkl := keysN_len hok
      clear hLj hAj q0 q1 q2 q3 q4 hb hbe hba hw hbox hok
      by_cases hee : (l j).err = 0
      · have HE0 := mkHid hee
        rw [hee] at HGD
        clear hee
        go_wp2_with fail
        rw [← HO.out]
        refine HGD.out.mono ?_
        rintro e w1 ⟨rfl, hb1⟩
        obtain ⟨c0, c1, c2, c3, c4⟩ := (HBX.out.below hb1).cells
        have hs1 := hb1.size
        have hB1 := HBA.out.trans (hb1.mono HBA.out.size)
        have HB1 := mkHid hB1
        have HC := mkHid (key_any (l j) (err_zeroM HE0.out).1 w.heap.size w.heap.size (keysN l j) v _ w1 (HW.out.new hb1) hB1.size (HU.out.keep hB1) (by have := key_most HE0.out; omega))
        have HOW := mkHid (HW.out.new hb1).own
        have hB1s := hB1.size
        clear hb1 hB1
        go_wp2_with fail
        refine HC.out.mono ?_
        rintro e w2 ⟨rfl, v2, hw2, hg2⟩
        have HB2 := mkHid (HB1.out.trans (hg2.below HOW.out hB1s (Nat.le_refl _)))
        have HW2 := mkHid hw2
        clear hw2 hg2
        go_wp2_with fail
        go_roundw
        case rel =>
          refine ⟨j + 1, v2, by go_num, by omega, ?_, ?_, HB2.out⟩
          · intro i hi
            rcases Nat.lt_succ_iff_lt_or_eq.1 hi with h1 | rfl
            · exact HOK.out i h1
            · exact HE0.out
          · unfold keysN
            rw [flat_snoc]
            exact HW2.out
        case measure => simp [intOf]; omega
      · obtain ⟨m, hm⟩ : ∃ m, m = (l j).err := ⟨_, rfl⟩
        have HEJ : Hid (∃ j, j < n ∧ (∀ i, i < j → (l i).err = 0) ∧ (l j).err ≠ 0 ∧ Ending.returned (.tuple #[.slice none 0 0, .int .i64 m]) = .returned (.tuple #[.slice none 0 0, .int .i64 (l j).err])) := ⟨j, hlt, HOK.out, hee, by rw [hm]⟩
        have k0 : (m == 0) = false := by rw [hm]; simpa using hee
        rw [← hm] at HGD
        clear hee hm
        go_wp2_with fail
        rw [← HO.out]
        refine HGD.out.mono ?_
        rintro e w1 ⟨rfl, hb1⟩
        obtain ⟨c0, c1, c2, c3, c4⟩ := (HBX.out.below hb1).cells
        have HB1 := mkHid (HBA.out.trans (hb1.mono HBA.out.size))
        clear hb1
        go_wp2_with fail
        go_ret2
        exact ⟨HB1.out, Or.inl HEJ.out⟩
    · obtain rfl : n = j := by omega
      obtain ⟨a1, c1', rfl, _⟩ := own_slice hw.own
      have c0 := hw.blk.cell
      have HE := mkHid hw.own
      have HOK := mkHid hok
      have HB := mkHid hb
      clear hw hok hb
      go_wp2_with fail
      go_ret2
      exact ⟨HB.out, Or.inr ⟨HOK.out, _, rfl, HE.out⟩⟩

/-- What Of tells. -/
def OfSay (g : GV) (w : World) (e : Ending) (w' : World) : Prop :=
  RowKit.Below w.heap.size w w' ∧ ((g.err ≠ 0 ∧ e = .returned (.tuple #[.slice none 0 0, .int .i64 g.err])) ∨ (g.err = 0 ∧ ∃ v', e = .returned (.tuple #[v', .int .i64 0]) ∧ w'.ownsRow w.heap.size 5 1 v' g.key.length (Lib.byteCells g.key)))
theorem own_more {w : World} {B B' t size n : Nat} {v : Value} {xs : List Value} (h : w.ownsRow B t size v n xs) (hB : B' ≤ B) : w.ownsRow B' t size v n xs := by
  refine ⟨h.1, ?_⟩
  rcases h.2 with h0 | ⟨g, cap, cur, rfl, h1, h2⟩
  · exact Or.inl h0
  · exact Or.inr ⟨g, cap, cur, rfl, Nat.le_trans hB h1, h2⟩
set_option maxHeartbeats 2000000 in
set_option maxRecDepth 1000000 in
theorem Of_any (g : GV) (v : Value) (w : World) (hL : Lies w g v) (hN : g.nodes ≤ 16384) : Calls Try.prog 20 #[v] w fun e w' => OfSay g w e w' := by
  have hml : maxLen = 9223372036854775807 := rfl
  obtain ⟨k, n, s, la, ln, lc, fa, fn, fc, rfl⟩ := hL.agg
  have hb1 := (RowKit.Below.refl w.heap.size w).alloc (Nat.le_refl _) (.cells #[.int .i64 k, .int .i64 n, .string s, .slice la ln lc, .slice fa fn fc] 25)
  have hb2 := hb1.alloc (by simp) (.cells #[.int .i64 k, .int .i64 n, .string s, .slice la ln lc, .slice fa fn fc] 25)
  have hV : Vals ((w.alloc (.cells #[.int .i64 k, .int .i64 n, .string s, .slice la ln lc, .slice fa fn fc] 25)).alloc (.cells #[.int .i64 k, .int .i64 n, .string s, .slice la ln lc, .slice fa fn fc] 25)) (some ⟨w.heap.size + 1, 0, none⟩) 1 (fun _ => g) := by
    intro i hi
    obtain rfl : i = 0 := by omega
    refine ⟨w.heap.size + 1, 0, _, rfl, hL.below hb2, ?_⟩
    intro j hj
    simp [Value.cells]
  have HJ := mkHid (Join_any 1 1 _ (fun _ => g) _ hV (fun _ _ => hN) (Nat.le_refl _) (by omega) (by omega))
  have HB2 := mkHid hb2
  have HK : Hid (keysN (fun _ => g) 1 = g.key) := by show _ = _; simp [keysN]
  clear hL hb1 hb2 hV
  go_enter Try.func20, Try.ntmps20
  go_wp2_with fail
  refine HJ.out.mono ?_
  rintro e w2 ⟨hb, ⟨j, hj, hok, hne, rfl⟩ | ⟨hok, v', rfl, ho⟩⟩
  · have HB := mkHid (HB2.out.trans (hb.mono HB2.out.size))
    have HE : Hid (g.err ≠ 0) := hne
    obtain ⟨m, hm⟩ : ∃ m, m = g.err := ⟨_, rfl⟩
    have HEM := mkHid hm
    rw [show (fun _ => g) j = g from rfl, ← hm]
    clear hb hok hne hm
    go_wp2_with fail
    go_ret2
    exact ⟨HB.out, Or.inl ⟨HE.out, by rw [HEM.out]; rfl⟩⟩
  · have HB := mkHid (HB2.out.trans (hb.mono HB2.out.size))
    have HE : Hid (g.err = 0) := hok 0 (by omega)
    rw [HK.out] at ho
    obtain ⟨a1, c1', rfl, _⟩ := own_slice ho
    have HO := mkHid (own_more (B' := w.heap.size) ho HB2.out.size)
    clear hb hok ho
    go_wp2_with fail
    go_ret2
    exact ⟨HB.out, Or.inr ⟨HE.out, _, rfl, HO.out⟩⟩
end Go.Proofs.Yticbcoklpgfkhaa
