/- The walks of slices.CompareFunc at rows of values, and at rows of fields, given what the function that is handed in tells. -/
import Derived.Test.YtkjijepepbgciabGood
namespace Go.Proofs.Ytkjijepepbgciab
open Go.RowKit

/-- The first that differs tells; else the lengths. -/
def lex (c : Nat → Int) (n1 n2 : Nat) : Int :=
  match (List.range (min n1 n2)).find? (fun i => c i != 0) with
  | some i => c i
  | none => Lib.compareInt n1 n2

theorem lex_at {c : Nat → Int} {n1 n2 j : Nat} (h : ∀ i, i < j → c i = 0) (hj : c j ≠ 0) (h1 : j < n1) (h2 : j < n2) : lex c n1 n2 = c j := by
  unfold lex
  have hm : j < min n1 n2 := by omega
  have : (List.range (min n1 n2)).find? (fun i => c i != 0) = some j := by
    rw [List.find?_range_eq_some]
    refine ⟨by simp [hj], by simpa using hm, fun i hi => by simp [h i hi]⟩
  rw [this]

theorem lex_end {c : Nat → Int} {n1 n2 : Nat} (h : ∀ i, i < min n1 n2 → c i = 0) : lex c n1 n2 = Lib.compareInt n1 n2 := by
  unfold lex
  have : (List.range (min n1 n2)).find? (fun i => c i != 0) = none := by
    rw [List.find?_range_eq_none]
    intro i hi
    simp [h i hi]
  rw [this]

/-- A row of values that lies. -/
def Vals (w : World) (la : Option Addr) (ln : Nat) (l : Nat → GV) : Prop := ∀ i, i < ln → ∃ b o v', la = some ⟨b, o, none⟩ ∧ Lies w (l i) v' ∧ At5 w b (o + i * 5) v'
/-- A row of fields that lies. -/
def Flds (w : World) (fa : Option Addr) (fn : Nat) (nm : Nat → ByteArray) (f : Nat → GV) : Prop :=
  ∀ i, i < fn → ∃ b o v', fa = some ⟨b, o, none⟩ ∧ (nm i).size ≤ 140737488355328 ∧ w.cell? ⟨b, o + i * 6, none⟩ = some (.string (nm i)) ∧ Lies w (f i) v' ∧ At5 w b (o + i * 6 + 1) v'

set_option maxHeartbeats 4000000 in
set_option maxRecDepth 1000000 in
theorem compareVals (la lb : Option Addr) (n1 c1 n2 c2 : Nat) (l l' : Nat → GV) (c : Nat → Int) (w : World) (m1 : n1 ≤ maxLen) (m2 : n2 ≤ maxLen) (hl : Vals w la n1 l) (hl' : Vals w lb n2 l')
    (hrec : ∀ i, i < n1 → i < n2 → ∀ (v v' : Value) (w' : World), Lies w' (l i) v → Lies w' (l' i) v' → Calls Try.prog 31 #[v, v'] w' fun e w'' => e = .returned (.int .i64 (c i)) ∧ Below w'.heap.size w' w'') :
    Calls Try.prog 51 #[.slice la n1 c1, .slice lb n2 c2, .func (.func 31) #[] #[]] w fun e w' => e = .returned (.int .i64 (lex c n1 n2)) ∧ Below w.heap.size w w' := by
  have hml : maxLen = 9223372036854775807 := rfl
  have HA : Hid (Vals w la n1 l) := hl
  have HB : Hid (Vals w lb n2 l') := hl'
  clear hl hl'
  go_enter Try.func51, Try.ntmps51
  go_wp2_with fail
  go_loopw [13] (fun i wr => ∃ (j : Nat), i = .int .i64 j ∧ j ≤ n1 ∧ j ≤ n2 ∧ Hid (∀ i, i < j → c i = 0) ∧ Below w.heap.size w wr) (fun i _ => n1 - (intOf i).toNat)
  case atStart =>
    exact ⟨0, rfl, by omega, by omega, fun i hi => absurd hi (Nat.not_lt_zero _), Below.refl _ _⟩
  case round =>
    obtain ⟨j, rfl, hj, hj2, HD, hbw⟩ := hrel
    have hbs := hbw.size
    by_cases hlt : j < n1
    · obtain ⟨b, o, v', rfl, hLj, hA⟩ := HA.out j hlt
      have HLj : Hid (Lies w (l j) v') := hLj
      obtain ⟨k', n', s', la', ln', lc', fa', fn', fc', rfl⟩ := hLj.agg
      obtain ⟨d0, d1, d2, d3, d4⟩ := hA.five
      have e0 := below_keeps hbw _ _ _ d0
      have e1 := below_keeps hbw _ _ _ d1
      have e2 := below_keeps hbw _ _ _ d2
      have e3 := below_keeps hbw _ _ _ d3
      have e4 := below_keeps hbw _ _ _ d4
      clear hLj hA d0 d1 d2 d3 d4
      have hbj := hbw.alloc hbs (.cells #[.int .i64 k', .int .i64 n', .string s', .slice la' ln' lc', .slice fa' fn' fc'] 26)
      by_cases hlt2 : j < n2
      · obtain ⟨b2, o2, v2, rfl, hLj2, hA2⟩ := HB.out j hlt2
        have HLj2 : Hid (Lies w (l' j) v2) := hLj2
        obtain ⟨k2, n2', s2, la2, ln2, lc2, fa2, fn2, fc2, rfl⟩ := hLj2.agg
        obtain ⟨d0, d1, d2, d3, d4⟩ := hA2.five
        have g0 := below_keeps hbj _ _ _ d0
        have g1 := below_keeps hbj _ _ _ d1
        have g2 := below_keeps hbj _ _ _ d2
        have g3 := below_keeps hbj _ _ _ d3
        have g4 := below_keeps hbj _ _ _ d4
        clear hLj2 hA2 d0 d1 d2 d3 d4
        go_wp2_with fail
        have hbk := hbj.alloc (by simp; omega) (.cells #[.int .i64 k2, .int .i64 n2', .string s2, .slice la2 ln2 lc2, .slice fa2 fn2 fc2] 26)
        refine (hrec j hlt hlt2 _ _ _ (HLj.out.below hbk) (HLj2.out.below hbk)).mono ?_
        rintro e w1 ⟨rfl, hb1⟩
        have hb2 : Below w.heap.size w w1 := hbk.trans (hb1.mono (by simp; omega))
        clear e0 e1 e2 e3 e4 g0 g1 g2 g3 g4 hb1 hbj hbk
        by_cases hC : c j = 0
        · have HC : Hid (c j = 0) := hC
          rw [hC]
          clear hC
          go_wp2_with fail
          go_roundw
          case rel =>
            refine ⟨j + 1, by go_num, by omega, by omega, fun i hi => ?_, hb2⟩
            rcases Nat.lt_succ_iff_lt_or_eq.1 hi with h | rfl
            · exact HD.out i h
            · exact HC.out
          case measure => simp [intOf]; omega
        · have HE : Hid (lex c n1 n2 = c j) := lex_at HD.out hC hlt hlt2
          generalize c j = C at hC HE
          go_wp2_with fail
          go_ret
          exact ⟨by rw [HE.out]; rfl, hb2⟩
      · have HE : Hid (lex c n1 n2 = 1) := by
          show _ = _
          rw [lex_end (fun i hi => HD.out i (by omega))]
          unfold Lib.compareInt
          rw [if_neg (by omega), if_pos (by omega)]
        go_wp2_with fail
        go_ret
        exact ⟨by rw [HE.out]; rfl, hbj⟩
    · by_cases hlt2 : n1 < n2
      · have HE : Hid (lex c n1 n2 = -1) := by
          show _ = _
          rw [lex_end (fun i hi => HD.out i (by omega))]
          unfold Lib.compareInt
          rw [if_pos (by omega)]
        go_wp2_with fail
        go_ret
        exact ⟨by rw [HE.out]; rfl, hbw⟩
      · have HE : Hid (lex c n1 n2 = 0) := by
          show _ = _
          rw [lex_end (fun i hi => HD.out i (by omega))]
          unfold Lib.compareInt
          rw [if_neg (by omega), if_neg (by omega)]
        go_wp2_with fail
        go_ret
        exact ⟨by rw [HE.out]; rfl, hbw⟩
end Go.Proofs.Ytkjijepepbgciab
