/- The walk of slices.CompareFunc at rows of fields, given what the function that is handed in tells. -/
import Derived.Test.YtkjijepepbgciabLex
namespace Go.Proofs.Ytkjijepepbgciab
open Go.RowKit

set_option maxHeartbeats 4000000 in
set_option maxRecDepth 1000000 in
theorem compareFlds (la lb : Option Addr) (n1 c1 n2 c2 : Nat) (nm nm' : Nat → ByteArray) (l l' : Nat → GV) (c : Nat → Int) (w : World) (m1 : n1 ≤ maxLen) (m2 : n2 ≤ maxLen) (hl : Flds w la n1 nm l) (hl' : Flds w lb n2 nm' l')
    (hrec : ∀ i, i < n1 → i < n2 → ∀ (v v' : Value) (w' : World), Lies w' (l i) v → Lies w' (l' i) v' → Calls Try.prog 53 #[.agg (#[.string (nm i)] ++ v.cells), .agg (#[.string (nm' i)] ++ v'.cells)] w' fun e w'' => e = .returned (.int .i64 (c i)) ∧ Below w'.heap.size w' w'') :
    Calls Try.prog 52 #[.slice la n1 c1, .slice lb n2 c2, .func (.func 53) #[] #[]] w fun e w' => e = .returned (.int .i64 (lex c n1 n2)) ∧ Below w.heap.size w w' := by
  have hml : maxLen = 9223372036854775807 := rfl
  have HA : Hid (Flds w la n1 nm l) := hl
  have HB : Hid (Flds w lb n2 nm' l') := hl'
  clear hl hl'
  go_enter Try.func52, Try.ntmps52
  go_wp2_with fail
  go_loopw [13] (fun i wr => ∃ (j : Nat), i = .int .i64 j ∧ j ≤ n1 ∧ j ≤ n2 ∧ Hid (∀ i, i < j → c i = 0) ∧ Below w.heap.size w wr) (fun i _ => n1 - (intOf i).toNat)
  case atStart =>
    exact ⟨0, rfl, by omega, by omega, fun i hi => absurd hi (Nat.not_lt_zero _), Below.refl _ _⟩
  case round =>
    obtain ⟨j, rfl, hj, hj2, HD, hbw⟩ := hrel
    have hbs := hbw.size
    by_cases hlt : j < n1
    · obtain ⟨b, o, v', rfl, hn1, dn, hLj, hA⟩ := HA.out j hlt
      have en := below_keeps hbw _ _ _ dn
      have HLj : Hid (Lies w (l j) v') := hLj
      obtain ⟨k', n', s', la', ln', lc', fa', fn', fc', rfl⟩ := hLj.agg
      obtain ⟨d0, d1, d2, d3, d4⟩ := hA.five
      have e0 := below_keeps hbw _ _ _ d0
      have e1 := below_keeps hbw _ _ _ d1
      have e2 := below_keeps hbw _ _ _ d2
      have e3 := below_keeps hbw _ _ _ d3
      have e4 := below_keeps hbw _ _ _ d4
      clear dn hLj hA d0 d1 d2 d3 d4
      have hbj := hbw.alloc hbs (.cells #[.string (nm j), .int .i64 k', .int .i64 n', .string s', .slice la' ln' lc', .slice fa' fn' fc'] 39)
      by_cases hlt2 : j < n2
      · obtain ⟨b2, o2, v2, rfl, hn2, dn, hLj2, hA2⟩ := HB.out j hlt2
        have gn := below_keeps hbj _ _ _ dn
        have HLj2 : Hid (Lies w (l' j) v2) := hLj2
        obtain ⟨k2, n2', s2, la2, ln2, lc2, fa2, fn2, fc2, rfl⟩ := hLj2.agg
        obtain ⟨d0, d1, d2, d3, d4⟩ := hA2.five
        have g0 := below_keeps hbj _ _ _ d0
        have g1 := below_keeps hbj _ _ _ d1
        have g2 := below_keeps hbj _ _ _ d2
        have g3 := below_keeps hbj _ _ _ d3
        have g4 := below_keeps hbj _ _ _ d4
        clear dn hLj2 hA2 d0 d1 d2 d3 d4
        go_wp2_with fail
        have hbk := hbj.alloc (by simp; omega) (.cells #[.string (nm' j), .int .i64 k2, .int .i64 n2', .string s2, .slice la2 ln2 lc2, .slice fa2 fn2 fc2] 39)
        refine (hrec j hlt hlt2 _ _ _ (HLj.out.below hbk) (HLj2.out.below hbk)).mono ?_
        rintro e w1 ⟨rfl, hb1⟩
        have hb2 : Below w.heap.size w w1 := hbk.trans (hb1.mono (by simp; omega))
        clear en gn e0 e1 e2 e3 e4 g0 g1 g2 g3 g4 hb1 hbj hbk
        by_cases hC : c j = 0
        · have HC : Hid (c j = 0) := hC
          rw [hC]
          clear hC
          go_wp2_with fail
          go_roundw
          case rel =>
            refine ⟨j + 1, by go_num, by omega, by omega, fun i hi => ?_, hb2⟩
            rcases Nat.lt_succ_iff_lt_or_eq.1 hi with h | rfl
            · exact HD.out i h
            · exact HC.out
          case measure => simp [intOf]; omega
        · have HE : Hid (lex c n1 n2 = c j) := lex_at HD.out hC hlt hlt2
          generalize c j = C at hC HE
          go_wp2_with fail
          go_ret
          exact ⟨by rw [HE.out]; rfl, hb2⟩
      · have HE : Hid (lex c n1 n2 = 1) := by
          show _ = _
          rw [lex_end (fun i hi => HD.out i (by omega))]
          unfold Lib.compareInt
          rw [if_neg (by omega), if_pos (by omega)]
        go_wp2_with fail
        go_ret
        exact ⟨by rw [HE.out]; rfl, hbj⟩
    · by_cases hlt2 : n1 < n2
      · have HE : Hid (lex c n1 n2 = -1) := by
          show _ = _
          rw [lex_end (fun i hi => HD.out i (by omega))]
          unfold Lib.compareInt
          rw [if_pos (by omega)]
        go_wp2_with fail
        go_ret
        exact ⟨by rw [HE.out]; rfl, hbw⟩
      · have HE : Hid (lex c n1 n2 = 0) := by
          show _ = _
          rw [lex_end (fun i hi => HD.out i (by omega))]
          unfold Lib.compareInt
          rw [if_neg (by omega), if_neg (by omega)]
        go_wp2_with fail
        go_ret
        exact ⟨by rw [HE.out]; rfl, hbw⟩
end Go.Proofs.Ytkjijepepbgciab
