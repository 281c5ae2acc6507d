/- The walk of value.every with the predicate readable. -/
import Derived.Test.YtjngbogbbglbnabEvery
namespace Go.Proofs.Ytjngbogbbglbnab
open Go.RowKit

set_option maxHeartbeats 4000000 in
set_option maxRecDepth 1000000 in
theorem every_readable (p : GV → Bool) (hp : ∀ (g : GV) (v : Value) (w : World), Lies w g v → g.nodes ≤ 1000000000 → Calls Try.prog 73 #[v] w fun e w' => e = .returned (.bool (p g)) ∧ Below w.heap.size w w') :
    ∀ (g : GV) (v : Value) (w : World), Lies w g v → g.nodes ≤ 1000000000 →
    Calls Try.prog 71 #[v, .func (.func 73) #[] #[]] w fun e w' => e = .returned (.bool (g.every p)) ∧ Below w.heap.size w w' := by
  intro g
  induction g with
  | nil => intro v w hL; exact False.elim hL
  | mk k n s ln l fn nm f ihl ihf =>
    intro v w hL hN
    have HW : Hid (Lies w (.mk k n s ln l fn nm f) v) := hL
    obtain ⟨la, lc, fa, fc, rfl, hk, hn, hs, h4, h5, h6, h7, hl, hf⟩ := hL
    have hml : maxLen = 9223372036854775807 := rfl
    have HL : Hid (∀ i, i < ln → ∃ b o v', la = some ⟨b, o, none⟩ ∧ Lies w (l i) v' ∧ At5 w b (o + i * 5) v') := hl
    have HF : Hid (∀ i, i < fn → ∃ b o v', fa = some ⟨b, o, none⟩ ∧ (nm i).size ≤ 140737488355328 ∧ w.cell? ⟨b, o + i * 6, none⟩ = some (.string (nm i)) ∧ Lies w (f i) v' ∧ At5 w b (o + i * 6 + 1) v') := hf
    have HN : Hid ((GV.mk k n s ln l fn nm f).nodes ≤ 1000000000) := hN
    clear hl hf hN
    have hbx := (Below.refl w.heap.size w).alloc (Nat.le_refl _) (.cells #[.int .i64 k, .int .i64 n, .string s, .slice la ln lc, .slice fa fn fc] 25)
    have hbc : (w.alloc (.cells #[.int .i64 k, .int .i64 n, .string s, .slice la ln lc, .slice fa fn fc] 25)).cell? ⟨w.heap.size, 0, none⟩ = some (.int .i64 k) := by simp
    have hbl : (w.alloc (.cells #[.int .i64 k, .int .i64 n, .string s, .slice la ln lc, .slice fa fn fc] 25)).cell? ⟨w.heap.size, 3, none⟩ = some (.slice la ln lc) := by simp
    have hbf : (w.alloc (.cells #[.int .i64 k, .int .i64 n, .string s, .slice la ln lc, .slice fa fn fc] 25)).cell? ⟨w.heap.size, 4, none⟩ = some (.slice fa fn fc) := by simp
    go_enter Try.func71, Try.ntmps71
    go_wp2_with fail
    refine (hp _ _ _ (HW.out.below hbx) HN.out).mono ?_
    rintro e w1 ⟨rfl, hb1⟩
    have hbw1 : Below w.heap.size w w1 := hbx.trans (hb1.mono (by simp))
    have f0 := below_keeps hb1 _ _ _ hbc
    have f3 := below_keeps hb1 _ _ _ hbl
    have f4 := below_keeps hb1 _ _ _ hbf
    clear hbc hbl hbf hbx hb1
    cases hP : p (.mk k n s ln l fn nm f) with
    | false =>
      have HE : Hid ((GV.mk k n s ln l fn nm f).every p = false) := every_no hP
      go_wp2_with fail
      go_ret
      exact ⟨by rw [HE.out]; rfl, hbw1⟩
    | true =>
      have HP : Hid (p (.mk k n s ln l fn nm f) = true) := hP
      clear hP
      by_cases k5 : k = 5
      · subst k5
        have HM : Hid (∀ i, i < ln → (l i).nodes ≤ 1000000000) := fun i hi => Nat.le_of_lt (Nat.lt_of_lt_of_le (GV.nodes_l hi) HN.out)
        go_wp2_with fail
        go_loopw [20] (fun i wr => ∃ (j : Nat), i = .int .i64 j ∧ j ≤ ln ∧ Hid ((List.range j).all (fun i => (l i).every p) = true) ∧ Below w.heap.size w wr) (fun i _ => ln - (intOf i).toNat)
        case atStart =>
          exact ⟨0, rfl, by omega, rfl, hbw1⟩
        case round =>
          obtain ⟨j, rfl, hj, HD, hbw⟩ := hrel
          by_cases hlt : j < ln
          · obtain ⟨b, o, v', rfl, hLj, hA⟩ := HL.out j hlt
            have HLj : Hid (Lies w (l j) v') := hLj
            obtain ⟨k', n', s', la', ln', lc', fa', fn', fc', rfl⟩ := hLj.agg
            obtain ⟨c0, c1, c2, c3, c4⟩ := hA.five
            have e0 := below_keeps hbw _ _ _ c0
            have e1 := below_keeps hbw _ _ _ c1
            have e2 := below_keeps hbw _ _ _ c2
            have e3 := below_keeps hbw _ _ _ c3
            have e4 := below_keeps hbw _ _ _ c4
            clear hLj hA c0 c1 c2 c3 c4
            have hbs := hbw.size
            go_wp2_with fail
            have hbj := hbw.alloc hbs (.cells #[.int .i64 k', .int .i64 n', .string s', .slice la' ln' lc', .slice fa' fn' fc'] 25)
            refine (ihl j _ _ (HLj.out.below hbj) (HM.out j hlt)).mono ?_
            rintro e w2 ⟨rfl, hb1⟩
            have hb2 : Below w.heap.size w w2 := hbj.trans (hb1.mono (by simp; omega))
            clear e0 e1 e2 e3 e4 hb1 hbj
            cases hE : (l j).every p with
            | false =>
              have HE : Hid ((GV.mk 5 n s ln l fn nm f).every p = false) := by
                show _ = _
                rw [every_l5 HP.out]
                exact all_not hlt hE
              go_wp2_with fail
              go_ret
              exact ⟨by rw [HE.out]; rfl, hb2⟩
            | true =>
              have HE : Hid ((l j).every p = true) := hE
              clear hE
              go_wp2_with fail
              go_roundw
              case rel =>
                exact ⟨j + 1, by go_num, by omega, all_snoc HD.out HE.out, hb2⟩
              case measure => simp [intOf]; omega
          · have hjl : j = ln := by omega
            subst hjl
            have HE : Hid ((GV.mk 5 n s j l fn nm f).every p = true) := by
              show _ = _
              rw [every_l5 HP.out]
              exact HD.out
            go_wp2_with fail
            go_ret
            exact ⟨by rw [HE.out]; rfl, hbw⟩
      · by_cases k6 : k = 6
        · subst k6
          have HM : Hid (∀ i, i < fn → (f i).nodes ≤ 1000000000) := fun i hi => Nat.le_of_lt (Nat.lt_of_lt_of_le (GV.nodes_f hi) HN.out)
          go_wp2_with fail
          go_loopw [34] (fun i wr => ∃ (j : Nat), i = .int .i64 j ∧ j ≤ fn ∧ Hid ((List.range j).all (fun i => (f i).every p) = true) ∧ Below w.heap.size w wr) (fun i _ => fn - (intOf i).toNat)
          case atStart =>
            exact ⟨0, rfl, by omega, rfl, hbw1⟩
          case round =>
            obtain ⟨j, rfl, hj, HD, hbw⟩ := hrel
            by_cases hlt : j < fn
            · obtain ⟨b, o, v', rfl, hnm, cn, hLj, hA⟩ := HF.out j hlt
              have en := below_keeps hbw _ _ _ cn
              have HLj : Hid (Lies w (f j) v') := hLj
              obtain ⟨k', n', s', la', ln', lc', fa', fn', fc', rfl⟩ := hLj.agg
              obtain ⟨c0, c1, c2, c3, c4⟩ := hA.five
              have e0 := below_keeps hbw _ _ _ c0
              have e1 := below_keeps hbw _ _ _ c1
              have e2 := below_keeps hbw _ _ _ c2
              have e3 := below_keeps hbw _ _ _ c3
              have e4 := below_keeps hbw _ _ _ c4
              clear hLj hA cn c0 c1 c2 c3 c4
              have hbs := hbw.size
              go_wp2_with fail
              have hbj := hbw.alloc hbs (.cells #[.string (nm j), .int .i64 k', .int .i64 n', .string s', .slice la' ln' lc', .slice fa' fn' fc'] 45)
              refine (ihf j _ _ (HLj.out.below hbj) (HM.out j hlt)).mono ?_
              rintro e w2 ⟨rfl, hb1⟩
              have hb2 : Below w.heap.size w w2 := hbj.trans (hb1.mono (by simp; omega))
              clear en e0 e1 e2 e3 e4 hb1 hbj
              cases hE : (f j).every p with
              | false =>
                have HE : Hid ((GV.mk 6 n s ln l fn nm f).every p = false) := by
                  show _ = _
                  rw [every_l6 HP.out]
                  exact all_not hlt hE
                go_wp2_with fail
                go_ret
                exact ⟨by rw [HE.out]; rfl, hb2⟩
              | true =>
                have HE : Hid ((f j).every p = true) := hE
                clear hE
                go_wp2_with fail
                go_roundw
                case rel =>
                  exact ⟨j + 1, by go_num, by omega, all_snoc HD.out HE.out, hb2⟩
                case measure => simp [intOf]; omega
            · have hjl : j = fn := by omega
              subst hjl
              have HE : Hid ((GV.mk 6 n s ln l j nm f).every p = true) := by
                show _ = _
                rw [every_l6 HP.out]
                exact HD.out
              go_wp2_with fail
              go_ret
              exact ⟨by rw [HE.out]; rfl, hbw⟩
        · have HE : Hid ((GV.mk k n s ln l fn nm f).every p = true) := every_l0 HP.out k5 k6
          go_wp2_with fail
          go_ret
          exact ⟨by rw [HE.out]; rfl, hbw1⟩

end Go.Proofs.Ytjngbogbbglbnab
