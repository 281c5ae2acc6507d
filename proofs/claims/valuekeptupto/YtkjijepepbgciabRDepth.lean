/- The walks of the document's own 'Depth' and 'Count'. -/
import Derived.Test.YtkjijepepbgciabRShapeH
import Derived.BigGuardPart
namespace Go.Proofs.Ytkjijepepbgciab
open Go.RowKit

theorem fold_max_mono {c : Nat → Nat} {B : Nat} {p : Nat} (h : ∀ i, i < p → c i ≤ B) : ∀ j, j ≤ p → (List.range j).foldl (fun m i => max m (c i)) 0 ≤ B := fun j hj => foldl_max_le (fun i hi => h i (by omega))
theorem fold_add_le {c : Nat → Nat} {p : Nat} {a : Nat} : ∀ j, j ≤ p → (List.range j).foldl (fun m i => m + c i) a ≤ (List.range p).foldl (fun m i => m + c i) a := fun j hj => by
  rw [foldl_add, foldl_add]
  have := sum_upto (f := c) hj
  omega

set_option maxHeartbeats 4000000 in
set_option maxRecDepth 1000000 in
theorem rDepth_any : ∀ (g : GV) (v : Value) (w : World), Lies w g v → g.nodes ≤ 1000000000 →
    Calls Try.prog 47 #[v] w fun e w' => e = .returned (.int .i64 (g.depth : Nat)) ∧ Below w.heap.size w w' := by
  intro g
  induction g with
  | nil => intro v w hL; exact False.elim hL
  | mk k n s ln l fn nm f ihl ihf =>
    intro v w hL hM
    have hL0 := hL
    obtain ⟨la, lc, fa, fc, rfl, _, _, _, h4, h5, h6, h7, _, hf⟩ := hL
    have hml : maxLen = 9223372036854775807 := rfl
    have HP : Hid (∀ u, Below w.heap.size w u → Calls Try.prog 71 #[.agg #[.int .i64 k, .int .i64 n, .string s, .slice la ln lc, .slice fa fn fc]] u fun e w' => ∃ a c, e = .returned (.slice a (GV.mk k n s ln l fn nm f).pn c) ∧ (GV.mk k n s ln l fn nm f).pn ≤ c ∧ c ≤ maxLen ∧ Vals w' a (GV.mk k n s ln l fn nm f).pn (GV.mk k n s ln l fn nm f).pf ∧ Below u.heap.size u w') := fun u hu => parts_any _ _ _ (hL0.below hu) hM
    have HI : Hid (∀ i, i < (GV.mk k n s ln l fn nm f).pn → ∀ v w, Lies w ((GV.mk k n s ln l fn nm f).pf i) v → Calls Try.prog 47 #[v] w fun e w' => e = .returned (.int .i64 (((GV.mk k n s ln l fn nm f).pf i).depth : Nat)) ∧ Below w.heap.size w w') := by
      intro i hi v w hv
      have hn := GV.nodes_pf hi
      have hq : (GV.mk k n s ln l fn nm f).pf i = l i ∨ (GV.mk k n s ln l fn nm f).pf i = f i := by
        simp only [GV.pf]
        split
        · exact Or.inl rfl
        · exact Or.inr rfl
      rcases hq with e | e
      · rw [e] at hn hv ⊢
        exact ihl i v w hv (by omega)
      · rw [e] at hn hv ⊢
        exact ihf i v w hv (by omega)
    have HB : Hid (∀ i, i < (GV.mk k n s ln l fn nm f).pn → ((GV.mk k n s ln l fn nm f).pf i).depth ≤ 999999999) := by
      intro i hi
      have h1 := GV.nodes_pf hi
      have h2 := GV.depth_le ((GV.mk k n s ln l fn nm f).pf i)
      omega
    have HE : Hid (if k = 5 ∨ k = 6 then (GV.mk k n s ln l fn nm f).depth = 1 + (List.range (GV.mk k n s ln l fn nm f).pn).foldl (fun m i => max m ((GV.mk k n s ln l fn nm f).pf i).depth) 0 else (GV.mk k n s ln l fn nm f).depth = 0) := by
      show ite _ _ _
      simp only [GV.depth, GV.pn, GV.pf]
      by_cases k5 : k = 5
      · simp [k5]
      · by_cases k6 : k = 6
        · simp [k6]
        · simp [k5, k6]
    clear hL0 hM ihl ihf hf
    generalize GV.mk k n s ln l fn nm f = G at HP HI HE HB ⊢
    obtain ⟨p, hp⟩ : ∃ p, G.pn = p := ⟨_, rfl⟩
    obtain ⟨q, hq⟩ : ∃ q, G.pf = q := ⟨_, rfl⟩
    rw [hp, hq] at HP HE HB
    rw [hp, hq] at HI
    clear hp hq
    have hbx := (Below.refl w.heap.size w).alloc (Nat.le_refl _) (.cells #[.int .i64 k, .int .i64 n, .string s, .slice la ln lc, .slice fa fn fc] 26)
    by_cases hk : k = 5 ∨ k = 6
    · replace HE : Hid (G.depth = 1 + (List.range p).foldl (fun m i => max m (q i).depth) 0) := by
        have := HE.out
        rw [if_pos hk] at this
        exact this
      rcases hk with rfl | rfl
      · go_enter Try.func47, Try.ntmps47
        go_wp2_with fail
        refine (HP.out _ hbx).mono ?_
        rintro e w1 ⟨a, c, rfl, r1, r2, HV0, hb1⟩
        have HV : Hid (Vals w1 a p q) := HV0
        have B1 : Below w.heap.size w w1 := hbx.trans (hb1.mono (by simp))
        clear HV0 hb1 HP
        go_wp2_with fail
        go_loopw [3, 5] (fun d i wr2 => ∃ (j D : Nat), i = .int .i64 j ∧ j ≤ p ∧ d = .int .i64 D ∧ D ≤ 1000000000 ∧ Hid (D = (List.range j).foldl (fun m i => max m (q i).depth) 0) ∧ Below w1.heap.size w1 wr2) (fun _ i _ => p - (intOf i).toNat)
        case atStart => exact ⟨0, 0, rfl, by omega, rfl, by omega, rfl, Below.refl _ _⟩
        case round =>
          obtain ⟨j, D, rfl, hj, rfl, hD, HD, hbw⟩ := hrel
          by_cases hlt : j < p
          · obtain ⟨b, o, v', rfl, hLj, hA⟩ := HV.out j hlt
            have HLj : Hid (Lies w1 (q j) v') := hLj
            obtain ⟨k', n', s', la', ln', lc', fa', fn', fc', rfl⟩ := hLj.agg
            obtain ⟨c0, c1, c2, c3, c4⟩ := hA.five
            have e0 := below_keeps hbw _ _ _ c0
            have e1 := below_keeps hbw _ _ _ c1
            have e2 := below_keeps hbw _ _ _ c2
            have e3 := below_keeps hbw _ _ _ c3
            have e4 := below_keeps hbw _ _ _ c4
            clear hLj hA c0 c1 c2 c3 c4
            have hbs := hbw.size
            go_wp2_with fail
            refine (HI.out j hlt _ _ (HLj.out.below hbw)).mono ?_
            rintro e w2 ⟨rfl, hb2⟩
            have hb3 : Below w1.heap.size w1 w2 := hbw.trans (hb2.mono hbs)
            have hbd := HB.out j hlt
            have HD2 := HD.out
            clear e0 e1 e2 e3 e4 hb2 hbw
            have hbd2 : max D (q j).depth ≤ 1000000000 := by omega
            obtain ⟨x, hx⟩ : ∃ x, (q j).depth = x := ⟨_, rfl⟩
            rw [hx] at hbd hbd2 ⊢
            have HX : Hid ((q j).depth = x) := hx
            clear hx HD2
            go_wp2_with fail
            go_roundw
            case rel =>
              refine ⟨j + 1, max D x, by go_num, by omega, by first | rfl | (congr 1; omega), by omega, ?_, hb3⟩
              show _ = _
              have := HD.out
              have := HX.out
              rw [List.range_succ, List.foldl_append]
              simp only [List.foldl_cons, List.foldl_nil]
              omega
            case measure => simp [intOf]; omega
          · have hjp : j = p := by omega
            have HX : Hid (G.depth = D + 1) := by
              have h1 := HD.out
              have h2 := HE.out
              rw [hjp] at h1
              show _ = _
              omega
            clear hjp
            have hbs := hbw.size
            go_wp2_with fail
            go_ret
            refine ⟨?_, B1.trans (hbw.mono B1.size)⟩
            rw [HX.out]
            first | rfl | (congr 2; omega)
      · go_enter Try.func47, Try.ntmps47
        go_wp2_with fail
        refine (HP.out _ hbx).mono ?_
        rintro e w1 ⟨a, c, rfl, r1, r2, HV0, hb1⟩
        have HV : Hid (Vals w1 a p q) := HV0
        have B1 : Below w.heap.size w w1 := hbx.trans (hb1.mono (by simp))
        clear HV0 hb1 HP
        go_wp2_with fail
        go_loopw [3, 5] (fun d i wr2 => ∃ (j D : Nat), i = .int .i64 j ∧ j ≤ p ∧ d = .int .i64 D ∧ D ≤ 1000000000 ∧ Hid (D = (List.range j).foldl (fun m i => max m (q i).depth) 0) ∧ Below w1.heap.size w1 wr2) (fun _ i _ => p - (intOf i).toNat)
        case atStart => exact ⟨0, 0, rfl, by omega, rfl, by omega, rfl, Below.refl _ _⟩
        case round =>
          obtain ⟨j, D, rfl, hj, rfl, hD, HD, hbw⟩ := hrel
          by_cases hlt : j < p
          · obtain ⟨b, o, v', rfl, hLj, hA⟩ := HV.out j hlt
            have HLj : Hid (Lies w1 (q j) v') := hLj
            obtain ⟨k', n', s', la', ln', lc', fa', fn', fc', rfl⟩ := hLj.agg
            obtain ⟨c0, c1, c2, c3, c4⟩ := hA.five
            have e0 := below_keeps hbw _ _ _ c0
            have e1 := below_keeps hbw _ _ _ c1
            have e2 := below_keeps hbw _ _ _ c2
            have e3 := below_keeps hbw _ _ _ c3
            have e4 := below_keeps hbw _ _ _ c4
            clear hLj hA c0 c1 c2 c3 c4
            have hbs := hbw.size
            go_wp2_with fail
            refine (HI.out j hlt _ _ (HLj.out.below hbw)).mono ?_
            rintro e w2 ⟨rfl, hb2⟩
            have hb3 : Below w1.heap.size w1 w2 := hbw.trans (hb2.mono hbs)
            have hbd := HB.out j hlt
            have HD2 := HD.out
            clear e0 e1 e2 e3 e4 hb2 hbw
            have hbd2 : max D (q j).depth ≤ 1000000000 := by omega
            obtain ⟨x, hx⟩ : ∃ x, (q j).depth = x := ⟨_, rfl⟩
            rw [hx] at hbd hbd2 ⊢
            have HX : Hid ((q j).depth = x) := hx
            clear hx HD2
            go_wp2_with fail
            go_roundw
            case rel =>
              refine ⟨j + 1, max D x, by go_num, by omega, by first | rfl | (congr 1; omega), by omega, ?_, hb3⟩
              show _ = _
              have := HD.out
              have := HX.out
              rw [List.range_succ, List.foldl_append]
              simp only [List.foldl_cons, List.foldl_nil]
              omega
            case measure => simp [intOf]; omega
          · have hjp : j = p := by omega
            have HX : Hid (G.depth = D + 1) := by
              have h1 := HD.out
              have h2 := HE.out
              rw [hjp] at h1
              show _ = _
              omega
            clear hjp
            have hbs := hbw.size
            go_wp2_with fail
            go_ret
            refine ⟨?_, B1.trans (hbw.mono B1.size)⟩
            rw [HX.out]
            first | rfl | (congr 2; omega)
    · replace HE : Hid (G.depth = 0) := by
        have := HE.out
        rw [if_neg hk] at this
        exact this
      have k5 : ¬ k = 5 := fun e => hk (Or.inl e)
      have k6 : ¬ k = 6 := fun e => hk (Or.inr e)
      go_enter Try.func47, Try.ntmps47
      go_wp2_with fail
      go_ret
      refine ⟨?_, hbx⟩
      rw [HE.out]
      rfl
end Go.Proofs.Ytkjijepepbgciab
