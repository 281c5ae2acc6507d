/- The walk of the document's own 'few': no more parts, no other names than may be? -/
import Derived.Test.YtkjijepepbgciabRShapeH
import Derived.Test.YtkjijepepbgciabRTexts
import Derived.BigGuardPart
namespace Go.Proofs.Ytkjijepepbgciab
open Go.RowKit

def GV.fewOk : GV → Bool
  | .nil => true
  | .mk _ _ _ ln _ fn nm _ => decide (ln ≤ 32) && decide (fn ≤ 32) && (List.range fn).all (fun i => nameFits (nm i))

set_option maxHeartbeats 4000000 in
set_option maxRecDepth 1000000 in
theorem few_any : ∀ (g : GV) (v : Value) (w : World), Lies w g v → g.mass ≤ 4194304 →
    Calls Try.prog 46 #[v] w fun e w' => e = .returned (.bool (g.every GV.fewOk)) ∧ Below w.heap.size w w' := by
  intro g
  induction g with
  | nil => intro v w hL; exact False.elim hL
  | mk k n s ln l fn nm f ihl ihf =>
    intro v w hL hM
    have hL0 := hL
    obtain ⟨la, lc, fa, fc, rfl, _, _, _, h4, h5, h6, h7, _, hf⟩ := hL
    have hml : maxLen = 9223372036854775807 := rfl
    have HP : Hid (∀ u, Below w.heap.size w u → Calls Try.prog 71 #[.agg #[.int .i64 k, .int .i64 n, .string s, .slice la ln lc, .slice fa fn fc]] u fun e w' => ∃ a c, e = .returned (.slice a (GV.mk k n s ln l fn nm f).pn c) ∧ (GV.mk k n s ln l fn nm f).pn ≤ c ∧ c ≤ maxLen ∧ Vals w' a (GV.mk k n s ln l fn nm f).pn (GV.mk k n s ln l fn nm f).pf ∧ Below u.heap.size u w') := fun u hu => parts_any _ _ _ (hL0.below hu) (by have := GV.nodes_mass (GV.mk k n s ln l fn nm f); omega)
    have HI : Hid (∀ i, i < (GV.mk k n s ln l fn nm f).pn → ∀ v w, Lies w ((GV.mk k n s ln l fn nm f).pf i) v → Calls Try.prog 46 #[v] w fun e w' => e = .returned (.bool (((GV.mk k n s ln l fn nm f).pf i).every GV.fewOk)) ∧ Below w.heap.size w w') := by
      intro i hi v w hv
      have hn := GV.mass_pf hi
      have hq : (GV.mk k n s ln l fn nm f).pf i = l i ∨ (GV.mk k n s ln l fn nm f).pf i = f i := by
        simp only [GV.pf]
        split
        · exact Or.inl rfl
        · exact Or.inr rfl
      rcases hq with e | e
      · rw [e] at hn hv ⊢
        exact ihl i v w hv (by omega)
      · rw [e] at hn hv ⊢
        exact ihf i v w hv (by omega)
    have HN : Hid (Names w fa fn nm) := fun i hi => by
      obtain ⟨b, o, v', e, hs, hc, _⟩ := hf i hi
      exact ⟨b, o, e, hs, hc⟩
    have HNM : Hid (∀ i, i < fn → (nm i).size ≤ 4194304) := fun i hi => by
      have := GV.mass_f (k := k) (n := n) (s := s) (ln := ln) (l := l) (nm := nm) (f := f) hi
      omega
    have hs : s.size ≤ 4194304 := by have := GV.mass_s (k := k) (n := n) (s := s) (ln := ln) (l := l) (fn := fn) (nm := nm) (f := f); omega
    have HE0 : Hid (ln ≤ 32 → fn ≤ 32 → (List.range fn).all (fun i => nameFits (nm i)) = true → (GV.mk k n s ln l fn nm f).every GV.fewOk = (List.range (GV.mk k n s ln l fn nm f).pn).all (fun i => ((GV.mk k n s ln l fn nm f).pf i).every GV.fewOk)) := by
      intro h1 h2 h3
      refine every_yes ?_
      simp only [GV.fewOk, h3, decide_eq_true h1, decide_eq_true h2, Bool.and_self]
    have HNO : Hid (32 < ln ∨ 32 < fn ∨ (List.range fn).all (fun i => nameFits (nm i)) = false → (GV.mk k n s ln l fn nm f).every GV.fewOk = false) := by
      intro h
      apply every_no
      rcases h with h | h | h
      · simp only [GV.fewOk, decide_eq_false (show ¬ ln ≤ 32 by omega), Bool.false_and]
      · simp only [GV.fewOk, decide_eq_false (show ¬ fn ≤ 32 by omega), Bool.and_false, Bool.false_and]
      · simp only [GV.fewOk, h, Bool.and_false]
    clear hL0 hM ihl ihf hf
    generalize GV.mk k n s ln l fn nm f = G at HP HI HE0 HNO ⊢
    obtain ⟨p, hp⟩ : ∃ p, G.pn = p := ⟨_, rfl⟩
    obtain ⟨q, hq⟩ : ∃ q, G.pf = q := ⟨_, rfl⟩
    rw [hp, hq] at HP HE0
    rw [hp, hq] at HI
    clear hp hq
    have hbx := (Below.refl w.heap.size w).alloc (Nat.le_refl _) (.cells #[.int .i64 k, .int .i64 n, .string s, .slice la ln lc, .slice fa fn fc] 26)
    by_cases l32 : 32 < ln
    · have HX : Hid (G.every GV.fewOk = false) := HNO.out (Or.inl l32)
      have l32' : (32 : Int) < (ln : Int) := by omega
      go_enter Try.func46, Try.ntmps46
      go_wp2_with fail
      go_ret
      exact ⟨by rw [HX.out]; rfl, hbx⟩
    · by_cases f32 : 32 < fn
      · have HX : Hid (G.every GV.fewOk = false) := HNO.out (Or.inr (Or.inl f32))
        have l32' : ¬ (32 : Int) < (ln : Int) := by omega
        have f32' : (32 : Int) < (fn : Int) := by omega
        go_enter Try.func46, Try.ntmps46
        go_wp2_with fail
        go_ret
        exact ⟨by rw [HX.out]; rfl, hbx⟩
      · replace HE0 : Hid ((List.range fn).all (fun i => nameFits (nm i)) = true → G.every GV.fewOk = (List.range p).all (fun i => (q i).every GV.fewOk)) := HE0.out (by omega) (by omega)
        have l32' : ¬ (32 : Int) < (ln : Int) := by omega
        have f32' : ¬ (32 : Int) < (fn : Int) := by omega
        go_enter Try.func46, Try.ntmps46
        go_wp2_with fail
        all_goals (try go_big_false)
        go_loopw [3] (fun i wr => ∃ (j : Nat), i = .int .i64 j ∧ j ≤ fn ∧ Hid ((List.range j).all (fun i => nameFits (nm i)) = true) ∧ Below (w.heap.size + 1) (w.alloc (.cells #[.int .i64 k, .int .i64 n, .string s, .slice la ln lc, .slice fa fn fc] 26)) wr) (fun i _ => fn - (intOf i).toNat)
        case atStart => exact ⟨0, rfl, by omega, rfl, Below.refl _ _⟩
        case round =>
          obtain ⟨j, rfl, hj, HD, hbw⟩ := hrel
          have hbs := hbw.size
          simp at hbs
          have hbw0 : Below w.heap.size w wr := hbx.trans (hbw.mono (by omega))
          have q0 : wr.cell? ⟨w.heap.size, 0, none⟩ = some (.int .i64 k) := by rw [hbw.cell (p := ⟨w.heap.size, 0, none⟩) (by show w.heap.size < _; omega)]; simp
          have q1 : wr.cell? ⟨w.heap.size, 1, none⟩ = some (.int .i64 n) := by rw [hbw.cell (p := ⟨w.heap.size, 1, none⟩) (by show w.heap.size < _; omega)]; simp
          have q2 : wr.cell? ⟨w.heap.size, 2, none⟩ = some (.string s) := by rw [hbw.cell (p := ⟨w.heap.size, 2, none⟩) (by show w.heap.size < _; omega)]; simp
          have q3 : wr.cell? ⟨w.heap.size, 3, none⟩ = some (.slice la ln lc) := by rw [hbw.cell (p := ⟨w.heap.size, 3, none⟩) (by show w.heap.size < _; omega)]; simp
          have q4 : wr.cell? ⟨w.heap.size, 4, none⟩ = some (.slice fa fn fc) := by rw [hbw.cell (p := ⟨w.heap.size, 4, none⟩) (by show w.heap.size < _; omega)]; simp
          by_cases hlt : j < fn
          · obtain ⟨b, o, rfl, hs1, c1⟩ := HN.out j hlt
            have e1 := below_keeps hbw0 _ _ _ c1
            clear c1
            have hn1 := HNM.out j hlt
            have HB : Hid (∀ r, nameFits (nm j) = r → (if r = true then (List.range (j + 1)).all (fun i => nameFits (nm i)) = true else (List.range fn).all (fun i => nameFits (nm i)) = false)) := by
              intro r hr
              cases r with
              | true => simp only [if_true]; exact all_snoc HD.out hr
              | false => exact all_not hlt hr
            generalize nm j = x at e1 hs1 hn1 HB
            by_cases z1 : x.size < 1
            · have HC := HB.out false (decide_eq_false (by omega))
              clear HB
              simp only [Bool.false_eq_true, if_false] at HC
              have HX : Hid (G.every GV.fewOk = false) := HNO.out (Or.inr (Or.inr HC))
              clear HC
              have z1' : (x.size : Int) < 1 := by omega
              go_wp2_with fail
              go_ret
              exact ⟨by rw [HX.out]; rfl, hbw0⟩
            · by_cases z2 : 24 < x.size
              · have HC := HB.out false (decide_eq_false (by omega))
                clear HB
                simp only [Bool.false_eq_true, if_false] at HC
                have HX : Hid (G.every GV.fewOk = false) := HNO.out (Or.inr (Or.inr HC))
                clear HC
                have z1' : ¬ (x.size : Int) < 1 := by omega
                have z2' : (24 : Int) < (x.size : Int) := by omega
                go_wp2_with fail
                go_ret
                exact ⟨by rw [HX.out]; rfl, hbw0⟩
              · have HC := HB.out true (decide_eq_true (by omega))
                clear HB
                simp only [if_true] at HC
                have HC2 : Hid ((List.range (j + 1)).all (fun i => nameFits (nm i)) = true) := HC
                clear HC
                have z1' : ¬ (x.size : Int) < 1 := by omega
                have z2' : ¬ (24 : Int) < (x.size : Int) := by omega
                go_wp2_with fail
                go_roundw
                case rel => exact ⟨j + 1, by go_num, by omega, HC2.out, hbw⟩
                case measure => simp [intOf]; omega
          · have hjf : j = fn := by omega
            have HE : Hid (G.every GV.fewOk = (List.range p).all (fun i => (q i).every GV.fewOk)) := HE0.out (by have := HD.out; rw [hjf] at this; exact this)
            clear HE0 HNO HD HN HNM hjf
            go_wp2_with fail
            refine (HP.out _ hbw0).mono ?_
            rintro e w1 ⟨a, c, rfl, r1, r2, HV0, hb1⟩
            have HV : Hid (Vals w1 a p q) := HV0
            have B1 : Below w.heap.size w w1 := hbw0.trans (hb1.mono hbw0.size)
            clear HV0 hb1 hbw0 HP q0 q1 q2 q3 q4
            go_wp2_with fail
            go_loopw [5] (fun i wr2 => ∃ (j : Nat), i = .int .i64 j ∧ j ≤ p ∧ Hid ((List.range j).all (fun i => (q i).every GV.fewOk) = true) ∧ Below w1.heap.size w1 wr2) (fun i _ => p - (intOf i).toNat)
            case atStart => exact ⟨0, rfl, by omega, rfl, Below.refl _ _⟩
            case round =>
              obtain ⟨j, rfl, hj, HD, hbw⟩ := hrel
              by_cases hlt : j < p
              · obtain ⟨b, o, v', rfl, hLj, hA⟩ := HV.out j hlt
                have HLj : Hid (Lies w1 (q j) v') := hLj
                obtain ⟨k', n', s', la', ln', lc', fa', fn', fc', rfl⟩ := hLj.agg
                obtain ⟨c0, c1, c2, c3, c4⟩ := hA.five
                have e0 := below_keeps hbw _ _ _ c0
                have e1 := below_keeps hbw _ _ _ c1
                have e2 := below_keeps hbw _ _ _ c2
                have e3 := below_keeps hbw _ _ _ c3
                have e4 := below_keeps hbw _ _ _ c4
                clear hLj hA c0 c1 c2 c3 c4
                have hbs := hbw.size
                go_wp2_with fail
                refine (HI.out j hlt _ _ (HLj.out.below hbw)).mono ?_
                rintro e w2 ⟨rfl, hb2⟩
                have hb3 : Below w1.heap.size w1 w2 := hbw.trans (hb2.mono hbs)
                clear e0 e1 e2 e3 e4 hb2 hbw
                cases hB : (q j).every GV.fewOk with
                | true =>
                  have HD2 : Hid ((List.range (j + 1)).all (fun i => (q i).every GV.fewOk) = true) := all_snoc HD.out hB
                  clear hB
                  go_wp2_with fail
                  go_roundw
                  case rel => exact ⟨j + 1, by go_num, by omega, HD2.out, hb3⟩
                  case measure => simp [intOf]; omega
                | false =>
                  have HX : Hid (G.every GV.fewOk = false) := HE.out.trans (all_not hlt hB)
                  clear hB
                  go_wp2_with fail
                  go_ret
                  exact ⟨by rw [HX.out]; rfl, B1.trans (hb3.mono B1.size)⟩
              · have hjp : j = p := by omega
                have HX : Hid (G.every GV.fewOk = true) := by
                  have := HD.out
                  rw [hjp] at this
                  exact HE.out.trans this
                clear hjp
                have hbs := hbw.size
                go_wp2_with fail
                go_ret
                exact ⟨by rw [HX.out]; rfl, B1.trans (hbw.mono B1.size)⟩

end Go.Proofs.Ytkjijepepbgciab
