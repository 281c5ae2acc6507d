/- Some texts in one: each opens with its own remark. -/
import Derived.Test.YtfnmmpakejdlgaaDoorK22
import Derived.Test.YtfnmmpakejdlgaaDoorK23
import Derived.BigGuardPart
import Derived.Test.YtfnmmpakejdlgaaDoorK5
import Derived.Test.YtfnmmpakejdlgaaDoorK19
import Derived.Deep.RegionHeld3
import Derived.Deep.Upon
/- The walk of the document's own 'few': no more parts, no other names than may be? -/
namespace Go.Proofs.YtfnmmpakejdlgaaDoor
open Go.RowKit

def GV.fewOk : GV → Bool
  | .nil => true
  | .mk _ _ _ ln _ fn nm _ => decide (ln ≤ 32) && decide (fn ≤ 32) && (List.range fn).all (fun i => nameFits (nm i))

set_option maxHeartbeats 4000000 in
set_option maxRecDepth 1000000 in
theorem few_any : ∀ (g : GV) (v : Value) (w : World), Lies w g v → g.mass ≤ 4194304 →
    Calls Tryd.prog 46 #[v] w fun e w' => e = .returned (.bool (g.every GV.fewOk)) ∧ Below w.heap.size w w' := by
  intro g
  induction g with
  | nil => intro v w hL; exact False.elim hL
  | mk k n s ln l fn nm f ihl ihf =>
    intro v w hL hM
    have hL0 := hL
    obtain ⟨la, lc, fa, fc, rfl, _, _, _, h4, h5, h6, h7, _, hf⟩ := hL
    have hml : maxLen = 9223372036854775807 := rfl
    have HP : Hid (∀ u, Below w.heap.size w u → Calls Tryd.prog 61 #[.agg #[.int .i64 k, .int .i64 n, .string s, .slice la ln lc, .slice fa fn fc]] u fun e w' => ∃ a c, e = .returned (.slice a (GV.mk k n s ln l fn nm f).pn c) ∧ (GV.mk k n s ln l fn nm f).pn ≤ c ∧ c ≤ maxLen ∧ Vals w' a (GV.mk k n s ln l fn nm f).pn (GV.mk k n s ln l fn nm f).pf ∧ Below u.heap.size u w') := fun u hu => parts_any _ _ _ (hL0.below hu) (by have := GV.nodes_mass (GV.mk k n s ln l fn nm f); omega)
    have HI : Hid (∀ i, i < (GV.mk k n s ln l fn nm f).pn → ∀ v w, Lies w ((GV.mk k n s ln l fn nm f).pf i) v → Calls Tryd.prog 46 #[v] w fun e w' => e = .returned (.bool (((GV.mk k n s ln l fn nm f).pf i).every GV.fewOk)) ∧ Below w.heap.size w w') := by
      intro i hi v w hv
      have hn := GV.mass_pf hi
      have hq : (GV.mk k n s ln l fn nm f).pf i = l i ∨ (GV.mk k n s ln l fn nm f).pf i = f i := by
        simp only [GV.pf]
        split
        · exact Or.inl rfl
        · exact Or.inr rfl
      rcases hq with e | e
      · rw [e] at hn hv ⊢
        exact ihl i v w hv (by omega)
      · rw [e] at hn hv ⊢
        exact ihf i v w hv (by omega)
    have HN : Hid (Names w fa fn nm) := fun i hi => by
      obtain ⟨b, o, v', e, hs, hc, _⟩ := hf i hi
      exact ⟨b, o, e, hs, hc⟩
    have HNM : Hid (∀ i, i < fn → (nm i).size ≤ 4194304) := fun i hi => by
      have := GV.mass_f (k := k) (n := n) (s := s) (ln := ln) (l := l) (nm := nm) (f := f) hi
      omega
    have hs : s.size ≤ 4194304 := by have := GV.mass_s (k := k) (n := n) (s := s) (ln := ln) (l := l) (fn := fn) (nm := nm) (f := f); omega
    have HE0 : Hid (ln ≤ 32 → fn ≤ 32 → (List.range fn).all (fun i => nameFits (nm i)) = true → (GV.mk k n s ln l fn nm f).every GV.fewOk = (List.range (GV.mk k n s ln l fn nm f).pn).all (fun i => ((GV.mk k n s ln l fn nm f).pf i).every GV.fewOk)) := by
      intro h1 h2 h3
      refine every_yes ?_
      simp only [GV.fewOk, h3, decide_eq_true h1, decide_eq_true h2, Bool.and_self]
    have HNO : Hid (32 < ln ∨ 32 < fn ∨ (List.range fn).all (fun i => nameFits (nm i)) = false → (GV.mk k n s ln l fn nm f).every GV.fewOk = false) := by
      intro h
      apply every_no
      rcases h with h | h | h
      · simp only [GV.fewOk, decide_eq_false (show ¬ ln ≤ 32 by omega), Bool.false_and]
      · simp only [GV.fewOk, decide_eq_false (show ¬ fn ≤ 32 by omega), Bool.and_false, Bool.false_and]
      · simp only [GV.fewOk, h, Bool.and_false]
    clear hL0 hM ihl ihf hf
    generalize GV.mk k n s ln l fn nm f = G at HP HI HE0 HNO ⊢
    obtain ⟨p, hp⟩ : ∃ p, G.pn = p := ⟨_, rfl⟩
    obtain ⟨q, hq⟩ : ∃ q, G.pf = q := ⟨_, rfl⟩
    rw [hp, hq] at HP HE0
    rw [hp, hq] at HI
    clear hp hq
    have hbx := (Below.refl w.heap.size w).alloc (Nat.le_refl _) (.cells #[.int .i64 k, .int .i64 n, .string s, .slice la ln lc, .slice fa fn fc] 29)
    by_cases l32 : 32 < ln
    · have HX : Hid (G.every GV.fewOk = false) := HNO.out (Or.inl l32)
      have l32' : (32 : Int) < (ln : Int) := by omega
      go_enter Tryd.func46, Tryd.ntmps46
      go_wp2_with fail
      go_ret
      exact ⟨by rw [HX.out]; rfl, hbx⟩
    · by_cases f32 : 32 < fn
      · have HX : Hid (G.every GV.fewOk = false) := HNO.out (Or.inr (Or.inl f32))
        have l32' : ¬ (32 : Int) < (ln : Int) := by omega
        have f32' : (32 : Int) < (fn : Int) := by omega
        go_enter Tryd.func46, Tryd.ntmps46
        go_wp2_with fail
        go_ret
        exact ⟨by rw [HX.out]; rfl, hbx⟩
      · replace HE0 : Hid ((List.range fn).all (fun i => nameFits (nm i)) = true → G.every GV.fewOk = (List.range p).all (fun i => (q i).every GV.fewOk)) := HE0.out (by omega) (by omega)
        have l32' : ¬ (32 : Int) < (ln : Int) := by omega
        have f32' : ¬ (32 : Int) < (fn : Int) := by omega
        go_enter Tryd.func46, Tryd.ntmps46
        go_wp2_with fail
        all_goals (try go_big_false)
        go_loopw [3] (fun i wr => ∃ (j : Nat), i = .int .i64 j ∧ j ≤ fn ∧ Hid ((List.range j).all (fun i => nameFits (nm i)) = true) ∧ Below (w.heap.size + 1) (w.alloc (.cells #[.int .i64 k, .int .i64 n, .string s, .slice la ln lc, .slice fa fn fc] 29)) wr) (fun i _ => fn - (intOf i).toNat)
        case atStart => exact ⟨0, rfl, by omega, rfl, Below.refl _ _⟩
        case round =>
          obtain ⟨j, rfl, hj, HD, hbw⟩ := hrel
          have hbs := hbw.size
          simp at hbs
          have hbw0 : Below w.heap.size w wr := hbx.trans (hbw.mono (by omega))
          have q0 : wr.cell? ⟨w.heap.size, 0, none⟩ = some (.int .i64 k) := by rw [hbw.cell (p := ⟨w.heap.size, 0, none⟩) (by show w.heap.size < _; omega)]; simp
          have q1 : wr.cell? ⟨w.heap.size, 1, none⟩ = some (.int .i64 n) := by rw [hbw.cell (p := ⟨w.heap.size, 1, none⟩) (by show w.heap.size < _; omega)]; simp
          have q2 : wr.cell? ⟨w.heap.size, 2, none⟩ = some (.string s) := by rw [hbw.cell (p := ⟨w.heap.size, 2, none⟩) (by show w.heap.size < _; omega)]; simp
          have q3 : wr.cell? ⟨w.heap.size, 3, none⟩ = some (.slice la ln lc) := by rw [hbw.cell (p := ⟨w.heap.size, 3, none⟩) (by show w.heap.size < _; omega)]; simp
          have q4 : wr.cell? ⟨w.heap.size, 4, none⟩ = some (.slice fa fn fc) := by rw [hbw.cell (p := ⟨w.heap.size, 4, none⟩) (by show w.heap.size < _; omega)]; simp
          by_cases hlt : j < fn
          · obtain ⟨b, o, rfl, hs1, c1⟩ := HN.out j hlt
            have e1 := below_keeps hbw0 _ _ _ c1
            clear c1
            have hn1 := HNM.out j hlt
            have HB : Hid (∀ r, nameFits (nm j) = r → (if r = true then (List.range (j + 1)).all (fun i => nameFits (nm i)) = true else (List.range fn).all (fun i => nameFits (nm i)) = false)) := by
              intro r hr
              cases r with
              | true => simp only [if_true]; exact all_snoc HD.out hr
              | false => exact all_not hlt hr
            generalize nm j = x at e1 hs1 hn1 HB
            by_cases z1 : x.size < 1
            · have HC := HB.out false (decide_eq_false (by omega))
              clear HB
              simp only [Bool.false_eq_true, if_false] at HC
              have HX : Hid (G.every GV.fewOk = false) := HNO.out (Or.inr (Or.inr HC))
              clear HC
              have z1' : (x.size : Int) < 1 := by omega
              go_wp2_with fail
              go_ret
              exact ⟨by rw [HX.out]; rfl, hbw0⟩
            · by_cases z2 : 24 < x.size
              · have HC := HB.out false (decide_eq_false (by omega))
                clear HB
                simp only [Bool.false_eq_true, if_false] at HC
                have HX : Hid (G.every GV.fewOk = false) := HNO.out (Or.inr (Or.inr HC))
                clear HC
                have z1' : ¬ (x.size : Int) < 1 := by omega
                have z2' : (24 : Int) < (x.size : Int) := by omega
                go_wp2_with fail
                go_ret
                exact ⟨by rw [HX.out]; rfl, hbw0⟩
              · have HC := HB.out true (decide_eq_true (by omega))
                clear HB
                simp only [if_true] at HC
                have HC2 : Hid ((List.range (j + 1)).all (fun i => nameFits (nm i)) = true) := HC
                clear HC
                have z1' : ¬ (x.size : Int) < 1 := by omega
                have z2' : ¬ (24 : Int) < (x.size : Int) := by omega
                go_wp2_with fail
                go_roundw
                case rel => exact ⟨j + 1, by go_num, by omega, HC2.out, hbw⟩
                case measure => simp [intOf]; omega
          · have hjf : j = fn := by omega
            have HE : Hid (G.every GV.fewOk = (List.range p).all (fun i => (q i).every GV.fewOk)) := HE0.out (by have := HD.out; rw [hjf] at this; exact this)
            clear HE0 HNO HD HN HNM hjf
            go_wp2_with fail
            refine (HP.out _ hbw0).mono ?_
            rintro e w1 ⟨a, c, rfl, r1, r2, HV0, hb1⟩
            have HV : Hid (Vals w1 a p q) := HV0
            have B1 : Below w.heap.size w w1 := hbw0.trans (hb1.mono hbw0.size)
            clear HV0 hb1 hbw0 HP q0 q1 q2 q3 q4
            go_wp2_with fail
            go_loopw [5] (fun i wr2 => ∃ (j : Nat), i = .int .i64 j ∧ j ≤ p ∧ Hid ((List.range j).all (fun i => (q i).every GV.fewOk) = true) ∧ Below w1.heap.size w1 wr2) (fun i _ => p - (intOf i).toNat)
            case atStart => exact ⟨0, rfl, by omega, rfl, Below.refl _ _⟩
            case round =>
              obtain ⟨j, rfl, hj, HD, hbw⟩ := hrel
              by_cases hlt : j < p
              · obtain ⟨b, o, v', rfl, hLj, hA⟩ := HV.out j hlt
                have HLj : Hid (Lies w1 (q j) v') := hLj
                obtain ⟨k', n', s', la', ln', lc', fa', fn', fc', rfl⟩ := hLj.agg
                obtain ⟨c0, c1, c2, c3, c4⟩ := hA.five
                have e0 := below_keeps hbw _ _ _ c0
                have e1 := below_keeps hbw _ _ _ c1
                have e2 := below_keeps hbw _ _ _ c2
                have e3 := below_keeps hbw _ _ _ c3
                have e4 := below_keeps hbw _ _ _ c4
                clear hLj hA c0 c1 c2 c3 c4
                have hbs := hbw.size
                go_wp2_with fail
                refine (HI.out j hlt _ _ (HLj.out.below hbw)).mono ?_
                rintro e w2 ⟨rfl, hb2⟩
                have hb3 : Below w1.heap.size w1 w2 := hbw.trans (hb2.mono hbs)
                clear e0 e1 e2 e3 e4 hb2 hbw
                cases hB : (q j).every GV.fewOk with
                | true =>
                  have HD2 : Hid ((List.range (j + 1)).all (fun i => (q i).every GV.fewOk) = true) := all_snoc HD.out hB
                  clear hB
                  go_wp2_with fail
                  go_roundw
                  case rel => exact ⟨j + 1, by go_num, by omega, HD2.out, hb3⟩
                  case measure => simp [intOf]; omega
                | false =>
                  have HX : Hid (G.every GV.fewOk = false) := HE.out.trans (all_not hlt hB)
                  clear hB
                  go_wp2_with fail
                  go_ret
                  exact ⟨by rw [HX.out]; rfl, B1.trans (hb3.mono B1.size)⟩
              · have hjp : j = p := by omega
                have HX : Hid (G.every GV.fewOk = true) := by
                  have := HD.out
                  rw [hjp] at this
                  exact HE.out.trans this
                clear hjp
                have hbs := hbw.size
                go_wp2_with fail
                go_ret
                exact ⟨by rw [HX.out]; rfl, B1.trans (hbw.mono B1.size)⟩

end Go.Proofs.YtfnmmpakejdlgaaDoor

/- The walks of the document's own 'Depth' and 'Count'. -/
namespace Go.Proofs.YtfnmmpakejdlgaaDoor
open Go.RowKit

theorem fold_max_mono {c : Nat → Nat} {B : Nat} {p : Nat} (h : ∀ i, i < p → c i ≤ B) : ∀ j, j ≤ p → (List.range j).foldl (fun m i => max m (c i)) 0 ≤ B := fun j hj => foldl_max_le (fun i hi => h i (by omega))
theorem fold_add_le {c : Nat → Nat} {p : Nat} {a : Nat} : ∀ j, j ≤ p → (List.range j).foldl (fun m i => m + c i) a ≤ (List.range p).foldl (fun m i => m + c i) a := fun j hj => by
  rw [foldl_add, foldl_add]
  have := sum_upto (f := c) hj
  omega

set_option maxHeartbeats 4000000 in
set_option maxRecDepth 1000000 in
theorem rDepth_any : ∀ (g : GV) (v : Value) (w : World), Lies w g v → g.nodes ≤ 1000000000 →
    Calls Tryd.prog 47 #[v] w fun e w' => e = .returned (.int .i64 (g.depth : Nat)) ∧ Below w.heap.size w w' := by
  intro g
  induction g with
  | nil => intro v w hL; exact False.elim hL
  | mk k n s ln l fn nm f ihl ihf =>
    intro v w hL hM
    have hL0 := hL
    obtain ⟨la, lc, fa, fc, rfl, _, _, _, h4, h5, h6, h7, _, hf⟩ := hL
    have hml : maxLen = 9223372036854775807 := rfl
    have HP : Hid (∀ u, Below w.heap.size w u → Calls Tryd.prog 61 #[.agg #[.int .i64 k, .int .i64 n, .string s, .slice la ln lc, .slice fa fn fc]] u fun e w' => ∃ a c, e = .returned (.slice a (GV.mk k n s ln l fn nm f).pn c) ∧ (GV.mk k n s ln l fn nm f).pn ≤ c ∧ c ≤ maxLen ∧ Vals w' a (GV.mk k n s ln l fn nm f).pn (GV.mk k n s ln l fn nm f).pf ∧ Below u.heap.size u w') := fun u hu => parts_any _ _ _ (hL0.below hu) hM
    have HI : Hid (∀ i, i < (GV.mk k n s ln l fn nm f).pn → ∀ v w, Lies w ((GV.mk k n s ln l fn nm f).pf i) v → Calls Tryd.prog 47 #[v] w fun e w' => e = .returned (.int .i64 (((GV.mk k n s ln l fn nm f).pf i).depth : Nat)) ∧ Below w.heap.size w w') := by
      intro i hi v w hv
      have hn := GV.nodes_pf hi
      have hq : (GV.mk k n s ln l fn nm f).pf i = l i ∨ (GV.mk k n s ln l fn nm f).pf i = f i := by
        simp only [GV.pf]
        split
        · exact Or.inl rfl
        · exact Or.inr rfl
      rcases hq with e | e
      · rw [e] at hn hv ⊢
        exact ihl i v w hv (by omega)
      · rw [e] at hn hv ⊢
        exact ihf i v w hv (by omega)
    have HB : Hid (∀ i, i < (GV.mk k n s ln l fn nm f).pn → ((GV.mk k n s ln l fn nm f).pf i).depth ≤ 999999999) := by
      intro i hi
      have h1 := GV.nodes_pf hi
      have h2 := GV.depth_le ((GV.mk k n s ln l fn nm f).pf i)
      omega
    have HE : Hid (if k = 5 ∨ k = 6 then (GV.mk k n s ln l fn nm f).depth = 1 + (List.range (GV.mk k n s ln l fn nm f).pn).foldl (fun m i => max m ((GV.mk k n s ln l fn nm f).pf i).depth) 0 else (GV.mk k n s ln l fn nm f).depth = 0) := by
      show ite _ _ _
      simp only [GV.depth, GV.pn, GV.pf]
      by_cases k5 : k = 5
      · simp [k5]
      · by_cases k6 : k = 6
        · simp [k6]
        · simp [k5, k6]
    clear hL0 hM ihl ihf hf
    generalize GV.mk k n s ln l fn nm f = G at HP HI HE HB ⊢
    obtain ⟨p, hp⟩ : ∃ p, G.pn = p := ⟨_, rfl⟩
    obtain ⟨q, hq⟩ : ∃ q, G.pf = q := ⟨_, rfl⟩
    rw [hp, hq] at HP HE HB
    rw [hp, hq] at HI
    clear hp hq
    have hbx := (Below.refl w.heap.size w).alloc (Nat.le_refl _) (.cells #[.int .i64 k, .int .i64 n, .string s, .slice la ln lc, .slice fa fn fc] 29)
    by_cases hk : k = 5 ∨ k = 6
    · replace HE : Hid (G.depth = 1 + (List.range p).foldl (fun m i => max m (q i).depth) 0) := by
        have := HE.out
        rw [if_pos hk] at this
        exact this
      rcases hk with rfl | rfl
      · go_enter Tryd.func47, Tryd.ntmps47
        go_wp2_with fail
        refine (HP.out _ hbx).mono ?_
        rintro e w1 ⟨a, c, rfl, r1, r2, HV0, hb1⟩
        have HV : Hid (Vals w1 a p q) := HV0
        have B1 : Below w.heap.size w w1 := hbx.trans (hb1.mono (by simp))
        clear HV0 hb1 HP
        go_wp2_with fail
        go_loopw [3, 5] (fun d i wr2 => ∃ (j D : Nat), i = .int .i64 j ∧ j ≤ p ∧ d = .int .i64 D ∧ D ≤ 1000000000 ∧ Hid (D = (List.range j).foldl (fun m i => max m (q i).depth) 0) ∧ Below w1.heap.size w1 wr2) (fun _ i _ => p - (intOf i).toNat)
        case atStart => exact ⟨0, 0, rfl, by omega, rfl, by omega, rfl, Below.refl _ _⟩
        case round =>
          obtain ⟨j, D, rfl, hj, rfl, hD, HD, hbw⟩ := hrel
          by_cases hlt : j < p
          · obtain ⟨b, o, v', rfl, hLj, hA⟩ := HV.out j hlt
            have HLj : Hid (Lies w1 (q j) v') := hLj
            obtain ⟨k', n', s', la', ln', lc', fa', fn', fc', rfl⟩ := hLj.agg
            obtain ⟨c0, c1, c2, c3, c4⟩ := hA.five
            have e0 := below_keeps hbw _ _ _ c0
            have e1 := below_keeps hbw _ _ _ c1
            have e2 := below_keeps hbw _ _ _ c2
            have e3 := below_keeps hbw _ _ _ c3
            have e4 := below_keeps hbw _ _ _ c4
            clear hLj hA c0 c1 c2 c3 c4
            have hbs := hbw.size
            go_wp2_with fail
            refine (HI.out j hlt _ _ (HLj.out.below hbw)).mono ?_
            rintro e w2 ⟨rfl, hb2⟩
            have hb3 : Below w1.heap.size w1 w2 := hbw.trans (hb2.mono hbs)
            have hbd := HB.out j hlt
            have HD2 := HD.out
            clear e0 e1 e2 e3 e4 hb2 hbw
            have hbd2 : max D (q j).depth ≤ 1000000000 := by omega
            obtain ⟨x, hx⟩ : ∃ x, (q j).depth = x := ⟨_, rfl⟩
            rw [hx] at hbd hbd2 ⊢
            have HX : Hid ((q j).depth = x) := hx
            clear hx HD2
            go_wp2_with fail
            go_roundw
            case rel =>
              refine ⟨j + 1, max D x, by go_num, by omega, by first | rfl | (congr 1; omega), by omega, ?_, hb3⟩
              show _ = _
              have := HD.out
              have := HX.out
              rw [List.range_succ, List.foldl_append]
              simp only [List.foldl_cons, List.foldl_nil]
              omega
            case measure => simp [intOf]; omega
          · have hjp : j = p := by omega
            have HX : Hid (G.depth = D + 1) := by
              have h1 := HD.out
              have h2 := HE.out
              rw [hjp] at h1
              show _ = _
              omega
            clear hjp
            have hbs := hbw.size
            go_wp2_with fail
            go_ret
            refine ⟨?_, B1.trans (hbw.mono B1.size)⟩
            rw [HX.out]
            first | rfl | (congr 2; omega)
      · go_enter Tryd.func47, Tryd.ntmps47
        go_wp2_with fail
        refine (HP.out _ hbx).mono ?_
        rintro e w1 ⟨a, c, rfl, r1, r2, HV0, hb1⟩
        have HV : Hid (Vals w1 a p q) := HV0
        have B1 : Below w.heap.size w w1 := hbx.trans (hb1.mono (by simp))
        clear HV0 hb1 HP
        go_wp2_with fail
        go_loopw [3, 5] (fun d i wr2 => ∃ (j D : Nat), i = .int .i64 j ∧ j ≤ p ∧ d = .int .i64 D ∧ D ≤ 1000000000 ∧ Hid (D = (List.range j).foldl (fun m i => max m (q i).depth) 0) ∧ Below w1.heap.size w1 wr2) (fun _ i _ => p - (intOf i).toNat)
        case atStart => exact ⟨0, 0, rfl, by omega, rfl, by omega, rfl, Below.refl _ _⟩
        case round =>
          obtain ⟨j, D, rfl, hj, rfl, hD, HD, hbw⟩ := hrel
          by_cases hlt : j < p
          · obtain ⟨b, o, v', rfl, hLj, hA⟩ := HV.out j hlt
            have HLj : Hid (Lies w1 (q j) v') := hLj
            obtain ⟨k', n', s', la', ln', lc', fa', fn', fc', rfl⟩ := hLj.agg
            obtain ⟨c0, c1, c2, c3, c4⟩ := hA.five
            have e0 := below_keeps hbw _ _ _ c0
            have e1 := below_keeps hbw _ _ _ c1
            have e2 := below_keeps hbw _ _ _ c2
            have e3 := below_keeps hbw _ _ _ c3
            have e4 := below_keeps hbw _ _ _ c4
            clear hLj hA c0 c1 c2 c3 c4
            have hbs := hbw.size
            go_wp2_with fail
            refine (HI.out j hlt _ _ (HLj.out.below hbw)).mono ?_
            rintro e w2 ⟨rfl, hb2⟩
            have hb3 : Below w1.heap.size w1 w2 := hbw.trans (hb2.mono hbs)
            have hbd := HB.out j hlt
            have HD2 := HD.out
            clear e0 e1 e2 e3 e4 hb2 hbw
            have hbd2 : max D (q j).depth ≤ 1000000000 := by omega
            obtain ⟨x, hx⟩ : ∃ x, (q j).depth = x := ⟨_, rfl⟩
            rw [hx] at hbd hbd2 ⊢
            have HX : Hid ((q j).depth = x) := hx
            clear hx HD2
            go_wp2_with fail
            go_roundw
            case rel =>
              refine ⟨j + 1, max D x, by go_num, by omega, by first | rfl | (congr 1; omega), by omega, ?_, hb3⟩
              show _ = _
              have := HD.out
              have := HX.out
              rw [List.range_succ, List.foldl_append]
              simp only [List.foldl_cons, List.foldl_nil]
              omega
            case measure => simp [intOf]; omega
          · have hjp : j = p := by omega
            have HX : Hid (G.depth = D + 1) := by
              have h1 := HD.out
              have h2 := HE.out
              rw [hjp] at h1
              show _ = _
              omega
            clear hjp
            have hbs := hbw.size
            go_wp2_with fail
            go_ret
            refine ⟨?_, B1.trans (hbw.mono B1.size)⟩
            rw [HX.out]
            first | rfl | (congr 2; omega)
    · replace HE : Hid (G.depth = 0) := by
        have := HE.out
        rw [if_neg hk] at this
        exact this
      have k5 : ¬ k = 5 := fun e => hk (Or.inl e)
      have k6 : ¬ k = 6 := fun e => hk (Or.inr e)
      go_enter Tryd.func47, Tryd.ntmps47
      go_wp2_with fail
      go_ret
      refine ⟨?_, hbx⟩
      rw [HE.out]
      rfl
end Go.Proofs.YtfnmmpakejdlgaaDoor

/- For the document's own 'Bytes': small laws; a value of the Kinds without parts. -/
namespace Go.Proofs.YtfnmmpakejdlgaaDoor
open Go.RowKit

theorem step_append_own {P : Program} {ops : Array Oper} {o : Oper} {a : Act} {w : World} {K : Act → World → Prop} {Q : Exit → Act → World → Prop} {E : Prop}
    (hg : o.guard = none) (s x : Operand) (t : TypeId) (hop : o.op = Op.call { callee := Callee.builtin Builtin.append, args := #[s, x], argTypes := #[t, t] })
    (base : Nat) (e : TypeId) (i : TypeInfo) (z : Value) (size bytes : Nat) (h1 : P.underlying t = some (.slice e)) (h2 : P.info? e = some i) (h3 : i.zero = some z) (h4 : i.size = size) (h5 : i.bytes = bytes) (h6 : z.cells.size = size) (h7 : 0 < size)
    (v : Value) (n : Nat) (xs : List Value) (hs : a.eval s = v) (hown : w.ownsRow base e size v n xs)
    (ad : Addr) (m c : Nat) (news : List Value) (hx : a.eval x = .slice (some ad) m c) (hn : news.length = m * size) (hc : ∀ j u, news[j]? = some u → w.cell? (ad.add j) = some u) (h1c : ∀ u ∈ news, u.oneCell' = true)
    (b1 : n + m ≤ maxLen) (b2 : (n + m) * bytes ≤ 140737488355328) (hbase : base ≤ w.heap.size)
    (hK : ∀ v' w', w'.ownsRow base e size v' (n + m) (xs ++ news) → w.grownBy w' v.ownBlock → K (a.put o.dst v') w') :
    if Region.wanted o (yielded ops a.tmps) = true then Oper.wp P o a w K Q else E := by
  have hw : Region.wanted o (yielded ops a.tmps) = true := by simp [Region.wanted, hg]
  rw [if_pos hw]
  obtain ⟨v', w', hrun, r1, r2, _⟩ := run_append_own (P := P) w base t o.type e i z size bytes h1 h2 h3 h4 h5 h6 h7 v n xs hown ad m c news hn hc h1c b1 b2 hbase
  unfold Oper.wp
  simp [execOp, hop, resolve, invoke, builtin, hs, hx, hrun, Result.andThen]
  exact hK v' w' r1 r2

theorem step_append_own_string {P : Program} {ops : Array Oper} {o : Oper} {a : Act} {w : World} {K : Act → World → Prop} {Q : Exit → Act → World → Prop} {E : Prop}
    (hg : o.guard = none) (sl x : Operand) (t u : TypeId) (hop : o.op = Op.call { callee := Callee.builtin Builtin.append, args := #[sl, x], argTypes := #[t, u] })
    (base : Nat) (e : TypeId) (i : TypeInfo) (ht : P.underlying t = some (.slice e)) (hu : P.underlying u = some .string) (hi : P.info? e = some i) (hz : i.zero = some (.int .u8 0)) (hsize : i.size = 1) (hby : i.bytes = 1)
    (v : Value) (n : Nat) (xs : List Value) (hs : a.eval sl = v) (hown : w.ownsRow base e 1 v n xs) (s : ByteArray) (hx : a.eval x = .string s)
    (b1 : n + s.size ≤ maxLen) (b2 : n + s.size ≤ 140737488355328) (hbase : base ≤ w.heap.size)
    (hK : ∀ v' w', w'.ownsRow base e 1 v' (n + s.size) (xs ++ Lib.strCells s) → w.grownBy w' v.ownBlock → K (a.put o.dst v') w') :
    if Region.wanted o (yielded ops a.tmps) = true then Oper.wp P o a w K Q else E := by
  have hw : Region.wanted o (yielded ops a.tmps) = true := by simp [Region.wanted, hg]
  rw [if_pos hw]
  obtain ⟨v', w', hrun, r1, r2, _⟩ := Lib.run_append_own_string (P := P) w base t u o.type e i ht hu hi hz hsize hby v n xs hown s b1 b2 hbase
  unfold Oper.wp
  simp [execOp, hop, resolve, invoke, builtin, hs, hx, hrun, Result.andThen]
  exact hK v' w' r1 r2

theorem byteOne (l : List UInt8) : ∀ u ∈ Lib.byteCells l, u.oneCell' = true := by
  intro u hu
  simp only [Lib.byteCells, List.mem_map] at hu
  obtain ⟨b, _, rfl⟩ := hu
  rfl

theorem byteLen (l : List UInt8) : (Lib.byteCells l).length = l.length * 1 := by simp [Lib.byteCells]

/-- A row of one's own that is not empty: its address. -/
theorem own_some {w : World} {base e : Nat} {v : Value} {l : List UInt8} (h : w.ownsRow base e 1 v l.length (Lib.byteCells l)) (hp : 0 < l.length) :
    ∃ g c, v = .slice (some ⟨g, 0, none⟩) l.length c ∧ ∀ j u, (Lib.byteCells l)[j]? = some u → w.cell? ((⟨g, 0, none⟩ : Addr).add j) = some u := by
  rcases h.2 with ⟨_, h0⟩ | ⟨g, cap, cur, rfl, _⟩
  · omega
  · exact ⟨g, cap, rfl, h.cells rfl⟩

theorem flat_len {c : Nat → List UInt8} {j n : Nat} (h : j ≤ n) : ((List.range j).flatMap c).length ≤ ((List.range n).flatMap c).length := by
  obtain ⟨m, rfl⟩ : ∃ m, n = j + m := ⟨n - j, by omega⟩
  rw [List.range_add, List.flatMap_append, List.length_append]
  omega

theorem flat_sum {c : Nat → List UInt8} {b : Nat → Nat} : ∀ {n : Nat}, (∀ i, i < n → (c i).length ≤ b i) → ((List.range n).flatMap c).length ≤ ((List.range n).map b).sum
  | 0, _ => by simp
  | n + 1, h => by
    have h1 := flat_sum (c := c) (b := b) (n := n) (fun i hi => h i (by omega))
    have h2 := h n (by omega)
    rw [flat_snoc, List.length_append, List.range_succ, List.map_append, List.sum_append]
    simp only [List.map_cons, List.map_nil, List.sum_cons, List.sum_nil]
    omega

theorem sum_mulL {c : Nat → Nat} (m : Nat) : ∀ n, ((List.range n).map fun i => m * c i).sum = m * ((List.range n).map c).sum
  | 0 => by simp
  | n + 1 => by
    rw [List.range_succ, List.map_append, List.map_append, List.sum_append, List.sum_append, sum_mulL m n, Nat.mul_add]
    simp

/-- A tree's bytes are few for its mass. -/
theorem enc_le : ∀ {w : World} {g : GV} {v : Value}, Lies w g v → g.mass ≤ 4194304 → g.enc.length + 20 ≤ 32 * g.mass := by
  intro w g
  induction g with
  | nil => intro v h; exact False.elim h
  | mk k n s ln l fn nm f ihl ihf =>
    intro v h hM
    obtain ⟨la, lc, fa, fc, rfl, hk, hn, hs, h4, h5, h6, h7, hl, hf⟩ := h
    have hml : maxLen = 9223372036854775807 := rfl
    have z := varint_ten (zig_lt hn).1
    have vs := varint_ten (n := s.size) (by omega)
    have vl := varint_ten (n := ln) (by omega)
    have vf := varint_ten (n := fn) (by omega)
    have e1 : ((List.range ln).flatMap fun i => (l i).enc).length ≤ ((List.range ln).map fun i => 32 * (l i).mass).sum := flat_sum fun i hi => by
      obtain ⟨b, o, v', _, hv, _⟩ := hl i hi
      have hm := GV.mass_l (k := k) (n := n) (s := s) (l := l) (fn := fn) (nm := nm) (f := f) hi
      have := ihl i hv (by omega)
      omega
    have e2 : ((List.range fn).flatMap fun i => encS (nm i) ++ (f i).enc).length ≤ ((List.range fn).map fun i => 32 * ((nm i).size + (f i).mass)).sum := flat_sum fun i hi => by
      obtain ⟨b, o, v', _, hsz, _, hv, _⟩ := hf i hi
      have hm := GV.mass_f (k := k) (n := n) (s := s) (ln := ln) (l := l) (nm := nm) (f := f) hi
      have := ihf i hv (by omega)
      have vn := varint_ten (n := (nm i).size) (by omega)
      simp only [encS, List.length_append, Array.length_toList]
      have : (nm i).data.size = (nm i).size := rfl
      omega
    rw [sum_mulL] at e1 e2
    have hsd : s.data.size = s.size := rfl
    have es : (encS s).length ≤ 10 + s.size := by simp only [encS, List.length_append, Array.length_toList]; omega
    simp only [GV.enc, GV.mass, List.length_cons]
    by_cases k2 : k = 2
    · rw [if_pos k2]; simp only [List.length_cons, List.length_nil]; omega
    · rw [if_neg k2]
      by_cases k3 : k = 3
      · rw [if_pos k3]; omega
      · rw [if_neg k3]
        by_cases k4 : k = 4
        · rw [if_pos k4]; omega
        · rw [if_neg k4]
          by_cases k5 : k = 5
          · rw [if_pos k5, List.length_append]; omega
          · rw [if_neg k5]
            by_cases k6 : k = 6
            · rw [if_pos k6, List.length_append]; omega
            · rw [if_neg k6]; simp only [List.length_nil]; omega
end Go.Proofs.YtfnmmpakejdlgaaDoor
