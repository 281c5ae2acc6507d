/- The walk of the document's own 'shape', where a value itself may be formed. -/
import Derived.Test.YtfnmmpakejdlgaaDoorK22
import Derived.BigGuardPart
namespace Go.Proofs.YtfnmmpakejdlgaaDoor
open Go.RowKit

set_option maxHeartbeats 4000000 in
set_option maxRecDepth 1000000 in
theorem shape_ok1 : ∀ (n : Int) (s : ByteArray) (ln : Nat) (l : Nat → GV) (fn : Nat) (nm : Nat → ByteArray) (f : Nat → GV) (la fa : Option Addr) (lc fc : Nat) (w : World) (_h4 : ln ≤ lc) (_h5 : lc ≤ maxLen) (_h6 : fn ≤ fc) (_h7 : fc ≤ maxLen) (_hL : Lies w (GV.mk 1 n s ln l fn nm f) (.agg #[.int .i64 1, .int .i64 n, .string s, .slice la ln lc, .slice fa fn fc])) (_hN : (GV.mk 1 n s ln l fn nm f).nodes ≤ 1000000000)
    (_hI : ∀ i, i < (GV.mk 1 n s ln l fn nm f).pn → ∀ v w, Lies w ((GV.mk 1 n s ln l fn nm f).pf i) v → Calls Tryd.prog 44 #[v] w fun e w' => e = .returned (.bool (((GV.mk 1 n s ln l fn nm f).pf i).every GV.formed)) ∧ Below w.heap.size w w') (_hn0 : n = 0) (_hs0 : s = ⟨#[]⟩) (_hl0 : ln = 0) (_hf0 : fn = 0),
    Calls Tryd.prog 44 #[.agg #[.int .i64 1, .int .i64 n, .string s, .slice la ln lc, .slice fa fn fc]] w fun e w' => e = .returned (.bool ((GV.mk 1 n s ln l fn nm f).every GV.formed)) ∧ Below w.heap.size w w' := by
  iterate 21 (have _q := True.intro; clear _q)
  intro n s ln l fn nm f la fa lc fc w h4 h5 h6 h7 hL hN hI hn0 hs0 hl0 hf0
  have hml : maxLen = 9223372036854775807 := rfl
  subst hn0
  subst hs0
  have hbx := (Below.refl w.heap.size w).alloc (Nat.le_refl _) (.cells #[.int .i64 1, .int .i64 0, .string ⟨#[]⟩, .slice la ln lc, .slice fa fn fc] 29)
  have HP : Hid (∀ u, Below w.heap.size w u → Calls Tryd.prog 61 #[.agg #[.int .i64 1, .int .i64 0, .string ⟨#[]⟩, .slice la ln lc, .slice fa fn fc]] u fun e w' => ∃ a c, e = .returned (.slice a (GV.mk 1 0 ⟨#[]⟩ ln l fn nm f).pn c) ∧ (GV.mk 1 0 ⟨#[]⟩ ln l fn nm f).pn ≤ c ∧ c ≤ maxLen ∧ Vals w' a (GV.mk 1 0 ⟨#[]⟩ ln l fn nm f).pn (GV.mk 1 0 ⟨#[]⟩ ln l fn nm f).pf ∧ Below u.heap.size u w') := fun u hu => parts_any _ _ _ (hL.below hu) hN
  have HI : Hid (∀ i, i < (GV.mk 1 0 ⟨#[]⟩ ln l fn nm f).pn → ∀ v w, Lies w ((GV.mk 1 0 ⟨#[]⟩ ln l fn nm f).pf i) v → Calls Tryd.prog 44 #[v] w fun e w' => e = .returned (.bool (((GV.mk 1 0 ⟨#[]⟩ ln l fn nm f).pf i).every GV.formed)) ∧ Below w.heap.size w w') := hI
  have HN : Hid (Names w fa fn nm) := fun i hi => by
    obtain ⟨_, _, _, _, e, _, _, _, _, _, _, _, _, hf⟩ := hL
    cases e
    obtain ⟨b, o, v', e, hs, hc, _⟩ := hf i hi
    exact ⟨b, o, e, hs, hc⟩
  have HE0 : Hid (risingB fn nm = true → (GV.mk 1 0 ⟨#[]⟩ ln l fn nm f).every GV.formed = (List.range (GV.mk 1 0 ⟨#[]⟩ ln l fn nm f).pn).all (fun i => ((GV.mk 1 0 ⟨#[]⟩ ln l fn nm f).pf i).every GV.formed)) := by
    intro hr
    refine every_yes ?_
    unfold GV.formed
    simp
    try omega
  have HNO : Hid (risingB fn nm = false → (GV.mk 1 0 ⟨#[]⟩ ln l fn nm f).every GV.formed = false) := by
    intro hr
    apply every_no
    unfold GV.formed
    first | (simp; done) | (exfalso; unfold risingB at hr; rw [show fn - 1 = 0 by omega] at hr; cases hr)
  have hf1 : (fn : Int) ≤ 0 := by omega
  have hf3 : ¬ 0 < fn := by omega
  have hf2 : (fn : Int) ≤ 1 := by omega
  clear hf0
  have hl1 : (ln : Int) ≤ 0 := by omega
  have hl2 : ¬ 0 < ln := by omega
  clear hl0
  clear hL hN hI
  generalize GV.mk 1 0 ⟨#[]⟩ ln l fn nm f = G at HP HI HE0 HNO ⊢
  obtain ⟨p, hp⟩ : ∃ p, G.pn = p := ⟨_, rfl⟩
  obtain ⟨q, hq⟩ : ∃ q, G.pf = q := ⟨_, rfl⟩
  rw [hp, hq] at HP HE0
  rw [hp, hq] at HI
  clear hp hq
  go_enter Tryd.func44, Tryd.ntmps44
  dsimp only [List.append]
  go_wp2_with fail
  all_goals (try go_big_false)
  go_loopw [3] (fun i wr => ∃ (j : Nat), i = .int .i64 (j + 1 : Nat) ∧ (j = 0 ∨ j + 1 ≤ fn) ∧ Hid ((List.range j).all (fun i => Op.bytesLess (nm i).toList (nm (i + 1)).toList) = true) ∧ Below (w.heap.size + 1) (w.alloc (.cells #[.int .i64 1, .int .i64 0, .string ⟨#[]⟩, .slice la ln lc, .slice fa fn fc] 29)) wr) (fun i _ => fn - (intOf i).toNat)
  case atStart => exact ⟨0, rfl, by omega, rfl, Below.refl _ _⟩
  case round =>
    obtain ⟨j, rfl, hj, HD, hbw⟩ := hrel
    have hbs := hbw.size
    simp at hbs
    have hbw0 : Below w.heap.size w wr := hbx.trans (hbw.mono (by omega))
    have q0 : wr.cell? ⟨w.heap.size, 0, none⟩ = some (.int .i64 1) := by rw [hbw.cell (p := ⟨w.heap.size, 0, none⟩) (by show w.heap.size < _; omega)]; simp
    have q1 : wr.cell? ⟨w.heap.size, 1, none⟩ = some (.int .i64 0) := by rw [hbw.cell (p := ⟨w.heap.size, 1, none⟩) (by show w.heap.size < _; omega)]; simp
    have q2 : wr.cell? ⟨w.heap.size, 2, none⟩ = some (.string ⟨#[]⟩) := by rw [hbw.cell (p := ⟨w.heap.size, 2, none⟩) (by show w.heap.size < _; omega)]; simp
    have q3 : wr.cell? ⟨w.heap.size, 3, none⟩ = some (.slice la ln lc) := by rw [hbw.cell (p := ⟨w.heap.size, 3, none⟩) (by show w.heap.size < _; omega)]; simp
    have q4 : wr.cell? ⟨w.heap.size, 4, none⟩ = some (.slice fa fn fc) := by rw [hbw.cell (p := ⟨w.heap.size, 4, none⟩) (by show w.heap.size < _; omega)]; simp
    by_cases hlt : j + 1 < fn
    · exact absurd hlt (by omega)
    · have HE : Hid (G.every GV.formed = (List.range p).all (fun i => (q i).every GV.formed)) := HE0.out (by
        have hj2 : fn - 1 = j ∨ (fn ≤ 1 ∧ j = 0) := by omega
        unfold risingB
        rcases hj2 with h | ⟨h, h'⟩
        · rw [h]; exact HD.out
        · rw [show fn - 1 = 0 by omega]; rfl)
      clear HE0 HNO HD HN
      go_wp2_with fail
      refine (HP.out _ hbw0).mono ?_
      rintro e w1 ⟨a, c, rfl, r1, r2, HV0, hb1⟩
      have HV : Hid (Vals w1 a p q) := HV0
      have B1 : Below w.heap.size w w1 := hbw0.trans (hb1.mono hbw0.size)
      clear HV0 hb1 hbw0 HP q0 q1 q2 q3 q4
      go_wp2_with fail
      go_loopw [5] (fun i wr2 => ∃ (j : Nat), i = .int .i64 j ∧ j ≤ p ∧ Hid ((List.range j).all (fun i => (q i).every GV.formed) = true) ∧ Below w1.heap.size w1 wr2) (fun i _ => p - (intOf i).toNat)
      case atStart => exact ⟨0, rfl, by omega, rfl, Below.refl _ _⟩
      case round =>
        obtain ⟨j, rfl, hj, HD, hbw⟩ := hrel
        by_cases hlt : j < p
        · obtain ⟨b, o, v', rfl, hLj, hA⟩ := HV.out j hlt
          have HLj : Hid (Lies w1 (q j) v') := hLj
          obtain ⟨k', n', s', la', ln', lc', fa', fn', fc', rfl⟩ := hLj.agg
          obtain ⟨c0, c1, c2, c3, c4⟩ := hA.five
          have e0 := below_keeps hbw _ _ _ c0
          have e1 := below_keeps hbw _ _ _ c1
          have e2 := below_keeps hbw _ _ _ c2
          have e3 := below_keeps hbw _ _ _ c3
          have e4 := below_keeps hbw _ _ _ c4
          clear hLj hA c0 c1 c2 c3 c4
          have hbs := hbw.size
          go_wp2_with fail
          refine (HI.out j hlt _ _ (HLj.out.below hbw)).mono ?_
          rintro e w2 ⟨rfl, hb2⟩
          have hb3 : Below w1.heap.size w1 w2 := hbw.trans (hb2.mono hbs)
          clear e0 e1 e2 e3 e4 hb2 hbw
          cases hB : (q j).every GV.formed with
          | true =>
            have HD2 : Hid ((List.range (j + 1)).all (fun i => (q i).every GV.formed) = true) := all_snoc HD.out hB
            clear hB
            go_wp2_with fail
            go_roundw
            case rel => exact ⟨j + 1, by go_num, by omega, HD2.out, hb3⟩
            case measure => simp [intOf]; omega
          | false =>
            have HX : Hid (G.every GV.formed = false) := HE.out.trans (all_not hlt hB)
            clear hB
            go_wp2_with fail
            go_ret
            exact ⟨by rw [HX.out]; rfl, B1.trans (hb3.mono B1.size)⟩
        · have hjp : j = p := by omega
          have HX : Hid (G.every GV.formed = true) := by
            have := HD.out
            rw [hjp] at this
            exact HE.out.trans this
          clear hjp
          have hbs := hbw.size
          go_wp2_with fail
          go_ret
          exact ⟨by rw [HX.out]; rfl, B1.trans (hbw.mono B1.size)⟩

set_option maxHeartbeats 4000000 in
set_option maxRecDepth 1000000 in
theorem shape_ok2 : ∀ (n : Int) (s : ByteArray) (ln : Nat) (l : Nat → GV) (fn : Nat) (nm : Nat → ByteArray) (f : Nat → GV) (la fa : Option Addr) (lc fc : Nat) (w : World) (_h4 : ln ≤ lc) (_h5 : lc ≤ maxLen) (_h6 : fn ≤ fc) (_h7 : fc ≤ maxLen) (_hL : Lies w (GV.mk 2 n s ln l fn nm f) (.agg #[.int .i64 2, .int .i64 n, .string s, .slice la ln lc, .slice fa fn fc])) (_hN : (GV.mk 2 n s ln l fn nm f).nodes ≤ 1000000000)
    (_hI : ∀ i, i < (GV.mk 2 n s ln l fn nm f).pn → ∀ v w, Lies w ((GV.mk 2 n s ln l fn nm f).pf i) v → Calls Tryd.prog 44 #[v] w fun e w' => e = .returned (.bool (((GV.mk 2 n s ln l fn nm f).pf i).every GV.formed)) ∧ Below w.heap.size w w') (_hn0 : n = 0 ∨ n = 1) (_hs0 : s = ⟨#[]⟩) (_hl0 : ln = 0) (_hf0 : fn = 0),
    Calls Tryd.prog 44 #[.agg #[.int .i64 2, .int .i64 n, .string s, .slice la ln lc, .slice fa fn fc]] w fun e w' => e = .returned (.bool ((GV.mk 2 n s ln l fn nm f).every GV.formed)) ∧ Below w.heap.size w w' := by
  iterate 22 (have _q := True.intro; clear _q)
  intro n s ln l fn nm f la fa lc fc w h4 h5 h6 h7 hL hN hI hn0 hs0 hl0 hf0
  have hml : maxLen = 9223372036854775807 := rfl
  subst hs0
  have hbx := (Below.refl w.heap.size w).alloc (Nat.le_refl _) (.cells #[.int .i64 2, .int .i64 n, .string ⟨#[]⟩, .slice la ln lc, .slice fa fn fc] 29)
  have HP : Hid (∀ u, Below w.heap.size w u → Calls Tryd.prog 61 #[.agg #[.int .i64 2, .int .i64 n, .string ⟨#[]⟩, .slice la ln lc, .slice fa fn fc]] u fun e w' => ∃ a c, e = .returned (.slice a (GV.mk 2 n ⟨#[]⟩ ln l fn nm f).pn c) ∧ (GV.mk 2 n ⟨#[]⟩ ln l fn nm f).pn ≤ c ∧ c ≤ maxLen ∧ Vals w' a (GV.mk 2 n ⟨#[]⟩ ln l fn nm f).pn (GV.mk 2 n ⟨#[]⟩ ln l fn nm f).pf ∧ Below u.heap.size u w') := fun u hu => parts_any _ _ _ (hL.below hu) hN
  have HI : Hid (∀ i, i < (GV.mk 2 n ⟨#[]⟩ ln l fn nm f).pn → ∀ v w, Lies w ((GV.mk 2 n ⟨#[]⟩ ln l fn nm f).pf i) v → Calls Tryd.prog 44 #[v] w fun e w' => e = .returned (.bool (((GV.mk 2 n ⟨#[]⟩ ln l fn nm f).pf i).every GV.formed)) ∧ Below w.heap.size w w') := hI
  have HN : Hid (Names w fa fn nm) := fun i hi => by
    obtain ⟨_, _, _, _, e, _, _, _, _, _, _, _, _, hf⟩ := hL
    cases e
    obtain ⟨b, o, v', e, hs, hc, _⟩ := hf i hi
    exact ⟨b, o, e, hs, hc⟩
  have HE0 : Hid (risingB fn nm = true → (GV.mk 2 n ⟨#[]⟩ ln l fn nm f).every GV.formed = (List.range (GV.mk 2 n ⟨#[]⟩ ln l fn nm f).pn).all (fun i => ((GV.mk 2 n ⟨#[]⟩ ln l fn nm f).pf i).every GV.formed)) := by
    intro hr
    refine every_yes ?_
    unfold GV.formed
    simp
    try omega
  have HNO : Hid (risingB fn nm = false → (GV.mk 2 n ⟨#[]⟩ ln l fn nm f).every GV.formed = false) := by
    intro hr
    apply every_no
    unfold GV.formed
    first | (simp; done) | (exfalso; unfold risingB at hr; rw [show fn - 1 = 0 by omega] at hr; cases hr)
  have hf1 : (fn : Int) ≤ 0 := by omega
  have hf3 : ¬ 0 < fn := by omega
  have hf2 : (fn : Int) ≤ 1 := by omega
  clear hf0
  have hl1 : (ln : Int) ≤ 0 := by omega
  have hl2 : ¬ 0 < ln := by omega
  clear hl0
  clear hL hN hI
  generalize GV.mk 2 n ⟨#[]⟩ ln l fn nm f = G at HP HI HE0 HNO ⊢
  obtain ⟨p, hp⟩ : ∃ p, G.pn = p := ⟨_, rfl⟩
  obtain ⟨q, hq⟩ : ∃ q, G.pf = q := ⟨_, rfl⟩
  rw [hp, hq] at HP HE0
  rw [hp, hq] at HI
  clear hp hq
  have hn1 : n = 0 ∨ n = 1 := hn0
  clear hn0
  rcases hn1 with rfl | rfl
  · go_enter Tryd.func44, Tryd.ntmps44
    dsimp only [List.append]
    go_wp2_with fail
    all_goals (try go_big_false)
    go_loopw [3] (fun i wr => ∃ (j : Nat), i = .int .i64 (j + 1 : Nat) ∧ (j = 0 ∨ j + 1 ≤ fn) ∧ Hid ((List.range j).all (fun i => Op.bytesLess (nm i).toList (nm (i + 1)).toList) = true) ∧ Below (w.heap.size + 1) (w.alloc (.cells #[.int .i64 2, .int .i64 0, .string ⟨#[]⟩, .slice la ln lc, .slice fa fn fc] 29)) wr) (fun i _ => fn - (intOf i).toNat)
    case atStart => exact ⟨0, rfl, by omega, rfl, Below.refl _ _⟩
    case round =>
      obtain ⟨j, rfl, hj, HD, hbw⟩ := hrel
      have hbs := hbw.size
      simp at hbs
      have hbw0 : Below w.heap.size w wr := hbx.trans (hbw.mono (by omega))
      have q0 : wr.cell? ⟨w.heap.size, 0, none⟩ = some (.int .i64 2) := by rw [hbw.cell (p := ⟨w.heap.size, 0, none⟩) (by show w.heap.size < _; omega)]; simp
      have q1 : wr.cell? ⟨w.heap.size, 1, none⟩ = some (.int .i64 0) := by rw [hbw.cell (p := ⟨w.heap.size, 1, none⟩) (by show w.heap.size < _; omega)]; simp
      have q2 : wr.cell? ⟨w.heap.size, 2, none⟩ = some (.string ⟨#[]⟩) := by rw [hbw.cell (p := ⟨w.heap.size, 2, none⟩) (by show w.heap.size < _; omega)]; simp
      have q3 : wr.cell? ⟨w.heap.size, 3, none⟩ = some (.slice la ln lc) := by rw [hbw.cell (p := ⟨w.heap.size, 3, none⟩) (by show w.heap.size < _; omega)]; simp
      have q4 : wr.cell? ⟨w.heap.size, 4, none⟩ = some (.slice fa fn fc) := by rw [hbw.cell (p := ⟨w.heap.size, 4, none⟩) (by show w.heap.size < _; omega)]; simp
      by_cases hlt : j + 1 < fn
      · exact absurd hlt (by omega)
      · have HE : Hid (G.every GV.formed = (List.range p).all (fun i => (q i).every GV.formed)) := HE0.out (by
          have hj2 : fn - 1 = j ∨ (fn ≤ 1 ∧ j = 0) := by omega
          unfold risingB
          rcases hj2 with h | ⟨h, h'⟩
          · rw [h]; exact HD.out
          · rw [show fn - 1 = 0 by omega]; rfl)
        clear HE0 HNO HD HN
        go_wp2_with fail
        refine (HP.out _ hbw0).mono ?_
        rintro e w1 ⟨a, c, rfl, r1, r2, HV0, hb1⟩
        have HV : Hid (Vals w1 a p q) := HV0
        have B1 : Below w.heap.size w w1 := hbw0.trans (hb1.mono hbw0.size)
        clear HV0 hb1 hbw0 HP q0 q1 q2 q3 q4
        go_wp2_with fail
        go_loopw [5] (fun i wr2 => ∃ (j : Nat), i = .int .i64 j ∧ j ≤ p ∧ Hid ((List.range j).all (fun i => (q i).every GV.formed) = true) ∧ Below w1.heap.size w1 wr2) (fun i _ => p - (intOf i).toNat)
        case atStart => exact ⟨0, rfl, by omega, rfl, Below.refl _ _⟩
        case round =>
          obtain ⟨j, rfl, hj, HD, hbw⟩ := hrel
          by_cases hlt : j < p
          · obtain ⟨b, o, v', rfl, hLj, hA⟩ := HV.out j hlt
            have HLj : Hid (Lies w1 (q j) v') := hLj
            obtain ⟨k', n', s', la', ln', lc', fa', fn', fc', rfl⟩ := hLj.agg
            obtain ⟨c0, c1, c2, c3, c4⟩ := hA.five
            have e0 := below_keeps hbw _ _ _ c0
            have e1 := below_keeps hbw _ _ _ c1
            have e2 := below_keeps hbw _ _ _ c2
            have e3 := below_keeps hbw _ _ _ c3
            have e4 := below_keeps hbw _ _ _ c4
            clear hLj hA c0 c1 c2 c3 c4
            have hbs := hbw.size
            go_wp2_with fail
            refine (HI.out j hlt _ _ (HLj.out.below hbw)).mono ?_
            rintro e w2 ⟨rfl, hb2⟩
            have hb3 : Below w1.heap.size w1 w2 := hbw.trans (hb2.mono hbs)
            clear e0 e1 e2 e3 e4 hb2 hbw
            cases hB : (q j).every GV.formed with
            | true =>
              have HD2 : Hid ((List.range (j + 1)).all (fun i => (q i).every GV.formed) = true) := all_snoc HD.out hB
              clear hB
              go_wp2_with fail
              go_roundw
              case rel => exact ⟨j + 1, by go_num, by omega, HD2.out, hb3⟩
              case measure => simp [intOf]; omega
            | false =>
              have HX : Hid (G.every GV.formed = false) := HE.out.trans (all_not hlt hB)
              clear hB
              go_wp2_with fail
              go_ret
              exact ⟨by rw [HX.out]; rfl, B1.trans (hb3.mono B1.size)⟩
          · have hjp : j = p := by omega
            have HX : Hid (G.every GV.formed = true) := by
              have := HD.out
              rw [hjp] at this
              exact HE.out.trans this
            clear hjp
            have hbs := hbw.size
            go_wp2_with fail
            go_ret
            exact ⟨by rw [HX.out]; rfl, B1.trans (hbw.mono B1.size)⟩
  · go_enter Tryd.func44, Tryd.ntmps44
    dsimp only [List.append]
    go_wp2_with fail
    all_goals (try go_big_false)
    go_loopw [3] (fun i wr => ∃ (j : Nat), i = .int .i64 (j + 1 : Nat) ∧ (j = 0 ∨ j + 1 ≤ fn) ∧ Hid ((List.range j).all (fun i => Op.bytesLess (nm i).toList (nm (i + 1)).toList) = true) ∧ Below (w.heap.size + 1) (w.alloc (.cells #[.int .i64 2, .int .i64 1, .string ⟨#[]⟩, .slice la ln lc, .slice fa fn fc] 29)) wr) (fun i _ => fn - (intOf i).toNat)
    case atStart => exact ⟨0, rfl, by omega, rfl, Below.refl _ _⟩
    case round =>
      obtain ⟨j, rfl, hj, HD, hbw⟩ := hrel
      have hbs := hbw.size
      simp at hbs
      have hbw0 : Below w.heap.size w wr := hbx.trans (hbw.mono (by omega))
      have q0 : wr.cell? ⟨w.heap.size, 0, none⟩ = some (.int .i64 2) := by rw [hbw.cell (p := ⟨w.heap.size, 0, none⟩) (by show w.heap.size < _; omega)]; simp
      have q1 : wr.cell? ⟨w.heap.size, 1, none⟩ = some (.int .i64 1) := by rw [hbw.cell (p := ⟨w.heap.size, 1, none⟩) (by show w.heap.size < _; omega)]; simp
      have q2 : wr.cell? ⟨w.heap.size, 2, none⟩ = some (.string ⟨#[]⟩) := by rw [hbw.cell (p := ⟨w.heap.size, 2, none⟩) (by show w.heap.size < _; omega)]; simp
      have q3 : wr.cell? ⟨w.heap.size, 3, none⟩ = some (.slice la ln lc) := by rw [hbw.cell (p := ⟨w.heap.size, 3, none⟩) (by show w.heap.size < _; omega)]; simp
      have q4 : wr.cell? ⟨w.heap.size, 4, none⟩ = some (.slice fa fn fc) := by rw [hbw.cell (p := ⟨w.heap.size, 4, none⟩) (by show w.heap.size < _; omega)]; simp
      by_cases hlt : j + 1 < fn
      · exact absurd hlt (by omega)
      · have HE : Hid (G.every GV.formed = (List.range p).all (fun i => (q i).every GV.formed)) := HE0.out (by
          have hj2 : fn - 1 = j ∨ (fn ≤ 1 ∧ j = 0) := by omega
          unfold risingB
          rcases hj2 with h | ⟨h, h'⟩
          · rw [h]; exact HD.out
          · rw [show fn - 1 = 0 by omega]; rfl)
        clear HE0 HNO HD HN
        go_wp2_with fail
        refine (HP.out _ hbw0).mono ?_
        rintro e w1 ⟨a, c, rfl, r1, r2, HV0, hb1⟩
        have HV : Hid (Vals w1 a p q) := HV0
        have B1 : Below w.heap.size w w1 := hbw0.trans (hb1.mono hbw0.size)
        clear HV0 hb1 hbw0 HP q0 q1 q2 q3 q4
        go_wp2_with fail
        go_loopw [5] (fun i wr2 => ∃ (j : Nat), i = .int .i64 j ∧ j ≤ p ∧ Hid ((List.range j).all (fun i => (q i).every GV.formed) = true) ∧ Below w1.heap.size w1 wr2) (fun i _ => p - (intOf i).toNat)
        case atStart => exact ⟨0, rfl, by omega, rfl, Below.refl _ _⟩
        case round =>
          obtain ⟨j, rfl, hj, HD, hbw⟩ := hrel
          by_cases hlt : j < p
          · obtain ⟨b, o, v', rfl, hLj, hA⟩ := HV.out j hlt
            have HLj : Hid (Lies w1 (q j) v') := hLj
            obtain ⟨k', n', s', la', ln', lc', fa', fn', fc', rfl⟩ := hLj.agg
            obtain ⟨c0, c1, c2, c3, c4⟩ := hA.five
            have e0 := below_keeps hbw _ _ _ c0
            have e1 := below_keeps hbw _ _ _ c1
            have e2 := below_keeps hbw _ _ _ c2
            have e3 := below_keeps hbw _ _ _ c3
            have e4 := below_keeps hbw _ _ _ c4
            clear hLj hA c0 c1 c2 c3 c4
            have hbs := hbw.size
            go_wp2_with fail
            refine (HI.out j hlt _ _ (HLj.out.below hbw)).mono ?_
            rintro e w2 ⟨rfl, hb2⟩
            have hb3 : Below w1.heap.size w1 w2 := hbw.trans (hb2.mono hbs)
            clear e0 e1 e2 e3 e4 hb2 hbw
            cases hB : (q j).every GV.formed with
            | true =>
              have HD2 : Hid ((List.range (j + 1)).all (fun i => (q i).every GV.formed) = true) := all_snoc HD.out hB
              clear hB
              go_wp2_with fail
              go_roundw
              case rel => exact ⟨j + 1, by go_num, by omega, HD2.out, hb3⟩
              case measure => simp [intOf]; omega
            | false =>
              have HX : Hid (G.every GV.formed = false) := HE.out.trans (all_not hlt hB)
              clear hB
              go_wp2_with fail
              go_ret
              exact ⟨by rw [HX.out]; rfl, B1.trans (hb3.mono B1.size)⟩
          · have hjp : j = p := by omega
            have HX : Hid (G.every GV.formed = true) := by
              have := HD.out
              rw [hjp] at this
              exact HE.out.trans this
            clear hjp
            have hbs := hbw.size
            go_wp2_with fail
            go_ret
            exact ⟨by rw [HX.out]; rfl, B1.trans (hbw.mono B1.size)⟩

set_option maxHeartbeats 4000000 in
set_option maxRecDepth 1000000 in
theorem shape_ok3 : ∀ (n : Int) (s : ByteArray) (ln : Nat) (l : Nat → GV) (fn : Nat) (nm : Nat → ByteArray) (f : Nat → GV) (la fa : Option Addr) (lc fc : Nat) (w : World) (_h4 : ln ≤ lc) (_h5 : lc ≤ maxLen) (_h6 : fn ≤ fc) (_h7 : fc ≤ maxLen) (_hL : Lies w (GV.mk 3 n s ln l fn nm f) (.agg #[.int .i64 3, .int .i64 n, .string s, .slice la ln lc, .slice fa fn fc])) (_hN : (GV.mk 3 n s ln l fn nm f).nodes ≤ 1000000000)
    (_hI : ∀ i, i < (GV.mk 3 n s ln l fn nm f).pn → ∀ v w, Lies w ((GV.mk 3 n s ln l fn nm f).pf i) v → Calls Tryd.prog 44 #[v] w fun e w' => e = .returned (.bool (((GV.mk 3 n s ln l fn nm f).pf i).every GV.formed)) ∧ Below w.heap.size w w') (_hs0 : s = ⟨#[]⟩) (_hl0 : ln = 0) (_hf0 : fn = 0),
    Calls Tryd.prog 44 #[.agg #[.int .i64 3, .int .i64 n, .string s, .slice la ln lc, .slice fa fn fc]] w fun e w' => e = .returned (.bool ((GV.mk 3 n s ln l fn nm f).every GV.formed)) ∧ Below w.heap.size w w' := by
  iterate 23 (have _q := True.intro; clear _q)
  intro n s ln l fn nm f la fa lc fc w h4 h5 h6 h7 hL hN hI hs0 hl0 hf0
  have hml : maxLen = 9223372036854775807 := rfl
  subst hs0
  have hbx := (Below.refl w.heap.size w).alloc (Nat.le_refl _) (.cells #[.int .i64 3, .int .i64 n, .string ⟨#[]⟩, .slice la ln lc, .slice fa fn fc] 29)
  have HP : Hid (∀ u, Below w.heap.size w u → Calls Tryd.prog 61 #[.agg #[.int .i64 3, .int .i64 n, .string ⟨#[]⟩, .slice la ln lc, .slice fa fn fc]] u fun e w' => ∃ a c, e = .returned (.slice a (GV.mk 3 n ⟨#[]⟩ ln l fn nm f).pn c) ∧ (GV.mk 3 n ⟨#[]⟩ ln l fn nm f).pn ≤ c ∧ c ≤ maxLen ∧ Vals w' a (GV.mk 3 n ⟨#[]⟩ ln l fn nm f).pn (GV.mk 3 n ⟨#[]⟩ ln l fn nm f).pf ∧ Below u.heap.size u w') := fun u hu => parts_any _ _ _ (hL.below hu) hN
  have HI : Hid (∀ i, i < (GV.mk 3 n ⟨#[]⟩ ln l fn nm f).pn → ∀ v w, Lies w ((GV.mk 3 n ⟨#[]⟩ ln l fn nm f).pf i) v → Calls Tryd.prog 44 #[v] w fun e w' => e = .returned (.bool (((GV.mk 3 n ⟨#[]⟩ ln l fn nm f).pf i).every GV.formed)) ∧ Below w.heap.size w w') := hI
  have HN : Hid (Names w fa fn nm) := fun i hi => by
    obtain ⟨_, _, _, _, e, _, _, _, _, _, _, _, _, hf⟩ := hL
    cases e
    obtain ⟨b, o, v', e, hs, hc, _⟩ := hf i hi
    exact ⟨b, o, e, hs, hc⟩
  have HE0 : Hid (risingB fn nm = true → (GV.mk 3 n ⟨#[]⟩ ln l fn nm f).every GV.formed = (List.range (GV.mk 3 n ⟨#[]⟩ ln l fn nm f).pn).all (fun i => ((GV.mk 3 n ⟨#[]⟩ ln l fn nm f).pf i).every GV.formed)) := by
    intro hr
    refine every_yes ?_
    unfold GV.formed
    simp
    try omega
  have HNO : Hid (risingB fn nm = false → (GV.mk 3 n ⟨#[]⟩ ln l fn nm f).every GV.formed = false) := by
    intro hr
    apply every_no
    unfold GV.formed
    first | (simp; done) | (exfalso; unfold risingB at hr; rw [show fn - 1 = 0 by omega] at hr; cases hr)
  have hf1 : (fn : Int) ≤ 0 := by omega
  have hf3 : ¬ 0 < fn := by omega
  have hf2 : (fn : Int) ≤ 1 := by omega
  clear hf0
  have hl1 : (ln : Int) ≤ 0 := by omega
  have hl2 : ¬ 0 < ln := by omega
  clear hl0
  clear hL hN hI
  generalize GV.mk 3 n ⟨#[]⟩ ln l fn nm f = G at HP HI HE0 HNO ⊢
  obtain ⟨p, hp⟩ : ∃ p, G.pn = p := ⟨_, rfl⟩
  obtain ⟨q, hq⟩ : ∃ q, G.pf = q := ⟨_, rfl⟩
  rw [hp, hq] at HP HE0
  rw [hp, hq] at HI
  clear hp hq
  go_enter Tryd.func44, Tryd.ntmps44
  dsimp only [List.append]
  go_wp2_with fail
  all_goals (try go_big_false)
  go_loopw [3] (fun i wr => ∃ (j : Nat), i = .int .i64 (j + 1 : Nat) ∧ (j = 0 ∨ j + 1 ≤ fn) ∧ Hid ((List.range j).all (fun i => Op.bytesLess (nm i).toList (nm (i + 1)).toList) = true) ∧ Below (w.heap.size + 1) (w.alloc (.cells #[.int .i64 3, .int .i64 n, .string ⟨#[]⟩, .slice la ln lc, .slice fa fn fc] 29)) wr) (fun i _ => fn - (intOf i).toNat)
  case atStart => exact ⟨0, rfl, by omega, rfl, Below.refl _ _⟩
  case round =>
    obtain ⟨j, rfl, hj, HD, hbw⟩ := hrel
    have hbs := hbw.size
    simp at hbs
    have hbw0 : Below w.heap.size w wr := hbx.trans (hbw.mono (by omega))
    have q0 : wr.cell? ⟨w.heap.size, 0, none⟩ = some (.int .i64 3) := by rw [hbw.cell (p := ⟨w.heap.size, 0, none⟩) (by show w.heap.size < _; omega)]; simp
    have q1 : wr.cell? ⟨w.heap.size, 1, none⟩ = some (.int .i64 n) := by rw [hbw.cell (p := ⟨w.heap.size, 1, none⟩) (by show w.heap.size < _; omega)]; simp
    have q2 : wr.cell? ⟨w.heap.size, 2, none⟩ = some (.string ⟨#[]⟩) := by rw [hbw.cell (p := ⟨w.heap.size, 2, none⟩) (by show w.heap.size < _; omega)]; simp
    have q3 : wr.cell? ⟨w.heap.size, 3, none⟩ = some (.slice la ln lc) := by rw [hbw.cell (p := ⟨w.heap.size, 3, none⟩) (by show w.heap.size < _; omega)]; simp
    have q4 : wr.cell? ⟨w.heap.size, 4, none⟩ = some (.slice fa fn fc) := by rw [hbw.cell (p := ⟨w.heap.size, 4, none⟩) (by show w.heap.size < _; omega)]; simp
    by_cases hlt : j + 1 < fn
    · exact absurd hlt (by omega)
    · have HE : Hid (G.every GV.formed = (List.range p).all (fun i => (q i).every GV.formed)) := HE0.out (by
        have hj2 : fn - 1 = j ∨ (fn ≤ 1 ∧ j = 0) := by omega
        unfold risingB
        rcases hj2 with h | ⟨h, h'⟩
        · rw [h]; exact HD.out
        · rw [show fn - 1 = 0 by omega]; rfl)
      clear HE0 HNO HD HN
      go_wp2_with fail
      refine (HP.out _ hbw0).mono ?_
      rintro e w1 ⟨a, c, rfl, r1, r2, HV0, hb1⟩
      have HV : Hid (Vals w1 a p q) := HV0
      have B1 : Below w.heap.size w w1 := hbw0.trans (hb1.mono hbw0.size)
      clear HV0 hb1 hbw0 HP q0 q1 q2 q3 q4
      go_wp2_with fail
      go_loopw [5] (fun i wr2 => ∃ (j : Nat), i = .int .i64 j ∧ j ≤ p ∧ Hid ((List.range j).all (fun i => (q i).every GV.formed) = true) ∧ Below w1.heap.size w1 wr2) (fun i _ => p - (intOf i).toNat)
      case atStart => exact ⟨0, rfl, by omega, rfl, Below.refl _ _⟩
      case round =>
        obtain ⟨j, rfl, hj, HD, hbw⟩ := hrel
        by_cases hlt : j < p
        · obtain ⟨b, o, v', rfl, hLj, hA⟩ := HV.out j hlt
          have HLj : Hid (Lies w1 (q j) v') := hLj
          obtain ⟨k', n', s', la', ln', lc', fa', fn', fc', rfl⟩ := hLj.agg
          obtain ⟨c0, c1, c2, c3, c4⟩ := hA.five
          have e0 := below_keeps hbw _ _ _ c0
          have e1 := below_keeps hbw _ _ _ c1
          have e2 := below_keeps hbw _ _ _ c2
          have e3 := below_keeps hbw _ _ _ c3
          have e4 := below_keeps hbw _ _ _ c4
          clear hLj hA c0 c1 c2 c3 c4
          have hbs := hbw.size
          go_wp2_with fail
          refine (HI.out j hlt _ _ (HLj.out.below hbw)).mono ?_
          rintro e w2 ⟨rfl, hb2⟩
          have hb3 : Below w1.heap.size w1 w2 := hbw.trans (hb2.mono hbs)
          clear e0 e1 e2 e3 e4 hb2 hbw
          cases hB : (q j).every GV.formed with
          | true =>
            have HD2 : Hid ((List.range (j + 1)).all (fun i => (q i).every GV.formed) = true) := all_snoc HD.out hB
            clear hB
            go_wp2_with fail
            go_roundw
            case rel => exact ⟨j + 1, by go_num, by omega, HD2.out, hb3⟩
            case measure => simp [intOf]; omega
          | false =>
            have HX : Hid (G.every GV.formed = false) := HE.out.trans (all_not hlt hB)
            clear hB
            go_wp2_with fail
            go_ret
            exact ⟨by rw [HX.out]; rfl, B1.trans (hb3.mono B1.size)⟩
        · have hjp : j = p := by omega
          have HX : Hid (G.every GV.formed = true) := by
            have := HD.out
            rw [hjp] at this
            exact HE.out.trans this
          clear hjp
          have hbs := hbw.size
          go_wp2_with fail
          go_ret
          exact ⟨by rw [HX.out]; rfl, B1.trans (hbw.mono B1.size)⟩

set_option maxHeartbeats 4000000 in
set_option maxRecDepth 1000000 in
theorem shape_ok4 : ∀ (n : Int) (s : ByteArray) (ln : Nat) (l : Nat → GV) (fn : Nat) (nm : Nat → ByteArray) (f : Nat → GV) (la fa : Option Addr) (lc fc : Nat) (w : World) (_h4 : ln ≤ lc) (_h5 : lc ≤ maxLen) (_h6 : fn ≤ fc) (_h7 : fc ≤ maxLen) (_hL : Lies w (GV.mk 4 n s ln l fn nm f) (.agg #[.int .i64 4, .int .i64 n, .string s, .slice la ln lc, .slice fa fn fc])) (_hN : (GV.mk 4 n s ln l fn nm f).nodes ≤ 1000000000)
    (_hI : ∀ i, i < (GV.mk 4 n s ln l fn nm f).pn → ∀ v w, Lies w ((GV.mk 4 n s ln l fn nm f).pf i) v → Calls Tryd.prog 44 #[v] w fun e w' => e = .returned (.bool (((GV.mk 4 n s ln l fn nm f).pf i).every GV.formed)) ∧ Below w.heap.size w w') (_hn0 : n = 0) (_hl0 : ln = 0) (_hf0 : fn = 0),
    Calls Tryd.prog 44 #[.agg #[.int .i64 4, .int .i64 n, .string s, .slice la ln lc, .slice fa fn fc]] w fun e w' => e = .returned (.bool ((GV.mk 4 n s ln l fn nm f).every GV.formed)) ∧ Below w.heap.size w w' := by
  iterate 24 (have _q := True.intro; clear _q)
  intro n s ln l fn nm f la fa lc fc w h4 h5 h6 h7 hL hN hI hn0 hl0 hf0
  have hml : maxLen = 9223372036854775807 := rfl
  subst hn0
  have hbx := (Below.refl w.heap.size w).alloc (Nat.le_refl _) (.cells #[.int .i64 4, .int .i64 0, .string s, .slice la ln lc, .slice fa fn fc] 29)
  have HP : Hid (∀ u, Below w.heap.size w u → Calls Tryd.prog 61 #[.agg #[.int .i64 4, .int .i64 0, .string s, .slice la ln lc, .slice fa fn fc]] u fun e w' => ∃ a c, e = .returned (.slice a (GV.mk 4 0 s ln l fn nm f).pn c) ∧ (GV.mk 4 0 s ln l fn nm f).pn ≤ c ∧ c ≤ maxLen ∧ Vals w' a (GV.mk 4 0 s ln l fn nm f).pn (GV.mk 4 0 s ln l fn nm f).pf ∧ Below u.heap.size u w') := fun u hu => parts_any _ _ _ (hL.below hu) hN
  have HI : Hid (∀ i, i < (GV.mk 4 0 s ln l fn nm f).pn → ∀ v w, Lies w ((GV.mk 4 0 s ln l fn nm f).pf i) v → Calls Tryd.prog 44 #[v] w fun e w' => e = .returned (.bool (((GV.mk 4 0 s ln l fn nm f).pf i).every GV.formed)) ∧ Below w.heap.size w w') := hI
  have HN : Hid (Names w fa fn nm) := fun i hi => by
    obtain ⟨_, _, _, _, e, _, _, _, _, _, _, _, _, hf⟩ := hL
    cases e
    obtain ⟨b, o, v', e, hs, hc, _⟩ := hf i hi
    exact ⟨b, o, e, hs, hc⟩
  have HE0 : Hid (risingB fn nm = true → (GV.mk 4 0 s ln l fn nm f).every GV.formed = (List.range (GV.mk 4 0 s ln l fn nm f).pn).all (fun i => ((GV.mk 4 0 s ln l fn nm f).pf i).every GV.formed)) := by
    intro hr
    refine every_yes ?_
    unfold GV.formed
    simp
    try omega
  have HNO : Hid (risingB fn nm = false → (GV.mk 4 0 s ln l fn nm f).every GV.formed = false) := by
    intro hr
    apply every_no
    unfold GV.formed
    first | (simp; done) | (exfalso; unfold risingB at hr; rw [show fn - 1 = 0 by omega] at hr; cases hr)
  have hf1 : (fn : Int) ≤ 0 := by omega
  have hf3 : ¬ 0 < fn := by omega
  have hf2 : (fn : Int) ≤ 1 := by omega
  clear hf0
  have hl1 : (ln : Int) ≤ 0 := by omega
  have hl2 : ¬ 0 < ln := by omega
  clear hl0
  clear hL hN hI
  generalize GV.mk 4 0 s ln l fn nm f = G at HP HI HE0 HNO ⊢
  obtain ⟨p, hp⟩ : ∃ p, G.pn = p := ⟨_, rfl⟩
  obtain ⟨q, hq⟩ : ∃ q, G.pf = q := ⟨_, rfl⟩
  rw [hp, hq] at HP HE0
  rw [hp, hq] at HI
  clear hp hq
  go_enter Tryd.func44, Tryd.ntmps44
  dsimp only [List.append]
  go_wp2_with fail
  all_goals (try go_big_false)
  go_loopw [3] (fun i wr => ∃ (j : Nat), i = .int .i64 (j + 1 : Nat) ∧ (j = 0 ∨ j + 1 ≤ fn) ∧ Hid ((List.range j).all (fun i => Op.bytesLess (nm i).toList (nm (i + 1)).toList) = true) ∧ Below (w.heap.size + 1) (w.alloc (.cells #[.int .i64 4, .int .i64 0, .string s, .slice la ln lc, .slice fa fn fc] 29)) wr) (fun i _ => fn - (intOf i).toNat)
  case atStart => exact ⟨0, rfl, by omega, rfl, Below.refl _ _⟩
  case round =>
    obtain ⟨j, rfl, hj, HD, hbw⟩ := hrel
    have hbs := hbw.size
    simp at hbs
    have hbw0 : Below w.heap.size w wr := hbx.trans (hbw.mono (by omega))
    have q0 : wr.cell? ⟨w.heap.size, 0, none⟩ = some (.int .i64 4) := by rw [hbw.cell (p := ⟨w.heap.size, 0, none⟩) (by show w.heap.size < _; omega)]; simp
    have q1 : wr.cell? ⟨w.heap.size, 1, none⟩ = some (.int .i64 0) := by rw [hbw.cell (p := ⟨w.heap.size, 1, none⟩) (by show w.heap.size < _; omega)]; simp
    have q2 : wr.cell? ⟨w.heap.size, 2, none⟩ = some (.string s) := by rw [hbw.cell (p := ⟨w.heap.size, 2, none⟩) (by show w.heap.size < _; omega)]; simp
    have q3 : wr.cell? ⟨w.heap.size, 3, none⟩ = some (.slice la ln lc) := by rw [hbw.cell (p := ⟨w.heap.size, 3, none⟩) (by show w.heap.size < _; omega)]; simp
    have q4 : wr.cell? ⟨w.heap.size, 4, none⟩ = some (.slice fa fn fc) := by rw [hbw.cell (p := ⟨w.heap.size, 4, none⟩) (by show w.heap.size < _; omega)]; simp
    by_cases hlt : j + 1 < fn
    · exact absurd hlt (by omega)
    · have HE : Hid (G.every GV.formed = (List.range p).all (fun i => (q i).every GV.formed)) := HE0.out (by
        have hj2 : fn - 1 = j ∨ (fn ≤ 1 ∧ j = 0) := by omega
        unfold risingB
        rcases hj2 with h | ⟨h, h'⟩
        · rw [h]; exact HD.out
        · rw [show fn - 1 = 0 by omega]; rfl)
      clear HE0 HNO HD HN
      go_wp2_with fail
      refine (HP.out _ hbw0).mono ?_
      rintro e w1 ⟨a, c, rfl, r1, r2, HV0, hb1⟩
      have HV : Hid (Vals w1 a p q) := HV0
      have B1 : Below w.heap.size w w1 := hbw0.trans (hb1.mono hbw0.size)
      clear HV0 hb1 hbw0 HP q0 q1 q2 q3 q4
      go_wp2_with fail
      go_loopw [5] (fun i wr2 => ∃ (j : Nat), i = .int .i64 j ∧ j ≤ p ∧ Hid ((List.range j).all (fun i => (q i).every GV.formed) = true) ∧ Below w1.heap.size w1 wr2) (fun i _ => p - (intOf i).toNat)
      case atStart => exact ⟨0, rfl, by omega, rfl, Below.refl _ _⟩
      case round =>
        obtain ⟨j, rfl, hj, HD, hbw⟩ := hrel
        by_cases hlt : j < p
        · obtain ⟨b, o, v', rfl, hLj, hA⟩ := HV.out j hlt
          have HLj : Hid (Lies w1 (q j) v') := hLj
          obtain ⟨k', n', s', la', ln', lc', fa', fn', fc', rfl⟩ := hLj.agg
          obtain ⟨c0, c1, c2, c3, c4⟩ := hA.five
          have e0 := below_keeps hbw _ _ _ c0
          have e1 := below_keeps hbw _ _ _ c1
          have e2 := below_keeps hbw _ _ _ c2
          have e3 := below_keeps hbw _ _ _ c3
          have e4 := below_keeps hbw _ _ _ c4
          clear hLj hA c0 c1 c2 c3 c4
          have hbs := hbw.size
          go_wp2_with fail
          refine (HI.out j hlt _ _ (HLj.out.below hbw)).mono ?_
          rintro e w2 ⟨rfl, hb2⟩
          have hb3 : Below w1.heap.size w1 w2 := hbw.trans (hb2.mono hbs)
          clear e0 e1 e2 e3 e4 hb2 hbw
          cases hB : (q j).every GV.formed with
          | true =>
            have HD2 : Hid ((List.range (j + 1)).all (fun i => (q i).every GV.formed) = true) := all_snoc HD.out hB
            clear hB
            go_wp2_with fail
            go_roundw
            case rel => exact ⟨j + 1, by go_num, by omega, HD2.out, hb3⟩
            case measure => simp [intOf]; omega
          | false =>
            have HX : Hid (G.every GV.formed = false) := HE.out.trans (all_not hlt hB)
            clear hB
            go_wp2_with fail
            go_ret
            exact ⟨by rw [HX.out]; rfl, B1.trans (hb3.mono B1.size)⟩
        · have hjp : j = p := by omega
          have HX : Hid (G.every GV.formed = true) := by
            have := HD.out
            rw [hjp] at this
            exact HE.out.trans this
          clear hjp
          have hbs := hbw.size
          go_wp2_with fail
          go_ret
          exact ⟨by rw [HX.out]; rfl, B1.trans (hbw.mono B1.size)⟩

set_option maxHeartbeats 4000000 in
set_option maxRecDepth 1000000 in
theorem shape_ok5 : ∀ (n : Int) (s : ByteArray) (ln : Nat) (l : Nat → GV) (fn : Nat) (nm : Nat → ByteArray) (f : Nat → GV) (la fa : Option Addr) (lc fc : Nat) (w : World) (_h4 : ln ≤ lc) (_h5 : lc ≤ maxLen) (_h6 : fn ≤ fc) (_h7 : fc ≤ maxLen) (_hL : Lies w (GV.mk 5 n s ln l fn nm f) (.agg #[.int .i64 5, .int .i64 n, .string s, .slice la ln lc, .slice fa fn fc])) (_hN : (GV.mk 5 n s ln l fn nm f).nodes ≤ 1000000000)
    (_hI : ∀ i, i < (GV.mk 5 n s ln l fn nm f).pn → ∀ v w, Lies w ((GV.mk 5 n s ln l fn nm f).pf i) v → Calls Tryd.prog 44 #[v] w fun e w' => e = .returned (.bool (((GV.mk 5 n s ln l fn nm f).pf i).every GV.formed)) ∧ Below w.heap.size w w') (_hn0 : n = 0) (_hs0 : s = ⟨#[]⟩) (_hf0 : fn = 0),
    Calls Tryd.prog 44 #[.agg #[.int .i64 5, .int .i64 n, .string s, .slice la ln lc, .slice fa fn fc]] w fun e w' => e = .returned (.bool ((GV.mk 5 n s ln l fn nm f).every GV.formed)) ∧ Below w.heap.size w w' := by
  iterate 25 (have _q := True.intro; clear _q)
  intro n s ln l fn nm f la fa lc fc w h4 h5 h6 h7 hL hN hI hn0 hs0 hf0
  have hml : maxLen = 9223372036854775807 := rfl
  subst hn0
  subst hs0
  have hbx := (Below.refl w.heap.size w).alloc (Nat.le_refl _) (.cells #[.int .i64 5, .int .i64 0, .string ⟨#[]⟩, .slice la ln lc, .slice fa fn fc] 29)
  have HP : Hid (∀ u, Below w.heap.size w u → Calls Tryd.prog 61 #[.agg #[.int .i64 5, .int .i64 0, .string ⟨#[]⟩, .slice la ln lc, .slice fa fn fc]] u fun e w' => ∃ a c, e = .returned (.slice a (GV.mk 5 0 ⟨#[]⟩ ln l fn nm f).pn c) ∧ (GV.mk 5 0 ⟨#[]⟩ ln l fn nm f).pn ≤ c ∧ c ≤ maxLen ∧ Vals w' a (GV.mk 5 0 ⟨#[]⟩ ln l fn nm f).pn (GV.mk 5 0 ⟨#[]⟩ ln l fn nm f).pf ∧ Below u.heap.size u w') := fun u hu => parts_any _ _ _ (hL.below hu) hN
  have HI : Hid (∀ i, i < (GV.mk 5 0 ⟨#[]⟩ ln l fn nm f).pn → ∀ v w, Lies w ((GV.mk 5 0 ⟨#[]⟩ ln l fn nm f).pf i) v → Calls Tryd.prog 44 #[v] w fun e w' => e = .returned (.bool (((GV.mk 5 0 ⟨#[]⟩ ln l fn nm f).pf i).every GV.formed)) ∧ Below w.heap.size w w') := hI
  have HN : Hid (Names w fa fn nm) := fun i hi => by
    obtain ⟨_, _, _, _, e, _, _, _, _, _, _, _, _, hf⟩ := hL
    cases e
    obtain ⟨b, o, v', e, hs, hc, _⟩ := hf i hi
    exact ⟨b, o, e, hs, hc⟩
  have HE0 : Hid (risingB fn nm = true → (GV.mk 5 0 ⟨#[]⟩ ln l fn nm f).every GV.formed = (List.range (GV.mk 5 0 ⟨#[]⟩ ln l fn nm f).pn).all (fun i => ((GV.mk 5 0 ⟨#[]⟩ ln l fn nm f).pf i).every GV.formed)) := by
    intro hr
    refine every_yes ?_
    unfold GV.formed
    simp
    try omega
  have HNO : Hid (risingB fn nm = false → (GV.mk 5 0 ⟨#[]⟩ ln l fn nm f).every GV.formed = false) := by
    intro hr
    apply every_no
    unfold GV.formed
    first | (simp; done) | (exfalso; unfold risingB at hr; rw [show fn - 1 = 0 by omega] at hr; cases hr)
  have hf1 : (fn : Int) ≤ 0 := by omega
  have hf3 : ¬ 0 < fn := by omega
  have hf2 : (fn : Int) ≤ 1 := by omega
  clear hf0
  clear hL hN hI
  generalize GV.mk 5 0 ⟨#[]⟩ ln l fn nm f = G at HP HI HE0 HNO ⊢
  obtain ⟨p, hp⟩ : ∃ p, G.pn = p := ⟨_, rfl⟩
  obtain ⟨q, hq⟩ : ∃ q, G.pf = q := ⟨_, rfl⟩
  rw [hp, hq] at HP HE0
  rw [hp, hq] at HI
  clear hp hq
  go_enter Tryd.func44, Tryd.ntmps44
  dsimp only [List.append]
  go_wp2_with fail
  all_goals (try go_big_false)
  go_loopw [3] (fun i wr => ∃ (j : Nat), i = .int .i64 (j + 1 : Nat) ∧ (j = 0 ∨ j + 1 ≤ fn) ∧ Hid ((List.range j).all (fun i => Op.bytesLess (nm i).toList (nm (i + 1)).toList) = true) ∧ Below (w.heap.size + 1) (w.alloc (.cells #[.int .i64 5, .int .i64 0, .string ⟨#[]⟩, .slice la ln lc, .slice fa fn fc] 29)) wr) (fun i _ => fn - (intOf i).toNat)
  case atStart => exact ⟨0, rfl, by omega, rfl, Below.refl _ _⟩
  case round =>
    obtain ⟨j, rfl, hj, HD, hbw⟩ := hrel
    have hbs := hbw.size
    simp at hbs
    have hbw0 : Below w.heap.size w wr := hbx.trans (hbw.mono (by omega))
    have q0 : wr.cell? ⟨w.heap.size, 0, none⟩ = some (.int .i64 5) := by rw [hbw.cell (p := ⟨w.heap.size, 0, none⟩) (by show w.heap.size < _; omega)]; simp
    have q1 : wr.cell? ⟨w.heap.size, 1, none⟩ = some (.int .i64 0) := by rw [hbw.cell (p := ⟨w.heap.size, 1, none⟩) (by show w.heap.size < _; omega)]; simp
    have q2 : wr.cell? ⟨w.heap.size, 2, none⟩ = some (.string ⟨#[]⟩) := by rw [hbw.cell (p := ⟨w.heap.size, 2, none⟩) (by show w.heap.size < _; omega)]; simp
    have q3 : wr.cell? ⟨w.heap.size, 3, none⟩ = some (.slice la ln lc) := by rw [hbw.cell (p := ⟨w.heap.size, 3, none⟩) (by show w.heap.size < _; omega)]; simp
    have q4 : wr.cell? ⟨w.heap.size, 4, none⟩ = some (.slice fa fn fc) := by rw [hbw.cell (p := ⟨w.heap.size, 4, none⟩) (by show w.heap.size < _; omega)]; simp
    by_cases hlt : j + 1 < fn
    · exact absurd hlt (by omega)
    · have HE : Hid (G.every GV.formed = (List.range p).all (fun i => (q i).every GV.formed)) := HE0.out (by
        have hj2 : fn - 1 = j ∨ (fn ≤ 1 ∧ j = 0) := by omega
        unfold risingB
        rcases hj2 with h | ⟨h, h'⟩
        · rw [h]; exact HD.out
        · rw [show fn - 1 = 0 by omega]; rfl)
      clear HE0 HNO HD HN
      go_wp2_with fail
      refine (HP.out _ hbw0).mono ?_
      rintro e w1 ⟨a, c, rfl, r1, r2, HV0, hb1⟩
      have HV : Hid (Vals w1 a p q) := HV0
      have B1 : Below w.heap.size w w1 := hbw0.trans (hb1.mono hbw0.size)
      clear HV0 hb1 hbw0 HP q0 q1 q2 q3 q4
      go_wp2_with fail
      go_loopw [5] (fun i wr2 => ∃ (j : Nat), i = .int .i64 j ∧ j ≤ p ∧ Hid ((List.range j).all (fun i => (q i).every GV.formed) = true) ∧ Below w1.heap.size w1 wr2) (fun i _ => p - (intOf i).toNat)
      case atStart => exact ⟨0, rfl, by omega, rfl, Below.refl _ _⟩
      case round =>
        obtain ⟨j, rfl, hj, HD, hbw⟩ := hrel
        by_cases hlt : j < p
        · obtain ⟨b, o, v', rfl, hLj, hA⟩ := HV.out j hlt
          have HLj : Hid (Lies w1 (q j) v') := hLj
          obtain ⟨k', n', s', la', ln', lc', fa', fn', fc', rfl⟩ := hLj.agg
          obtain ⟨c0, c1, c2, c3, c4⟩ := hA.five
          have e0 := below_keeps hbw _ _ _ c0
          have e1 := below_keeps hbw _ _ _ c1
          have e2 := below_keeps hbw _ _ _ c2
          have e3 := below_keeps hbw _ _ _ c3
          have e4 := below_keeps hbw _ _ _ c4
          clear hLj hA c0 c1 c2 c3 c4
          have hbs := hbw.size
          go_wp2_with fail
          refine (HI.out j hlt _ _ (HLj.out.below hbw)).mono ?_
          rintro e w2 ⟨rfl, hb2⟩
          have hb3 : Below w1.heap.size w1 w2 := hbw.trans (hb2.mono hbs)
          clear e0 e1 e2 e3 e4 hb2 hbw
          cases hB : (q j).every GV.formed with
          | true =>
            have HD2 : Hid ((List.range (j + 1)).all (fun i => (q i).every GV.formed) = true) := all_snoc HD.out hB
            clear hB
            go_wp2_with fail
            go_roundw
            case rel => exact ⟨j + 1, by go_num, by omega, HD2.out, hb3⟩
            case measure => simp [intOf]; omega
          | false =>
            have HX : Hid (G.every GV.formed = false) := HE.out.trans (all_not hlt hB)
            clear hB
            go_wp2_with fail
            go_ret
            exact ⟨by rw [HX.out]; rfl, B1.trans (hb3.mono B1.size)⟩
        · have hjp : j = p := by omega
          have HX : Hid (G.every GV.formed = true) := by
            have := HD.out
            rw [hjp] at this
            exact HE.out.trans this
          clear hjp
          have hbs := hbw.size
          go_wp2_with fail
          go_ret
          exact ⟨by rw [HX.out]; rfl, B1.trans (hbw.mono B1.size)⟩

set_option maxHeartbeats 4000000 in
set_option maxRecDepth 1000000 in
theorem shape_ok6 : ∀ (n : Int) (s : ByteArray) (ln : Nat) (l : Nat → GV) (fn : Nat) (nm : Nat → ByteArray) (f : Nat → GV) (la fa : Option Addr) (lc fc : Nat) (w : World) (_h4 : ln ≤ lc) (_h5 : lc ≤ maxLen) (_h6 : fn ≤ fc) (_h7 : fc ≤ maxLen) (_hL : Lies w (GV.mk 6 n s ln l fn nm f) (.agg #[.int .i64 6, .int .i64 n, .string s, .slice la ln lc, .slice fa fn fc])) (_hN : (GV.mk 6 n s ln l fn nm f).nodes ≤ 1000000000)
    (_hI : ∀ i, i < (GV.mk 6 n s ln l fn nm f).pn → ∀ v w, Lies w ((GV.mk 6 n s ln l fn nm f).pf i) v → Calls Tryd.prog 44 #[v] w fun e w' => e = .returned (.bool (((GV.mk 6 n s ln l fn nm f).pf i).every GV.formed)) ∧ Below w.heap.size w w') (_hn0 : n = 0) (_hs0 : s = ⟨#[]⟩) (_hl0 : ln = 0),
    Calls Tryd.prog 44 #[.agg #[.int .i64 6, .int .i64 n, .string s, .slice la ln lc, .slice fa fn fc]] w fun e w' => e = .returned (.bool ((GV.mk 6 n s ln l fn nm f).every GV.formed)) ∧ Below w.heap.size w w' := by
  iterate 26 (have _q := True.intro; clear _q)
  intro n s ln l fn nm f la fa lc fc w h4 h5 h6 h7 hL hN hI hn0 hs0 hl0
  have hml : maxLen = 9223372036854775807 := rfl
  subst hn0
  subst hs0
  have hbx := (Below.refl w.heap.size w).alloc (Nat.le_refl _) (.cells #[.int .i64 6, .int .i64 0, .string ⟨#[]⟩, .slice la ln lc, .slice fa fn fc] 29)
  have HP : Hid (∀ u, Below w.heap.size w u → Calls Tryd.prog 61 #[.agg #[.int .i64 6, .int .i64 0, .string ⟨#[]⟩, .slice la ln lc, .slice fa fn fc]] u fun e w' => ∃ a c, e = .returned (.slice a (GV.mk 6 0 ⟨#[]⟩ ln l fn nm f).pn c) ∧ (GV.mk 6 0 ⟨#[]⟩ ln l fn nm f).pn ≤ c ∧ c ≤ maxLen ∧ Vals w' a (GV.mk 6 0 ⟨#[]⟩ ln l fn nm f).pn (GV.mk 6 0 ⟨#[]⟩ ln l fn nm f).pf ∧ Below u.heap.size u w') := fun u hu => parts_any _ _ _ (hL.below hu) hN
  have HI : Hid (∀ i, i < (GV.mk 6 0 ⟨#[]⟩ ln l fn nm f).pn → ∀ v w, Lies w ((GV.mk 6 0 ⟨#[]⟩ ln l fn nm f).pf i) v → Calls Tryd.prog 44 #[v] w fun e w' => e = .returned (.bool (((GV.mk 6 0 ⟨#[]⟩ ln l fn nm f).pf i).every GV.formed)) ∧ Below w.heap.size w w') := hI
  have HN : Hid (Names w fa fn nm) := fun i hi => by
    obtain ⟨_, _, _, _, e, _, _, _, _, _, _, _, _, hf⟩ := hL
    cases e
    obtain ⟨b, o, v', e, hs, hc, _⟩ := hf i hi
    exact ⟨b, o, e, hs, hc⟩
  have HE0 : Hid (risingB fn nm = true → (GV.mk 6 0 ⟨#[]⟩ ln l fn nm f).every GV.formed = (List.range (GV.mk 6 0 ⟨#[]⟩ ln l fn nm f).pn).all (fun i => ((GV.mk 6 0 ⟨#[]⟩ ln l fn nm f).pf i).every GV.formed)) := by
    intro hr
    refine every_yes ?_
    unfold GV.formed
    simp [hr]
    try omega
  have HNO : Hid (risingB fn nm = false → (GV.mk 6 0 ⟨#[]⟩ ln l fn nm f).every GV.formed = false) := by
    intro hr
    apply every_no
    unfold GV.formed
    first | (simp [hr]; done) | (exfalso; unfold risingB at hr; rw [show fn - 1 = 0 by omega] at hr; cases hr)
  have hl1 : (ln : Int) ≤ 0 := by omega
  have hl2 : ¬ 0 < ln := by omega
  clear hl0
  clear hL hN hI
  generalize GV.mk 6 0 ⟨#[]⟩ ln l fn nm f = G at HP HI HE0 HNO ⊢
  obtain ⟨p, hp⟩ : ∃ p, G.pn = p := ⟨_, rfl⟩
  obtain ⟨q, hq⟩ : ∃ q, G.pf = q := ⟨_, rfl⟩
  rw [hp, hq] at HP HE0
  rw [hp, hq] at HI
  clear hp hq
  go_enter Tryd.func44, Tryd.ntmps44
  dsimp only [List.append]
  go_wp2_with fail
  all_goals (try go_big_false)
  go_loopw [3] (fun i wr => ∃ (j : Nat), i = .int .i64 (j + 1 : Nat) ∧ (j = 0 ∨ j + 1 ≤ fn) ∧ Hid ((List.range j).all (fun i => Op.bytesLess (nm i).toList (nm (i + 1)).toList) = true) ∧ Below (w.heap.size + 1) (w.alloc (.cells #[.int .i64 6, .int .i64 0, .string ⟨#[]⟩, .slice la ln lc, .slice fa fn fc] 29)) wr) (fun i _ => fn - (intOf i).toNat)
  case atStart => exact ⟨0, rfl, by omega, rfl, Below.refl _ _⟩
  case round =>
    obtain ⟨j, rfl, hj, HD, hbw⟩ := hrel
    have hbs := hbw.size
    simp at hbs
    have hbw0 : Below w.heap.size w wr := hbx.trans (hbw.mono (by omega))
    have q0 : wr.cell? ⟨w.heap.size, 0, none⟩ = some (.int .i64 6) := by rw [hbw.cell (p := ⟨w.heap.size, 0, none⟩) (by show w.heap.size < _; omega)]; simp
    have q1 : wr.cell? ⟨w.heap.size, 1, none⟩ = some (.int .i64 0) := by rw [hbw.cell (p := ⟨w.heap.size, 1, none⟩) (by show w.heap.size < _; omega)]; simp
    have q2 : wr.cell? ⟨w.heap.size, 2, none⟩ = some (.string ⟨#[]⟩) := by rw [hbw.cell (p := ⟨w.heap.size, 2, none⟩) (by show w.heap.size < _; omega)]; simp
    have q3 : wr.cell? ⟨w.heap.size, 3, none⟩ = some (.slice la ln lc) := by rw [hbw.cell (p := ⟨w.heap.size, 3, none⟩) (by show w.heap.size < _; omega)]; simp
    have q4 : wr.cell? ⟨w.heap.size, 4, none⟩ = some (.slice fa fn fc) := by rw [hbw.cell (p := ⟨w.heap.size, 4, none⟩) (by show w.heap.size < _; omega)]; simp
    by_cases hlt : j + 1 < fn
    · obtain ⟨b, o, rfl, hs1, c1⟩ := HN.out j (by omega)
      obtain ⟨b2, o2, hbo, hs2, c2⟩ := HN.out (j + 1) (by omega)
      cases hbo
      have e1 := below_keeps hbw0 _ _ _ c1
      have e2 := below_keeps hbw0 _ _ _ c2
      clear c1 c2
      have HB : Hid (∀ r, Op.bytesLess (nm j).toList (nm (j + 1)).toList = r → (if r = true then (List.range (j + 1)).all (fun i => Op.bytesLess (nm i).toList (nm (i + 1)).toList) = true else risingB fn nm = false)) := by
        intro r hr
        cases r with
        | true => simp only [if_true]; exact all_snoc HD.out hr
        | false => exact all_not (show j < fn - 1 by omega) hr
      generalize nm j = x at e1 hs1 HB
      generalize nm (j + 1) = y at e2 hs2 HB
      cases hB : Op.bytesLess x.toList y.toList with
      | true =>
        have HC := HB.out true hB
        clear HB
        simp only [if_true] at HC
        have HE : Hid ((List.range (j + 1)).all (fun i => Op.bytesLess (nm i).toList (nm (i + 1)).toList) = true) := HC
        clear HC
        go_wp2_with fail
        go_quiet (fail)
        go_wp2
        go_roundw
        case rel => exact ⟨j + 1, by go_num, by omega, HE.out, below_drewN hbw _⟩
        case measure => simp [intOf]; omega
      | false =>
        have HC := HB.out false hB
        clear HB
        simp only [Bool.false_eq_true, if_false] at HC
        have HX : Hid (G.every GV.formed = false) := HNO.out HC
        clear HC
        go_wp2_with fail
        go_quiet (fail)
        go_wp2
        go_ret
        exact ⟨by rw [HX.out]; rfl, below_drewN hbw0 _⟩
    · have HE : Hid (G.every GV.formed = (List.range p).all (fun i => (q i).every GV.formed)) := HE0.out (by
        have hj2 : fn - 1 = j ∨ (fn ≤ 1 ∧ j = 0) := by omega
        unfold risingB
        rcases hj2 with h | ⟨h, h'⟩
        · rw [h]; exact HD.out
        · rw [show fn - 1 = 0 by omega]; rfl)
      clear HE0 HNO HD HN
      go_wp2_with fail
      refine (HP.out _ hbw0).mono ?_
      rintro e w1 ⟨a, c, rfl, r1, r2, HV0, hb1⟩
      have HV : Hid (Vals w1 a p q) := HV0
      have B1 : Below w.heap.size w w1 := hbw0.trans (hb1.mono hbw0.size)
      clear HV0 hb1 hbw0 HP q0 q1 q2 q3 q4
      go_wp2_with fail
      go_loopw [5] (fun i wr2 => ∃ (j : Nat), i = .int .i64 j ∧ j ≤ p ∧ Hid ((List.range j).all (fun i => (q i).every GV.formed) = true) ∧ Below w1.heap.size w1 wr2) (fun i _ => p - (intOf i).toNat)
      case atStart => exact ⟨0, rfl, by omega, rfl, Below.refl _ _⟩
      case round =>
        obtain ⟨j, rfl, hj, HD, hbw⟩ := hrel
        by_cases hlt : j < p
        · obtain ⟨b, o, v', rfl, hLj, hA⟩ := HV.out j hlt
          have HLj : Hid (Lies w1 (q j) v') := hLj
          obtain ⟨k', n', s', la', ln', lc', fa', fn', fc', rfl⟩ := hLj.agg
          obtain ⟨c0, c1, c2, c3, c4⟩ := hA.five
          have e0 := below_keeps hbw _ _ _ c0
          have e1 := below_keeps hbw _ _ _ c1
          have e2 := below_keeps hbw _ _ _ c2
          have e3 := below_keeps hbw _ _ _ c3
          have e4 := below_keeps hbw _ _ _ c4
          clear hLj hA c0 c1 c2 c3 c4
          have hbs := hbw.size
          go_wp2_with fail
          refine (HI.out j hlt _ _ (HLj.out.below hbw)).mono ?_
          rintro e w2 ⟨rfl, hb2⟩
          have hb3 : Below w1.heap.size w1 w2 := hbw.trans (hb2.mono hbs)
          clear e0 e1 e2 e3 e4 hb2 hbw
          cases hB : (q j).every GV.formed with
          | true =>
            have HD2 : Hid ((List.range (j + 1)).all (fun i => (q i).every GV.formed) = true) := all_snoc HD.out hB
            clear hB
            go_wp2_with fail
            go_roundw
            case rel => exact ⟨j + 1, by go_num, by omega, HD2.out, hb3⟩
            case measure => simp [intOf]; omega
          | false =>
            have HX : Hid (G.every GV.formed = false) := HE.out.trans (all_not hlt hB)
            clear hB
            go_wp2_with fail
            go_ret
            exact ⟨by rw [HX.out]; rfl, B1.trans (hb3.mono B1.size)⟩
        · have hjp : j = p := by omega
          have HX : Hid (G.every GV.formed = true) := by
            have := HD.out
            rw [hjp] at this
            exact HE.out.trans this
          clear hjp
          have hbs := hbw.size
          go_wp2_with fail
          go_ret
          exact ⟨by rw [HX.out]; rfl, B1.trans (hbw.mono B1.size)⟩
end Go.Proofs.YtfnmmpakejdlgaaDoor
