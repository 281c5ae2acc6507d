/- Some texts in one: each opens with its own remark. -/
import Derived.Test.YtfnmmpakejdlgaaDoorZRShapeN
import Derived.Test.YtfnmmpakejdlgaaDoorZRShapeY
import Derived.Test.YtfnmmpakejdlgaaDoorK22
import Derived.Test.YtfnmmpakejdlgaaDoorK9
import Derived.BigGuardPart
/- The walk of the document's own 'shape': of any value whether every part is formed. -/
namespace Go.Proofs.YtfnmmpakejdlgaaDoor
open Go.RowKit

theorem empty_is {s : ByteArray} (h : s.toList.isEmpty = true) : s = ⟨#[]⟩ := by
  rw [← decide_eq_emptyBytes, decide_eq_true_iff] at h
  exact h

set_option maxHeartbeats 1000000 in
set_option maxRecDepth 1000000 in
theorem shape_low (k n : Int) (s : ByteArray) (ln : Nat) (l : Nat → GV) (fn : Nat) (nm : Nat → ByteArray) (f : Nat → GV) (la fa : Option Addr) (lc fc : Nat) (w : World) (hk : k < 1 ∨ 6 < k) :
    Calls Tryd.prog 44 #[.agg #[.int .i64 k, .int .i64 n, .string s, .slice la ln lc, .slice fa fn fc]] w fun e w' => e = .returned (.bool ((GV.mk k n s ln l fn nm f).every GV.formed)) ∧ Below w.heap.size w w' := by
  have hbx := (Below.refl w.heap.size w).alloc (Nat.le_refl _) (.cells #[.int .i64 k, .int .i64 n, .string s, .slice la ln lc, .slice fa fn fc] 29)
  have HX : Hid ((GV.mk k n s ln l fn nm f).every GV.formed = false) := by
    apply every_no
    have h1 : k ≠ 1 := by omega
    have h2 : k ≠ 2 := by omega
    have h3 : k ≠ 3 := by omega
    have h4 : k ≠ 4 := by omega
    have h5 : k ≠ 5 := by omega
    have h6 : k ≠ 6 := by omega
    simp [GV.formed, h1, h2, h3, h4, h5, h6]
  rcases hk with hk | hk
  · go_enter Tryd.func44, Tryd.ntmps44
    dsimp only [List.append]
    go_wp2_with fail
    go_ret
    exact ⟨by rw [HX.out]; rfl, hbx⟩
  · have hk2 : ¬ k < 1 := by omega
    go_enter Tryd.func44, Tryd.ntmps44
    dsimp only [List.append]
    go_wp2_with fail
    go_ret
    exact ⟨by rw [HX.out]; rfl, hbx⟩

theorem shape_any : ∀ (g : GV) (v : Value) (w : World), Lies w g v → g.nodes ≤ 1000000000 →
    Calls Tryd.prog 44 #[v] w fun e w' => e = .returned (.bool (g.every GV.formed)) ∧ Below w.heap.size w w' := by
  intro g
  induction g with
  | nil => intro v w hL; exact False.elim hL
  | mk k n s ln l fn nm f ihl ihf =>
    intro v w hL hN
    have hL0 := hL
    obtain ⟨la, lc, fa, fc, rfl, _, _, _, h4, h5, h6, h7, _, _⟩ := hL
    have hI : ∀ i, i < (GV.mk k n s ln l fn nm f).pn → ∀ v w, Lies w ((GV.mk k n s ln l fn nm f).pf i) v → Calls Tryd.prog 44 #[v] w fun e w' => e = .returned (.bool (((GV.mk k n s ln l fn nm f).pf i).every GV.formed)) ∧ Below w.heap.size w w' := by
      intro i hi v w hv
      have hn := GV.nodes_pf hi
      have hq : (GV.mk k n s ln l fn nm f).pf i = l i ∨ (GV.mk k n s ln l fn nm f).pf i = f i := by
        simp only [GV.pf]
        split
        · exact Or.inl rfl
        · exact Or.inr rfl
      rcases hq with e | e
      · rw [e] at hn hv ⊢
        exact ihl i v w hv (by omega)
      · rw [e] at hn hv ⊢
        exact ihf i v w hv (by omega)
    clear ihl ihf
    have hcase : k = 1 ∨ k = 2 ∨ k = 3 ∨ k = 4 ∨ k = 5 ∨ k = 6 ∨ (k < 1 ∨ 6 < k) := by omega
    rcases hcase with rfl | rfl | rfl | rfl | rfl | rfl | hk
    · by_cases c0 : n = 0
      case neg => exact shape_k1_0 n s ln l fn nm f la fa lc fc w h4 h5 h6 h7 c0
      by_cases c1 : s.toList.isEmpty = true
      case neg => exact shape_k1_1 n s ln l fn nm f la fa lc fc w h4 h5 h6 h7 c0 (by simpa using c1)
      by_cases c2 : ln = 0
      case neg => exact shape_k1_2 n s ln l fn nm f la fa lc fc w h4 h5 h6 h7 c0 (empty_is c1) (by omega)
      by_cases c3 : fn = 0
      case neg => exact shape_k1_3 n s ln l fn nm f la fa lc fc w h4 h5 h6 h7 c0 (empty_is c1) c2 (by omega)
      exact shape_ok1 n s ln l fn nm f la fa lc fc w h4 h5 h6 h7 hL0 hN hI c0 (empty_is c1) c2 c3
    · by_cases c0 : n = 0 ∨ n = 1
      case neg => exact shape_k2_0 n s ln l fn nm f la fa lc fc w h4 h5 h6 h7 ⟨fun e => c0 (Or.inl e), fun e => c0 (Or.inr e)⟩
      by_cases c1 : s.toList.isEmpty = true
      case neg => exact shape_k2_1 n s ln l fn nm f la fa lc fc w h4 h5 h6 h7 c0 (by simpa using c1)
      by_cases c2 : ln = 0
      case neg => exact shape_k2_2 n s ln l fn nm f la fa lc fc w h4 h5 h6 h7 c0 (empty_is c1) (by omega)
      by_cases c3 : fn = 0
      case neg => exact shape_k2_3 n s ln l fn nm f la fa lc fc w h4 h5 h6 h7 c0 (empty_is c1) c2 (by omega)
      exact shape_ok2 n s ln l fn nm f la fa lc fc w h4 h5 h6 h7 hL0 hN hI c0 (empty_is c1) c2 c3
    · by_cases c0 : s.toList.isEmpty = true
      case neg => exact shape_k3_0 n s ln l fn nm f la fa lc fc w h4 h5 h6 h7 (by simpa using c0)
      by_cases c1 : ln = 0
      case neg => exact shape_k3_1 n s ln l fn nm f la fa lc fc w h4 h5 h6 h7 (empty_is c0) (by omega)
      by_cases c2 : fn = 0
      case neg => exact shape_k3_2 n s ln l fn nm f la fa lc fc w h4 h5 h6 h7 (empty_is c0) c1 (by omega)
      exact shape_ok3 n s ln l fn nm f la fa lc fc w h4 h5 h6 h7 hL0 hN hI (empty_is c0) c1 c2
    · by_cases c0 : n = 0
      case neg => exact shape_k4_0 n s ln l fn nm f la fa lc fc w h4 h5 h6 h7 c0
      by_cases c1 : ln = 0
      case neg => exact shape_k4_1 n s ln l fn nm f la fa lc fc w h4 h5 h6 h7 c0 (by omega)
      by_cases c2 : fn = 0
      case neg => exact shape_k4_2 n s ln l fn nm f la fa lc fc w h4 h5 h6 h7 c0 c1 (by omega)
      exact shape_ok4 n s ln l fn nm f la fa lc fc w h4 h5 h6 h7 hL0 hN hI c0 c1 c2
    · by_cases c0 : n = 0
      case neg => exact shape_k5_0 n s ln l fn nm f la fa lc fc w h4 h5 h6 h7 c0
      by_cases c1 : s.toList.isEmpty = true
      case neg => exact shape_k5_1 n s ln l fn nm f la fa lc fc w h4 h5 h6 h7 c0 (by simpa using c1)
      by_cases c2 : fn = 0
      case neg => exact shape_k5_2 n s ln l fn nm f la fa lc fc w h4 h5 h6 h7 c0 (empty_is c1) (by omega)
      exact shape_ok5 n s ln l fn nm f la fa lc fc w h4 h5 h6 h7 hL0 hN hI c0 (empty_is c1) c2
    · by_cases c0 : n = 0
      case neg => exact shape_k6_0 n s ln l fn nm f la fa lc fc w h4 h5 h6 h7 c0
      by_cases c1 : s.toList.isEmpty = true
      case neg => exact shape_k6_1 n s ln l fn nm f la fa lc fc w h4 h5 h6 h7 c0 (by simpa using c1)
      by_cases c2 : ln = 0
      case neg => exact shape_k6_2 n s ln l fn nm f la fa lc fc w h4 h5 h6 h7 c0 (empty_is c1) (by omega)
      exact shape_ok6 n s ln l fn nm f la fa lc fc w h4 h5 h6 h7 hL0 hN hI c0 (empty_is c1) c2
    · exact shape_low k n s ln l fn nm f la fa lc fc w hk
end Go.Proofs.YtfnmmpakejdlgaaDoor

/- The walk of the document's own 'texts': is all UTF-8? -/
namespace Go.Proofs.YtfnmmpakejdlgaaDoor
open Go.RowKit

theorem GV.nodes_mass : ∀ g : GV, g.nodes ≤ g.mass := by
  intro g
  induction g with
  | nil => simp [GV.nodes, GV.mass]
  | mk k n s ln l fn nm f ihl ihf =>
    have h1 := sum_le (f := fun i => (l i).nodes) (g := fun i => (l i).mass) (n := ln) fun i _ => ihl i
    have h2 := sum_le (f := fun i => (f i).nodes) (g := fun i => (nm i).size + (f i).mass) (n := fn) fun i _ => by have := ihf i; omega
    simp only [GV.nodes, GV.mass]
    omega

theorem GV.mass_l {k n : Int} {s : ByteArray} {ln : Nat} {l : Nat → GV} {fn : Nat} {nm : Nat → ByteArray} {f : Nat → GV} {i : Nat} (h : i < ln) : (l i).mass < (GV.mk k n s ln l fn nm f).mass := by
  have := sum_mem (f := fun i => (l i).mass) h
  simp only [GV.mass]
  omega
theorem GV.mass_f {k n : Int} {s : ByteArray} {ln : Nat} {l : Nat → GV} {fn : Nat} {nm : Nat → ByteArray} {f : Nat → GV} {i : Nat} (h : i < fn) : (nm i).size + (f i).mass < (GV.mk k n s ln l fn nm f).mass := by
  have := sum_mem (f := fun i => (nm i).size + (f i).mass) h
  simp only [GV.mass]
  omega
theorem GV.mass_s {k n : Int} {s : ByteArray} {ln : Nat} {l : Nat → GV} {fn : Nat} {nm : Nat → ByteArray} {f : Nat → GV} : s.size < (GV.mk k n s ln l fn nm f).mass := by
  simp only [GV.mass]
  omega
theorem GV.mass_pf {k n : Int} {s : ByteArray} {ln : Nat} {l : Nat → GV} {fn : Nat} {nm : Nat → ByteArray} {f : Nat → GV} {i : Nat} (h : i < (GV.mk k n s ln l fn nm f).pn) : ((GV.mk k n s ln l fn nm f).pf i).mass < (GV.mk k n s ln l fn nm f).mass := by
  simp only [GV.pn, GV.pf] at h ⊢
  by_cases k5 : k = 5
  · rw [if_pos k5] at h ⊢
    exact GV.mass_l h
  · rw [if_neg k5] at h ⊢
    by_cases k6 : k = 6
    · rw [if_pos k6] at h
      have := GV.mass_f (k := k) (n := n) (s := s) (ln := ln) (l := l) (nm := nm) (f := f) h
      omega
    · rw [if_neg k6] at h
      omega

def GV.textOk : GV → Bool
  | .nil => true
  | .mk _ _ s _ _ fn nm _ => validB s && (List.range fn).all (fun i => validB (nm i))

set_option maxHeartbeats 4000000 in
set_option maxRecDepth 1000000 in
theorem texts_any : ∀ (g : GV) (v : Value) (w : World), Lies w g v → g.mass ≤ 4194304 →
    Calls Tryd.prog 45 #[v] w fun e w' => e = .returned (.bool (g.every GV.textOk)) ∧ Below w.heap.size w w' := by
  intro g
  induction g with
  | nil => intro v w hL; exact False.elim hL
  | mk k n s ln l fn nm f ihl ihf =>
    intro v w hL hM
    have hL0 := hL
    obtain ⟨la, lc, fa, fc, rfl, _, _, _, h4, h5, h6, h7, _, hf⟩ := hL
    have hml : maxLen = 9223372036854775807 := rfl
    have HP : Hid (∀ u, Below w.heap.size w u → Calls Tryd.prog 61 #[.agg #[.int .i64 k, .int .i64 n, .string s, .slice la ln lc, .slice fa fn fc]] u fun e w' => ∃ a c, e = .returned (.slice a (GV.mk k n s ln l fn nm f).pn c) ∧ (GV.mk k n s ln l fn nm f).pn ≤ c ∧ c ≤ maxLen ∧ Vals w' a (GV.mk k n s ln l fn nm f).pn (GV.mk k n s ln l fn nm f).pf ∧ Below u.heap.size u w') := fun u hu => parts_any _ _ _ (hL0.below hu) (by have := GV.nodes_mass (GV.mk k n s ln l fn nm f); omega)
    have HI : Hid (∀ i, i < (GV.mk k n s ln l fn nm f).pn → ∀ v w, Lies w ((GV.mk k n s ln l fn nm f).pf i) v → Calls Tryd.prog 45 #[v] w fun e w' => e = .returned (.bool (((GV.mk k n s ln l fn nm f).pf i).every GV.textOk)) ∧ Below w.heap.size w w') := by
      intro i hi v w hv
      have hn := GV.mass_pf hi
      have hq : (GV.mk k n s ln l fn nm f).pf i = l i ∨ (GV.mk k n s ln l fn nm f).pf i = f i := by
        simp only [GV.pf]
        split
        · exact Or.inl rfl
        · exact Or.inr rfl
      rcases hq with e | e
      · rw [e] at hn hv ⊢
        exact ihl i v w hv (by omega)
      · rw [e] at hn hv ⊢
        exact ihf i v w hv (by omega)
    have HN : Hid (Names w fa fn nm) := fun i hi => by
      obtain ⟨b, o, v', e, hs, hc, _⟩ := hf i hi
      exact ⟨b, o, e, hs, hc⟩
    have HNM : Hid (∀ i, i < fn → (nm i).size ≤ 4194304) := fun i hi => by
      have := GV.mass_f (k := k) (n := n) (s := s) (ln := ln) (l := l) (nm := nm) (f := f) hi
      omega
    have hs : s.size ≤ 4194304 := by have := GV.mass_s (k := k) (n := n) (s := s) (ln := ln) (l := l) (fn := fn) (nm := nm) (f := f); omega
    have HE0 : Hid (validB s = true → (List.range fn).all (fun i => validB (nm i)) = true → (GV.mk k n s ln l fn nm f).every GV.textOk = (List.range (GV.mk k n s ln l fn nm f).pn).all (fun i => ((GV.mk k n s ln l fn nm f).pf i).every GV.textOk)) := by
      intro h1 h2
      refine every_yes ?_
      simp only [GV.textOk, h1, h2, Bool.and_self]
    have HNO : Hid (validB s = false ∨ (List.range fn).all (fun i => validB (nm i)) = false → (GV.mk k n s ln l fn nm f).every GV.textOk = false) := by
      intro h
      apply every_no
      rcases h with h | h
      · simp only [GV.textOk, h, Bool.false_and]
      · simp only [GV.textOk, h, Bool.and_false]
    clear hL0 hM ihl ihf hf
    generalize GV.mk k n s ln l fn nm f = G at HP HI HE0 HNO ⊢
    obtain ⟨p, hp⟩ : ∃ p, G.pn = p := ⟨_, rfl⟩
    obtain ⟨q, hq⟩ : ∃ q, G.pf = q := ⟨_, rfl⟩
    rw [hp, hq] at HP HE0
    rw [hp, hq] at HI
    clear hp hq
    have hbx := (Below.refl w.heap.size w).alloc (Nat.le_refl _) (.cells #[.int .i64 k, .int .i64 n, .string s, .slice la ln lc, .slice fa fn fc] 29)
    go_enter Tryd.func45, Tryd.ntmps45
    go_wp2_with fail
    refine (rvalid_any s _ hs).mono ?_
    rintro e w0 ⟨rfl, b0⟩
    have B0 : Below (w.heap.size + 1) (w.alloc (.cells #[.int .i64 k, .int .i64 n, .string s, .slice la ln lc, .slice fa fn fc] 29)) w0 := b0.mono (by simp)
    clear b0
    cases hv : validB s with
    | false =>
      have HX : Hid (G.every GV.textOk = false) := HNO.out (Or.inl hv)
      clear hv
      go_wp2_with fail
      go_ret
      exact ⟨by rw [HX.out]; rfl, hbx.trans (B0.mono (by omega))⟩
    | true =>
      replace HE0 : Hid ((List.range fn).all (fun i => validB (nm i)) = true → G.every GV.textOk = (List.range p).all (fun i => (q i).every GV.textOk)) := HE0.out hv
      clear hv
      go_wp2_with fail
      go_loopw [3] (fun i wr => ∃ (j : Nat), i = .int .i64 j ∧ j ≤ fn ∧ Hid ((List.range j).all (fun i => validB (nm i)) = true) ∧ Below (w.heap.size + 1) (w.alloc (.cells #[.int .i64 k, .int .i64 n, .string s, .slice la ln lc, .slice fa fn fc] 29)) wr) (fun i _ => fn - (intOf i).toNat)
      case atStart => exact ⟨0, rfl, by omega, rfl, B0⟩
      case round =>
        obtain ⟨j, rfl, hj, HD, hbw⟩ := hrel
        have hbs := hbw.size
        simp at hbs
        have hbw0 : Below w.heap.size w wr := hbx.trans (hbw.mono (by omega))
        have q0 : wr.cell? ⟨w.heap.size, 0, none⟩ = some (.int .i64 k) := by rw [hbw.cell (p := ⟨w.heap.size, 0, none⟩) (by show w.heap.size < _; omega)]; simp
        have q1 : wr.cell? ⟨w.heap.size, 1, none⟩ = some (.int .i64 n) := by rw [hbw.cell (p := ⟨w.heap.size, 1, none⟩) (by show w.heap.size < _; omega)]; simp
        have q2 : wr.cell? ⟨w.heap.size, 2, none⟩ = some (.string s) := by rw [hbw.cell (p := ⟨w.heap.size, 2, none⟩) (by show w.heap.size < _; omega)]; simp
        have q3 : wr.cell? ⟨w.heap.size, 3, none⟩ = some (.slice la ln lc) := by rw [hbw.cell (p := ⟨w.heap.size, 3, none⟩) (by show w.heap.size < _; omega)]; simp
        have q4 : wr.cell? ⟨w.heap.size, 4, none⟩ = some (.slice fa fn fc) := by rw [hbw.cell (p := ⟨w.heap.size, 4, none⟩) (by show w.heap.size < _; omega)]; simp
        by_cases hlt : j < fn
        · obtain ⟨b, o, rfl, hs1, c1⟩ := HN.out j hlt
          have e1 := below_keeps hbw0 _ _ _ c1
          clear c1
          have hn1 := HNM.out j hlt
          have HB : Hid (∀ r, validB (nm j) = r → (if r = true then (List.range (j + 1)).all (fun i => validB (nm i)) = true else (List.range fn).all (fun i => validB (nm i)) = false)) := by
            intro r hr
            cases r with
            | true => simp only [if_true]; exact all_snoc HD.out hr
            | false => exact all_not hlt hr
          generalize nm j = x at e1 hs1 hn1 HB
          go_wp2_with fail
          refine (rvalid_any x _ hn1).mono ?_
          rintro e w1 ⟨rfl, b1⟩
          have B1 : Below (w.heap.size + 1) (w.alloc (.cells #[.int .i64 k, .int .i64 n, .string s, .slice la ln lc, .slice (some ⟨b, o, none⟩) fn fc] 29)) w1 := hbw.trans (b1.mono (by omega))
          clear b1
          cases hB : validB x with
          | true =>
            have HC := HB.out true hB
            clear HB hB
            simp only [if_true] at HC
            have HC2 : Hid ((List.range (j + 1)).all (fun i => validB (nm i)) = true) := HC
            clear HC
            go_wp2_with fail
            go_roundw
            case rel => exact ⟨j + 1, by go_num, by omega, HC2.out, B1⟩
            case measure => simp [intOf]; omega
          | false =>
            have HC := HB.out false hB
            clear HB hB
            simp only [Bool.false_eq_true, if_false] at HC
            have HX : Hid (G.every GV.textOk = false) := HNO.out (Or.inr HC)
            clear HC
            go_wp2_with fail
            go_ret
            exact ⟨by rw [HX.out]; rfl, hbx.trans (B1.mono (by omega))⟩
        · have hjf : j = fn := by omega
          have HE : Hid (G.every GV.textOk = (List.range p).all (fun i => (q i).every GV.textOk)) := HE0.out (by have := HD.out; rw [hjf] at this; exact this)
          clear HE0 HNO HD HN HNM hjf
          go_wp2_with fail
          refine (HP.out _ hbw0).mono ?_
          rintro e w1 ⟨a, c, rfl, r1, r2, HV0, hb1⟩
          have HV : Hid (Vals w1 a p q) := HV0
          have B1 : Below w.heap.size w w1 := hbw0.trans (hb1.mono hbw0.size)
          clear HV0 hb1 hbw0 HP q0 q1 q2 q3 q4
          go_wp2_with fail
          go_loopw [5] (fun i wr2 => ∃ (j : Nat), i = .int .i64 j ∧ j ≤ p ∧ Hid ((List.range j).all (fun i => (q i).every GV.textOk) = true) ∧ Below w1.heap.size w1 wr2) (fun i _ => p - (intOf i).toNat)
          case atStart => exact ⟨0, rfl, by omega, rfl, Below.refl _ _⟩
          case round =>
            obtain ⟨j, rfl, hj, HD, hbw⟩ := hrel
            by_cases hlt : j < p
            · obtain ⟨b, o, v', rfl, hLj, hA⟩ := HV.out j hlt
              have HLj : Hid (Lies w1 (q j) v') := hLj
              obtain ⟨k', n', s', la', ln', lc', fa', fn', fc', rfl⟩ := hLj.agg
              obtain ⟨c0, c1, c2, c3, c4⟩ := hA.five
              have e0 := below_keeps hbw _ _ _ c0
              have e1 := below_keeps hbw _ _ _ c1
              have e2 := below_keeps hbw _ _ _ c2
              have e3 := below_keeps hbw _ _ _ c3
              have e4 := below_keeps hbw _ _ _ c4
              clear hLj hA c0 c1 c2 c3 c4
              have hbs := hbw.size
              go_wp2_with fail
              refine (HI.out j hlt _ _ (HLj.out.below hbw)).mono ?_
              rintro e w2 ⟨rfl, hb2⟩
              have hb3 : Below w1.heap.size w1 w2 := hbw.trans (hb2.mono hbs)
              clear e0 e1 e2 e3 e4 hb2 hbw
              cases hB : (q j).every GV.textOk with
              | true =>
                have HD2 : Hid ((List.range (j + 1)).all (fun i => (q i).every GV.textOk) = true) := all_snoc HD.out hB
                clear hB
                go_wp2_with fail
                go_roundw
                case rel => exact ⟨j + 1, by go_num, by omega, HD2.out, hb3⟩
                case measure => simp [intOf]; omega
              | false =>
                have HX : Hid (G.every GV.textOk = false) := HE.out.trans (all_not hlt hB)
                clear hB
                go_wp2_with fail
                go_ret
                exact ⟨by rw [HX.out]; rfl, B1.trans (hb3.mono B1.size)⟩
            · have hjp : j = p := by omega
              have HX : Hid (G.every GV.textOk = true) := by
                have := HD.out
                rw [hjp] at this
                exact HE.out.trans this
              clear hjp
              have hbs := hbw.size
              go_wp2_with fail
              go_ret
              exact ⟨by rw [HX.out]; rfl, B1.trans (hbw.mono B1.size)⟩

end Go.Proofs.YtfnmmpakejdlgaaDoor
