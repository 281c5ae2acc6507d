/- The walk of the statement ValueChain, where all three values are good. -/
import Derived.Test.YtkjijepepbgciaaChainP
namespace Go.Proofs.Ytkjijepepbgciaa
open Go.RowKit

set_option maxHeartbeats 8000000 in
set_option maxRecDepth 1000000 in
theorem chain_x1 (a b c : GV) (va vb vc : Value) (w : World) (ha : Lies w a va) (hb : Lies w b vb) (hc : Lies w c vc) (hv : ¬ 5000 ≤ a.nodes + b.nodes + c.nodes) (ea : a.err = 0) (eb : b.err = 0) (ec : c.err = 0) (x z y : Int) (hx : a.cmp b = x) (hz : b.cmp c = z) (hy : a.cmp c = y) (hx1 : x = 1) :
    Calls Try.prog 7 #[va, vb, vc] w fun e w' => e = .returned (.bool true) ∧ Below w.heap.size w w' := by
  have na : a.nodes ≤ 16384 := by omega
  have nb : b.nodes ≤ 16384 := by omega
  have nc : c.nodes ≤ 16384 := by omega
  have HV : Hid (decide (5000 ≤ sumN (fun i => if i = 0 then a else if i = 1 then b else c) 3) = false) := by
    show _ = _
    rw [sum3]
    exact decide_eq_false hv
  subst hx1
  have HE : Hid ((cmpErr a b = 0 ∧ cmpVal a b = 1) ∧ (cmpErr b a = 0 ∧ cmpVal b a = -1) ∧ (cmpErr b c = 0 ∧ cmpVal b c = z) ∧ (cmpErr a c = 0 ∧ cmpVal a c = y)) := by
    have h1 := err_cmp ea eb
    have h2 := err_cmp eb ea
    have h3 := err_cmp eb ec
    have h4 := err_cmp ea ec
    exact ⟨⟨h1.1, h1.2.trans hx⟩, ⟨h2.1, h2.2.trans (by have := anti_cmp a b ha.real hb.real; omega)⟩, ⟨h3.1, h3.2.trans hz⟩, ⟨h4.1, h4.2.trans hy⟩⟩
  have HS : Hid (a.same b = false) := by
    show _ = _
    cases h : a.same b with
    | false => rfl
    | true => have := same_cmp a b h; omega
  have HH : Hid (a.err = 0 ∧ b.err = 0) := ⟨ea, eb⟩
  obtain ⟨pa, hpa⟩ : ∃ p, a.hash = p := ⟨_, rfl⟩
  obtain ⟨pb, hpb⟩ : ∃ p, b.hash = p := ⟨_, rfl⟩
  have HP : Hid (a.hash = pa ∧ b.hash = pb) := ⟨hpa, hpb⟩
  clear hpa hpb
  obtain ⟨E, hE⟩ : ∃ E, cmpErr (gL 2 (fun i => if i = 0 then c else a)) (gL 2 (fun i => if i = 0 then c else b)) = E := ⟨_, rfl⟩
  obtain ⟨V, hV⟩ : ∃ V, cmpVal (gL 2 (fun i => if i = 0 then c else a)) (gL 2 (fun i => if i = 0 then c else b)) = V := ⟨_, rfl⟩
  have HL : Hid (cmpErr (gL 2 (fun i => if i = 0 then c else a)) (gL 2 (fun i => if i = 0 then c else b)) = E ∧ cmpVal (gL 2 (fun i => if i = 0 then c else a)) (gL 2 (fun i => if i = 0 then c else b)) = V) := ⟨hE, hV⟩
  have HEV : Hid (E ≠ 0 ∨ E = 0 ∧ V = 1) := by
    show _ ∨ _
    by_cases h0 : E = 0
    · right
      refine ⟨h0, ?_⟩
      rw [← hV, cmpVal, hE, if_pos h0, cmp_lists hc.real ha.real hb.real, hx]
    · exact Or.inl h0
  clear hE hV
  have NA : Hid ((gL 2 (fun i => if i = 0 then c else a)).nodes ≤ 16384) := nodes2 (by omega) (by omega)
  have NB : Hid ((gL 2 (fun i => if i = 0 then c else b)).nodes ≤ 16384) := nodes2 (by omega) (by omega)
  clear hx hz hy ea eb ec hv
  have HA : Hid (Lies w a va) := ha
  have HB : Hid (Lies w b vb) := hb
  have HC : Hid (Lies w c vc) := hc
  obtain ⟨k1, n1, s1, la1, ln1, lc1, fa1, fn1, fc1, rfl⟩ := ha.agg
  obtain ⟨k2, n2, s2, la2, ln2, lc2, fa2, fn2, fc2, rfl⟩ := hb.agg
  obtain ⟨k3, n3, s3, la3, ln3, lc3, fa3, fn3, fc3, rfl⟩ := hc.agg
  clear ha hb hc
  have HBOX : Hid (∀ {w0 : World}, w0 = ((w.alloc (.cells #[.int .i64 k1, .int .i64 n1, .string s1, .slice la1 ln1 lc1, .slice fa1 fn1 fc1] 29)).alloc (.cells #[.int .i64 k2, .int .i64 n2, .string s2, .slice la2 ln2 lc2, .slice fa2 fn2 fc2] 29)).alloc (.cells #[.int .i64 k3, .int .i64 n3, .string s3, .slice la3 ln3 lc3, .slice fa3 fn3 fc3] 29) → Below w.heap.size w w0 ∧ Boxes w.heap.size w0 (.agg #[.int .i64 k1, .int .i64 n1, .string s1, .slice la1 ln1 lc1, .slice fa1 fn1 fc1]) (.agg #[.int .i64 k2, .int .i64 n2, .string s2, .slice la2 ln2 lc2, .slice fa2 fn2 fc2]) (.agg #[.int .i64 k3, .int .i64 n3, .string s3, .slice la3 ln3 lc3, .slice fa3 fn3 fc3])) := by
    intro w0 e
    subst e
    exact ⟨(((Below.refl w.heap.size w).alloc (Nat.le_refl _) _).alloc (by simp) _).alloc (by simp; omega) _, boxes_new _ _ _ _ _⟩
  go_enter Try.func7, Try.ntmps7
  go_wp2_with fail
  obtain ⟨B, X⟩ := HBOX.out rfl
  clear HBOX
  refine (awake_any _).mono ?_
  rintro e w1 ⟨rfl, b1⟩
  replace X := X.below rfl rfl rfl b1
  replace B := behindC B b1
  clear b1
  obtain ⟨hsz, a1, a2, a3⟩ := X
  obtain ⟨c10, c11, c12, c13, c14⟩ := a1.five
  obtain ⟨c20, c21, c22, c23, c24⟩ := a2.five
  obtain ⟨c30, c31, c32, c33, c34⟩ := a3.five
  rw [Nat.zero_add] at c11 c12 c13 c14 c21 c22 c23 c24 c31 c32 c33 c34
  have HX : Hid (Boxes w.heap.size w1 _ _ _) := ⟨hsz, a1, a2, a3⟩
  clear a1 a2 a3 hsz
  go_wp2_with fail
  have V := vals3 (w := w1) (t := 29) (HA.out.below B) (HB.out.below B) (HC.out.below B) rfl rfl rfl
  refine (Vast_any _ 3 3 _ _ (by decide) V).mono ?_
  rintro e w2 ⟨rfl, b2⟩
  rw [HV.out]
  have bb : Below w1.heap.size w1 w2 := ((Below.refl _ w1).alloc (Nat.le_refl _) _).trans (b2.mono (by simp))
  have X := HX.out.below rfl rfl rfl bb
  replace B := behindC B bb
  clear bb b2 V HX c10 c11 c12 c13 c14 c20 c21 c22 c23 c24 c30 c31 c32 c33 c34
  obtain ⟨hsz, a1, a2, a3⟩ := X
  obtain ⟨c10, c11, c12, c13, c14⟩ := a1.five
  obtain ⟨c20, c21, c22, c23, c24⟩ := a2.five
  obtain ⟨c30, c31, c32, c33, c34⟩ := a3.five
  rw [Nat.zero_add] at c11 c12 c13 c14 c21 c22 c23 c24 c31 c32 c33 c34
  have HX : Hid (Boxes w.heap.size w2 _ _ _) := ⟨hsz, a1, a2, a3⟩
  clear a1 a2 a3 hsz
  go_wp2_with fail
  refine (Compare_any a b _ _ _ (HA.out.below B) (HB.out.below B) na nb).mono ?_
  rintro e w3 ⟨rfl, b3⟩
  have X := HX.out.below rfl rfl rfl b3
  replace B := behindC B b3
  clear b3 HX c10 c11 c12 c13 c14 c20 c21 c22 c23 c24 c30 c31 c32 c33 c34
  rw [HE.out.1.1, HE.out.1.2]
  obtain ⟨hsz, a1, a2, a3⟩ := X
  obtain ⟨c10, c11, c12, c13, c14⟩ := a1.five
  obtain ⟨c20, c21, c22, c23, c24⟩ := a2.five
  obtain ⟨c30, c31, c32, c33, c34⟩ := a3.five
  rw [Nat.zero_add] at c11 c12 c13 c14 c21 c22 c23 c24 c31 c32 c33 c34
  have HX : Hid (Boxes w.heap.size w3 _ _ _) := ⟨hsz, a1, a2, a3⟩
  clear a1 a2 a3 hsz
  go_wp2_with fail
  refine (Compare_any b a _ _ _ (HB.out.below B) (HA.out.below B) nb na).mono ?_
  rintro e w4 ⟨rfl, b4⟩
  have X := HX.out.below rfl rfl rfl b4
  replace B := behindC B b4
  clear b4 HX c10 c11 c12 c13 c14 c20 c21 c22 c23 c24 c30 c31 c32 c33 c34
  rw [HE.out.2.1.1, HE.out.2.1.2]
  obtain ⟨hsz, a1, a2, a3⟩ := X
  obtain ⟨c10, c11, c12, c13, c14⟩ := a1.five
  obtain ⟨c20, c21, c22, c23, c24⟩ := a2.five
  obtain ⟨c30, c31, c32, c33, c34⟩ := a3.five
  rw [Nat.zero_add] at c11 c12 c13 c14 c21 c22 c23 c24 c31 c32 c33 c34
  have HX : Hid (Boxes w.heap.size w4 _ _ _) := ⟨hsz, a1, a2, a3⟩
  clear a1 a2 a3 hsz
  go_wp2_with fail
  refine (Compare_any b c _ _ _ (HB.out.below B) (HC.out.below B) nb nc).mono ?_
  rintro e w5 ⟨rfl, b5⟩
  have X := HX.out.below rfl rfl rfl b5
  replace B := behindC B b5
  clear b5 HX c10 c11 c12 c13 c14 c20 c21 c22 c23 c24 c30 c31 c32 c33 c34
  rw [HE.out.2.2.1.1, HE.out.2.2.1.2]
  obtain ⟨hsz, a1, a2, a3⟩ := X
  obtain ⟨c10, c11, c12, c13, c14⟩ := a1.five
  obtain ⟨c20, c21, c22, c23, c24⟩ := a2.five
  obtain ⟨c30, c31, c32, c33, c34⟩ := a3.five
  rw [Nat.zero_add] at c11 c12 c13 c14 c21 c22 c23 c24 c31 c32 c33 c34
  have HX : Hid (Boxes w.heap.size w5 _ _ _) := ⟨hsz, a1, a2, a3⟩
  clear a1 a2 a3 hsz
  go_wp2_with fail
  refine (Compare_any a c _ _ _ (HA.out.below B) (HC.out.below B) na nc).mono ?_
  rintro e w6 ⟨rfl, b6⟩
  have X := HX.out.below rfl rfl rfl b6
  replace B := behindC B b6
  clear b6 HX c10 c11 c12 c13 c14 c20 c21 c22 c23 c24 c30 c31 c32 c33 c34
  rw [HE.out.2.2.2.1, HE.out.2.2.2.2]
  obtain ⟨hsz, a1, a2, a3⟩ := X
  obtain ⟨c10, c11, c12, c13, c14⟩ := a1.five
  obtain ⟨c20, c21, c22, c23, c24⟩ := a2.five
  obtain ⟨c30, c31, c32, c33, c34⟩ := a3.five
  rw [Nat.zero_add] at c11 c12 c13 c14 c21 c22 c23 c24 c31 c32 c33 c34
  have HX : Hid (Boxes w.heap.size w6 _ _ _) := ⟨hsz, a1, a2, a3⟩
  clear a1 a2 a3 hsz
  go_wp2_with fail
  refine (Hash_any a _ _ (HA.out.below B) na).mono ?_
  rintro e w7 ⟨rfl, b7⟩
  have X := HX.out.below rfl rfl rfl b7
  replace B := behindC B b7
  clear b7 HX c10 c11 c12 c13 c14 c20 c21 c22 c23 c24 c30 c31 c32 c33 c34
  rw [HH.out.1, HP.out.1]
  obtain ⟨hsz, a1, a2, a3⟩ := X
  obtain ⟨c10, c11, c12, c13, c14⟩ := a1.five
  obtain ⟨c20, c21, c22, c23, c24⟩ := a2.five
  obtain ⟨c30, c31, c32, c33, c34⟩ := a3.five
  rw [Nat.zero_add] at c11 c12 c13 c14 c21 c22 c23 c24 c31 c32 c33 c34
  have HX : Hid (Boxes w.heap.size w7 _ _ _) := ⟨hsz, a1, a2, a3⟩
  clear a1 a2 a3 hsz
  go_wp2_with fail
  refine (Hash_any b _ _ (HB.out.below B) nb).mono ?_
  rintro e w8 ⟨rfl, b8⟩
  have X := HX.out.below rfl rfl rfl b8
  replace B := behindC B b8
  clear b8 HX c10 c11 c12 c13 c14 c20 c21 c22 c23 c24 c30 c31 c32 c33 c34
  rw [HH.out.2, HP.out.2]
  obtain ⟨hsz, a1, a2, a3⟩ := X
  obtain ⟨c10, c11, c12, c13, c14⟩ := a1.five
  obtain ⟨c20, c21, c22, c23, c24⟩ := a2.five
  obtain ⟨c30, c31, c32, c33, c34⟩ := a3.five
  rw [Nat.zero_add] at c11 c12 c13 c14 c21 c22 c23 c24 c31 c32 c33 c34
  have HX : Hid (Boxes w.heap.size w8 _ _ _) := ⟨hsz, a1, a2, a3⟩
  clear a1 a2 a3 hsz
  go_wp2_with fail
  refine (sameLaw_any a b _ _ _ (HA.out.below B) (HB.out.below B)).mono ?_
  rintro e w9 ⟨rfl, b9⟩
  have X := HX.out.below rfl rfl rfl b9
  replace B := behindC B b9
  clear b9 HX c10 c11 c12 c13 c14 c20 c21 c22 c23 c24 c30 c31 c32 c33 c34
  rw [HS.out]
  obtain ⟨hsz, a1, a2, a3⟩ := X
  obtain ⟨c10, c11, c12, c13, c14⟩ := a1.five
  obtain ⟨c20, c21, c22, c23, c24⟩ := a2.five
  obtain ⟨c30, c31, c32, c33, c34⟩ := a3.five
  rw [Nat.zero_add] at c11 c12 c13 c14 c21 c22 c23 c24 c31 c32 c33 c34
  have HX : Hid (Boxes w.heap.size w9 _ _ _) := ⟨hsz, a1, a2, a3⟩
  clear a1 a2 a3 hsz
  go_wp2_with fail
  have B2 : Below w.heap.size w w9 := B
  go_region_held3 (fun w' => w'.cell? ⟨w.heap.size, 0, none⟩ = some (.int .i64 k1) ∧ w'.cell? ⟨w.heap.size, 1, none⟩ = some (.int .i64 n1) ∧ w'.cell? ⟨w.heap.size, 2, none⟩ = some (.string s1) ∧ w'.cell? ⟨w.heap.size, 3, none⟩ = some (.slice la1 ln1 lc1) ∧ w'.cell? ⟨w.heap.size, 4, none⟩ = some (.slice fa1 fn1 fc1) ∧ w'.cell? ⟨w.heap.size + 1, 0, none⟩ = some (.int .i64 k2) ∧ w'.cell? ⟨w.heap.size + 1, 1, none⟩ = some (.int .i64 n2) ∧ w'.cell? ⟨w.heap.size + 1, 2, none⟩ = some (.string s2) ∧ w'.cell? ⟨w.heap.size + 1, 3, none⟩ = some (.slice la2 ln2 lc2) ∧ w'.cell? ⟨w.heap.size + 1, 4, none⟩ = some (.slice fa2 fn2 fc2) ∧ w'.cell? ⟨w.heap.size + 2, 0, none⟩ = some (.int .i64 k3) ∧ w'.cell? ⟨w.heap.size + 2, 1, none⟩ = some (.int .i64 n3) ∧ w'.cell? ⟨w.heap.size + 2, 2, none⟩ = some (.string s3) ∧ w'.cell? ⟨w.heap.size + 2, 3, none⟩ = some (.slice la3 ln3 lc3) ∧ w'.cell? ⟨w.heap.size + 2, 4, none⟩ = some (.slice fa3 fn3 fc3) ∧ Below w.heap.size w w') (first | exact keepA _ (by assumption) | exact hS | exact ⟨c10, c11, c12, c13, c14, c20, c21, c22, c23, c24, c30, c31, c32, c33, c34, B2.drew⟩) (first
    | (go_at_call 11; have _t := hl1; refine (L_pair _ (fun i => if i = 0 then c else b) _ (vals_at (lastC (by assumption)) (by first | exact row_a _ _ | exact row_b _ _ _ | exact row_c _ _ _ | exact (hb1.block _ (by simp <;> omega)).trans (row_b _ _ _) | exact (hb1.block _ (by simp <;> omega)).trans (row_c _ _ _)) HC.out HB.out rfl rfl)).mono ?_; rintro e w11 ⟨rfl, hb2, hl2⟩; have hS := keepC hb2 (by assumption))
    | (go_at_call 11; refine (L_pair _ (fun i => if i = 0 then c else a) _ (vals_at (lastC (by assumption)) (by first | exact row_a _ _ | exact row_b _ _ _ | exact row_c _ _ _) HC.out HA.out rfl rfl)).mono ?_; rintro e w10 ⟨rfl, hb1, hl1⟩; have hS := keepC hb1 (by assumption))
    | (go_at_call 28; refine (Compare_any (gL 2 (fun i => if i = 0 then c else a)) (gL 2 (fun i => if i = 0 then c else b)) _ _ _ (by first | exact hl1.below hb2 | exact (lies_alloc hl1 _).below hb2) hl2 NA.out NB.out).mono ?_; rintro e w12 ⟨rfl, hb3⟩; have hS := keepC hb3 (by assumption)))
  all_goals
    rw [HL.out.1, HL.out.2]
    have B3 := lastC hS
    clear hS
    rcases HEV.out with h | ⟨rfl, rfl⟩
    · go_wp2_with fail
      go_ret
      exact ⟨by simp, B3⟩
    · go_wp2_with fail
      go_ret
      exact ⟨rfl, B3⟩
end Go.Proofs.Ytkjijepepbgciaa
