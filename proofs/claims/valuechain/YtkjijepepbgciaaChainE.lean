/- The walk of the statement ValueChain, where one of the values is not good. -/
import Derived.Test.YtkjijepepbgciaaChainV
namespace Go.Proofs.Ytkjijepepbgciaa
open Go.RowKit

theorem behindC {w u w1 : World} (h : Below w.heap.size w u) (k : Below u.heap.size u w1) : Below w.heap.size w w1 := h.trans (k.mono h.size)

theorem cmpErr_a {a b : GV} (h : a.err ≠ 0) : cmpErr a b = a.err := by simp [cmpErr, h]
theorem cmpErr_b {a b : GV} (h : a.err = 0) : cmpErr a b = b.err := by simp [cmpErr, h]

set_option maxHeartbeats 8000000 in
set_option maxRecDepth 1000000 in
theorem chain_err (a b c : GV) (va vb vc : Value) (w : World) (ha : Lies w a va) (hb : Lies w b vb) (hc : Lies w c vc) (hv : ¬ 5000 ≤ a.nodes + b.nodes + c.nodes) (he : a.err ≠ 0 ∨ b.err ≠ 0 ∨ c.err ≠ 0) :
    Calls Try.prog 7 #[va, vb, vc] w fun e w' => e = .returned (.bool true) ∧ Below w.heap.size w w' := by
  have na : a.nodes ≤ 16384 := by omega
  have nb : b.nodes ≤ 16384 := by omega
  have nc : c.nodes ≤ 16384 := by omega
  have HV : Hid (decide (5000 ≤ sumN (fun i => if i = 0 then a else if i = 1 then b else c) 3) = false) := by
    show _ = _
    rw [sum3]
    exact decide_eq_false hv
  clear hv
  have HA : Hid (Lies w a va) := ha
  have HB : Hid (Lies w b vb) := hb
  have HC : Hid (Lies w c vc) := hc
  obtain ⟨k1, n1, s1, la1, ln1, lc1, fa1, fn1, fc1, rfl⟩ := ha.agg
  obtain ⟨k2, n2, s2, la2, ln2, lc2, fa2, fn2, fc2, rfl⟩ := hb.agg
  obtain ⟨k3, n3, s3, la3, ln3, lc3, fa3, fn3, fc3, rfl⟩ := hc.agg
  clear ha hb hc
  have HBOX : Hid (∀ {w0 : World}, w0 = ((w.alloc (.cells #[.int .i64 k1, .int .i64 n1, .string s1, .slice la1 ln1 lc1, .slice fa1 fn1 fc1] 29)).alloc (.cells #[.int .i64 k2, .int .i64 n2, .string s2, .slice la2 ln2 lc2, .slice fa2 fn2 fc2] 29)).alloc (.cells #[.int .i64 k3, .int .i64 n3, .string s3, .slice la3 ln3 lc3, .slice fa3 fn3 fc3] 29) → Below w.heap.size w w0 ∧ Boxes w.heap.size w0 (.agg #[.int .i64 k1, .int .i64 n1, .string s1, .slice la1 ln1 lc1, .slice fa1 fn1 fc1]) (.agg #[.int .i64 k2, .int .i64 n2, .string s2, .slice la2 ln2 lc2, .slice fa2 fn2 fc2]) (.agg #[.int .i64 k3, .int .i64 n3, .string s3, .slice la3 ln3 lc3, .slice fa3 fn3 fc3])) := by
    intro w0 e
    subst e
    exact ⟨(((Below.refl w.heap.size w).alloc (Nat.le_refl _) _).alloc (by simp) _).alloc (by simp; omega) _, boxes_new _ _ _ _ _⟩
  obtain ⟨E1, hE1⟩ : ∃ E, cmpErr a b = E := ⟨_, rfl⟩
  obtain ⟨E2, hE2⟩ : ∃ E, cmpErr b a = E := ⟨_, rfl⟩
  obtain ⟨E3, hE3⟩ : ∃ E, cmpErr b c = E := ⟨_, rfl⟩
  obtain ⟨E4, hE4⟩ : ∃ E, cmpErr a c = E := ⟨_, rfl⟩
  have HE : Hid (cmpErr a b = E1 ∧ cmpErr b a = E2 ∧ cmpErr b c = E3 ∧ cmpErr a c = E4) := ⟨hE1, hE2, hE3, hE4⟩
  have hcs : (E1 ≠ 0 ∧ a.err ≠ 0) ∨ (E1 ≠ 0 ∧ a.err = 0 ∧ b.err ≠ 0) ∨ (E1 = 0 ∧ E2 = 0 ∧ E3 ≠ 0 ∧ a.err = 0 ∧ b.err = 0 ∧ c.err ≠ 0) := by
    by_cases h1 : a.err = 0
    · by_cases h2 : b.err = 0
      · right; right
        have e1 := cmpErr_b (b := b) h1
        have e2 := cmpErr_b (b := a) h2
        have e3 := cmpErr_b (b := c) h2
        have h3 : c.err ≠ 0 := by rcases he with h | h | h; exact absurd h1 h; exact absurd h2 h; exact h
        exact ⟨by rw [← hE1, e1, h2], by rw [← hE2, e2, h1], by rw [← hE3, e3]; exact h3, h1, h2, h3⟩
      · right; left
        exact ⟨by rw [← hE1, cmpErr_b h1]; exact h2, h1, h2⟩
    · left
      exact ⟨by rw [← hE1, cmpErr_a h1]; exact h1, h1⟩
  clear hE1 hE2 hE3 hE4 he
  obtain ⟨ea, hea⟩ : ∃ E, a.err = E := ⟨_, rfl⟩
  obtain ⟨eb, heb⟩ : ∃ E, b.err = E := ⟨_, rfl⟩
  obtain ⟨ec, hec⟩ : ∃ E, c.err = E := ⟨_, rfl⟩
  rw [hea, heb, hec] at hcs
  have HG : Hid (a.err = ea ∧ b.err = eb ∧ c.err = ec) := ⟨hea, heb, hec⟩
  clear hea heb hec
  have HCS : Hid ((E1 ≠ 0 ∧ ea ≠ 0) ∨ (E1 ≠ 0 ∧ ea = 0 ∧ eb ≠ 0) ∨ (E1 = 0 ∧ E2 = 0 ∧ E3 ≠ 0 ∧ ea = 0 ∧ eb = 0 ∧ ec ≠ 0)) := hcs
  clear hcs
  obtain ⟨v1, hv1⟩ : ∃ v, cmpVal a b = v := ⟨_, rfl⟩
  obtain ⟨v2, hv2⟩ : ∃ v, cmpVal b a = v := ⟨_, rfl⟩
  obtain ⟨v3, hv3⟩ : ∃ v, cmpVal b c = v := ⟨_, rfl⟩
  obtain ⟨v4, hv4⟩ : ∃ v, cmpVal a c = v := ⟨_, rfl⟩
  have HW : Hid (cmpVal a b = v1 ∧ cmpVal b a = v2 ∧ cmpVal b c = v3 ∧ cmpVal a c = v4) := ⟨hv1, hv2, hv3, hv4⟩
  clear hv1 hv2 hv3 hv4
  go_enter Try.func7, Try.ntmps7
  go_wp2_with fail
  obtain ⟨B, X⟩ := HBOX.out rfl
  clear HBOX
  refine (awake_any _).mono ?_
  rintro e w1 ⟨rfl, b1⟩
  replace X := X.below rfl rfl rfl b1
  replace B := behindC B b1
  clear b1
  obtain ⟨hsz, a1, a2, a3⟩ := X
  obtain ⟨c10, c11, c12, c13, c14⟩ := a1.five
  obtain ⟨c20, c21, c22, c23, c24⟩ := a2.five
  obtain ⟨c30, c31, c32, c33, c34⟩ := a3.five
  rw [Nat.zero_add] at c11 c12 c13 c14 c21 c22 c23 c24 c31 c32 c33 c34
  have HX : Hid (Boxes w.heap.size w1 _ _ _) := ⟨hsz, a1, a2, a3⟩
  clear a1 a2 a3 hsz
  go_wp2_with fail
  have V := vals3 (w := w1) (t := 29) (HA.out.below B) (HB.out.below B) (HC.out.below B) rfl rfl rfl
  refine (Vast_any _ 3 3 _ _ (by decide) V).mono ?_
  rintro e w2 ⟨rfl, b2⟩
  rw [HV.out]
  have bb : Below w1.heap.size w1 w2 := ((Below.refl _ w1).alloc (Nat.le_refl _) _).trans (b2.mono (by simp))
  have X := HX.out.below rfl rfl rfl bb
  replace B := behindC B bb
  clear bb b2 V HX c10 c11 c12 c13 c14 c20 c21 c22 c23 c24 c30 c31 c32 c33 c34
  obtain ⟨hsz, a1, a2, a3⟩ := X
  obtain ⟨c10, c11, c12, c13, c14⟩ := a1.five
  obtain ⟨c20, c21, c22, c23, c24⟩ := a2.five
  obtain ⟨c30, c31, c32, c33, c34⟩ := a3.five
  rw [Nat.zero_add] at c11 c12 c13 c14 c21 c22 c23 c24 c31 c32 c33 c34
  have HX : Hid (Boxes w.heap.size w2 _ _ _) := ⟨hsz, a1, a2, a3⟩
  clear a1 a2 a3 hsz
  go_wp2_with fail
  refine (Compare_any a b _ _ _ (HA.out.below B) (HB.out.below B) na nb).mono ?_
  rintro e w3 ⟨rfl, b3⟩
  have X := HX.out.below rfl rfl rfl b3
  replace B := behindC B b3
  clear b3 HX c10 c11 c12 c13 c14 c20 c21 c22 c23 c24 c30 c31 c32 c33 c34
  rw [HE.out.1, HW.out.1]
  obtain ⟨hsz, a1, a2, a3⟩ := X
  obtain ⟨c10, c11, c12, c13, c14⟩ := a1.five
  obtain ⟨c20, c21, c22, c23, c24⟩ := a2.five
  obtain ⟨c30, c31, c32, c33, c34⟩ := a3.five
  rw [Nat.zero_add] at c11 c12 c13 c14 c21 c22 c23 c24 c31 c32 c33 c34
  have HX : Hid (Boxes w.heap.size w3 _ _ _) := ⟨hsz, a1, a2, a3⟩
  clear a1 a2 a3 hsz
  go_wp2_with fail
  refine (Compare_any b a _ _ _ (HB.out.below B) (HA.out.below B) nb na).mono ?_
  rintro e w4 ⟨rfl, b4⟩
  have X := HX.out.below rfl rfl rfl b4
  replace B := behindC B b4
  clear b4 HX c10 c11 c12 c13 c14 c20 c21 c22 c23 c24 c30 c31 c32 c33 c34
  rw [HE.out.2.1, HW.out.2.1]
  obtain ⟨hsz, a1, a2, a3⟩ := X
  obtain ⟨c10, c11, c12, c13, c14⟩ := a1.five
  obtain ⟨c20, c21, c22, c23, c24⟩ := a2.five
  obtain ⟨c30, c31, c32, c33, c34⟩ := a3.five
  rw [Nat.zero_add] at c11 c12 c13 c14 c21 c22 c23 c24 c31 c32 c33 c34
  have HX : Hid (Boxes w.heap.size w4 _ _ _) := ⟨hsz, a1, a2, a3⟩
  clear a1 a2 a3 hsz
  go_wp2_with fail
  refine (Compare_any b c _ _ _ (HB.out.below B) (HC.out.below B) nb nc).mono ?_
  rintro e w5 ⟨rfl, b5⟩
  have X := HX.out.below rfl rfl rfl b5
  replace B := behindC B b5
  clear b5 HX c10 c11 c12 c13 c14 c20 c21 c22 c23 c24 c30 c31 c32 c33 c34
  rw [HE.out.2.2.1, HW.out.2.2.1]
  obtain ⟨hsz, a1, a2, a3⟩ := X
  obtain ⟨c10, c11, c12, c13, c14⟩ := a1.five
  obtain ⟨c20, c21, c22, c23, c24⟩ := a2.five
  obtain ⟨c30, c31, c32, c33, c34⟩ := a3.five
  rw [Nat.zero_add] at c11 c12 c13 c14 c21 c22 c23 c24 c31 c32 c33 c34
  have HX : Hid (Boxes w.heap.size w5 _ _ _) := ⟨hsz, a1, a2, a3⟩
  clear a1 a2 a3 hsz
  go_wp2_with fail
  refine (Compare_any a c _ _ _ (HA.out.below B) (HC.out.below B) na nc).mono ?_
  rintro e w6 ⟨rfl, b6⟩
  have X := HX.out.below rfl rfl rfl b6
  replace B := behindC B b6
  clear b6 HX c10 c11 c12 c13 c14 c20 c21 c22 c23 c24 c30 c31 c32 c33 c34
  rw [HE.out.2.2.2, HW.out.2.2.2]
  obtain ⟨hsz, a1, a2, a3⟩ := X
  obtain ⟨c10, c11, c12, c13, c14⟩ := a1.five
  obtain ⟨c20, c21, c22, c23, c24⟩ := a2.five
  obtain ⟨c30, c31, c32, c33, c34⟩ := a3.five
  rw [Nat.zero_add] at c11 c12 c13 c14 c21 c22 c23 c24 c31 c32 c33 c34
  have HX : Hid (Boxes w.heap.size w6 _ _ _) := ⟨hsz, a1, a2, a3⟩
  clear a1 a2 a3 hsz
  rcases HCS.out with ⟨h1, h2⟩ | ⟨h1, h2, h3⟩ | ⟨h1, h2, h3, h4, h5, h6⟩
  · clear HCS
    go_wp2_with fail
    refine (Good_any a _ _ (HA.out.below B) na).mono ?_
    rintro e w7 ⟨rfl, b7⟩
    have X := HX.out.below rfl rfl rfl b7
    replace B := behindC B b7
    clear b7 HX c10 c11 c12 c13 c14 c20 c21 c22 c23 c24 c30 c31 c32 c33 c34
    rw [HG.out.1]
    obtain ⟨hsz, a1, a2, a3⟩ := X
    obtain ⟨c10, c11, c12, c13, c14⟩ := a1.five
    obtain ⟨c20, c21, c22, c23, c24⟩ := a2.five
    obtain ⟨c30, c31, c32, c33, c34⟩ := a3.five
    rw [Nat.zero_add] at c11 c12 c13 c14 c21 c22 c23 c24 c31 c32 c33 c34
    have HX : Hid (Boxes w.heap.size w7 _ _ _) := ⟨hsz, a1, a2, a3⟩
    clear a1 a2 a3 hsz
    go_wp2_with fail
    go_ret
    exact ⟨rfl, B⟩
  · clear HCS
    subst h2
    go_wp2_with fail
    refine (Good_any a _ _ (HA.out.below B) na).mono ?_
    rintro e w7 ⟨rfl, b7⟩
    have X := HX.out.below rfl rfl rfl b7
    replace B := behindC B b7
    clear b7 HX c10 c11 c12 c13 c14 c20 c21 c22 c23 c24 c30 c31 c32 c33 c34
    rw [HG.out.1]
    obtain ⟨hsz, a1, a2, a3⟩ := X
    obtain ⟨c10, c11, c12, c13, c14⟩ := a1.five
    obtain ⟨c20, c21, c22, c23, c24⟩ := a2.five
    obtain ⟨c30, c31, c32, c33, c34⟩ := a3.five
    rw [Nat.zero_add] at c11 c12 c13 c14 c21 c22 c23 c24 c31 c32 c33 c34
    have HX : Hid (Boxes w.heap.size w7 _ _ _) := ⟨hsz, a1, a2, a3⟩
    clear a1 a2 a3 hsz
    go_wp2_with fail
    refine (Good_any b _ _ (HB.out.below B) nb).mono ?_
    rintro e w8 ⟨rfl, b8⟩
    have X := HX.out.below rfl rfl rfl b8
    replace B := behindC B b8
    clear b8 HX c10 c11 c12 c13 c14 c20 c21 c22 c23 c24 c30 c31 c32 c33 c34
    rw [HG.out.2.1]
    obtain ⟨hsz, a1, a2, a3⟩ := X
    obtain ⟨c10, c11, c12, c13, c14⟩ := a1.five
    obtain ⟨c20, c21, c22, c23, c24⟩ := a2.five
    obtain ⟨c30, c31, c32, c33, c34⟩ := a3.five
    rw [Nat.zero_add] at c11 c12 c13 c14 c21 c22 c23 c24 c31 c32 c33 c34
    have HX : Hid (Boxes w.heap.size w8 _ _ _) := ⟨hsz, a1, a2, a3⟩
    clear a1 a2 a3 hsz
    go_wp2_with fail
    go_ret
    exact ⟨rfl, B⟩
  · clear HCS
    subst h1 h2 h4 h5
    go_wp2_with fail
    refine (Good_any a _ _ (HA.out.below B) na).mono ?_
    rintro e w7 ⟨rfl, b7⟩
    have X := HX.out.below rfl rfl rfl b7
    replace B := behindC B b7
    clear b7 HX c10 c11 c12 c13 c14 c20 c21 c22 c23 c24 c30 c31 c32 c33 c34
    rw [HG.out.1]
    obtain ⟨hsz, a1, a2, a3⟩ := X
    obtain ⟨c10, c11, c12, c13, c14⟩ := a1.five
    obtain ⟨c20, c21, c22, c23, c24⟩ := a2.five
    obtain ⟨c30, c31, c32, c33, c34⟩ := a3.five
    rw [Nat.zero_add] at c11 c12 c13 c14 c21 c22 c23 c24 c31 c32 c33 c34
    have HX : Hid (Boxes w.heap.size w7 _ _ _) := ⟨hsz, a1, a2, a3⟩
    clear a1 a2 a3 hsz
    go_wp2_with fail
    refine (Good_any b _ _ (HB.out.below B) nb).mono ?_
    rintro e w8 ⟨rfl, b8⟩
    have X := HX.out.below rfl rfl rfl b8
    replace B := behindC B b8
    clear b8 HX c10 c11 c12 c13 c14 c20 c21 c22 c23 c24 c30 c31 c32 c33 c34
    rw [HG.out.2.1]
    obtain ⟨hsz, a1, a2, a3⟩ := X
    obtain ⟨c10, c11, c12, c13, c14⟩ := a1.five
    obtain ⟨c20, c21, c22, c23, c24⟩ := a2.five
    obtain ⟨c30, c31, c32, c33, c34⟩ := a3.five
    rw [Nat.zero_add] at c11 c12 c13 c14 c21 c22 c23 c24 c31 c32 c33 c34
    have HX : Hid (Boxes w.heap.size w8 _ _ _) := ⟨hsz, a1, a2, a3⟩
    clear a1 a2 a3 hsz
    go_wp2_with fail
    refine (Good_any c _ _ (HC.out.below B) nc).mono ?_
    rintro e w9 ⟨rfl, b9⟩
    have X := HX.out.below rfl rfl rfl b9
    replace B := behindC B b9
    clear b9 HX c10 c11 c12 c13 c14 c20 c21 c22 c23 c24 c30 c31 c32 c33 c34
    rw [HG.out.2.2]
    obtain ⟨hsz, a1, a2, a3⟩ := X
    obtain ⟨c10, c11, c12, c13, c14⟩ := a1.five
    obtain ⟨c20, c21, c22, c23, c24⟩ := a2.five
    obtain ⟨c30, c31, c32, c33, c34⟩ := a3.five
    rw [Nat.zero_add] at c11 c12 c13 c14 c21 c22 c23 c24 c31 c32 c33 c34
    have HX : Hid (Boxes w.heap.size w9 _ _ _) := ⟨hsz, a1, a2, a3⟩
    clear a1 a2 a3 hsz
    go_wp2_with fail
    go_ret
    refine ⟨ret_bool ?_, B⟩
    simp [h6]
end Go.Proofs.Ytkjijepepbgciaa
