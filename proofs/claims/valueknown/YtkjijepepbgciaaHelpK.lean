/- Contracts of the statement ValueKnown's own helpers: sized and less. -/
import Derived.Test.YtkjijepepbgciaaHelp2
namespace Go.Proofs.Ytkjijepepbgciaa
open Go.RowKit

set_option maxHeartbeats 1000000 in
theorem sized_any (n : Nat) (g : GV) (v : Value) (w : World) (hL : Lies w g v) (hN : g.nodes ≤ 16384) (he : g.err = 0) (hs : g.size = n) :
    Calls Try.prog 17 #[v, .int .i64 n] w fun e w' => e = .returned (.bool true) ∧ Below w.heap.size w w' := by
  have HL : Hid (Lies w g v) := hL
  have HE : Hid (g.err = 0 ∧ g.bytes = n) := ⟨he, by simp [GV.bytes, he, hs]⟩
  obtain ⟨k, n0, s0, la, ln, lc, fa, fn, fc, rfl⟩ := hL.agg
  clear hL he hs
  have hbx := (Below.refl w.heap.size w).alloc (Nat.le_refl _) (.cells #[.int .i64 k, .int .i64 n0, .string s0, .slice la ln lc, .slice fa fn fc] 29)
  go_enter Try.func17, Try.ntmps17
  go_wp2_with fail
  refine (Size_any g _ _ (HL.out.below hbx) hN).mono ?_
  rintro e w1 ⟨rfl, hb1⟩
  have B1 : Below w.heap.size w w1 := hbx.trans (hb1.mono (by simp))
  rw [HE.out.1, HE.out.2]
  go_wp2_with fail
  go_ret
  exact ⟨rfl, B1⟩

set_option maxHeartbeats 2000000 in
theorem less_any (ga gb : GV) (v v' : Value) (w : World) (ha : Lies w ga v) (hb : Lies w gb v') (na : ga.nodes ≤ 16384) (nb : gb.nodes ≤ 16384) (ea : ga.err = 0) (eb : gb.err = 0) (h1 : ga.cmp gb = -1) (h2 : gb.cmp ga = 1) :
    Calls Try.prog 19 #[v, v'] w fun e w' => e = .returned (.bool true) ∧ Below w.heap.size w w' := by
  have HA : Hid (Lies w ga v) := ha
  have HB : Hid (Lies w gb v') := hb
  have H1 : Hid (cmpErr ga gb = 0 ∧ cmpVal ga gb = -1) := ⟨(err_cmp ea eb).1, (err_cmp ea eb).2.trans h1⟩
  have H2 : Hid (cmpErr gb ga = 0 ∧ cmpVal gb ga = 1) := ⟨(err_cmp eb ea).1, (err_cmp eb ea).2.trans h2⟩
  obtain ⟨k1, n1, s1, la1, ln1, lc1, fa1, fn1, fc1, rfl⟩ := ha.agg
  obtain ⟨k2, n2, s2, la2, ln2, lc2, fa2, fn2, fc2, rfl⟩ := hb.agg
  clear ha hb ea eb h1 h2
  generalize hw0 : (w.alloc (.cells #[.int .i64 k1, .int .i64 n1, .string s1, .slice la1 ln1 lc1, .slice fa1 fn1 fc1] 29)).alloc (.cells #[.int .i64 k2, .int .i64 n2, .string s2, .slice la2 ln2 lc2, .slice fa2 fn2 fc2] 29) = w0
  have B0 : Below w.heap.size w w0 := by rw [← hw0]; exact ((Below.refl w.heap.size w).alloc (Nat.le_refl _) _).alloc (by simp) _
  have S0 : w0.heap.size = w.heap.size + 2 := by rw [← hw0]; simp
  have a0 : w0.cell? ⟨w.heap.size, 0, none⟩ = some (.int .i64 k1) := by rw [← hw0]; simp
  have a1 : w0.cell? ⟨w.heap.size, 1, none⟩ = some (.int .i64 n1) := by rw [← hw0]; simp
  have a2 : w0.cell? ⟨w.heap.size, 2, none⟩ = some (.string s1) := by rw [← hw0]; simp
  have a3 : w0.cell? ⟨w.heap.size, 3, none⟩ = some (.slice la1 ln1 lc1) := by rw [← hw0]; simp
  have a4 : w0.cell? ⟨w.heap.size, 4, none⟩ = some (.slice fa1 fn1 fc1) := by rw [← hw0]; simp
  have b0 : w0.cell? ⟨w.heap.size + 1, 0, none⟩ = some (.int .i64 k2) := by rw [← hw0]; simp
  have b1 : w0.cell? ⟨w.heap.size + 1, 1, none⟩ = some (.int .i64 n2) := by rw [← hw0]; simp
  have b2 : w0.cell? ⟨w.heap.size + 1, 2, none⟩ = some (.string s2) := by rw [← hw0]; simp
  have b3 : w0.cell? ⟨w.heap.size + 1, 3, none⟩ = some (.slice la2 ln2 lc2) := by rw [← hw0]; simp
  have b4 : w0.cell? ⟨w.heap.size + 1, 4, none⟩ = some (.slice fa2 fn2 fc2) := by rw [← hw0]; simp
  have HW0 : Hid (_ = w0) := hw0
  clear hw0
  go_enter Try.func19, Try.ntmps19
  go_wp2_with fail
  rw [HW0.out]
  refine (Compare_any ga gb _ _ w0 (HA.out.below B0) (HB.out.below B0) na nb).mono ?_
  rintro e w1 ⟨rfl, hb1⟩
  have B1 : Below w.heap.size w w1 := B0.trans (hb1.mono B0.size)
  have c0 := below_keeps hb1 _ _ _ a0
  have c1 := below_keeps hb1 _ _ _ a1
  have c2 := below_keeps hb1 _ _ _ a2
  have c3 := below_keeps hb1 _ _ _ a3
  have c4 := below_keeps hb1 _ _ _ a4
  have d0 := below_keeps hb1 _ _ _ b0
  have d1 := below_keeps hb1 _ _ _ b1
  have d2 := below_keeps hb1 _ _ _ b2
  have d3 := below_keeps hb1 _ _ _ b3
  have d4 := below_keeps hb1 _ _ _ b4
  clear hb1 HW0 a0 a1 a2 a3 a4 b0 b1 b2 b3 b4
  rw [H1.out.1, H1.out.2]
  go_wp2_with fail
  refine (Compare_any gb ga _ _ w1 (HB.out.below B1) (HA.out.below B1) nb na).mono ?_
  rintro e w2 ⟨rfl, hb2⟩
  have B2 : Below w.heap.size w w2 := B1.trans (hb2.mono B1.size)
  clear hb2 c0 c1 c2 c3 c4 d0 d1 d2 d3 d4
  rw [H2.out.1, H2.out.2]
  go_wp2_with fail
  go_ret
  exact ⟨rfl, B2⟩

end Go.Proofs.Ytkjijepepbgciaa
