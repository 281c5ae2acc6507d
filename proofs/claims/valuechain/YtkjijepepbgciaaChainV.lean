/- The walk of the statement ValueChain, where the values have more parts than are looked at. -/
import Derived.Test.YtkjijepepbgciaaChain2
import Derived.Test.YtkjijepepbgciaaWalked
import Derived.Test.YtkjijepepbgciaaRowv
namespace Go.Proofs.Ytkjijepepbgciaa
open Go.RowKit

/-- Three boxes, one behind the other. -/
def Boxes (b : Nat) (w : World) (v1 v2 v3 : Value) : Prop := b + 2 < w.heap.size ∧ At5 w b 0 v1 ∧ At5 w (b + 1) 0 v2 ∧ At5 w (b + 2) 0 v3

theorem at5_keeps {w w' : World} {b o : Nat} {v : Value} (hv : v.cells.size = 5) (h : At5 w b o v) (hb : Below w.heap.size w w') : At5 w' b o v := by
  intro j hj
  have h1 := h j hj
  rw [Array.getElem?_eq_getElem (by omega)] at h1 ⊢
  exact below_keeps hb _ _ _ h1

theorem Boxes.below {b : Nat} {w w' : World} {v1 v2 v3 : Value} (h1 : v1.cells.size = 5) (h2 : v2.cells.size = 5) (h3 : v3.cells.size = 5) (h : Boxes b w v1 v2 v3) (hb : Below w.heap.size w w') : Boxes b w' v1 v2 v3 :=
  ⟨Nat.lt_of_lt_of_le h.1 hb.size, at5_keeps h1 h.2.1 hb, at5_keeps h2 h.2.2.1 hb, at5_keeps h3 h.2.2.2 hb⟩

theorem boxes_new (w : World) (t : Nat) (x y z : Array Value) : Boxes w.heap.size (((w.alloc (.cells x t)).alloc (.cells y t)).alloc (.cells z t)) (.agg x) (.agg y) (.agg z) := by
  have h1 : (((w.alloc (.cells x t)).alloc (.cells y t)).alloc (.cells z t)).heap[w.heap.size]? = some (.cells x t) := by
    rw [Below.heap_alloc _ _ _ (by simp; omega), Below.heap_alloc _ _ _ (by simp), heap_alloc_new]
  have h2 : (((w.alloc (.cells x t)).alloc (.cells y t)).alloc (.cells z t)).heap[w.heap.size + 1]? = some (.cells y t) := by
    rw [Below.heap_alloc _ _ _ (by simp), show w.heap.size + 1 = (w.alloc (.cells x t)).heap.size by simp, heap_alloc_new]
  have h3 : (((w.alloc (.cells x t)).alloc (.cells y t)).alloc (.cells z t)).heap[w.heap.size + 2]? = some (.cells z t) := by
    rw [show w.heap.size + 2 = ((w.alloc (.cells x t)).alloc (.cells y t)).heap.size by simp, heap_alloc_new]
  refine ⟨by simp, fun j hj => ?_, fun j hj => ?_, fun j hj => ?_⟩
  · unfold World.cell?
    rw [h1]
    simp [Value.cells]
  · unfold World.cell?
    rw [h2]
    simp [Value.cells]
  · unfold World.cell?
    rw [h3]
    simp [Value.cells]

/-- A new row of three values. -/
theorem vals3 {w : World} {g1 g2 g3 : GV} {v1 v2 v3 : Value} {t : Nat} {x0 x1 x2 x3 x4 y0 y1 y2 y3 y4 z0 z1 z2 z3 z4 : Value} (h1 : Lies w g1 v1) (h2 : Lies w g2 v2) (h3 : Lies w g3 v3) (e1 : v1 = .agg #[x0, x1, x2, x3, x4]) (e2 : v2 = .agg #[y0, y1, y2, y3, y4]) (e3 : v3 = .agg #[z0, z1, z2, z3, z4]) :
    Vals (w.alloc (.cells #[x0, x1, x2, x3, x4, y0, y1, y2, y3, y4, z0, z1, z2, z3, z4] t)) (some ⟨w.heap.size, 0, none⟩) 3 (fun i => if i = 0 then g1 else if i = 1 then g2 else g3) := by
  intro i hi
  obtain rfl | rfl | rfl : i = 0 ∨ i = 1 ∨ i = 2 := by omega
  · refine ⟨w.heap.size, 0, v1, rfl, lies_alloc h1 _, fun j hj => ?_⟩
    subst e1
    obtain rfl | rfl | rfl | rfl | rfl : j = 0 ∨ j = 1 ∨ j = 2 ∨ j = 3 ∨ j = 4 := by omega
    all_goals simp [Value.cells]
  · refine ⟨w.heap.size, 0, v2, rfl, lies_alloc h2 _, fun j hj => ?_⟩
    subst e2
    obtain rfl | rfl | rfl | rfl | rfl : j = 0 ∨ j = 1 ∨ j = 2 ∨ j = 3 ∨ j = 4 := by omega
    all_goals simp [Value.cells]
  · refine ⟨w.heap.size, 0, v3, rfl, lies_alloc h3 _, fun j hj => ?_⟩
    subst e3
    obtain rfl | rfl | rfl | rfl | rfl : j = 0 ∨ j = 1 ∨ j = 2 ∨ j = 3 ∨ j = 4 := by omega
    all_goals simp [Value.cells]

theorem sum3 (g1 g2 g3 : GV) : sumN (fun i => if i = 0 then g1 else if i = 1 then g2 else g3) 3 = g1.nodes + g2.nodes + g3.nodes := by
  simp [sumN, List.range_succ]
  omega

set_option maxHeartbeats 8000000 in
set_option maxRecDepth 1000000 in
theorem chain_vast (a b c : GV) (va vb vc : Value) (w : World) (ha : Lies w a va) (hb : Lies w b vb) (hc : Lies w c vc) (hv : 5000 ≤ a.nodes + b.nodes + c.nodes) :
    Calls Try.prog 7 #[va, vb, vc] w fun e w' => e = .returned (.bool true) ∧ Below w.heap.size w w' := by
  have HA : Hid (Lies w a va) := ha
  have HB : Hid (Lies w b vb) := hb
  have HC : Hid (Lies w c vc) := hc
  obtain ⟨k1, n1, s1, la1, ln1, lc1, fa1, fn1, fc1, rfl⟩ := ha.agg
  obtain ⟨k2, n2, s2, la2, ln2, lc2, fa2, fn2, fc2, rfl⟩ := hb.agg
  obtain ⟨k3, n3, s3, la3, ln3, lc3, fa3, fn3, fc3, rfl⟩ := hc.agg
  clear ha hb hc
  have HBOX : Hid (∀ {w0 : World}, w0 = ((w.alloc (.cells #[.int .i64 k1, .int .i64 n1, .string s1, .slice la1 ln1 lc1, .slice fa1 fn1 fc1] 29)).alloc (.cells #[.int .i64 k2, .int .i64 n2, .string s2, .slice la2 ln2 lc2, .slice fa2 fn2 fc2] 29)).alloc (.cells #[.int .i64 k3, .int .i64 n3, .string s3, .slice la3 ln3 lc3, .slice fa3 fn3 fc3] 29) → Below w.heap.size w w0 ∧ Boxes w.heap.size w0 (.agg #[.int .i64 k1, .int .i64 n1, .string s1, .slice la1 ln1 lc1, .slice fa1 fn1 fc1]) (.agg #[.int .i64 k2, .int .i64 n2, .string s2, .slice la2 ln2 lc2, .slice fa2 fn2 fc2]) (.agg #[.int .i64 k3, .int .i64 n3, .string s3, .slice la3 ln3 lc3, .slice fa3 fn3 fc3])) := by
    intro w0 e
    subst e
    exact ⟨(((Below.refl w.heap.size w).alloc (Nat.le_refl _) _).alloc (by simp) _).alloc (by simp; omega) _, boxes_new _ _ _ _ _⟩
  have HV : Hid (decide (5000 ≤ sumN (fun i => if i = 0 then a else if i = 1 then b else c) 3) = true) := by
    show _ = _
    rw [sum3]
    exact decide_eq_true hv
  clear hv
  go_enter Try.func7, Try.ntmps7
  go_wp2_with fail
  obtain ⟨B0, X0⟩ := HBOX.out rfl
  clear HBOX
  refine (awake_any _).mono ?_
  rintro e w1 ⟨rfl, b1⟩
  have B1 : Below w.heap.size w w1 := B0.trans (b1.mono B0.size)
  have X1 := X0.below rfl rfl rfl b1
  clear b1 B0 X0
  obtain ⟨hsz, a1, a2, a3⟩ := X1
  obtain ⟨c10, c11, c12, c13, c14⟩ := a1.five
  obtain ⟨c20, c21, c22, c23, c24⟩ := a2.five
  obtain ⟨c30, c31, c32, c33, c34⟩ := a3.five
  rw [Nat.zero_add] at c11 c12 c13 c14 c21 c22 c23 c24 c31 c32 c33 c34
  clear a1 a2 a3
  go_wp2_with fail
  have V := vals3 (w := w1) (t := 29) (HA.out.below B1) (HB.out.below B1) (HC.out.below B1) rfl rfl rfl
  refine (Vast_any _ 3 3 _ _ (by decide) V).mono ?_
  rintro e w2 ⟨rfl, b2⟩
  rw [HV.out]
  have B2 : Below w.heap.size w w2 := (B1.alloc B1.size _).trans (b2.mono (by simp; have := B1.size; omega))
  clear b2 V
  go_wp2_with fail
  go_ret
  exact ⟨rfl, B2⟩
end Go.Proofs.Ytkjijepepbgciaa
