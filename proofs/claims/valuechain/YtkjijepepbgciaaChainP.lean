/- For the statement ValueChain: what stays through the last region, which builds two lists in an order that is left open. -/
import Derived.Test.YtkjijepepbgciaaChainG
import Derived.Deep.RegionHeld3
namespace Go.Proofs.Ytkjijepepbgciaa
open Go.RowKit

theorem keepC {w u w1 : World} {k1 n1 : Int} {s1 : ByteArray} {la1 fa1 : Option Addr} {ln1 lc1 fn1 fc1 : Nat} {k2 n2 : Int} {s2 : ByteArray} {la2 fa2 : Option Addr} {ln2 lc2 fn2 fc2 : Nat} {k3 n3 : Int} {s3 : ByteArray} {la3 fa3 : Option Addr} {ln3 lc3 fn3 fc3 : Nat} (hb : Below u.heap.size u w1) (h : u.cell? ⟨w.heap.size, 0, none⟩ = some (.int .i64 k1) ∧ u.cell? ⟨w.heap.size, 1, none⟩ = some (.int .i64 n1) ∧ u.cell? ⟨w.heap.size, 2, none⟩ = some (.string s1) ∧ u.cell? ⟨w.heap.size, 3, none⟩ = some (.slice la1 ln1 lc1) ∧ u.cell? ⟨w.heap.size, 4, none⟩ = some (.slice fa1 fn1 fc1) ∧ u.cell? ⟨w.heap.size + 1, 0, none⟩ = some (.int .i64 k2) ∧ u.cell? ⟨w.heap.size + 1, 1, none⟩ = some (.int .i64 n2) ∧ u.cell? ⟨w.heap.size + 1, 2, none⟩ = some (.string s2) ∧ u.cell? ⟨w.heap.size + 1, 3, none⟩ = some (.slice la2 ln2 lc2) ∧ u.cell? ⟨w.heap.size + 1, 4, none⟩ = some (.slice fa2 fn2 fc2) ∧ u.cell? ⟨w.heap.size + 2, 0, none⟩ = some (.int .i64 k3) ∧ u.cell? ⟨w.heap.size + 2, 1, none⟩ = some (.int .i64 n3) ∧ u.cell? ⟨w.heap.size + 2, 2, none⟩ = some (.string s3) ∧ u.cell? ⟨w.heap.size + 2, 3, none⟩ = some (.slice la3 ln3 lc3) ∧ u.cell? ⟨w.heap.size + 2, 4, none⟩ = some (.slice fa3 fn3 fc3) ∧ Below w.heap.size w u) : w1.cell? ⟨w.heap.size, 0, none⟩ = some (.int .i64 k1) ∧ w1.cell? ⟨w.heap.size, 1, none⟩ = some (.int .i64 n1) ∧ w1.cell? ⟨w.heap.size, 2, none⟩ = some (.string s1) ∧ w1.cell? ⟨w.heap.size, 3, none⟩ = some (.slice la1 ln1 lc1) ∧ w1.cell? ⟨w.heap.size, 4, none⟩ = some (.slice fa1 fn1 fc1) ∧ w1.cell? ⟨w.heap.size + 1, 0, none⟩ = some (.int .i64 k2) ∧ w1.cell? ⟨w.heap.size + 1, 1, none⟩ = some (.int .i64 n2) ∧ w1.cell? ⟨w.heap.size + 1, 2, none⟩ = some (.string s2) ∧ w1.cell? ⟨w.heap.size + 1, 3, none⟩ = some (.slice la2 ln2 lc2) ∧ w1.cell? ⟨w.heap.size + 1, 4, none⟩ = some (.slice fa2 fn2 fc2) ∧ w1.cell? ⟨w.heap.size + 2, 0, none⟩ = some (.int .i64 k3) ∧ w1.cell? ⟨w.heap.size + 2, 1, none⟩ = some (.int .i64 n3) ∧ w1.cell? ⟨w.heap.size + 2, 2, none⟩ = some (.string s3) ∧ w1.cell? ⟨w.heap.size + 2, 3, none⟩ = some (.slice la3 ln3 lc3) ∧ w1.cell? ⟨w.heap.size + 2, 4, none⟩ = some (.slice fa3 fn3 fc3) ∧ Below w.heap.size w w1 := by
  obtain ⟨h0, h1, h2, h3, h4, h5, h6, h7, h8, h9, h10, h11, h12, h13, h14, hB⟩ := h
  exact ⟨below_keeps hb _ _ _ h0, below_keeps hb _ _ _ h1, below_keeps hb _ _ _ h2, below_keeps hb _ _ _ h3, below_keeps hb _ _ _ h4, below_keeps hb _ _ _ h5, below_keeps hb _ _ _ h6, below_keeps hb _ _ _ h7, below_keeps hb _ _ _ h8, below_keeps hb _ _ _ h9, below_keeps hb _ _ _ h10, below_keeps hb _ _ _ h11, below_keeps hb _ _ _ h12, below_keeps hb _ _ _ h13, below_keeps hb _ _ _ h14, behindC hB hb⟩

theorem keepA {w u : World} {k1 n1 : Int} {s1 : ByteArray} {la1 fa1 : Option Addr} {ln1 lc1 fn1 fc1 : Nat} {k2 n2 : Int} {s2 : ByteArray} {la2 fa2 : Option Addr} {ln2 lc2 fn2 fc2 : Nat} {k3 n3 : Int} {s3 : ByteArray} {la3 fa3 : Option Addr} {ln3 lc3 fn3 fc3 : Nat} (o : Obj) (h : u.cell? ⟨w.heap.size, 0, none⟩ = some (.int .i64 k1) ∧ u.cell? ⟨w.heap.size, 1, none⟩ = some (.int .i64 n1) ∧ u.cell? ⟨w.heap.size, 2, none⟩ = some (.string s1) ∧ u.cell? ⟨w.heap.size, 3, none⟩ = some (.slice la1 ln1 lc1) ∧ u.cell? ⟨w.heap.size, 4, none⟩ = some (.slice fa1 fn1 fc1) ∧ u.cell? ⟨w.heap.size + 1, 0, none⟩ = some (.int .i64 k2) ∧ u.cell? ⟨w.heap.size + 1, 1, none⟩ = some (.int .i64 n2) ∧ u.cell? ⟨w.heap.size + 1, 2, none⟩ = some (.string s2) ∧ u.cell? ⟨w.heap.size + 1, 3, none⟩ = some (.slice la2 ln2 lc2) ∧ u.cell? ⟨w.heap.size + 1, 4, none⟩ = some (.slice fa2 fn2 fc2) ∧ u.cell? ⟨w.heap.size + 2, 0, none⟩ = some (.int .i64 k3) ∧ u.cell? ⟨w.heap.size + 2, 1, none⟩ = some (.int .i64 n3) ∧ u.cell? ⟨w.heap.size + 2, 2, none⟩ = some (.string s3) ∧ u.cell? ⟨w.heap.size + 2, 3, none⟩ = some (.slice la3 ln3 lc3) ∧ u.cell? ⟨w.heap.size + 2, 4, none⟩ = some (.slice fa3 fn3 fc3) ∧ Below w.heap.size w u) : (u.alloc o).cell? ⟨w.heap.size, 0, none⟩ = some (.int .i64 k1) ∧ (u.alloc o).cell? ⟨w.heap.size, 1, none⟩ = some (.int .i64 n1) ∧ (u.alloc o).cell? ⟨w.heap.size, 2, none⟩ = some (.string s1) ∧ (u.alloc o).cell? ⟨w.heap.size, 3, none⟩ = some (.slice la1 ln1 lc1) ∧ (u.alloc o).cell? ⟨w.heap.size, 4, none⟩ = some (.slice fa1 fn1 fc1) ∧ (u.alloc o).cell? ⟨w.heap.size + 1, 0, none⟩ = some (.int .i64 k2) ∧ (u.alloc o).cell? ⟨w.heap.size + 1, 1, none⟩ = some (.int .i64 n2) ∧ (u.alloc o).cell? ⟨w.heap.size + 1, 2, none⟩ = some (.string s2) ∧ (u.alloc o).cell? ⟨w.heap.size + 1, 3, none⟩ = some (.slice la2 ln2 lc2) ∧ (u.alloc o).cell? ⟨w.heap.size + 1, 4, none⟩ = some (.slice fa2 fn2 fc2) ∧ (u.alloc o).cell? ⟨w.heap.size + 2, 0, none⟩ = some (.int .i64 k3) ∧ (u.alloc o).cell? ⟨w.heap.size + 2, 1, none⟩ = some (.int .i64 n3) ∧ (u.alloc o).cell? ⟨w.heap.size + 2, 2, none⟩ = some (.string s3) ∧ (u.alloc o).cell? ⟨w.heap.size + 2, 3, none⟩ = some (.slice la3 ln3 lc3) ∧ (u.alloc o).cell? ⟨w.heap.size + 2, 4, none⟩ = some (.slice fa3 fn3 fc3) ∧ Below w.heap.size w (u.alloc o) := keepC ((Below.refl _ u).alloc (Nat.le_refl _) o) h

theorem lastC {w u : World} {k1 n1 : Int} {s1 : ByteArray} {la1 fa1 : Option Addr} {ln1 lc1 fn1 fc1 : Nat} {k2 n2 : Int} {s2 : ByteArray} {la2 fa2 : Option Addr} {ln2 lc2 fn2 fc2 : Nat} {k3 n3 : Int} {s3 : ByteArray} {la3 fa3 : Option Addr} {ln3 lc3 fn3 fc3 : Nat} (h : u.cell? ⟨w.heap.size, 0, none⟩ = some (.int .i64 k1) ∧ u.cell? ⟨w.heap.size, 1, none⟩ = some (.int .i64 n1) ∧ u.cell? ⟨w.heap.size, 2, none⟩ = some (.string s1) ∧ u.cell? ⟨w.heap.size, 3, none⟩ = some (.slice la1 ln1 lc1) ∧ u.cell? ⟨w.heap.size, 4, none⟩ = some (.slice fa1 fn1 fc1) ∧ u.cell? ⟨w.heap.size + 1, 0, none⟩ = some (.int .i64 k2) ∧ u.cell? ⟨w.heap.size + 1, 1, none⟩ = some (.int .i64 n2) ∧ u.cell? ⟨w.heap.size + 1, 2, none⟩ = some (.string s2) ∧ u.cell? ⟨w.heap.size + 1, 3, none⟩ = some (.slice la2 ln2 lc2) ∧ u.cell? ⟨w.heap.size + 1, 4, none⟩ = some (.slice fa2 fn2 fc2) ∧ u.cell? ⟨w.heap.size + 2, 0, none⟩ = some (.int .i64 k3) ∧ u.cell? ⟨w.heap.size + 2, 1, none⟩ = some (.int .i64 n3) ∧ u.cell? ⟨w.heap.size + 2, 2, none⟩ = some (.string s3) ∧ u.cell? ⟨w.heap.size + 2, 3, none⟩ = some (.slice la3 ln3 lc3) ∧ u.cell? ⟨w.heap.size + 2, 4, none⟩ = some (.slice fa3 fn3 fc3) ∧ Below w.heap.size w u) : Below w.heap.size w u := h.2.2.2.2.2.2.2.2.2.2.2.2.2.2.2

theorem vals_at {w u : World} {g g' : GV} {v v' : Value} {t p : Nat} {x0 x1 x2 x3 x4 y0 y1 y2 y3 y4 : Value} (hb : Below w.heap.size w u) (hp : u.heap[p]? = some (.cells #[x0, x1, x2, x3, x4, y0, y1, y2, y3, y4] t)) (h : Lies w g v) (h' : Lies w g' v') (hv : v = .agg #[x0, x1, x2, x3, x4]) (hv' : v' = .agg #[y0, y1, y2, y3, y4]) :
    Vals u (some ⟨p, 0, none⟩) 2 (fun i => if i = 0 then g else g') := by
  intro i hi
  obtain rfl | rfl : i = 0 ∨ i = 1 := by omega
  · refine ⟨p, 0, v, rfl, h.below hb, fun j hj => ?_⟩
    subst hv
    unfold World.cell?
    rw [hp]
    obtain rfl | rfl | rfl | rfl | rfl : j = 0 ∨ j = 1 ∨ j = 2 ∨ j = 3 ∨ j = 4 := by omega
    all_goals simp [Value.cells]
  · refine ⟨p, 0, v', rfl, h'.below hb, fun j hj => ?_⟩
    subst hv'
    unfold World.cell?
    rw [hp]
    obtain rfl | rfl | rfl | rfl | rfl : j = 0 ∨ j = 1 ∨ j = 2 ∨ j = 3 ∨ j = 4 := by omega
    all_goals simp [Value.cells]

theorem row_a (X : World) (r : Obj) : (X.alloc r).heap[X.heap.size]? = some r := heap_alloc_new X r
theorem row_b (X : World) (r r2 : Obj) : ((X.alloc r).alloc r2).heap[X.heap.size]? = some r := by
  rw [Below.heap_alloc _ _ _ (by simp), heap_alloc_new]
theorem row_c (X : World) (r r2 : Obj) : ((X.alloc r2).alloc r).heap[X.heap.size + 1]? = some r := by
  have := heap_alloc_new (X.alloc r2) r
  simpa using this

theorem L_pair (a : Option Addr) (l : Nat → GV) (w : World) (h : Vals w a 2 l) :
    Calls Try.prog 11 #[.slice a 2 2] w fun e w' => e = .returned (vL a 2 2) ∧ Below w.heap.size w w' ∧ Lies w' (gL 2 l) (vL a 2 2) :=
  (L_any a 2 2 w).mono fun _ _ ⟨h1, h2⟩ => ⟨h1, h2, lies_L (h.below h2) (Nat.le_refl _) (by decide)⟩

theorem nodes2 {a b : GV} (ha : a.nodes ≤ 8000) (hb : b.nodes ≤ 8000) : (gL 2 (fun i => if i = 0 then a else b)).nodes ≤ 16384 := by
  simp [gL, GV.nodes, List.range_succ]
  omega

theorem formed_of {g : GV} (h : g.err = 0) : g.every GV.formed = true := by
  cases e : g.every GV.formed with
  | true => rfl
  | false => rw [(err_1 e).1] at h; cases h
end Go.Proofs.Ytkjijepepbgciaa
