/- A block of four cells: a token in memory. -/
import Derived.Test.YtagjemdoefldaaaDoorLxSpec
import Derived.Laws.Rows
namespace Go.Proofs.YtagjemdoefldaaaDoor
open Go.RowKit

/-- A block of four cells, and free. -/
def Blk4 (w : World) (b : Nat) (x0 x1 x2 x3 : Value) : Prop := w.heap[b]? = some (.cells #[x0, x1, x2, x3] 29 (0, 0))
theorem Blk4.cells {w : World} {b : Nat} {x0 x1 x2 x3 : Value} (h : Blk4 w b x0 x1 x2 x3) :
    w.cell? ⟨b, 0, none⟩ = some x0 ∧ w.cell? ⟨b, 1, none⟩ = some x1 ∧ w.cell? ⟨b, 2, none⟩ = some x2 ∧ w.cell? ⟨b, 3, none⟩ = some x3 := by
  refine ⟨?_, ?_, ?_, ?_⟩ <;> (rw [cell_of_row w b _ _ _ _ h]; rfl)
theorem Blk4.free {w : World} {b : Nat} {x0 x1 x2 x3 : Value} (h : Blk4 w b x0 x1 x2 x3) :
    w.frozen? ⟨b, 0, none⟩ = false ∧ w.frozen? ⟨b, 1, none⟩ = false ∧ w.frozen? ⟨b, 2, none⟩ = false ∧ w.frozen? ⟨b, 3, none⟩ = false :=
  ⟨frozen_of_row w b _ _ _ h, frozen_of_row w b _ _ _ h, frozen_of_row w b _ _ _ h, frozen_of_row w b _ _ _ h⟩
theorem Blk4.lt {w : World} {b : Nat} {x0 x1 x2 x3 : Value} (h : Blk4 w b x0 x1 x2 x3) : b < w.heap.size := (Array.getElem?_eq_some_iff.1 h).1
theorem Blk4.below {w w' : World} {b : Nat} {x0 x1 x2 x3 : Value} (h : Blk4 w b x0 x1 x2 x3) (hb : RowKit.Below w.heap.size w w') : Blk4 w' b x0 x1 x2 x3 := by
  unfold Blk4
  rw [hb.block b h.lt]
  exact h
theorem Blk4.other {w : World} {b : Nat} {x0 x1 x2 x3 : Value} (h : Blk4 w b x0 x1 x2 x3) {g i : Nat} {u : Value} (hne : b ≠ g) : Blk4 (w.setCell ⟨g, i, none⟩ u) b x0 x1 x2 x3 := by
  unfold Blk4
  rw [RowKit.Below.heap_setCell w ⟨g, i, none⟩ u b hne]
  exact h
theorem Blk4.set0 {w : World} {b : Nat} {x0 x1 x2 x3 u : Value} (h : Blk4 w b x0 x1 x2 x3) : Blk4 (w.setCell ⟨b, 0, none⟩ u) b u x1 x2 x3 := by
  unfold Blk4
  rw [heap_setCell_same w b 0 _ _ u h]
  rfl
theorem Blk4.set1 {w : World} {b : Nat} {x0 x1 x2 x3 u : Value} (h : Blk4 w b x0 x1 x2 x3) : Blk4 (w.setCell ⟨b, 1, none⟩ u) b x0 u x2 x3 := by
  unfold Blk4
  rw [heap_setCell_same w b 1 _ _ u h]
  rfl
theorem Blk4.set2 {w : World} {b : Nat} {x0 x1 x2 x3 u : Value} (h : Blk4 w b x0 x1 x2 x3) : Blk4 (w.setCell ⟨b, 2, none⟩ u) b x0 x1 u x3 := by
  unfold Blk4
  rw [heap_setCell_same w b 2 _ _ u h]
  rfl
theorem Blk4.set3 {w : World} {b : Nat} {x0 x1 x2 x3 u : Value} (h : Blk4 w b x0 x1 x2 x3) : Blk4 (w.setCell ⟨b, 3, none⟩ u) b x0 x1 x2 u := by
  unfold Blk4
  rw [heap_setCell_same w b 3 _ _ u h]
  rfl
theorem Blk4.new (w : World) (x0 x1 x2 x3 : Value) : Blk4 (w.alloc (.cells #[x0, x1, x2, x3] 29)) w.heap.size x0 x1 x2 x3 := heap_alloc_new w _
theorem Blk4.drewN {w : World} {b : Nat} {x0 x1 x2 x3 : Value} (h : Blk4 w b x0 x1 x2 x3) (q : Nat) : Blk4 (w.drewN q) b x0 x1 x2 x3 := h
theorem Blk4.drew {w : World} {b : Nat} {x0 x1 x2 x3 : Value} (h : Blk4 w b x0 x1 x2 x3) : Blk4 w.drew b x0 x1 x2 x3 := h
/-- What a function tells whose first result lies in a block of four cells. -/
theorem ret_tok {fn : Func} {p u v : Tmp} (h : fn.results = #[.cell p 29, .tmp u, .tmp v]) (tmps : Array Value) (w : World) (g : Nat) (x0 x1 x2 x3 : Value)
    (hp : tmps.getD p undef = .pointer (some ⟨g, 0, none⟩)) (hg : Blk4 w g x0 x1 x2 x3) :
    (results fn tmps).run Tryd.prog w = .ok (.tuple #[.agg #[x0, x1, x2, x3], tmps.getD u undef, tmps.getD v undef]) w := by
  have hp' : tmps[p]?.getD undef = .pointer (some ⟨g, 0, none⟩) := by simpa using hp
  simp [results, h, hp', asAddr, run_loadVar_row w g 29 29 #[x0, x1, x2, x3] (0, 0) _ hg Tryd.underlying29 rfl (by kernel_rfl)]

theorem cut_arr (s : ByteArray) (n : Nat) : s.extract 0 n = ⟨(s.data.toList.take n).toArray⟩ := by
  apply ByteArray.ext
  apply Array.toList_inj.1
  rw [cut_list]

theorem Blk4.set4 {w : World} {b : Nat} {x0 x1 x2 x3 : Value} (h : Blk4 w b x0 x1 x2 x3) (u0 u1 u2 u3 : Value) : Blk4 ((((w.setCell ⟨b, 0, none⟩ u0).setCell ⟨b, 1, none⟩ u1).setCell ⟨b, 2, none⟩ u2).setCell ⟨b, 3, none⟩ u3) b u0 u1 u2 u3 := h.set0.set1.set2.set3
theorem below_set4 {w v : World} {b : Nat} (h : Below w.heap.size w v) (hb : w.heap.size ≤ b) (u0 u1 u2 u3 : Value) : Below w.heap.size w ((((v.setCell ⟨b, 0, none⟩ u0).setCell ⟨b, 1, none⟩ u1).setCell ⟨b, 2, none⟩ u2).setCell ⟨b, 3, none⟩ u3) :=
  (((h.setCell (p := ⟨b, 0, none⟩) hb u0).setCell (p := ⟨b, 1, none⟩) hb u1).setCell (p := ⟨b, 2, none⟩) hb u2).setCell (p := ⟨b, 3, none⟩) hb u3
end Go.Proofs.YtagjemdoefldaaaDoor
