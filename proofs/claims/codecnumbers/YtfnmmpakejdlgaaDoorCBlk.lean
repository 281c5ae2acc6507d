/- A block of five cells. -/
import Derived.Test.YtfnmmpakejdlgaaDoorCOne
namespace Go.Proofs.YtfnmmpakejdlgaaDoor
open Go.RowKit

theorem OnlyAt.alloc {R : Nat} {w w' : World} (h : OnlyAt R w w') (o : Obj) : OnlyAt R w (w'.alloc o) := by
  have hb := (RowKit.Below.refl w'.heap.size w').alloc (Nat.le_refl _) o
  exact ⟨hb.os.trans h.os, hb.tape.trans h.tape, hb.output.trans h.output, Nat.le_trans h.size hb.size, fun k hk hn => (hb.block k (Nat.lt_of_lt_of_le hk h.size)).trans (h.block k hk hn)⟩
theorem OnlyAt.setNew {R : Nat} {w w' : World} (h : OnlyAt R w w') {b o : Nat} (hb : w.heap.size ≤ b) (v : Value) : OnlyAt R w (w'.setCell ⟨b, o, none⟩ v) := by
  have hb' := (RowKit.Below.refl 0 w').setCell (p := ⟨b, o, none⟩) (Nat.zero_le _) v
  exact ⟨hb'.os.trans h.os, hb'.tape.trans h.tape, hb'.output.trans h.output, Nat.le_trans h.size hb'.size, fun k hk hn => by rw [RowKit.Below.heap_setCell w' ⟨b, o, none⟩ v k (show k ≠ b by omega)]; exact h.block k hk hn⟩
theorem OnlyAt.of_below {R : Nat} {w w' : World} (h : RowKit.Below w.heap.size w w') : OnlyAt R w w' := ⟨h.os, h.tape, h.output, h.size, fun k hk _ => h.block k hk⟩
theorem OnlyAt.drew {R : Nat} {w w' : World} (h : OnlyAt R w w') : OnlyAt R w w'.drew := ⟨h.os, h.tape, h.output, h.size, h.block⟩

/-- A block of five cells, and free. -/
def Blk5 (w : World) (b : Nat) (x0 x1 x2 x3 x4 : Value) : Prop := w.heap[b]? = some (.cells #[x0, x1, x2, x3, x4] 29 (0, 0))
theorem Blk5.cells {w : World} {b : Nat} {x0 x1 x2 x3 x4 : Value} (h : Blk5 w b x0 x1 x2 x3 x4) :
    w.cell? ⟨b, 0, none⟩ = some x0 ∧ w.cell? ⟨b, 1, none⟩ = some x1 ∧ w.cell? ⟨b, 2, none⟩ = some x2 ∧ w.cell? ⟨b, 3, none⟩ = some x3 ∧ w.cell? ⟨b, 4, none⟩ = some x4 := by
  refine ⟨?_, ?_, ?_, ?_, ?_⟩ <;> (rw [cell_of_row w b _ _ _ _ h]; rfl)
theorem Blk5.free {w : World} {b : Nat} {x0 x1 x2 x3 x4 : Value} (h : Blk5 w b x0 x1 x2 x3 x4) :
    w.frozen? ⟨b, 0, none⟩ = false ∧ w.frozen? ⟨b, 1, none⟩ = false ∧ w.frozen? ⟨b, 2, none⟩ = false ∧ w.frozen? ⟨b, 3, none⟩ = false ∧ w.frozen? ⟨b, 4, none⟩ = false :=
  ⟨frozen_of_row w b _ _ _ h, frozen_of_row w b _ _ _ h, frozen_of_row w b _ _ _ h, frozen_of_row w b _ _ _ h, frozen_of_row w b _ _ _ h⟩
theorem Blk5.lt {w : World} {b : Nat} {x0 x1 x2 x3 x4 : Value} (h : Blk5 w b x0 x1 x2 x3 x4) : b < w.heap.size := (Array.getElem?_eq_some_iff.1 h).1
theorem Blk5.below {w w' : World} {b : Nat} {x0 x1 x2 x3 x4 : Value} (h : Blk5 w b x0 x1 x2 x3 x4) (hb : RowKit.Below w.heap.size w w') : Blk5 w' b x0 x1 x2 x3 x4 := by
  unfold Blk5
  rw [hb.block b h.lt]
  exact h
theorem Blk5.only {w w' : World} {R b : Nat} {x0 x1 x2 x3 x4 : Value} (h : Blk5 w b x0 x1 x2 x3 x4) (hb : OnlyAt R w w') (hn : b ≠ R) : Blk5 w' b x0 x1 x2 x3 x4 := by
  unfold Blk5
  rw [hb.block b h.lt hn]
  exact h
theorem Blk5.other {w : World} {b : Nat} {x0 x1 x2 x3 x4 : Value} (h : Blk5 w b x0 x1 x2 x3 x4) {g i : Nat} {u : Value} (hne : b ≠ g) : Blk5 (w.setCell ⟨g, i, none⟩ u) b x0 x1 x2 x3 x4 := by
  unfold Blk5
  rw [RowKit.Below.heap_setCell w ⟨g, i, none⟩ u b hne]
  exact h
theorem Blk5.set0 {w : World} {b : Nat} {x0 x1 x2 x3 x4 u : Value} (h : Blk5 w b x0 x1 x2 x3 x4) : Blk5 (w.setCell ⟨b, 0, none⟩ u) b u x1 x2 x3 x4 := by
  unfold Blk5
  rw [heap_setCell_same w b 0 _ _ u h]
  rfl
theorem Blk5.set1 {w : World} {b : Nat} {x0 x1 x2 x3 x4 u : Value} (h : Blk5 w b x0 x1 x2 x3 x4) : Blk5 (w.setCell ⟨b, 1, none⟩ u) b x0 u x2 x3 x4 := by
  unfold Blk5
  rw [heap_setCell_same w b 1 _ _ u h]
  rfl
theorem Blk5.set2 {w : World} {b : Nat} {x0 x1 x2 x3 x4 u : Value} (h : Blk5 w b x0 x1 x2 x3 x4) : Blk5 (w.setCell ⟨b, 2, none⟩ u) b x0 x1 u x3 x4 := by
  unfold Blk5
  rw [heap_setCell_same w b 2 _ _ u h]
  rfl
theorem Blk5.set3 {w : World} {b : Nat} {x0 x1 x2 x3 x4 u : Value} (h : Blk5 w b x0 x1 x2 x3 x4) : Blk5 (w.setCell ⟨b, 3, none⟩ u) b x0 x1 x2 u x4 := by
  unfold Blk5
  rw [heap_setCell_same w b 3 _ _ u h]
  rfl
theorem Blk5.set4 {w : World} {b : Nat} {x0 x1 x2 x3 x4 u : Value} (h : Blk5 w b x0 x1 x2 x3 x4) : Blk5 (w.setCell ⟨b, 4, none⟩ u) b x0 x1 x2 x3 u := by
  unfold Blk5
  rw [heap_setCell_same w b 4 _ _ u h]
  rfl
theorem Blk5.new (w : World) (x0 x1 x2 x3 x4 : Value) : Blk5 (w.alloc (.cells #[x0, x1, x2, x3, x4] 29)) w.heap.size x0 x1 x2 x3 x4 := heap_alloc_new w _
theorem Blk5.drewN {w : World} {b : Nat} {x0 x1 x2 x3 x4 : Value} (h : Blk5 w b x0 x1 x2 x3 x4) (q : Nat) : Blk5 (w.drewN q) b x0 x1 x2 x3 x4 := h
theorem Blk5.drew {w : World} {b : Nat} {x0 x1 x2 x3 x4 : Value} (h : Blk5 w b x0 x1 x2 x3 x4) : Blk5 w.drew b x0 x1 x2 x3 x4 := h
/-- A block of one cell, and free. -/
def Blk1 (w : World) (b t : Nat) (x : Value) : Prop := w.heap[b]? = some (.cells #[x] t (0, 0))
theorem Blk1.cell {w : World} {b t : Nat} {x : Value} (h : Blk1 w b t x) : w.cell? ⟨b, 0, none⟩ = some x := by rw [cell_of_row w b _ _ _ _ h]; rfl
theorem Blk1.free {w : World} {b t : Nat} {x : Value} (h : Blk1 w b t x) : w.frozen? ⟨b, 0, none⟩ = false := frozen_of_row w b _ _ _ h
theorem Blk1.lt {w : World} {b t : Nat} {x : Value} (h : Blk1 w b t x) : b < w.heap.size := (Array.getElem?_eq_some_iff.1 h).1
theorem Blk1.only {w w' : World} {R b t : Nat} {x : Value} (h : Blk1 w b t x) (hb : OnlyAt R w w') (hn : b ≠ R) : Blk1 w' b t x := by
  unfold Blk1
  rw [hb.block b h.lt hn]
  exact h
theorem Blk1.other {w : World} {b t g i : Nat} {x u : Value} (h : Blk1 w b t x) (hne : b ≠ g) : Blk1 (w.setCell ⟨g, i, none⟩ u) b t x := by
  unfold Blk1
  rw [RowKit.Below.heap_setCell w ⟨g, i, none⟩ u b hne]
  exact h
theorem Blk1.set {w : World} {b t : Nat} {x u : Value} (h : Blk1 w b t x) : Blk1 (w.setCell ⟨b, 0, none⟩ u) b t u := by
  unfold Blk1
  rw [heap_setCell_same w b 0 _ _ u h]
  rfl
theorem Blk1.drew {w : World} {b t : Nat} {x : Value} (h : Blk1 w b t x) : Blk1 w.drew b t x := h
theorem Rd.only {w w' : World} {R R' : Nat} {a : Option Addr} {n c p : Nat} (h : Rd w R a n c p) (hb : OnlyAt R' w w') (hn : R ≠ R') : Rd w' R a n c p := by
  unfold Rd
  rw [hb.block R h.lt hn]
  exact h
theorem Rd.below {w w' : World} {R : Nat} {a : Option Addr} {n c p : Nat} (h : Rd w R a n c p) (hb : RowKit.Below w.heap.size w w') : Rd w' R a n c p := by
  unfold Rd
  rw [hb.block R h.lt]
  exact h
theorem Rd.other {w : World} {R g i : Nat} {u : Value} {a : Option Addr} {n c p : Nat} (h : Rd w R a n c p) (hn : R ≠ g) : Rd (w.setCell ⟨g, i, none⟩ u) R a n c p := by
  unfold Rd
  rw [RowKit.Below.heap_setCell w ⟨g, i, none⟩ u R hn]
  exact h
end Go.Proofs.YtfnmmpakejdlgaaDoor
