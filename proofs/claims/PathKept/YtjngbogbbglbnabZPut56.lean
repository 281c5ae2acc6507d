/- Five and six cells put into a row of one's own. -/
import Derived.Test.YtjngbogbbglbnabZFrom
import Derived.Laws.OwnMore
namespace Go.Proofs.Ytjngbogbbglbnab
open Go.RowKit

theorem infoField : (Try.prog.info? 45).map (fun i => (i.zero, i.size, i.bytes)) = some (some (.agg #[.string ⟨#[]⟩, .int .i64 0, .int .i64 0, .string ⟨#[]⟩, .slice none 0 0, .slice none 0 0]), 6, 96) := by kernel_rfl

/-- Five cells put in at a place. -/
def put5 (xs : List Value) (o : Nat) (a b c d e : Value) : List Value := ((((xs.set o a).set (o + 1) b).set (o + 2) c).set (o + 3) d).set (o + 4) e

theorem put5_other {xs : List Value} {o i : Nat} {a b c d e : Value} (h : i < o ∨ o + 5 ≤ i) : (put5 xs o a b c d e)[i]? = xs[i]? := by
 unfold put5;rw [List.getElem?_set_ne (by omega), List.getElem?_set_ne (by omega), List.getElem?_set_ne (by omega), List.getElem?_set_ne (by omega), List.getElem?_set_ne (by omega)]
theorem put5_at {xs : List Value} {o i : Nat} {a b c d e : Value} (h : o + 5 ≤ xs.length) (hi : i < 5) : (put5 xs o a b c d e)[o + i]? = #[a, b, c, d, e][i]? := by
 unfold put5
 obtain rfl | rfl | rfl | rfl | rfl : i = 0 ∨ i = 1 ∨ i = 2 ∨ i = 3 ∨ i = 4 := by omega
 ·rw [List.getElem?_set_ne (by omega), List.getElem?_set_ne (by omega), List.getElem?_set_ne (by omega), List.getElem?_set_ne (by omega), Nat.add_zero, List.getElem?_set_self (by omega)]
  rfl
 ·rw [List.getElem?_set_ne (by omega), List.getElem?_set_ne (by omega), List.getElem?_set_ne (by omega), List.getElem?_set_self (by simp; omega)]
  rfl
 ·rw [List.getElem?_set_ne (by omega), List.getElem?_set_ne (by omega), List.getElem?_set_self (by simp; omega)]
  rfl
 ·rw [List.getElem?_set_ne (by omega), List.getElem?_set_self (by simp; omega)]
  rfl
 ·rw [List.getElem?_set_self (by simp; omega)]
  rfl
theorem own_put5 {w : World} {base t size gb n cap o : Nat} {xs : List Value} (h : w.ownsRow base t size (.slice (some ⟨gb, 0, none⟩) n cap) n xs) (a b c d e : Value) :
  (((((w.setCell ⟨gb, o, none⟩ a).setCell ⟨gb, o + 1, none⟩ b).setCell ⟨gb, o + 2, none⟩ c).setCell ⟨gb, o + 3, none⟩ d).setCell ⟨gb, o + 4, none⟩ e).ownsRow base t size (.slice (some ⟨gb, 0, none⟩) n cap) n (put5 xs o a b c d e) :=
 (((((h.stored o a).1.stored (o + 1) b).1.stored (o + 2) c).1.stored (o + 3) d).1.stored (o + 4) e).1

/-- Six cells put in at a place. -/
def put6 (xs : List Value) (o : Nat) (s a b c d e : Value) : List Value := put5 (xs.set o s) (o + 1) a b c d e
theorem put6_other {xs : List Value} {o i : Nat} {s a b c d e : Value} (h : i < o ∨ o + 6 ≤ i) : (put6 xs o s a b c d e)[i]? = xs[i]? := by
 unfold put6;rw [put5_other (by omega), List.getElem?_set_ne (by omega)]
theorem put6_nm {xs : List Value} {o : Nat} {s a b c d e : Value} (h : o + 6 ≤ xs.length) : (put6 xs o s a b c d e)[o]? = some s := by
 unfold put6;rw [put5_other (by omega), List.getElem?_set_self (by omega)]
theorem put6_at {xs : List Value} {o i : Nat} {s a b c d e : Value} (h : o + 6 ≤ xs.length) (hi : i < 5) : (put6 xs o s a b c d e)[o + 1 + i]? = #[a, b, c, d, e][i]? := by
 unfold put6;exact put5_at (by simp; omega) hi

theorem own_put6 {w : World} {base t size gb n cap o : Nat} {xs : List Value} (h : w.ownsRow base t size (.slice (some ⟨gb, 0, none⟩) n cap) n xs) (s a b c d e : Value) :
  ((((((w.setCell ⟨gb, o, none⟩ s).setCell ⟨gb, o + 1, none⟩ a).setCell ⟨gb, o + 2, none⟩ b).setCell ⟨gb, o + 3, none⟩ c).setCell ⟨gb, o + 4, none⟩ d).setCell ⟨gb, o + 5, none⟩ e).ownsRow base t size (.slice (some ⟨gb, 0, none⟩) n cap) n (put6 xs o s a b c d e) :=
 own_put5 (o := o + 1) (h.stored o s).1 a b c d e

/-- The cells of a field's own box. -/
theorem box6 {w w1 : World} {x0 x1 x2 x3 x4 x5 : Value} {t : Nat} (h : Below (w.heap.size + 1) (w.alloc (.cells #[x0, x1, x2, x3, x4, x5] t)) w1) :
  w1.cell? ⟨w.heap.size, 0, none⟩ = some x0 ∧ w1.cell? ⟨w.heap.size, 1, none⟩ = some x1 ∧ w1.cell? ⟨w.heap.size, 2, none⟩ = some x2 ∧ w1.cell? ⟨w.heap.size, 3, none⟩ = some x3 ∧ w1.cell? ⟨w.heap.size, 4, none⟩ = some x4 ∧ w1.cell? ⟨w.heap.size, 5, none⟩ = some x5 := by
 have h' : ∀ p, p.block < w.heap.size + 1 → w1.cell? p = (w.alloc (.cells #[x0, x1, x2, x3, x4, x5] t)).cell? p := fun p hp => h.cell hp
 refine ⟨?_, ?_, ?_, ?_, ?_, ?_⟩ <;> (rw [h' _ (by simp)]; simp)

/-- Of the row that is filled: its cells at a place are there, and free. -/
theorem row6 {w : World} {base t gb n j : Nat} {xs : List Value} (h : w.ownsRow base t 6 (.slice (some ⟨gb, 0, none⟩) n n) n xs) (hj : j < n) :
  ∃ y0 y1 y2 y3 y4 y5 : Value, ∀ w' : World, w'.ownsRow base t 6 (.slice (some ⟨gb, 0, none⟩) n n) n xs → w'.cell? ⟨gb, j * 6, none⟩ = some y0 ∧ w'.cell? ⟨gb, j * 6 + 1, none⟩ = some y1 ∧ w'.cell? ⟨gb, j * 6 + 2, none⟩ = some y2 ∧ w'.cell? ⟨gb, j * 6 + 3, none⟩ = some y3 ∧ w'.cell? ⟨gb, j * 6 + 4, none⟩ = some y4 ∧ w'.cell? ⟨gb, j * 6 + 5, none⟩ = some y5 ∧
   w'.frozen? ⟨gb, j * 6, none⟩ = false ∧ w'.frozen? ⟨gb, j * 6 + 1, none⟩ = false ∧ w'.frozen? ⟨gb, j * 6 + 2, none⟩ = false ∧ w'.frozen? ⟨gb, j * 6 + 3, none⟩ = false ∧ w'.frozen? ⟨gb, j * 6 + 4, none⟩ = false ∧ w'.frozen? ⟨gb, j * 6 + 5, none⟩ = false := by
 have hxl : xs.length = n * 6 := by have := h.1; simpa using this
 refine ⟨xs[j * 6]'(by omega), xs[j * 6 + 1]'(by omega), xs[j * 6 + 2]'(by omega), xs[j * 6 + 3]'(by omega), xs[j * 6 + 4]'(by omega), xs[j * 6 + 5]'(by omega), fun w' k => ?_⟩
 exact ⟨(k.cellAt _ (by omega)).trans (List.getElem?_eq_getElem (by omega)), (k.cellAt _ (by omega)).trans (List.getElem?_eq_getElem (by omega)), (k.cellAt _ (by omega)).trans (List.getElem?_eq_getElem (by omega)), (k.cellAt _ (by omega)).trans (List.getElem?_eq_getElem (by omega)), (k.cellAt _ (by omega)).trans (List.getElem?_eq_getElem (by omega)), (k.cellAt _ (by omega)).trans (List.getElem?_eq_getElem (by omega)),
  k.frozenAt _, k.frozenAt _, k.frozenAt _, k.frozenAt _, k.frozenAt _, k.frozenAt _⟩

theorem afterBox {w w1 : World} {o : Obj} (h : Below (w.heap.size + 1) (w.alloc o) w1) : Below w.heap.size w w1 := ((Below.refl _ w).alloc (Nat.le_refl _) o).trans (h.mono (by omega))

/-- What is put into the row leaves the box. -/
theorem box_put {w4 : World} {g b o : Nat} {s a0 a1 a2 a3 a4 : Value} {x0 x1 x2 x3 x4 x5 : Value} (hne : b ≠ g) (h : w4.cell? ⟨b, 0, none⟩ = some x0 ∧ w4.cell? ⟨b, 1, none⟩ = some x1 ∧ w4.cell? ⟨b, 2, none⟩ = some x2 ∧ w4.cell? ⟨b, 3, none⟩ = some x3 ∧ w4.cell? ⟨b, 4, none⟩ = some x4 ∧ w4.cell? ⟨b, 5, none⟩ = some x5) :
  let u := (((((w4.setCell ⟨g, o, none⟩ s).setCell ⟨g, o + 1, none⟩ a0).setCell ⟨g, o + 2, none⟩ a1).setCell ⟨g, o + 3, none⟩ a2).setCell ⟨g, o + 4, none⟩ a3).setCell ⟨g, o + 5, none⟩ a4
  u.cell? ⟨b, 0, none⟩ = some x0 ∧ u.cell? ⟨b, 1, none⟩ = some x1 ∧ u.cell? ⟨b, 2, none⟩ = some x2 ∧ u.cell? ⟨b, 3, none⟩ = some x3 ∧ u.cell? ⟨b, 4, none⟩ = some x4 ∧ u.cell? ⟨b, 5, none⟩ = some x5 := by
 intro u
 have e : ∀ q, u.cell? ⟨b, q, none⟩ = w4.cell? ⟨b, q, none⟩ := fun q => by
  simp only [u];rw [cell_setCell_other hne, cell_setCell_other hne, cell_setCell_other hne, cell_setCell_other hne, cell_setCell_other hne, cell_setCell_other hne]
 simp only [e];exact h

end Go.Proofs.Ytjngbogbbglbnab
