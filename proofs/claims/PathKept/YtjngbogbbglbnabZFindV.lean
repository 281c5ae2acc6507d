/- The walk of value.Find: the value of the first field of that name, in new memory. -/
import Derived.Test.YtjngbogbbglbnabZFreshA
import Derived.Test.YtjngbogbbglbnabZSame2
namespace Go.Proofs.Ytjngbogbbglbnab
open Go.RowKit

def gZ : GV := .mk 0 0 ⟨#[]⟩ 0 (fun _ => .nil) 0 (fun _ => ⟨#[]⟩) (fun _ => .nil)
def vZ : Value := .agg #[.int .i64 0, .int .i64 0, .string ⟨#[]⟩, .slice none 0 0, .slice none 0 0]
theorem lies_Z (w : World) : Lies w gZ vZ :=
 ⟨none, 0, none, 0, rfl, small64 (by omega), small64 (by omega), by show 0 ≤ _; omega, Nat.le_refl _, by unfold maxLen; omega, Nat.le_refl _, by unfold maxLen; omega, fun i hi => absurd hi (Nat.not_lt_zero _), fun i hi => absurd hi (Nat.not_lt_zero _)⟩
theorem from_Z (B : Nat) (w : World) : From B w gZ vZ := lies_Z _
/-- The field of that name that stands first. -/
def findAt (nm : Nat → ByteArray) (name : ByteArray) : Nat → Option Nat
 | 0 => none
 | n + 1 => match findAt nm name n with
  | some i => some i
  | none => if nm n = name then some n else none
def GV.find : GV → ByteArray → Option GV
 | .nil, _ => none
 | .mk k _ _ _ _ fn nm f, name => if k = 6 then (findAt nm name fn).map f else none

theorem findAt_none {nm : Nat → ByteArray} {name : ByteArray} : ∀ {n}, (∀ i, i < n → nm i ≠ name) → findAt nm name n = none
 | 0, _ => rfl
 | n + 1, h => by
  rw [findAt, findAt_none (n := n) fun i hi => h i (by omega)];simp [h n (by omega)]
theorem findAt_some {nm : Nat → ByteArray} {name : ByteArray} {j : Nat} (hj : nm j = name) (h : ∀ i, i < j → nm i ≠ name) : ∀ {n}, j < n → findAt nm name n = some j
 | 0, hn => absurd hn (Nat.not_lt_zero _)
 | n + 1, hn => by
  rw [findAt]
  by_cases hjn : j < n
  ·rw [findAt_some hj h hjn]
  ·obtain rfl : j = n := by omega
   rw [findAt_none h];simp [hj]

theorem Top.setCell {B : Nat} {w : World} {v : Value} (h : Top B w v) {b i : Nat} (hb : b < B) (u : Value) : Top B (w.setCell ⟨b, i, none⟩ u) v := by
 obtain ⟨k, n, s, la, ln, lc, fa, fn, fc, xs, ys, e, h1, h2⟩ := h;exact ⟨k, n, s, la, ln, lc, fa, fn, fc, xs, ys, e, ownsRow_setCell_below h1 hb u, ownsRow_setCell_below h2 hb u⟩
theorem Top.le {B B' : Nat} {w : World} {v : Value} (h : Top B w v) (hB : B' ≤ B) : Top B' w v := by
 obtain ⟨k, n, s, la, ln, lc, fa, fn, fc, xs, ys, e, h1, h2⟩ := h;exact ⟨k, n, s, la, ln, lc, fa, fn, fc, xs, ys, e, ownsRow_le h1 hB, ownsRow_le h2 hB⟩

/-- A value and whether it is one. -/
def optSay (o : Option GV) : GV := o.getD gZ

theorem box2_cells {w w1 : World} {x0 x1 x2 x3 x4 y0 y1 y2 y3 y4 : Value} (h : Below (w.heap.size + 2) ((w.alloc (.cells #[x0, x1, x2, x3, x4] 25)).alloc (.cells #[y0, y1, y2, y3, y4] 25)) w1) :
  Blk5 w1 w.heap.size x0 x1 x2 x3 x4 ∧ Blk5 w1 (w.heap.size + 1) y0 y1 y2 y3 y4 := by
 have hs : ((w.alloc (.cells #[x0, x1, x2, x3, x4] 25)).alloc (.cells #[y0, y1, y2, y3, y4] 25)).heap.size = w.heap.size + 2 := by simp
 have p0 : Blk5 ((w.alloc (.cells #[x0, x1, x2, x3, x4] 25)).alloc (.cells #[y0, y1, y2, y3, y4] 25)) w.heap.size x0 x1 x2 x3 x4 := (Blk5.new w _ _ _ _ _).below ((Below.refl _ _).alloc (Nat.le_refl _) _)
 have r0 : Blk5 ((w.alloc (.cells #[x0, x1, x2, x3, x4] 25)).alloc (.cells #[y0, y1, y2, y3, y4] 25)) (w.heap.size + 1) y0 y1 y2 y3 y4 := by
  have := Blk5.new (w.alloc (.cells #[x0, x1, x2, x3, x4] 25)) y0 y1 y2 y3 y4;simpa using this
 rw [← hs] at h;exact ⟨p0.below h, r0.below h⟩

end Go.Proofs.Ytjngbogbbglbnab
