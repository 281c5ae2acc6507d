/- Boxes and the facts that are carried through a walk; two values in a row; Zero of the zero value. -/
import Derived.Test.YtjngbogbbglbnabZPaAwake
import Derived.Test.YtjngbogbbglbnabZWalked
namespace Go.Proofs.Ytjngbogbbglbnab
open Go.RowKit

/-- A box: a value's five cells, and its tree. -/
def Box (u : World) (b : Nat) (g : GV) (k n : Int) (s : ByteArray) (la : Option Addr) (ln lc : Nat) (fa : Option Addr) (fn fc : Nat) : Prop :=
 Blk5 u b (.int .i64 k) (.int .i64 n) (.string s) (.slice la ln lc) (.slice fa fn fc) ∧ Lies u g (.agg #[.int .i64 k, .int .i64 n, .string s, .slice la ln lc, .slice fa fn fc])
theorem hgrow {W W' : World} {P : World → Prop} (h : Hid (∀ u, Below W.heap.size W u → P u)) (b : Below W.heap.size W W') : Hid (∀ u, Below W'.heap.size W' u → P u) :=
 hidI (fun u hu => h.out u (b.trans (hu.mono b.size)))
theorem hbox {W : World} {P : World → Prop} {g : GV} {k n : Int} {s : ByteArray} {la : Option Addr} {ln lc : Nat} {fa : Option Addr} {fn fc : Nat} (h : Hid (∀ u, Below W.heap.size W u → P u)) (hL : Lies W g (.agg #[.int .i64 k, .int .i64 n, .string s, .slice la ln lc, .slice fa fn fc])) :
  Hid (∀ u, Below (W.alloc (.cells #[.int .i64 k, .int .i64 n, .string s, .slice la ln lc, .slice fa fn fc] 25)).heap.size (W.alloc (.cells #[.int .i64 k, .int .i64 n, .string s, .slice la ln lc, .slice fa fn fc] 25)) u → P u ∧ Box u W.heap.size g k n s la ln lc fa fn fc) :=
 have ha : Below W.heap.size W (W.alloc (.cells #[.int .i64 k, .int .i64 n, .string s, .slice la ln lc, .slice fa fn fc] 25)) := (Below.refl _ _).alloc (Nat.le_refl _) _
 hidI (fun u hu => ⟨h.out u (ha.trans (hu.mono ha.size)), Blk5.below (Blk5.new W _ _ _ _ _) hu, (hL.below ha).below hu⟩)
theorem hdrop {W : World} {P : World → Prop} {xs : Array Value} (h : Hid (∀ u, Below W.heap.size W u → P u)) :
  Hid (∀ u, Below (W.alloc (.cells xs 25)).heap.size (W.alloc (.cells xs 25)) u → P u) := hgrow h ((Below.refl _ _).alloc (Nat.le_refl _) _)
theorem set_five {B b : Nat} {w W : World} {v0 v1 v2 v3 v4 : Value} (h : Below B w W) (hb : B ≤ b) : Below B w (((((W.setCell ⟨b, 0, none⟩ v0).setCell ⟨b, 1, none⟩ v1).setCell ⟨b, 2, none⟩ v2).setCell ⟨b, 3, none⟩ v3).setCell ⟨b, 4, none⟩ v4) :=
 ((((h.setCell (show B ≤ b from hb) _).setCell (show B ≤ b from hb) _).setCell (show B ≤ b from hb) _).setCell (show B ≤ b from hb) _).setCell (show B ≤ b from hb) _
theorem vals_one {w : World} {b t : Nat} {g0 : GV} {x0 x1 x2 x3 x4 : Value} (h : w.heap[b]? = some (.cells #[x0, x1, x2, x3, x4] t (0, 0))) (h0 : Lies w g0 (.agg #[x0, x1, x2, x3, x4])) :
  Vals w (some ⟨b, 0, none⟩) 1 (fun _ => g0) := by
 have hc : ∀ j, w.cell? ⟨b, j, none⟩ = #[x0, x1, x2, x3, x4][j]? := fun j => cell_of_row _ _ _ _ _ _ h
 intro i hi;obtain rfl : i = 0 := by omega
 refine ⟨b, 0, _, rfl, h0, fun j hj => ?_⟩;rw [hc];obtain rfl | rfl | rfl | rfl | rfl : j = 0 ∨ j = 1 ∨ j = 2 ∨ j = 3 ∨ j = 4 := by omega
 all_goals rfl
theorem vals_two {w : World} {b t : Nat} {g0 g1 : GV} {x0 x1 x2 x3 x4 y0 y1 y2 y3 y4 : Value} (h : w.heap[b]? = some (.cells #[x0, x1, x2, x3, x4, y0, y1, y2, y3, y4] t (0, 0))) (h0 : Lies w g0 (.agg #[x0, x1, x2, x3, x4])) (h1 : Lies w g1 (.agg #[y0, y1, y2, y3, y4])) :
  Vals w (some ⟨b, 0, none⟩) 2 (fun i => if i = 0 then g0 else g1) := by
 have hc : ∀ j, w.cell? ⟨b, j, none⟩ = #[x0, x1, x2, x3, x4, y0, y1, y2, y3, y4][j]? := fun j => cell_of_row _ _ _ _ _ _ h
 intro i hi
 obtain rfl | rfl : i = 0 ∨ i = 1 := by omega
 ·refine ⟨b, 0, _, rfl, h0, fun j hj => ?_⟩;rw [hc];obtain rfl | rfl | rfl | rfl | rfl : j = 0 ∨ j = 1 ∨ j = 2 ∨ j = 3 ∨ j = 4 := by omega
  all_goals rfl
 ·refine ⟨b, 0, _, rfl, h1, fun j hj => ?_⟩;rw [hc];obtain rfl | rfl | rfl | rfl | rfl : j = 0 ∨ j = 1 ∨ j = 2 ∨ j = 3 ∨ j = 4 := by omega
  all_goals rfl
end Go.Proofs.Ytjngbogbbglbnab
