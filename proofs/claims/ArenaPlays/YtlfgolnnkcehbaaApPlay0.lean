/- The statements' own play: boxes (no walk; written by tools/mkapplay.py). -/
import Derived.Test.YtlfgolnnkcehbaaApBoth
import Derived.BigQuiet
namespace Go.Proofs.Ytlfgolnnkcehbaa
open Go.RowKit

theorem six_cells {w : World} {M : Nat} {v0 v1 v2 v3 v4 v5 : Value} {T : TypeId} (h : w.heap[M]? = some (.cells #[v0, v1, v2, v3, v4, v5] T (0, 0))) : w.cell? ⟨M, 0, none⟩ = some v0 ∧ w.cell? ⟨M, 1, none⟩ = some v1 ∧ w.cell? ⟨M, 2, none⟩ = some v2 ∧ w.cell? ⟨M, 3, none⟩ = some v3 ∧ w.cell? ⟨M, 4, none⟩ = some v4 ∧ w.cell? ⟨M, 5, none⟩ = some v5 := ⟨cell_of_row w M 0 _ _ _ h, cell_of_row w M 1 _ _ _ h, cell_of_row w M 2 _ _ _ h, cell_of_row w M 3 _ _ _ h, cell_of_row w M 4 _ _ _ h, cell_of_row w M 5 _ _ _ h⟩
/-- Three structs in boxes. -/
theorem boxes7 (w : World) (v0 v1 v2 v3 v4 d0 d1 d2 d3 d4 d5 u0 u1 u2 u3 u4 : Value) (T D U : TypeId) : ∃ W0, W0 = ((w.alloc (.cells #[v0, v1, v2, v3, v4] T)).alloc (.cells #[d0, d1, d2, d3, d4, d5] D)).alloc (.cells #[u0, u1, u2, u3, u4] U) ∧ Below w.heap.size w W0 ∧ W0.heap.size = w.heap.size + 3 ∧ W0.heap[w.heap.size]? = some (.cells #[v0, v1, v2, v3, v4] T (0, 0)) ∧ W0.heap[w.heap.size + 1]? = some (.cells #[d0, d1, d2, d3, d4, d5] D (0, 0)) ∧ W0.heap[w.heap.size + 2]? = some (.cells #[u0, u1, u2, u3, u4] U (0, 0)) := by
  refine ⟨_, rfl, (((Below.refl _ _).alloc (Nat.le_refl _) _).alloc (by simp) _).alloc (by simp; omega) _, by simp, ?_, ?_, ?_⟩
  · rw [heap_alloc_old _ _ (by simp; omega), heap_alloc_old _ _ (by simp)]; exact heap_alloc_new w _
  · have e : (w.alloc (.cells #[v0, v1, v2, v3, v4] T)).heap.size = w.heap.size + 1 := by simp
    rw [heap_alloc_old _ _ (by simp), ← e]; exact heap_alloc_new _ _
  · have e : ((w.alloc (.cells #[v0, v1, v2, v3, v4] T)).alloc (.cells #[d0, d1, d2, d3, d4, d5] D)).heap.size = w.heap.size + 2 := by simp
    rw [← e]; exact heap_alloc_new _ _
/-- What play tells, and leaves. -/
def PlaySay7 (own : Nat → Prop) (w : World) (A W B cap : Nat) (x : Ending) (w' : World) : Prop := ∃ la lc ha hc Lo Hi e op, x = .returned (.tuple #[mV cap la lc ha hc Lo Hi e op, .bool true]) ∧ Chg (mine A W B) w w' ∧ AT w' A W B cap Lo Hi e op ∧ MA own w' la lc ha hc Lo Hi
theorem set5_up {p : Nat → Prop} {w u : World} {b : Nat} (h : Chg p w u) (hb : w.heap.size ≤ b) (v0 v1 v2 v3 v4 : Value) : Chg p w (((((u.setCell ⟨b, 0, none⟩ v0).setCell ⟨b, 1, none⟩ v1).setCell ⟨b, 2, none⟩ v2).setCell ⟨b, 3, none⟩ v3).setCell ⟨b, 4, none⟩ v4) := ((((h.setCell (Or.inr hb) _ _).setCell (Or.inr hb) _ _).setCell (Or.inr hb) _ _).setCell (Or.inr hb) _ _).setCell (Or.inr hb) _ _
theorem cell_blk {w w' : World} {b i : Nat} (h : w'.heap[b]? = w.heap[b]?) : w'.cell? ⟨b, i, none⟩ = w.cell? ⟨b, i, none⟩ := by unfold World.cell?; simp only [h]
theorem cell_set5 {w : World} {b k i : Nat} {v0 v1 v2 v3 v4 : Value} (h : k ≠ b) : (((((w.setCell ⟨b, 0, none⟩ v0).setCell ⟨b, 1, none⟩ v1).setCell ⟨b, 2, none⟩ v2).setCell ⟨b, 3, none⟩ v3).setCell ⟨b, 4, none⟩ v4).cell? ⟨k, i, none⟩ = w.cell? ⟨k, i, none⟩ := by
  refine cell_blk ?_
  rw [set1_ne _ h, set1_ne _ h, set1_ne _ h, set1_ne _ h, set1_ne _ h]
theorem cell_dr (u : World) (a : Addr) : u.drew.cell? a = u.cell? a := rfl
theorem cell_set5d {w : World} {b k i : Nat} {v0 v1 v2 v3 v4 : Value} (h : k ≠ b) : (World.drew (((((w.setCell ⟨b, 0, none⟩ v0).setCell ⟨b, 1, none⟩ v1).setCell ⟨b, 2, none⟩ v2).setCell ⟨b, 3, none⟩ v3).setCell ⟨b, 4, none⟩ v4)).cell? ⟨k, i, none⟩ = w.cell? ⟨k, i, none⟩ := (cell_dr _ _).trans (cell_set5 h)
/-- A box written that nobody else has. -/
theorem AT.set5 {w : World} {A W B cap : Nat} {Lo Hi : List Ob} {e : Nat} {op : Bool} (h : AT w A W B cap Lo Hi e op) {b : Nat} (hb : ¬ mine A W B b) (v0 v1 v2 v3 v4 : Value) : AT (((((w.setCell ⟨b, 0, none⟩ v0).setCell ⟨b, 1, none⟩ v1).setCell ⟨b, 2, none⟩ v2).setCell ⟨b, 3, none⟩ v3).setCell ⟨b, 4, none⟩ v4) A W B cap Lo Hi e op := by
  exact h.same fun k hk => (set5_chg (p := fun k => k = b) rfl v0 v1 v2 v3 v4).block k (h.mine_lt k hk) (fun e => by rw [e] at hk; exact hb hk)
end Go.Proofs.Ytlfgolnnkcehbaa
