/- Memory with some blocks struck out: trees that lie outside of them. (No walk.) -/
import Derived.Test.YtjngbogbbglbnabZPaSpl
namespace Go.Proofs.Ytjngbogbbglbnab
open Go.RowKit

/-- The memory without the blocks from B on, below C. -/
def veil (B C : Nat) (w : World) : World := { w with heap := w.heap.mapIdx fun i o => if B ≤ i ∧ i < C then .cells #[] 0 (0, 0) else o }
theorem veil_block {B C b : Nat} {w : World} (h : ¬ (B ≤ b ∧ b < C)) : (veil B C w).heap[b]? = w.heap[b]? := by
 unfold veil;simp only [Array.getElem?_mapIdx]
 cases hx : w.heap[b]? with
 | none => rfl
 | some x => simp only [Option.map_some, if_neg h]
theorem veil_cell {B C b o : Nat} {w : World} {u : Value} : (veil B C w).cell? ⟨b, o, none⟩ = some u ↔ ¬ (B ≤ b ∧ b < C) ∧ w.cell? ⟨b, o, none⟩ = some u := by
 by_cases h : B ≤ b ∧ b < C
 ·constructor
  ·intro h1;unfold veil World.cell? at h1;simp only [Array.getElem?_mapIdx] at h1
   cases hx : w.heap[b]? with
   | none => rw [hx] at h1; simp at h1
   | some x => rw [hx] at h1; simp [h] at h1
  ·rintro ⟨h1, _⟩; exact absurd h h1
 ·rw [World.cell?_of_block (a := ⟨b, o, none⟩) (veil_block h)];exact ⟨fun h1 => ⟨h, h1⟩, fun h1 => h1.2⟩
theorem lt_of_cell {w : World} {b o : Nat} {u : Value} (h : w.cell? ⟨b, o, none⟩ = some u) : b < w.heap.size := by
 unfold World.cell? at h
 rcases Nat.lt_or_ge b w.heap.size with h1 | h1
 ·exact h1
 ·rw [Array.getElem?_eq_none h1] at h;simp at h
/-- What lies outside stays, where nothing outside is changed. -/
theorem veil_keep {B C B' C' : Nat} {w w' : World} (hs : ∀ b, B' ≤ b → b < C' → b < w.heap.size → B ≤ b ∧ b < C) (hc : ∀ b, ¬ (B ≤ b ∧ b < C) → b < w.heap.size → w'.heap[b]? = w.heap[b]?) :
  ∀ b o u, (veil B C w).cell? ⟨b, o, none⟩ = some u → (veil B' C' w').cell? ⟨b, o, none⟩ = some u := by
 intro b o u h;obtain ⟨h1, h2⟩ := veil_cell.1 h;have hlt := lt_of_cell h2;exact veil_cell.2 ⟨fun h3 => h1 (hs b h3.1 h3.2 hlt), (World.cell?_of_block (a := ⟨b, o, none⟩) (hc b h1 hlt)).trans h2⟩
theorem veil_below {B C : Nat} {w w' : World} (hb : Below w.heap.size w w') : ∀ b o u, (veil B C w).cell? ⟨b, o, none⟩ = some u → (veil B C w').cell? ⟨b, o, none⟩ = some u :=
 veil_keep (fun _ h1 h2 _ => ⟨h1, h2⟩) (fun b _ hlt => hb.block b hlt)
theorem veil_set {B C r i : Nat} {w : World} (hr : B ≤ r ∧ r < C) (x : Value) : ∀ b o u, (veil B C w).cell? ⟨b, o, none⟩ = some u → (veil B C (w.setCell ⟨r, i, none⟩ x)).cell? ⟨b, o, none⟩ = some u :=
 veil_keep (fun _ h1 h2 _ => ⟨h1, h2⟩) (fun b hb _ => Below.heap_setCell w ⟨r, i, none⟩ x b (by show b ≠ r; intro e; exact hb (e ▸ hr)))
theorem veil_off {B C : Nat} {w : World} : ∀ b o u, (veil B C w).cell? ⟨b, o, none⟩ = some u → w.cell? ⟨b, o, none⟩ = some u := fun _ _ _ h => (veil_cell.1 h).2
/-- More is struck out that was not there. -/
theorem veil_more {B C C' : Nat} {w w' : World} (hC : w.heap.size ≤ C) (hb : Below w.heap.size w w') : ∀ b o u, (veil B C w).cell? ⟨b, o, none⟩ = some u → (veil B C' w').cell? ⟨b, o, none⟩ = some u := by
 intro b o u h;obtain ⟨h1, h2⟩ := veil_cell.1 h;have hlt := lt_of_cell h2;exact veil_cell.2 ⟨fun h3 => h1 ⟨h3.1, by omega⟩, below_keeps hb _ _ _ h2⟩
theorem veil_less {B C C' : Nat} {w : World} (hC : C ≤ C') : ∀ b o u, (veil B C' w).cell? ⟨b, o, none⟩ = some u → (veil B C w).cell? ⟨b, o, none⟩ = some u := by
 intro b o u h;obtain ⟨h1, h2⟩ := veil_cell.1 h;exact veil_cell.2 ⟨fun h3 => h1 ⟨h3.1, by omega⟩, h2⟩
theorem veil_own {B C b0 t q n : Nat} {w : World} {v : Value} {xs : List Value} (h : w.ownsRow b0 t q v n xs) (hC : C ≤ b0) : (veil B C w).ownsRow b0 t q v n xs := by
 refine ⟨h.1, ?_⟩
 rcases h.2 with h1 | ⟨g, cap, cur, e, hg, hb, rest⟩
 ·exact Or.inl h1
 ·exact Or.inr ⟨g, cap, cur, e, hg, by rw [veil_block (by omega)]; exact hb, rest⟩
end Go.Proofs.Ytjngbogbbglbnab
