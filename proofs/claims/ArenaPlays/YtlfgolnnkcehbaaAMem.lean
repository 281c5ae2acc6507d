/- What is changed and what not; rows of words. -/
import Derived.Test.YtlfgolnnkcehbaaProg
import Derived.WalkKit
import Derived.ProofKit
namespace Go.Proofs.Ytlfgolnnkcehbaa
open Go.RowKit

theorem mkHid {p : Prop} (h : p) : Hid p := h

/-- Nothing that was there is changed but in the blocks that p names. -/
structure Chg (p : Nat → Prop) (w w' : World) : Prop where
  os : w'.os = w.os
  tape : w'.tape = w.tape
  output : w'.output = w.output
  size : w.heap.size ≤ w'.heap.size
  block : ∀ k, k < w.heap.size → ¬ p k → w'.heap[k]? = w.heap[k]?
theorem Chg.refl (p : Nat → Prop) (w : World) : Chg p w w := ⟨rfl, rfl, rfl, Nat.le_refl _, fun _ _ _ => rfl⟩
theorem Chg.of_below {p : Nat → Prop} {w w' : World} (h : RowKit.Below w.heap.size w w') : Chg p w w' := ⟨h.os, h.tape, h.output, h.size, fun k hk _ => h.block k hk⟩
theorem Chg.below {w w' : World} (h : Chg (fun _ => False) w w') : RowKit.Below w.heap.size w w' := ⟨h.os, h.tape, h.output, h.size, fun k hk => h.block k hk (fun h => h)⟩
theorem Chg.trans {p : Nat → Prop} {w w1 w2 : World} (h : Chg p w w1) (g : Chg p w1 w2) : Chg p w w2 :=
  ⟨g.os.trans h.os, g.tape.trans h.tape, g.output.trans h.output, Nat.le_trans h.size g.size, fun k hk hn => (g.block k (Nat.lt_of_lt_of_le hk h.size) hn).trans (h.block k hk hn)⟩
theorem Chg.mono {p q : Nat → Prop} {w w' : World} (h : Chg p w w') (hpq : ∀ k, k < w.heap.size → p k → q k) : Chg q w w' := ⟨h.os, h.tape, h.output, h.size, fun k hk hn => h.block k hk (fun hp => hn (hpq k hk hp))⟩
theorem Chg.drew {p : Nat → Prop} {w w' : World} (h : Chg p w w') : Chg p w w'.drew := ⟨h.os, h.tape, h.output, h.size, h.block⟩
theorem Chg.setCell {p : Nat → Prop} {w w' : World} (h : Chg p w w') {b : Nat} (hb : p b ∨ w.heap.size ≤ b) (o : Nat) (v : Value) : Chg p w (w'.setCell ⟨b, o, none⟩ v) := by
  have hb' := (RowKit.Below.refl 0 w').setCell (p := ⟨b, o, none⟩) (Nat.zero_le _) v
  refine ⟨hb'.os.trans h.os, hb'.tape.trans h.tape, hb'.output.trans h.output, Nat.le_trans h.size hb'.size, fun k hk hn => ?_⟩
  have hne : k ≠ b := by
    rintro rfl
    rcases hb with hp | hs
    · exact hn hp
    · omega
  rw [RowKit.Below.heap_setCell w' ⟨b, o, none⟩ v k hne]
  exact h.block k hk hn

/-- A row of words lies in a block of its own. -/
def wcells (l : List Nat) : Array Value := (l.map fun x : Nat => Value.int .u64 (x : Int)).toArray
def Wds (w : World) (b t : Nat) (l : List Nat) : Prop := w.heap[b]? = some (.cells (wcells l) t (0, 0))
theorem Wds.lt {w : World} {b t : Nat} {l : List Nat} (h : Wds w b t l) : b < w.heap.size := (Array.getElem?_eq_some_iff.1 h).1
theorem Wds.cell {w : World} {b t : Nat} {l : List Nat} (h : Wds w b t l) {i : Nat} (hi : i < l.length) : w.cell? ⟨b, i, none⟩ = some (.int .u64 ((l.getD i 0 : Nat) : Int)) := by
  rw [cell_of_row w b i _ _ _ h]
  simp [wcells, hi]
theorem Wds.free {w : World} {b t : Nat} {l : List Nat} (h : Wds w b t l) (i : Nat) : w.frozen? ⟨b, i, none⟩ = false := frozen_of_row w b i _ _ h
theorem Wds.set {w : World} {b t : Nat} {l : List Nat} (h : Wds w b t l) (i x : Nat) : Wds (w.setCell ⟨b, i, none⟩ (.int .u64 (x : Int))) b t (l.set i x) := by
  unfold Wds
  rw [heap_setCell_same w b i _ _ _ h]
  simp [wcells, List.map_set]
theorem Wds.other {w : World} {b t : Nat} {l : List Nat} (h : Wds w b t l) {g i : Nat} {u : Value} (hne : b ≠ g) : Wds (w.setCell ⟨g, i, none⟩ u) b t l := by
  unfold Wds
  rw [RowKit.Below.heap_setCell w ⟨g, i, none⟩ u b hne]
  exact h
theorem Wds.chg {w w' : World} {p : Nat → Prop} {b t : Nat} {l : List Nat} (h : Wds w b t l) (hc : Chg p w w') (hn : ¬ p b) : Wds w' b t l := by
  unfold Wds
  rw [hc.block b h.lt hn]
  exact h
theorem Wds.drew {w : World} {b t : Nat} {l : List Nat} (h : Wds w b t l) : Wds w.drew b t l := h
end Go.Proofs.Ytlfgolnnkcehbaa
