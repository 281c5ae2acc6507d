/- Memory: what a call leaves as it was; rows of bytes; small blocks. (No walk.) -/
import Derived.Test.YticbcoklpgfkhaaKyBase
import Derived.BigQuiet
import Derived.Deep.QuietTactic
import Derived.ScopeJumps
import Derived.WalkMore
import Derived.WalkSmall
import Derived.Maps.AppendAt
namespace Go.Proofs.Yticbcoklpgfkhaa
open Go.RowKit

/-- Nothing that was there is changed but in one block. -/
structure OnlyAt (R : Nat) (w w' : World) : Prop where
  os : w'.os = w.os
  tape : w'.tape = w.tape
  output : w'.output = w.output
  size : w.heap.size ≤ w'.heap.size
  block : ∀ k, k < w.heap.size → k ≠ R → w'.heap[k]? = w.heap[k]?
theorem OnlyAt.refl (R : Nat) (w : World) : OnlyAt R w w := ⟨rfl, rfl, rfl, Nat.le_refl _, fun _ _ _ => rfl⟩
theorem OnlyAt.trans {R : Nat} {w w1 w2 : World} (h : OnlyAt R w w1) (g : OnlyAt R w1 w2) : OnlyAt R w w2 :=
  ⟨g.os.trans h.os, g.tape.trans h.tape, g.output.trans h.output, Nat.le_trans h.size g.size, fun k hk hn => (g.block k (Nat.lt_of_lt_of_le hk h.size) hn).trans (h.block k hk hn)⟩
theorem OnlyAt.below {R B : Nat} {w w' : World} (h : OnlyAt R w w') (hB : B ≤ R) (hw : B ≤ w.heap.size) : RowKit.Below B w w' :=
  ⟨h.os, h.tape, h.output, h.size, fun k hk => h.block k (by omega) (by omega)⟩
theorem OnlyAt.drewN {R : Nat} {w w' : World} (h : OnlyAt R w w') (q : Nat) : OnlyAt R w (w'.drewN q) := ⟨h.os, h.tape, h.output, h.size, h.block⟩
theorem OnlyAt.setCell {R : Nat} {w w' : World} (h : OnlyAt R w w') (o : Nat) (v : Value) : OnlyAt R w (w'.setCell ⟨R, o, none⟩ v) := by
  have hb := (RowKit.Below.refl 0 w').setCell (p := ⟨R, o, none⟩) (Nat.zero_le _) v
  exact ⟨hb.os.trans h.os, hb.tape.trans h.tape, hb.output.trans h.output, Nat.le_trans h.size hb.size, fun k hk hn => by rw [RowKit.Below.heap_setCell w' ⟨R, o, none⟩ v k hn]; exact h.block k hk hn⟩
/-- A row of bytes. -/
def Byts (w : World) (a : Option Addr) (l : List UInt8) : Prop := ∀ i (h : i < l.length), ∃ b o, a = some ⟨b, o, none⟩ ∧ w.cell? ⟨b, o + i, none⟩ = some (.int .u8 ((l[i]'h).toNat : Int))
theorem cell_lt' {w : World} {b o : Nat} {u : Value} (h : w.cell? ⟨b, o, none⟩ = some u) : b < w.heap.size := by
  unfold World.cell? at h
  cases e : w.heap[b]? with
  | none => simp [e] at h
  | some x => exact (Array.getElem?_eq_some_iff.1 e).1
theorem Byts.below {w w' : World} {a : Option Addr} {l : List UInt8} (h : Byts w a l) (hb : RowKit.Below w.heap.size w w') : Byts w' a l := by
  intro i hi
  obtain ⟨b, o, e, hc⟩ := h i hi
  exact ⟨b, o, e, by rw [hb.cell (p := ⟨b, o + i, none⟩) (cell_lt' hc)]; exact hc⟩
/-- The bytes lie in another block than the reader. -/
def Apart (R : Nat) (a : Option Addr) (l : List UInt8) : Prop := 0 < l.length → ∀ x, a = some x → x.block ≠ R
theorem Byts.apart {w : World} {R : Nat} {a : Option Addr} {l : List UInt8} (h : Byts w a l) (hR : w.heap.size ≤ R) : Apart R a l := by
  intro h0 x hx
  obtain ⟨b, o, e, hc⟩ := h 0 h0
  have := cell_lt' hc
  rw [hx] at e
  cases e
  show b ≠ R
  omega
theorem Byts.only {w w' : World} {R : Nat} {a : Option Addr} {l : List UInt8} (h : Byts w a l) (hb : OnlyAt R w w') (ha : Apart R a l) : Byts w' a l := by
  intro i hi
  obtain ⟨b, o, e, hc⟩ := h i hi
  refine ⟨b, o, e, ?_⟩
  have hn : b ≠ R := ha (by omega) _ e
  have := hb.block b (cell_lt' hc) hn
  unfold World.cell? at hc ⊢
  rw [this]
  exact hc
theorem OnlyAt.alloc {R : Nat} {w w' : World} (h : OnlyAt R w w') (o : Obj) : OnlyAt R w (w'.alloc o) := by
  have hb := (RowKit.Below.refl w'.heap.size w').alloc (Nat.le_refl _) o
  exact ⟨hb.os.trans h.os, hb.tape.trans h.tape, hb.output.trans h.output, Nat.le_trans h.size hb.size, fun k hk hn => (hb.block k (Nat.lt_of_lt_of_le hk h.size)).trans (h.block k hk hn)⟩
theorem OnlyAt.setNew {R : Nat} {w w' : World} (h : OnlyAt R w w') {b o : Nat} (hb : w.heap.size ≤ b) (v : Value) : OnlyAt R w (w'.setCell ⟨b, o, none⟩ v) := by
  have hb' := (RowKit.Below.refl 0 w').setCell (p := ⟨b, o, none⟩) (Nat.zero_le _) v
  exact ⟨hb'.os.trans h.os, hb'.tape.trans h.tape, hb'.output.trans h.output, Nat.le_trans h.size hb'.size, fun k hk hn => by rw [RowKit.Below.heap_setCell w' ⟨b, o, none⟩ v k (show k ≠ b by omega)]; exact h.block k hk hn⟩
theorem OnlyAt.of_below {R : Nat} {w w' : World} (h : RowKit.Below w.heap.size w w') : OnlyAt R w w' := ⟨h.os, h.tape, h.output, h.size, fun k hk _ => h.block k hk⟩
theorem OnlyAt.drew {R : Nat} {w w' : World} (h : OnlyAt R w w') : OnlyAt R w w'.drew := ⟨h.os, h.tape, h.output, h.size, h.block⟩
/-- A block of five cells, and free. -/
def Blk5 (w : World) (b : Nat) (x0 x1 x2 x3 x4 : Value) : Prop := w.heap[b]? = some (.cells #[x0, x1, x2, x3, x4] 25 (0, 0))
theorem Blk5.cells {w : World} {b : Nat} {x0 x1 x2 x3 x4 : Value} (h : Blk5 w b x0 x1 x2 x3 x4) :
    w.cell? ⟨b, 0, none⟩ = some x0 ∧ w.cell? ⟨b, 1, none⟩ = some x1 ∧ w.cell? ⟨b, 2, none⟩ = some x2 ∧ w.cell? ⟨b, 3, none⟩ = some x3 ∧ w.cell? ⟨b, 4, none⟩ = some x4 := by
  refine ⟨?_, ?_, ?_, ?_, ?_⟩ <;> (rw [cell_of_row w b _ _ _ _ h]; rfl)
theorem Blk5.free {w : World} {b : Nat} {x0 x1 x2 x3 x4 : Value} (h : Blk5 w b x0 x1 x2 x3 x4) :
    w.frozen? ⟨b, 0, none⟩ = false ∧ w.frozen? ⟨b, 1, none⟩ = false ∧ w.frozen? ⟨b, 2, none⟩ = false ∧ w.frozen? ⟨b, 3, none⟩ = false ∧ w.frozen? ⟨b, 4, none⟩ = false :=
  ⟨frozen_of_row w b _ _ _ h, frozen_of_row w b _ _ _ h, frozen_of_row w b _ _ _ h, frozen_of_row w b _ _ _ h, frozen_of_row w b _ _ _ h⟩
theorem Blk5.lt {w : World} {b : Nat} {x0 x1 x2 x3 x4 : Value} (h : Blk5 w b x0 x1 x2 x3 x4) : b < w.heap.size := (Array.getElem?_eq_some_iff.1 h).1
theorem Blk5.below {w w' : World} {b : Nat} {x0 x1 x2 x3 x4 : Value} (h : Blk5 w b x0 x1 x2 x3 x4) (hb : RowKit.Below w.heap.size w w') : Blk5 w' b x0 x1 x2 x3 x4 := by
  unfold Blk5
  rw [hb.block b h.lt]
  exact h
theorem Blk5.only {w w' : World} {R b : Nat} {x0 x1 x2 x3 x4 : Value} (h : Blk5 w b x0 x1 x2 x3 x4) (hb : OnlyAt R w w') (hn : b ≠ R) : Blk5 w' b x0 x1 x2 x3 x4 := by
  unfold Blk5
  rw [hb.block b h.lt hn]
  exact h
theorem Blk5.other {w : World} {b : Nat} {x0 x1 x2 x3 x4 : Value} (h : Blk5 w b x0 x1 x2 x3 x4) {g i : Nat} {u : Value} (hne : b ≠ g) : Blk5 (w.setCell ⟨g, i, none⟩ u) b x0 x1 x2 x3 x4 := by
  unfold Blk5
  rw [RowKit.Below.heap_setCell w ⟨g, i, none⟩ u b hne]
  exact h
theorem Blk5.set0 {w : World} {b : Nat} {x0 x1 x2 x3 x4 u : Value} (h : Blk5 w b x0 x1 x2 x3 x4) : Blk5 (w.setCell ⟨b, 0, none⟩ u) b u x1 x2 x3 x4 := by
  unfold Blk5
  rw [heap_setCell_same w b 0 _ _ u h]
  rfl
theorem Blk5.set1 {w : World} {b : Nat} {x0 x1 x2 x3 x4 u : Value} (h : Blk5 w b x0 x1 x2 x3 x4) : Blk5 (w.setCell ⟨b, 1, none⟩ u) b x0 u x2 x3 x4 := by
  unfold Blk5
  rw [heap_setCell_same w b 1 _ _ u h]
  rfl
theorem Blk5.set2 {w : World} {b : Nat} {x0 x1 x2 x3 x4 u : Value} (h : Blk5 w b x0 x1 x2 x3 x4) : Blk5 (w.setCell ⟨b, 2, none⟩ u) b x0 x1 u x3 x4 := by
  unfold Blk5
  rw [heap_setCell_same w b 2 _ _ u h]
  rfl
theorem Blk5.set3 {w : World} {b : Nat} {x0 x1 x2 x3 x4 u : Value} (h : Blk5 w b x0 x1 x2 x3 x4) : Blk5 (w.setCell ⟨b, 3, none⟩ u) b x0 x1 x2 u x4 := by
  unfold Blk5
  rw [heap_setCell_same w b 3 _ _ u h]
  rfl
theorem Blk5.set4 {w : World} {b : Nat} {x0 x1 x2 x3 x4 u : Value} (h : Blk5 w b x0 x1 x2 x3 x4) : Blk5 (w.setCell ⟨b, 4, none⟩ u) b x0 x1 x2 x3 u := by
  unfold Blk5
  rw [heap_setCell_same w b 4 _ _ u h]
  rfl
theorem Blk5.new (w : World) (x0 x1 x2 x3 x4 : Value) : Blk5 (w.alloc (.cells #[x0, x1, x2, x3, x4] 25)) w.heap.size x0 x1 x2 x3 x4 := heap_alloc_new w _
theorem Blk5.drewN {w : World} {b : Nat} {x0 x1 x2 x3 x4 : Value} (h : Blk5 w b x0 x1 x2 x3 x4) (q : Nat) : Blk5 (w.drewN q) b x0 x1 x2 x3 x4 := h
theorem Blk5.drew {w : World} {b : Nat} {x0 x1 x2 x3 x4 : Value} (h : Blk5 w b x0 x1 x2 x3 x4) : Blk5 w.drew b x0 x1 x2 x3 x4 := h
/-- A block of one cell, and free. -/
def Blk1 (w : World) (b t : Nat) (x : Value) : Prop := w.heap[b]? = some (.cells #[x] t (0, 0))
theorem Blk1.cell {w : World} {b t : Nat} {x : Value} (h : Blk1 w b t x) : w.cell? ⟨b, 0, none⟩ = some x := by rw [cell_of_row w b _ _ _ _ h]; rfl
theorem Blk1.free {w : World} {b t : Nat} {x : Value} (h : Blk1 w b t x) : w.frozen? ⟨b, 0, none⟩ = false := frozen_of_row w b _ _ _ h
theorem Blk1.lt {w : World} {b t : Nat} {x : Value} (h : Blk1 w b t x) : b < w.heap.size := (Array.getElem?_eq_some_iff.1 h).1
theorem Blk1.only {w w' : World} {R b t : Nat} {x : Value} (h : Blk1 w b t x) (hb : OnlyAt R w w') (hn : b ≠ R) : Blk1 w' b t x := by
  unfold Blk1
  rw [hb.block b h.lt hn]
  exact h
theorem Blk1.other {w : World} {b t g i : Nat} {x u : Value} (h : Blk1 w b t x) (hne : b ≠ g) : Blk1 (w.setCell ⟨g, i, none⟩ u) b t x := by
  unfold Blk1
  rw [RowKit.Below.heap_setCell w ⟨g, i, none⟩ u b hne]
  exact h
theorem Blk1.set {w : World} {b t : Nat} {x u : Value} (h : Blk1 w b t x) : Blk1 (w.setCell ⟨b, 0, none⟩ u) b t u := by
  unfold Blk1
  rw [heap_setCell_same w b 0 _ _ u h]
  rfl
theorem Blk1.drew {w : World} {b t : Nat} {x : Value} (h : Blk1 w b t x) : Blk1 w.drew b t x := h
/-- The memory below a block alone. -/
def undr (B : Nat) (w : World) : World := { w with heap := w.heap.mapIdx fun i o => if i < B then o else .cells #[] 0 (0, 0) }
theorem undr_cell {B : Nat} {w : World} {b o : Nat} {u : Value} : (undr B w).cell? ⟨b, o, none⟩ = some u ↔ b < B ∧ w.cell? ⟨b, o, none⟩ = some u := by
  unfold undr World.cell?
  simp only [Array.getElem?_mapIdx]
  by_cases hb : b < B
  · simp only [hb, if_true, true_and]
    cases w.heap[b]? with
    | none => simp
    | some x => simp
  · simp only [hb, if_false, false_and, iff_false]
    cases w.heap[b]? with
    | none => simp
    | some x => simp
/-- The tree lies behind the value, all of it below a block. -/
def Und (B : Nat) (w : World) (g : GV) (v : Value) : Prop := Lies (undr B w) g v
theorem Und.lies {B : Nat} {w : World} {g : GV} {v : Value} (h : Und B w g v) : Lies w g v := Lies.mono (fun _ _ _ hc => (undr_cell.1 hc).2) h
theorem Und.keep {B : Nat} {w w' : World} {g : GV} {v : Value} (h : Und B w g v) (hb : RowKit.Below B w w') : Und B w' g v :=
  Lies.mono (fun b o u hc => undr_cell.2 ⟨(undr_cell.1 hc).1, by rw [hb.cell (p := ⟨b, o, none⟩) (undr_cell.1 hc).1]; exact (undr_cell.1 hc).2⟩) h
theorem und_all {w : World} {g : GV} {v : Value} (h : Lies w g v) : Und w.heap.size w g v := Lies.mono (fun _ _ _ hc => undr_cell.2 ⟨cell_lt hc, hc⟩) h
theorem at5_und {B : Nat} {w w' : World} {b o : Nat} {x0 x1 x2 x3 x4 : Value} (h : At5 (undr B w) b o (.agg #[x0, x1, x2, x3, x4])) (hb : RowKit.Below B w w') :
    w'.cell? ⟨b, o, none⟩ = some x0 ∧ w'.cell? ⟨b, o + 1, none⟩ = some x1 ∧ w'.cell? ⟨b, o + 2, none⟩ = some x2 ∧ w'.cell? ⟨b, o + 3, none⟩ = some x3 ∧ w'.cell? ⟨b, o + 4, none⟩ = some x4 := by
  obtain ⟨c0, c1, c2, c3, c4⟩ := h.five
  have key : ∀ p u, (undr B w).cell? ⟨b, p, none⟩ = some u → w'.cell? ⟨b, p, none⟩ = some u := fun p u hc => by rw [hb.cell (p := ⟨b, p, none⟩) (undr_cell.1 hc).1]; exact (undr_cell.1 hc).2
  exact ⟨key _ _ c0, key _ _ c1, key _ _ c2, key _ _ c3, key _ _ c4⟩
theorem own_form {w : World} {B t size n : Nat} {v : Value} {xs : List Value} (h : w.ownsRow B t size v (n + 1) xs) : ∃ g c, v = .slice (some ⟨g, 0, none⟩) (n + 1) c ∧ g < w.heap.size ∧ B ≤ g := by
  rcases h.2 with ⟨_, h0⟩ | ⟨g, cap, cur, rfl, hb, hg, _⟩
  · omega
  · exact ⟨g, cap, rfl, (Array.getElem?_eq_some_iff.1 hg).1, hb⟩
theorem own_blk {w : World} {B t size n k : Nat} {v : Value} {xs : List Value} (h : w.ownsRow B t size v n xs) (hk : v.ownBlock = some k) : k < w.heap.size ∧ B ≤ k := by
  rcases h.2 with ⟨rfl, _⟩ | ⟨g, cap, cur, rfl, hb, hg, _⟩
  · exact absurd hk (by simp [Value.ownBlock])
  · simp [Value.ownBlock] at hk
    subst hk
    exact ⟨(Array.getElem?_eq_some_iff.1 hg).1, hb⟩
/-- Behind an append: where the row lies. -/
theorem at_ne {w w3 : World} {la : Option Addr} {ln lc g n c W : Nat} {B t size m : Nat} {xs : List Value} (_hO : w.ownsRow B t size (.slice la ln lc) m xs) (hat : (Value.slice (some ⟨g, 0, none⟩) n c).ownBlock = (Value.slice la ln lc).ownBlock ∨ (Value.slice (some ⟨g, 0, none⟩) n c).ownBlock = some w3.heap.size) (hne : (Value.slice la ln lc).ownBlock ≠ some W) (hs : w.heap.size < w3.heap.size) (hW : W ≤ w.heap.size) : g ≠ W := by
  rintro rfl
  rcases hat with h | h
  · exact hne h.symm
  · simp [Value.ownBlock] at h
    omega
/-- Nothing that was there is changed but in the blocks that p names. -/
structure Chg (p : Nat → Prop) (w w' : World) : Prop where
  os : w'.os = w.os
  tape : w'.tape = w.tape
  output : w'.output = w.output
  size : w.heap.size ≤ w'.heap.size
  block : ∀ k, k < w.heap.size → ¬ p k → w'.heap[k]? = w.heap[k]?
theorem Chg.refl (p : Nat → Prop) (w : World) : Chg p w w := ⟨rfl, rfl, rfl, Nat.le_refl _, fun _ _ _ => rfl⟩
theorem Chg.of_below {p : Nat → Prop} {w w' : World} (h : RowKit.Below w.heap.size w w') : Chg p w w' := ⟨h.os, h.tape, h.output, h.size, fun k hk _ => h.block k hk⟩
theorem Chg.trans {p : Nat → Prop} {w w1 w2 : World} (h : Chg p w w1) (g : Chg p w1 w2) : Chg p w w2 :=
  ⟨g.os.trans h.os, g.tape.trans h.tape, g.output.trans h.output, Nat.le_trans h.size g.size, fun k hk hn => (g.block k (Nat.lt_of_lt_of_le hk h.size) hn).trans (h.block k hk hn)⟩
theorem Chg.mono {p q : Nat → Prop} {w w' : World} (h : Chg p w w') (hpq : ∀ k, k < w.heap.size → p k → q k) : Chg q w w' := ⟨h.os, h.tape, h.output, h.size, fun k hk hn => h.block k hk (fun hp => hn (hpq k hk hp))⟩
theorem Chg.setCell {p : Nat → Prop} {w w' : World} (h : Chg p w w') {b : Nat} (hb : p b ∨ w.heap.size ≤ b) (o : Nat) (v : Value) : Chg p w (w'.setCell ⟨b, o, none⟩ v) := by
  have hb' := (RowKit.Below.refl 0 w').setCell (p := ⟨b, o, none⟩) (Nat.zero_le _) v
  refine ⟨hb'.os.trans h.os, hb'.tape.trans h.tape, hb'.output.trans h.output, Nat.le_trans h.size hb'.size, fun k hk hn => ?_⟩
  have hne : k ≠ b := by
    rintro rfl
    rcases hb with hp | hs
    · exact hn hp
    · omega
  rw [RowKit.Below.heap_setCell w' ⟨b, o, none⟩ v k hne]
  exact h.block k hk hn
theorem Chg.grown {p : Nat → Prop} {w w1 w2 : World} {r : Option Nat} (h : Chg p w w1) (g : w1.grownBy w2 r) (hr : ∀ k, r = some k → p k ∨ w.heap.size ≤ k) : Chg p w w2 := by
  refine ⟨g.os.trans h.os, g.tape.trans h.tape, g.output.trans h.output, Nat.le_trans h.size g.size, fun k hk hn => ?_⟩
  refine (g.block k (Nat.lt_of_lt_of_le hk h.size) ?_).trans (h.block k hk hn)
  intro e
  rcases hr k e.symm with hp | hs
  · exact hn hp
  · omega
theorem own_other {w : World} {B t size g n c b o m : Nat} {xs : List Value} {u : Value} (h : w.ownsRow B t size (.slice (some ⟨g, 0, none⟩) n c) m xs) (hne : g ≠ b) : (w.setCell ⟨b, o, none⟩ u).ownsRow B t size (.slice (some ⟨g, 0, none⟩) n c) m xs := by
  refine ⟨h.1, ?_⟩
  rcases h.2 with h0 | ⟨g', cap, cur, e, h1, h2, h3⟩
  · exact Or.inl h0
  · cases e
    exact Or.inr ⟨g, c, cur, rfl, h1, by rw [RowKit.Below.heap_setCell w ⟨b, o, none⟩ u g hne]; exact h2, h3⟩
theorem put5_end {xs : List Value} {z0 z1 z2 z3 z4 a b c d e : Value} {o : Nat} (h : xs.length = o) : put5 (xs ++ [z0, z1, z2, z3, z4]) o a b c d e = xs ++ [a, b, c, d, e] := by
  subst h
  simp [put5]
theorem flat_le {c : Nat → List UInt8} {j n : Nat} (h : j ≤ n) : ((List.range j).flatMap c).length ≤ ((List.range n).flatMap c).length := by
  obtain ⟨m, rfl⟩ : ∃ m, n = j + m := ⟨n - j, by omega⟩
  rw [List.range_add, List.flatMap_append, List.length_append]
  omega
/-- 'string(b)' of a row of bytes of one's own. -/
theorem own_string {w : World} {base n : Nat} {v : Value} {bs : List UInt8} (h : w.ownsRow base 5 1 v n (Lib.byteCells bs)) :
    (convert 29 9 v).run Try.prog w = .ok (.string ⟨bs.toArray⟩) w := by
  have hn : bs.length = n := by have := h.1; rw [Lib.byteCells_length] at this; omega
  subst hn
  rcases h.2 with ⟨rfl, h0⟩ | ⟨g, cap, cur, rfl, hg⟩
  · cases bs with
    | nil => exact run_convert_bytes_nil w 29 5 Try.underlying29 Try.underlying5 0 0 9 Try.underlying9
    | cons b bs => simp at h0
  · refine run_convert_bytes_back w 29 9 5 ⟨g, 0, none⟩ cap bs Try.underlying29 Try.underlying5 Try.underlying9 ?_
    intro j hj
    exact h.cells (g := g) rfl j _ (by simp [Lib.byteCells, List.getElem?_eq_getElem hj])
/-- A row of one's own stays where its block does. -/
theorem own_keep1 {w w' : World} {B t size n : Nat} {v : Value} {xs : List Value} (h : w.ownsRow B t size v n xs) (hk : ∀ k, v.ownBlock = some k → w'.heap[k]? = w.heap[k]?) : w'.ownsRow B t size v n xs := by
  refine ⟨h.1, ?_⟩
  rcases h.2 with h0 | ⟨g, cap, cur, rfl, h1, h2, h3⟩
  · exact Or.inl h0
  · exact Or.inr ⟨g, cap, cur, rfl, h1, (hk g rfl).trans h2, h3⟩
theorem own_slice {w : World} {B t size n : Nat} {v : Value} {xs : List Value} (h : w.ownsRow B t size v n xs) : ∃ a c, v = .slice a n c ∧ n ≤ c := by
  rcases h.2 with ⟨rfl, rfl⟩ | ⟨g, cap, cur, rfl, _, _, h3, _⟩
  · exact ⟨none, 0, rfl, Nat.le_refl _⟩
  · exact ⟨_, cap, rfl, h3⟩
end Go.Proofs.Yticbcoklpgfkhaa
