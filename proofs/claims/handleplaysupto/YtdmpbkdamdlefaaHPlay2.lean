/- Between the deeds: the table, the document's table in its box, the handles told. -/
import Derived.Test.YtdmpbkdamdlefaaHPlay
import Derived.Test.YtdmpbkdamdlefaaHKnown
import Derived.Test.YtdmpbkdamdlefaaHSS
import Derived.Test.YtdmpbkdamdlefaaArgD
namespace Go.Proofs.Ytdmpbkdamdlefaa
open Go.RowKit

theorem far_tab : Far 39 := by unfold Far; decide
theorem far_deed : Far 42 := by unfold Far; decide
theorem own_box {w : World} {B e z n b i : Nat} {x u : Value} {xs : List Value} {cs : Array Value} (hb : w.heap[b]? = some (.cells cs 39 (0, 0))) (he : e ≠ 39) (ho : w.ownsRow B e z u n xs) : (w.setCell ⟨b, i, none⟩ x).ownsRow B e z u n xs := by
  refine ⟨ho.1, ?_⟩
  rcases ho.2 with h0 | ⟨g, cap, cur, rfl, h1, h2, h3⟩
  · exact Or.inl h0
  · refine Or.inr ⟨g, cap, cur, rfl, h1, ?_, h3⟩
    rw [RowKit.Below.heap_setCell w ⟨b, i, none⟩ x g ?_]; exact h2
    rintro rfl
    rw [hb] at h2
    cases h2
    exact he rfl
theorem lrow_box {w : World} {B e b i : Nat} {x u : Value} {xs : List Value} {cs : Array Value} (hb : w.heap[b]? = some (.cells cs 39 (0, 0))) (he : e ≠ 39) (ho : LRow w B e u xs) : LRow (w.setCell ⟨b, i, none⟩ x) B e u xs :=
  ho.blocks fun g cs' _ hg => by
    rw [RowKit.Below.heap_setCell w ⟨b, i, none⟩ x g ?_]; exact hg
    rintro rfl
    rw [hb] at hg
    cases hg
    exact he rfl
/-- Between the deeds. -/
structure Pst (B : Nat) (w wr : World) (T slots mb g : Nat) (s1 s2 u6 : Value) (L : List RS) (F V : List Nat) : Prop where
  ab : Ab B wr T slots L F
  box : wr.heap[mb]? = some (.cells #[.int .i64 slots, s1, s2] 39 (0, 0))
  rt : RT B wr (.agg #[.int .i64 slots, s1, s2]) slots L F.reverse
  told : LRow wr B 25 u6 (ucells V)
  vs : ∀ k, k < V.length → V.getD k 0 < 18446744073709551616
  bel : RowKit.Below B w wr
  mbB : B ≤ mb
  gens : Gens g L
section
variable {B : Nat} {w wr w' : World} {T slots mb g : Nat} {s1 s2 u6 : Value} {L : List RS} {F V : List Nat}
theorem Pst.below (h : Pst B w wr T slots mb g s1 s2 u6 L F V) (hb : RowKit.Below wr.heap.size wr w') : Pst B w w' T slots mb g s1 s2 u6 L F V :=
  ⟨h.ab.below hb, by rw [hb.block _ (Array.getElem?_eq_some_iff.1 h.box).1]; exact h.box, h.rt.below hb, h.told.below hb, h.vs, h.bel.trans (hb.mono (Nat.le_of_lt h.ab.lt)), h.mbB, h.gens⟩
theorem Pst.older {g' : Nat} (h : Pst B w wr T slots mb g s1 s2 u6 L F V) (hg : g ≤ g') : Pst B w wr T slots mb g' s1 s2 u6 L F V := ⟨h.ab, h.box, h.rt, h.told, h.vs, h.bel, h.mbB, h.gens.mono hg⟩
/-- The table has gone on, the document's has not. -/
structure Mid (B : Nat) (w wr : World) (T slots mb g : Nat) (s1 s2 u6 : Value) (L : List RS) (F : List Nat) (L' : List RS) (F' V : List Nat) : Prop where
  ab : Ab B wr T slots L' F'
  box : wr.heap[mb]? = some (.cells #[.int .i64 slots, s1, s2] 39 (0, 0))
  rt : RT B wr (.agg #[.int .i64 slots, s1, s2]) slots L F.reverse
  told : LRow wr B 25 u6 (ucells V)
  vs : ∀ k, k < V.length → V.getD k 0 < 18446744073709551616
  bel : RowKit.Below B w wr
  mbB : B ≤ mb
  gens : Gens g L'
theorem Pst.step {L' : List RS} {F' : List Nat} {g' : Nat} (h : Pst B w wr T slots mb g s1 s2 u6 L F V) (hs : Step B wr w') (ha : Ab B w' T slots L' F') (hg : Gens g' L') : Mid B w w' T slots mb g' s1 s2 u6 L F L' F' V :=
  ⟨ha, hs.keeps _ _ _ _ h.box far_tab, h.rt.step hs, h.told.step hs far_u64, h.vs, h.bel.trans hs.below, h.mbB, hg⟩
theorem Mid.below {L' : List RS} {F' : List Nat} (h : Mid B w wr T slots mb g s1 s2 u6 L F L' F' V) (hb : RowKit.Below wr.heap.size wr w') : Mid B w w' T slots mb g s1 s2 u6 L F L' F' V :=
  ⟨h.ab.below hb, by rw [hb.block _ (Array.getElem?_eq_some_iff.1 h.box).1]; exact h.box, h.rt.below hb, h.told.below hb, h.vs, h.bel.trans (hb.mono (Nat.le_of_lt h.ab.lt)), h.mbB, h.gens⟩
/-- The document's table is put into its box. -/
theorem Mid.turn {L' : List RS} {F' : List Nat} (h : Mid B w wr T slots mb g s1 s2 u6 L F L' F' V) (hb : RowKit.Below wr.heap.size wr w') {t1 t2 : Value} (hr : RT B w' (.agg #[.int .i64 slots, t1, t2]) slots L' F'.reverse) (o : Obj) :
    Pst B w ((((w'.alloc o).setCell ⟨mb, 0, none⟩ (.int .i64 slots)).setCell ⟨mb, 1, none⟩ t1).setCell ⟨mb, 2, none⟩ t2) T slots mb g t1 t2 u6 L' F' V := by
  have hal : RowKit.Below w'.heap.size w' (w'.alloc o) := (RowKit.Below.refl _ w').alloc (Nat.le_refl _) _
  have h1 := (h.below hb).below hal
  have hr1 := hr.below hal
  have k0 := h1.box
  have k1 := heap_setCell_same _ mb 0 _ _ (.int .i64 slots) k0
  have k2 := heap_setCell_same _ mb 1 _ _ t1 k1
  have k3 := heap_setCell_same _ mb 2 _ _ t2 k2
  obtain ⟨q, r, c, d, e, o1, o2⟩ := hr1
  exact ⟨((h1.ab.setRow k0 far_tab).setRow k1 far_tab).setRow k2 far_tab, k3, ⟨q, r, c, d, e, own_box k2 (by decide) (own_box k1 (by decide) (own_box k0 (by decide) o1)), own_box k2 (by decide) (own_box k1 (by decide) (own_box k0 (by decide) o2))⟩, lrow_box k2 (by decide) (lrow_box k1 (by decide) (lrow_box k0 (by decide) h1.told)), h1.vs, ((h1.bel.setCell h1.mbB _).setCell h1.mbB _).setCell h1.mbB _, h1.mbB, h1.gens⟩
/-- A handle more is told. -/
theorem Pst.tell {gk cap : Nat} {X : Nat} {o : Obj} (h : Pst B w wr T slots mb g s1 s2 u6 L F V) (hX : X < 18446744073709551616) (hown : w'.ownsRow B 25 1 (.slice (some ⟨gk, 0, none⟩) (V.length + 1) cap) (V.length + 1) (ucells V ++ [.int .u64 (X : Int)])) (hgr : (wr.alloc o).grownBy w' u6.ownBlock) : Pst B w w' T slots mb g s1 s2 (.slice (some ⟨gk, 0, none⟩) (V.length + 1) cap) L F (V ++ [X]) := by
  have hal : RowKit.Below wr.heap.size wr (wr.alloc o) := (RowKit.Below.refl _ wr).alloc (Nat.le_refl _) _
  have h1 := h.below hal
  have hne : ∀ {k : Nat} {cs : Array Value} {t : Nat}, (wr.alloc o).heap[k]? = some (.cells cs t (0, 0)) → t ≠ 25 → w'.heap[k]? = (wr.alloc o).heap[k]? := by
    intro k cs t hk ht
    refine hgr.block k (Array.getElem?_eq_some_iff.1 hk).1 ?_
    intro e2
    obtain ⟨cs', h5⟩ := h1.told.typed e2.symm
    rw [hk] at h5
    cases h5
    exact ht rfl
  have keep : ∀ {e z n : Nat} {u : Value} {xs : List Value}, (wr.alloc o).ownsRow B e z u n xs → e ≠ 25 → w'.ownsRow B e z u n xs := by
    intro e z n u xs ho he
    refine ⟨ho.1, ?_⟩
    rcases ho.2 with h0 | ⟨g', cap', cur, rfl, p1, p2, p3⟩
    · exact Or.inl h0
    · exact Or.inr ⟨g', cap', cur, rfl, p1, by rw [hne p2 he]; exact p2, p3⟩
  obtain ⟨q, r, c, d, e, o1, o2⟩ := h1.rt
  refine ⟨LRow.tab h1.told far_u64 h1.ab hgr, by rw [hne h1.box (by decide)]; exact h1.box, ⟨q, r, c, d, e, keep o1 (by decide), keep o2 (by decide)⟩, Or.inl ?_, ?_, h1.bel.grown hgr (Nat.le_of_lt h1.ab.lt) (fun y hy => (h1.told.blockLt hy).1), h.mbB, h.gens⟩
  · rw [ucells_snoc, List.length_append, ucells_len]; exact hown
  · intro k hk
    rw [getD_snoc]
    split
    · exact hX
    · exact h.vs k (by simp at hk; omega)
end
end Go.Proofs.Ytdmpbkdamdlefaa
