/- Graph: its steps. -/
import Derived.Test.YtfknheljheggkaaEGraph
namespace Go.Proofs.Ytfknheljheggkaa
open Go.RowKit Go.Maps

theorem grow_keep {w w' : World} {B e z n : Nat} {u : Value} {xs : List Value} (h : w.ownsRow B e z u n xs) (g : w.grownBy w' u.ownBlock) {k : Nat} {cs : Array Value} {t : Nat} {fr : Nat × Nat} (hk : w.heap[k]? = some (.cells cs t fr)) (ht : t ≠ e) : w'.heap[k]? = w.heap[k]? := by
  refine g.block k (Array.getElem?_eq_some_iff.1 hk).1 fun e2 => ?_
  obtain ⟨cs', h1⟩ := own_typed h e2.symm
  rw [hk] at h1
  cases h1
  exact ht rfl
theorem set_keep {w : World} {b i : Nat} {x : Value} {ds cs : Array Value} {t t' : Nat} {fr fr' : Nat × Nat} (hb : w.heap[b]? = some (.cells ds t fr)) {k : Nat} (hk : w.heap[k]? = some (.cells cs t' fr')) (ht : t' ≠ t) : (w.setCell ⟨b, i, none⟩ x).heap[k]? = w.heap[k]? := by
  refine RowKit.Below.heap_setCell w ⟨b, i, none⟩ x k ?_
  rintro rfl
  rw [hk] at hb
  cases hb
  exact ht rfl
section
variable {w wr w5 w6 : World} {bn k : Nat} {u1 u2 u' : Value} {roots : List Int} {cs : List Value}
theorem Gst.root (h : Gst w wr bn u1 u2 roots cs k) (b5 : RowKit.Below wr.heap.size wr w5) {x : Int} (r6 : w6.ownsRow w.heap.size 3 1 u' (roots.length + 1) (zcells roots ++ [.int .i64 x])) (g6 : w5.grownBy w6 u1.ownBlock) : Gst w (w6.setCell ⟨bn, 0, none⟩ u') bn u' u2 (roots ++ [x]) cs k ∧ w6.heap[bn]? = some (.cells #[u1, u2] 34 (0, 0)) := by
  have h5 := h.below b5
  have s6 := g6.size
  have kp : ∀ {j : Nat} {ds : Array Value} {t : Nat} {fr : Nat × Nat}, w5.heap[j]? = some (.cells ds t fr) → t ≠ 3 → w6.heap[j]? = w5.heap[j]? := fun hj ht => grow_keep h5.r1 g6 hj ht
  have hbox : w6.heap[bn]? = some (.cells #[u1, u2] 34 (0, 0)) := by rw [kp h5.box (by decide)]; exact h5.box
  have b6 : RowKit.Below w.heap.size w w6 := by
    refine h5.bel.trans ⟨g6.os, g6.tape, g6.output, g6.size, fun j hj => g6.block j (by have := h5.bel.size; omega) fun e => ?_⟩
    have := (h5.r1.lt j e.symm).1
    omega
  refine ⟨⟨b6.setCell h.ge _, ?_, ?_, ?_, h.ge⟩, hbox⟩
  · rw [heap_setCell_same w6 bn 0 _ _ _ hbox]; rfl
  · rw [List.length_append, zcells_snoc]
    exact own_keep r6 fun j ds hj hg => set_keep hbox hg (by decide)
  · have r2 := own_keep (w' := w6) h5.r2 fun j ds hj hg => kp hg (by decide)
    exact own_keep r2 fun j ds hj hg => set_keep hbox hg (by decide)
theorem Gst.node (h : Gst w wr bn u1 u2 roots cs k) (b5 : RowKit.Below wr.heap.size wr w5) {a b c : Value} (r6 : w6.ownsRow w.heap.size 41 3 u' (k + 1) (cs ++ [a, b, c])) (g6 : w5.grownBy w6 u2.ownBlock) : Gst w (w6.setCell ⟨bn, 1, none⟩ u') bn u1 u' roots (cs ++ [a, b, c]) (k + 1) ∧ w6.heap[bn]? = some (.cells #[u1, u2] 34 (0, 0)) := by
  have h5 := h.below b5
  have kp : ∀ {j : Nat} {ds : Array Value} {t : Nat} {fr : Nat × Nat}, w5.heap[j]? = some (.cells ds t fr) → t ≠ 41 → w6.heap[j]? = w5.heap[j]? := fun hj ht => grow_keep h5.r2 g6 hj ht
  have hbox : w6.heap[bn]? = some (.cells #[u1, u2] 34 (0, 0)) := by rw [kp h5.box (by decide)]; exact h5.box
  have b6 : RowKit.Below w.heap.size w w6 := by
    refine h5.bel.trans ⟨g6.os, g6.tape, g6.output, g6.size, fun j hj => g6.block j (by have := h5.bel.size; omega) fun e => ?_⟩
    have := (h5.r2.lt j e.symm).1
    omega
  refine ⟨⟨b6.setCell h.ge _, ?_, ?_, ?_, h.ge⟩, hbox⟩
  · rw [heap_setCell_same w6 bn 1 _ _ _ hbox]; rfl
  · have r1 := own_keep (w' := w6) h5.r1 fun j ds hj hg => kp hg (by decide)
    exact own_keep r1 fun j ds hj hg => set_keep hbox hg (by decide)
  · exact own_keep r6 fun j ds hj hg => set_keep hbox hg (by decide)
/-- Behind the step the nodes that were laid are as they were. -/
theorem Gst.nodesKeep (h : Gst w wr bn u1 u2 roots cs k) (b5 : RowKit.Below wr.heap.size wr w5) (g6 : w5.grownBy w6 u2.ownBlock) {ds : List Value} {ns : List (Nat × List Int × List Nat)} (hn : NodesOk w5 w.heap.size ds ns) : NodesOk (w6.setCell ⟨bn, 1, none⟩ u') w.heap.size ds ns := by
  have h5 := h.below b5
  have hbox : w6.heap[bn]? = some (.cells #[u1, u2] 34 (0, 0)) := by rw [grow_keep h5.r2 g6 h5.box (by decide)]; exact h5.box
  refine hn.keep fun j es t hj ht => ?_
  have h1 : w6.heap[j]? = w5.heap[j]? := grow_keep h5.r2 g6 hj (by rcases ht with rfl | rfl <;> decide)
  rw [set_keep hbox (by rw [h1]; exact hj) (by rcases ht with rfl | rfl <;> decide), h1]
end
theorem NodesOk.below {w w' : World} {B : Nat} {cs : List Value} {ns : List (Nat × List Int × List Nat)} (h : NodesOk w B cs ns) (hb : RowKit.Below w.heap.size w w') : NodesOk w' B cs ns := h.keep fun k _cs _t hk _ => hb.block k (Array.getElem?_eq_some_iff.1 hk).1
theorem NodesOk.mono {w : World} {B B' : Nat} (hB : B' ≤ B) : ∀ {cs : List Value} {ns : List (Nat × List Int × List Nat)}, NodesOk w B cs ns → NodesOk w B' cs ns
  | [], [], _ => trivial
  | _ :: _ :: _ :: r, _ :: ns, h => by
    obtain ⟨⟨g1, g2, e1, e2, e3, h1, h2, h3, h4⟩, h5⟩ := h
    exact ⟨⟨g1, g2, e1, e2, e3, by omega, by omega, h3, h4⟩, NodesOk.mono hB h5⟩
  | [], _ :: _, h => h.elim
  | [_], [], h => h.elim
  | [_], _ :: _, h => h.elim
  | [_, _], [], h => h.elim
  | [_, _], _ :: _, h => h.elim
  | _ :: _ :: _ :: _, [], h => h.elim
theorem NodeV.mono {w : World} {B B' : Nat} {v : Value} {t : Nat} {rf : List Int} {ws : List Nat} (h : NodeV w B v t rf ws) (hB : B' ≤ B) : NodeV w B' v t rf ws := by
  obtain ⟨g1, g2, e, h1, h2, h3, h4⟩ := h
  exact ⟨g1, g2, e, by omega, by omega, h3, h4⟩
theorem own_mono {w : World} {B B' e z n : Nat} {u : Value} {xs : List Value} (h : w.ownsRow B e z u n xs) (hB : B' ≤ B) : w.ownsRow B' e z u n xs := by
  refine ⟨h.1, ?_⟩
  rcases h.2 with h0 | ⟨g, cap, cur, e1, h1, h2⟩
  · exact Or.inl h0
  · exact Or.inr ⟨g, cap, cur, e1, by omega, h2⟩
theorem own_slice {w : World} {B e z n : Nat} {u : Value} {xs : List Value} (h : w.ownsRow B e z u n xs) : ∃ p n c, u = .slice p n c := by
  rcases h.2 with ⟨rfl, _⟩ | ⟨g, cap, cur, rfl, _⟩
  · exact ⟨none, 0, 0, rfl⟩
  · exact ⟨_, _, _, rfl⟩
theorem set2 {W : World} {b T : Nat} {a0 a1 v0 v1 : Value} (h : W.heap[b]? = some (.cells #[a0, a1] T (0, 0))) : ((W.setCell ⟨b, 0, none⟩ v0).setCell ⟨b, 1, none⟩ v1).heap[b]? = some (.cells #[v0, v1] T (0, 0)) := by
  have g0 := heap_setCell_same W b 0 _ _ v0 h
  exact heap_setCell_same _ b 1 _ _ v1 g0
theorem s1_alloc {v : World} {a : Addr} {x : Value} (o : Obj) (h : v.drew.cell? a = some x) : (v.alloc o).drew.cell? a = some x := by
  have g1 : v.cell? a = some x := h
  exact (World.cell?_alloc_some v _ o (by rw [g1]; rfl)).trans g1
/-- An object as a node. -/
def nodeOf (s : HS) (m : Mt) (q : Nat) : Nat × List Int × List Nat := ((obD s q).tag, ((obD s q).ws.take (obD s q).refs).map (numX s m), (obD s q).ws.drop (obD s q).refs)
end Go.Proofs.Ytfknheljheggkaa
