/- Some texts in one: each opens with its own remark. -/
import Derived.Test.YthdggdmaajlaiaaK13
import Derived.Test.YthdggdmaajlaiaaZENode
import Derived.Test.YthdggdmaajlaiaaK11
/- What is reached is closed (no walk). -/
namespace Go.Proofs.Ythdggdmaajlaiaa
open Go.RowKit

theorem plc_zero (s : HS) : plc s 0 = none := by
  unfold plc
  cases hl : look s.L 0 with
  | none => rfl
  | some p =>
    have := (look_some hl).1
    simp at this
theorem meetM_pre (s : HS) (m : Mt) (x : Nat) : ∃ t, (meetM s m x).M = m.M ++ t := by
  unfold meetM
  split
  · exact ⟨[], by simp⟩
  · cases plc s x with
    | none => exact ⟨[], by simp⟩
    | some q =>
      dsimp only
      split
      · exact ⟨[], by simp⟩
      · exact ⟨[q], rfl⟩
theorem meetAll_pre (s : HS) : ∀ (l : List Nat) (m : Mt), ∃ t, (meetAll s m l).M = m.M ++ t
  | [], m => ⟨[], by simp [meetAll]⟩
  | x :: l, m => by
    obtain ⟨t1, h1⟩ := meetM_pre s m x
    obtain ⟨t2, h2⟩ := meetAll_pre s l (meetM s m x)
    exact ⟨t1 ++ t2, by show (meetAll s (meetM s m x) l).M = _; rw [h2, h1, List.append_assoc]⟩
theorem meetM_mem {s : HS} {m : Mt} {x p : Nat} (h : plc s x = some p) : p ∈ (meetM s m x).M := by
  unfold meetM
  have h0 : x ≠ 0 := by
    rintro rfl
    rw [plc_zero] at h
    cases h
  rw [if_neg h0, h]
  dsimp only
  split
  · assumption
  · simp
theorem meetAll_mem {s : HS} : ∀ (l : List Nat) {m : Mt} {x p : Nat}, x ∈ l → plc s x = some p → p ∈ (meetAll s m l).M
  | [], _, _, _, h, _ => by simp at h
  | y :: l, m, x, p, h, hp => by
    show p ∈ (meetAll s (meetM s m y) l).M
    rcases List.mem_cons.1 h with e | h
    · subst e
      obtain ⟨t, ht⟩ := meetAll_pre s l (meetM s m x)
      rw [ht]
      exact List.mem_append_left _ (meetM_mem hp)
    · exact meetAll_mem l h hp
theorem bfsK_pre (s : HS) (m : Mt) (k : Nat) : ∀ n, ∃ t, (bfsK s m (k + n)).M = (bfsK s m k).M ++ t
  | 0 => ⟨[], by simp⟩
  | n + 1 => by
    obtain ⟨t, ht⟩ := bfsK_pre s m k n
    obtain ⟨t2, ht2⟩ := meetAll_pre s (refsAt s ((bfsK s m (k + n)).M.getD (k + n) 0)) (bfsK s m (k + n))
    exact ⟨t ++ t2, by show (meetAll s (bfsK s m (k + n)) (refsAt s ((bfsK s m (k + n)).M.getD (k + n) 0))).M = _; rw [ht2, ht, List.append_assoc]⟩
theorem bfsK_get (s : HS) (m : Mt) {k K : Nat} (h : k ≤ K) {j : Nat} (hj : j < (bfsK s m k).M.length) : (bfsK s m K).M.getD j 0 = (bfsK s m k).M.getD j 0 := by
  obtain ⟨t, ht⟩ := bfsK_pre s m k (K - k)
  rw [show k + (K - k) = K by omega] at ht
  rw [ht, List.getD_eq_getElem?_getD, List.getD_eq_getElem?_getD, List.getElem?_append_left hj]
theorem bfsK_mono (s : HS) (m : Mt) {k K : Nat} (h : k ≤ K) {p : Nat} (hp : p ∈ (bfsK s m k).M) : p ∈ (bfsK s m K).M := by
  obtain ⟨t, ht⟩ := bfsK_pre s m k (K - k)
  rw [show k + (K - k) = K by omega] at ht
  rw [ht]
  exact List.mem_append_left _ hp
/-- What the first ones hold was met. -/
theorem bfsK_closed (s : HS) (m : Mt) {k K : Nat} (h : k < K) (hk : k < (bfsK s m k).M.length) {x p : Nat} (hx : x ∈ refsAt s ((bfsK s m K).M.getD k 0)) (hp : plc s x = some p) : p ∈ (bfsK s m K).M := by
  rw [bfsK_get s m (Nat.le_of_lt h) hk] at hx
  exact bfsK_mono s m h (show p ∈ (meetAll s (bfsK s m k) (refsAt s ((bfsK s m k).M.getD k 0))).M from meetAll_mem _ hx hp)
theorem bfsK_roots (s : HS) {K : Nat} {x p : Nat} (hx : x ∈ s.rt) (hp : plc s x = some p) : p ∈ (bfsK s (mRoots s) K).M :=
  bfsK_mono s _ (Nat.zero_le K) (show p ∈ (meetAll s m0 s.rt).M from meetAll_mem _ hx hp)
end Go.Proofs.Ythdggdmaajlaiaa

/- Graph. -/
namespace Go.Proofs.Ythdggdmaajlaiaa
open Go.RowKit Go.Maps

theorem infoNode : (Try.prog.info? 65).map (fun i => (i.zero, i.size, i.bytes)) = some (some (.agg #[.int .i64 0, .slice none 0 0, .slice none 0 0]), 3, 56) := by kernel_rfl
/-- Numbers as cells. -/
def zcells (l : List Int) : List Value := l.map fun x : Int => Value.int .i64 x
theorem zcells_len (l : List Int) : (zcells l).length = l.length := by simp [zcells]
theorem zcells_snoc (l : List Int) (x : Int) : zcells (l ++ [x]) = zcells l ++ [.int .i64 x] := by simp [zcells]
/-- Cells of nodes. -/
def NodesOk (w : World) (B : Nat) : List Value → List (Nat × List Int × List Nat) → Prop
  | [], [] => True
  | a :: b :: c :: r, x :: ns => (∃ g1 g2, a = .int .i64 (x.1 : Int) ∧ b = .slice (some ⟨g1, 0, none⟩) x.2.1.length x.2.1.length ∧ c = .slice (some ⟨g2, 0, none⟩) x.2.2.length x.2.2.length ∧ B ≤ g1 ∧ B ≤ g2 ∧ Nms w g1 x.2.1 ∧ Wds w g2 27 x.2.2) ∧ NodesOk w B r ns
  | _, _ => False
theorem NodesOk.len {w : World} {B : Nat} : ∀ {cs : List Value} {ns : List (Nat × List Int × List Nat)}, NodesOk w B cs ns → cs.length = ns.length * 3
  | [], [], _ => rfl
  | a :: b :: c :: r, x :: ns, h => by
    have := NodesOk.len (cs := r) (ns := ns) h.2
    simp only [List.length_cons]
    omega
  | [], _ :: _, h => h.elim
  | [_], [], h => h.elim
  | [_], _ :: _, h => h.elim
  | [_, _], [], h => h.elim
  | [_, _], _ :: _, h => h.elim
  | _ :: _ :: _ :: _, [], h => h.elim
theorem NodesOk.snoc {w : World} {B : Nat} {a b c : Value} {t : Nat} {rf : List Int} {ws : List Nat} (hv : NodeV w B (.agg #[a, b, c]) t rf ws) : ∀ {cs : List Value} {ns : List (Nat × List Int × List Nat)}, NodesOk w B cs ns → NodesOk w B (cs ++ [a, b, c]) (ns ++ [(t, rf, ws)])
  | [], [], _ => by
    obtain ⟨g1, g2, e, h1, h2, h3, h4⟩ := hv
    injection e with e
    simp at e
    exact ⟨⟨g1, g2, e.1, e.2.1, e.2.2, h1, h2, h3, h4⟩, trivial⟩
  | _ :: _ :: _ :: r, _ :: ns, h => ⟨h.1, NodesOk.snoc hv h.2⟩
  | [], _ :: _, h => h.elim
  | [_], [], h => h.elim
  | [_], _ :: _, h => h.elim
  | [_, _], [], h => h.elim
  | [_, _], _ :: _, h => h.elim
  | _ :: _ :: _ :: _, [], h => h.elim
theorem NodesOk.keep {w w' : World} {B : Nat} (hk : ∀ (k : Nat) (cs : Array Value) (t : Nat), w.heap[k]? = some (.cells cs t (0, 0)) → t = 3 ∨ t = 27 → w'.heap[k]? = w.heap[k]?) : ∀ {cs : List Value} {ns : List (Nat × List Int × List Nat)}, NodesOk w B cs ns → NodesOk w' B cs ns
  | [], [], _ => trivial
  | _ :: _ :: _ :: r, _ :: ns, h => by
    obtain ⟨⟨g1, g2, e1, e2, e3, h1, h2, h3, h4⟩, h5⟩ := h
    exact ⟨⟨g1, g2, e1, e2, e3, h1, h2, h3.same (hk _ _ _ h3 (Or.inl rfl)), h4.same (hk _ _ _ h4 (Or.inr rfl))⟩, NodesOk.keep hk h5⟩
  | [], _ :: _, h => h.elim
  | [_], [], h => h.elim
  | [_], _ :: _, h => h.elim
  | [_, _], [], h => h.elim
  | [_, _], _ :: _, h => h.elim
  | _ :: _ :: _ :: _, [], h => h.elim
/-- A graph as a value: its roots' numbers, its nodes. -/
def GraphV (w : World) (B : Nat) (v : Value) (roots : List Int) (ns : List (Nat × List Int × List Nat)) : Prop := ∃ u1 u2 cs, v = .agg #[u1, u2] ∧ w.ownsRow B 3 1 u1 roots.length (zcells roots) ∧ w.ownsRow B 65 3 u2 ns.length cs ∧ NodesOk w B cs ns
/-- The state between the steps of Graph. -/
structure Gst (w wr : World) (bn : Nat) (u1 u2 : Value) (roots : List Int) (cs : List Value) (k : Nat) : Prop where
  bel : Below w.heap.size w wr
  box : wr.heap[bn]? = some (.cells #[u1, u2] 37 (0, 0))
  r1 : wr.ownsRow w.heap.size 3 1 u1 roots.length (zcells roots)
  r2 : wr.ownsRow w.heap.size 65 3 u2 k cs
  ge : w.heap.size ≤ bn
theorem own_keep {w w' : World} {B e z n : Nat} {u : Value} {xs : List Value} (h : w.ownsRow B e z u n xs) (hk : ∀ (k : Nat) (cs : Array Value), u.ownBlock = some k → w.heap[k]? = some (.cells cs e (0, 0)) → w'.heap[k]? = w.heap[k]?) : w'.ownsRow B e z u n xs := by
  refine ⟨h.1, ?_⟩
  rcases h.2 with h0 | ⟨g, cap, cur, rfl, h1, h2, h3⟩
  · exact Or.inl h0
  · exact Or.inr ⟨g, cap, cur, rfl, h1, by rw [hk g cur rfl h2]; exact h2, h3⟩
theorem own_typed {w : World} {B e z n : Nat} {u : Value} {xs : List Value} (h : w.ownsRow B e z u n xs) {k : Nat} (hk : u.ownBlock = some k) : ∃ cs, w.heap[k]? = some (.cells cs e (0, 0)) := by
  rcases h.2 with ⟨rfl, _⟩ | ⟨g, cap, cur, rfl, h1, h2, h3⟩
  · cases hk
  · cases hk; exact ⟨_, h2⟩
theorem Gst.below {w wr w' : World} {bn : Nat} {u1 u2 : Value} {roots : List Int} {cs : List Value} {k : Nat} (h : Gst w wr bn u1 u2 roots cs k) (hb : Below wr.heap.size wr w') : Gst w w' bn u1 u2 roots cs k := by
  have lt : ∀ {j : Nat} {o : Obj}, wr.heap[j]? = some o → w'.heap[j]? = wr.heap[j]? := fun hj => hb.block _ (Array.getElem?_eq_some_iff.1 hj).1
  exact ⟨h.bel.trans (hb.mono h.bel.size), by rw [lt h.box]; exact h.box, own_keep h.r1 fun _ _ _ hg => lt hg, own_keep h.r2 fun _ _ _ hg => lt hg, h.ge⟩
theorem Gst.drew {w wr : World} {bn : Nat} {u1 u2 : Value} {roots : List Int} {cs : List Value} {k : Nat} (h : Gst w wr bn u1 u2 roots cs k) : Gst w wr.drew bn u1 u2 roots cs k := h.below (Below.refl _ _).drew
end Go.Proofs.Ythdggdmaajlaiaa

/- Graph: its steps. -/
namespace Go.Proofs.Ythdggdmaajlaiaa
open Go.RowKit Go.Maps

theorem grow_keep {w w' : World} {B e z n : Nat} {u : Value} {xs : List Value} (h : w.ownsRow B e z u n xs) (g : w.grownBy w' u.ownBlock) {k : Nat} {cs : Array Value} {t : Nat} {fr : Nat × Nat} (hk : w.heap[k]? = some (.cells cs t fr)) (ht : t ≠ e) : w'.heap[k]? = w.heap[k]? := by
  refine g.block k (Array.getElem?_eq_some_iff.1 hk).1 fun e2 => ?_
  obtain ⟨cs', h1⟩ := own_typed h e2.symm
  rw [hk] at h1
  cases h1
  exact ht rfl
theorem set_keep {w : World} {b i : Nat} {x : Value} {ds cs : Array Value} {t t' : Nat} {fr fr' : Nat × Nat} (hb : w.heap[b]? = some (.cells ds t fr)) {k : Nat} (hk : w.heap[k]? = some (.cells cs t' fr')) (ht : t' ≠ t) : (w.setCell ⟨b, i, none⟩ x).heap[k]? = w.heap[k]? := by
  refine Below.heap_setCell w ⟨b, i, none⟩ x k ?_
  rintro rfl
  rw [hk] at hb
  cases hb
  exact ht rfl
section
variable {w wr w5 w6 : World} {bn k : Nat} {u1 u2 u' : Value} {roots : List Int} {cs : List Value}
theorem Gst.root (h : Gst w wr bn u1 u2 roots cs k) (b5 : Below wr.heap.size wr w5) {x : Int} (r6 : w6.ownsRow w.heap.size 3 1 u' (roots.length + 1) (zcells roots ++ [.int .i64 x])) (g6 : w5.grownBy w6 u1.ownBlock) : Gst w (w6.setCell ⟨bn, 0, none⟩ u') bn u' u2 (roots ++ [x]) cs k ∧ w6.heap[bn]? = some (.cells #[u1, u2] 37 (0, 0)) := by
  have h5 := h.below b5
  have s6 := g6.size
  have kp : ∀ {j : Nat} {ds : Array Value} {t : Nat} {fr : Nat × Nat}, w5.heap[j]? = some (.cells ds t fr) → t ≠ 3 → w6.heap[j]? = w5.heap[j]? := fun hj ht => grow_keep h5.r1 g6 hj ht
  have hbox : w6.heap[bn]? = some (.cells #[u1, u2] 37 (0, 0)) := by rw [kp h5.box (by decide)]; exact h5.box
  have b6 : Below w.heap.size w w6 := by
    refine h5.bel.trans ⟨g6.os, g6.tape, g6.output, g6.size, fun j hj => g6.block j (by have := h5.bel.size; omega) fun e => ?_⟩
    have := (h5.r1.lt j e.symm).1
    omega
  refine ⟨⟨b6.setCell h.ge _, ?_, ?_, ?_, h.ge⟩, hbox⟩
  · rw [heap_setCell_same w6 bn 0 _ _ _ hbox]; rfl
  · rw [List.length_append, zcells_snoc]
    exact own_keep r6 fun j ds hj hg => set_keep hbox hg (by decide)
  · have r2 := own_keep (w' := w6) h5.r2 fun j ds hj hg => kp hg (by decide)
    exact own_keep r2 fun j ds hj hg => set_keep hbox hg (by decide)
theorem Gst.node (h : Gst w wr bn u1 u2 roots cs k) (b5 : Below wr.heap.size wr w5) {a b c : Value} (r6 : w6.ownsRow w.heap.size 65 3 u' (k + 1) (cs ++ [a, b, c])) (g6 : w5.grownBy w6 u2.ownBlock) : Gst w (w6.setCell ⟨bn, 1, none⟩ u') bn u1 u' roots (cs ++ [a, b, c]) (k + 1) ∧ w6.heap[bn]? = some (.cells #[u1, u2] 37 (0, 0)) := by
  have h5 := h.below b5
  have kp : ∀ {j : Nat} {ds : Array Value} {t : Nat} {fr : Nat × Nat}, w5.heap[j]? = some (.cells ds t fr) → t ≠ 65 → w6.heap[j]? = w5.heap[j]? := fun hj ht => grow_keep h5.r2 g6 hj ht
  have hbox : w6.heap[bn]? = some (.cells #[u1, u2] 37 (0, 0)) := by rw [kp h5.box (by decide)]; exact h5.box
  have b6 : Below w.heap.size w w6 := by
    refine h5.bel.trans ⟨g6.os, g6.tape, g6.output, g6.size, fun j hj => g6.block j (by have := h5.bel.size; omega) fun e => ?_⟩
    have := (h5.r2.lt j e.symm).1
    omega
  refine ⟨⟨b6.setCell h.ge _, ?_, ?_, ?_, h.ge⟩, hbox⟩
  · rw [heap_setCell_same w6 bn 1 _ _ _ hbox]; rfl
  · have r1 := own_keep (w' := w6) h5.r1 fun j ds hj hg => kp hg (by decide)
    exact own_keep r1 fun j ds hj hg => set_keep hbox hg (by decide)
  · exact own_keep r6 fun j ds hj hg => set_keep hbox hg (by decide)
/-- Behind the step the nodes that were laid are as they were. -/
theorem Gst.nodesKeep (h : Gst w wr bn u1 u2 roots cs k) (b5 : Below wr.heap.size wr w5) (g6 : w5.grownBy w6 u2.ownBlock) {ds : List Value} {ns : List (Nat × List Int × List Nat)} (hn : NodesOk w5 w.heap.size ds ns) : NodesOk (w6.setCell ⟨bn, 1, none⟩ u') w.heap.size ds ns := by
  have h5 := h.below b5
  have hbox : w6.heap[bn]? = some (.cells #[u1, u2] 37 (0, 0)) := by rw [grow_keep h5.r2 g6 h5.box (by decide)]; exact h5.box
  refine hn.keep fun j es t hj ht => ?_
  have h1 : w6.heap[j]? = w5.heap[j]? := grow_keep h5.r2 g6 hj (by rcases ht with rfl | rfl <;> decide)
  rw [set_keep hbox (by rw [h1]; exact hj) (by rcases ht with rfl | rfl <;> decide), h1]
end
theorem NodesOk.below {w w' : World} {B : Nat} {cs : List Value} {ns : List (Nat × List Int × List Nat)} (h : NodesOk w B cs ns) (hb : Below w.heap.size w w') : NodesOk w' B cs ns := h.keep fun k _cs _t hk _ => hb.block k (Array.getElem?_eq_some_iff.1 hk).1
theorem NodesOk.mono {w : World} {B B' : Nat} (hB : B' ≤ B) : ∀ {cs : List Value} {ns : List (Nat × List Int × List Nat)}, NodesOk w B cs ns → NodesOk w B' cs ns
  | [], [], _ => trivial
  | _ :: _ :: _ :: r, _ :: ns, h => by
    obtain ⟨⟨g1, g2, e1, e2, e3, h1, h2, h3, h4⟩, h5⟩ := h
    exact ⟨⟨g1, g2, e1, e2, e3, by omega, by omega, h3, h4⟩, NodesOk.mono hB h5⟩
  | [], _ :: _, h => h.elim
  | [_], [], h => h.elim
  | [_], _ :: _, h => h.elim
  | [_, _], [], h => h.elim
  | [_, _], _ :: _, h => h.elim
  | _ :: _ :: _ :: _, [], h => h.elim
theorem NodeV.mono {w : World} {B B' : Nat} {v : Value} {t : Nat} {rf : List Int} {ws : List Nat} (h : NodeV w B v t rf ws) (hB : B' ≤ B) : NodeV w B' v t rf ws := by
  obtain ⟨g1, g2, e, h1, h2, h3, h4⟩ := h
  exact ⟨g1, g2, e, by omega, by omega, h3, h4⟩
theorem own_mono {w : World} {B B' e z n : Nat} {u : Value} {xs : List Value} (h : w.ownsRow B e z u n xs) (hB : B' ≤ B) : w.ownsRow B' e z u n xs := by
  refine ⟨h.1, ?_⟩
  rcases h.2 with h0 | ⟨g, cap, cur, e1, h1, h2⟩
  · exact Or.inl h0
  · exact Or.inr ⟨g, cap, cur, e1, by omega, h2⟩
theorem own_slice {w : World} {B e z n : Nat} {u : Value} {xs : List Value} (h : w.ownsRow B e z u n xs) : ∃ p n c, u = .slice p n c := by
  rcases h.2 with ⟨rfl, _⟩ | ⟨g, cap, cur, rfl, _⟩
  · exact ⟨none, 0, 0, rfl⟩
  · exact ⟨_, _, _, rfl⟩
theorem set2 {W : World} {b T : Nat} {a0 a1 v0 v1 : Value} (h : W.heap[b]? = some (.cells #[a0, a1] T (0, 0))) : ((W.setCell ⟨b, 0, none⟩ v0).setCell ⟨b, 1, none⟩ v1).heap[b]? = some (.cells #[v0, v1] T (0, 0)) := by
  have g0 := heap_setCell_same W b 0 _ _ v0 h
  exact heap_setCell_same _ b 1 _ _ v1 g0
theorem s1_alloc {v : World} {a : Addr} {x : Value} (o : Obj) (h : v.drew.cell? a = some x) : (v.alloc o).drew.cell? a = some x := by
  have g1 : v.cell? a = some x := h
  exact (World.cell?_alloc_some v _ o (by rw [g1]; rfl)).trans g1
/-- An object as a node. -/
def nodeOf (s : HS) (m : Mt) (q : Nat) : Nat × List Int × List Nat := ((obD s q).tag, ((obD s q).ws.take (obD s q).refs).map (numX s m), (obD s q).ws.drop (obD s q).refs)
end Go.Proofs.Ythdggdmaajlaiaa

/- Two heaps that hang together in the same way: one graph. -/
namespace Go.Proofs.Ythdggdmaajlaiaa

/-- Two handles that stand for the same. -/
def Rl (s s' : HS) (P : Nat → Nat → Prop) (x x' : Nat) : Prop := (x = 0 ∧ x' = 0) ∨ (x ≠ 0 ∧ x' ≠ 0 ∧ ∃ q q', plc s x = some q ∧ plc s' x' = some q' ∧ P q q')
/-- Two rows, place for place. -/
inductive Two (R : Nat → Nat → Prop) : List Nat → List Nat → Prop
  | nil : Two R [] []
  | cons {x x' : Nat} {l l' : List Nat} : R x x' → Two R l l' → Two R (x :: l) (x' :: l')
theorem Two.len {R : Nat → Nat → Prop} {l l' : List Nat} (h : Two R l l') : l.length = l'.length := by
  induction h with
  | nil => rfl
  | cons _ _ ih => simp [ih]
theorem Two.snoc {R : Nat → Nat → Prop} {l l' : List Nat} (h : Two R l l') {x x' : Nat} (hx : R x x') : Two R (l ++ [x]) (l' ++ [x']) := by
  induction h with
  | nil => exact .cons hx .nil
  | cons h1 _ ih => exact .cons h1 ih
theorem Two.get {R : Nat → Nat → Prop} {l l' : List Nat} (h : Two R l l') : ∀ k, k < l.length → R (l.getD k 0) (l'.getD k 0) := by
  induction h with
  | nil => intro k hk; simp at hk
  | cons h1 _ ih =>
    intro k hk
    match k with
    | 0 => simpa using h1
    | k + 1 => simpa using ih k (by simpa using hk)
theorem Two.of {R : Nat → Nat → Prop} : ∀ {l l' : List Nat}, l.length = l'.length → (∀ k, k < l.length → R (l.getD k 0) (l'.getD k 0)) → Two R l l'
  | [], [], _, _ => .nil
  | [], _ :: _, h, _ => by simp at h
  | _ :: _, [], h, _ => by simp at h
  | x :: l, x' :: l', h, hr => .cons (by simpa using hr 0 (by simp)) (Two.of (by simpa using h) fun k hk => by simpa using hr (k + 1) (by simpa using hk))
/-- The places are matched one to one. -/
def Inj (P : Nat → Nat → Prop) : Prop := ∀ q q' r r', P q q' → P r r' → (q = r ↔ q' = r')
theorem Two.mem {P : Nat → Nat → Prop} (hP : Inj P) {l l' : List Nat} (h : Two P l l') {q q' : Nat} (hq : P q q') : q ∈ l ↔ q' ∈ l' := by
  induction h with
  | nil => simp
  | cons h1 _ ih => simp only [List.mem_cons, ih, hP _ _ _ _ hq h1]
theorem Two.idx {P : Nat → Nat → Prop} (hP : Inj P) {l l' : List Nat} (h : Two P l l') {q q' : Nat} (hq : P q q') : l.idxOf q = l'.idxOf q' := by
  induction h with
  | nil => rfl
  | @cons x x' l l' h1 _ ih =>
    by_cases e : x = q
    · have e' := (hP _ _ _ _ h1 hq).1 e
      rw [e, e', List.idxOf_cons_self, List.idxOf_cons_self]
    · have e' : x' ≠ q' := fun h => e ((hP _ _ _ _ h1 hq).2 h)
      rw [List.idxOf_cons, List.idxOf_cons, beq_eq_false_iff_ne.2 e, beq_eq_false_iff_ne.2 e', cond_false, cond_false, ih]
/-- What was met in both. -/
def Alike (P : Nat → Nat → Prop) (m m' : Mt) : Prop := Two P m.M m'.M
section
variable {s s' : HS} {P : Nat → Nat → Prop}
theorem meetM_alike (hP : Inj P) {m m' : Mt} (h : Alike P m m') {x x' : Nat} (hx : Rl s s' P x x') : Alike P (meetM s m x) (meetM s' m' x') := by
  unfold Alike at h ⊢
  rcases hx with ⟨rfl, rfl⟩ | ⟨n1, n2, q, q', h1, h2, hq⟩
  · simpa [meetM] using h
  · unfold meetM
    rw [if_neg n1, if_neg n2, h1, h2]
    by_cases e : q ∈ m.M
    · have e' := (h.mem hP hq).1 e
      simp only [if_pos e, if_pos e']
      exact h
    · have e' : ¬ q' ∈ m'.M := fun k => e ((h.mem hP hq).2 k)
      simp only [if_neg e, if_neg e']
      exact h.snoc hq
theorem meetAll_alike (hP : Inj P) {l l' : List Nat} (hl : Two (Rl s s' P) l l') : ∀ {m m' : Mt}, Alike P m m' → Alike P (meetAll s m l) (meetAll s' m' l') := by
  induction hl with
  | nil => intro m m' h; exact h
  | cons h1 _ ih => intro m m' h; exact ih (meetM_alike hP h h1)
/-- Objects that are matched: one tag, as many refs, the same words, refs that stand for the same. -/
def Match (s s' : HS) (P : Nat → Nat → Prop) : Prop := ∀ q q', P q q' → (obD s q).tag = (obD s' q').tag ∧ (obD s q).ws.drop (obD s q).refs = (obD s' q').ws.drop (obD s' q').refs ∧ Two (Rl s s' P) (refsAt s q) (refsAt s' q')
theorem bfsK_alike (hP : Inj P) (hM : Match s s' P) {m m' : Mt} (h : Alike P m m') {K : Nat} (hK : ∀ j, j < K → j < (bfsK s m j).M.length) : ∀ k, k ≤ K → Alike P (bfsK s m k) (bfsK s' m' k)
  | 0, _ => h
  | k + 1, hk => by
    have ih := bfsK_alike hP hM h hK k (by omega)
    have hl := hK k (by omega)
    exact meetAll_alike hP (hM _ _ (Two.get ih k hl)).2.2 ih
theorem numX_alike (hP : Inj P) {m m' : Mt} (h : Alike P m m') {x x' : Nat} (hx : Rl s s' P x x') : numX s m x = numX s' m' x' := by
  unfold numX
  rcases hx with ⟨rfl, rfl⟩ | ⟨_, _, q, q', h1, h2, hq⟩
  · rw [plc_zero, plc_zero]
  · rw [h1, h2]
    exact congrArg Int.ofNat (Two.idx hP h hq)
theorem numXs_alike (hP : Inj P) {m m' : Mt} (h : Alike P m m') {l l' : List Nat} (hl : Two (Rl s s' P) l l') : l.map (numX s m) = l'.map (numX s' m') := by
  induction hl with
  | nil => rfl
  | cons h1 _ ih => rw [List.map_cons, List.map_cons, ih, numX_alike hP h h1]
theorem nodes_alike (hP : Inj P) (hM : Match s s' P) {m m' : Mt} (h : Alike P m m') {l l' : List Nat} (hl : Two P l l') : l.map (nodeOf s m) = l'.map (nodeOf s' m') := by
  induction hl with
  | nil => rfl
  | cons h1 _ ih =>
    obtain ⟨a, b, c⟩ := hM _ _ h1
    rw [List.map_cons, List.map_cons, ih]
    unfold nodeOf
    rw [a, b]
    exact congrArg (· :: _) (congrArg (fun z => (_, z, _)) (numXs_alike hP h c))
/-- One graph. -/
theorem graphs_alike (hP : Inj P) (hM : Match s s' P) (hr : Two (Rl s s' P) s.rt s'.rt) {K K' : Nat} (e : K = (bfsK s (mRoots s) K).M.length) (e' : K' = (bfsK s' (mRoots s') K').M.length) (hK : ∀ j, j < K → j < (bfsK s (mRoots s) j).M.length) (hK' : ∀ j, j < K' → j < (bfsK s' (mRoots s') j).M.length) :
    s.rt.map (numX s (bfsK s (mRoots s) K)) = s'.rt.map (numX s' (bfsK s' (mRoots s') K')) ∧ (bfsK s (mRoots s) K).M.map (nodeOf s (bfsK s (mRoots s) K)) = (bfsK s' (mRoots s') K').M.map (nodeOf s' (bfsK s' (mRoots s') K')) := by
  have h0 : Alike P (mRoots s) (mRoots s') := meetAll_alike hP hr Two.nil
  have hA := bfsK_alike hP hM h0 hK
  have hkk : K = K' := by
    rcases Nat.lt_trichotomy K K' with h | h | h
    · have h1 := hK' K h
      have h2 := (hA K (Nat.le_refl _)).len
      omega
    · exact h
    · have h1 := hK K' h
      have h2 := (hA K' (by omega)).len
      omega
  subst hkk
  have hB := hA K (Nat.le_refl _)
  exact ⟨numXs_alike hP hB hr, nodes_alike hP hM hB hB⟩
end
end Go.Proofs.Ythdggdmaajlaiaa

/- slotsHold, objectsHeld. -/
namespace Go.Proofs.Ythdggdmaajlaiaa
open Go.RowKit

section
variable {own : Nat → Prop} {w : World} {i : HId} {s : HS} {wv : Value}
/-- Each live handle's object is of that owner. -/
def SlotsOk (s : HS) : Prop := ∀ x, x ∈ liveH s.L → x < 18446744073709551616 ∧ ∃ p q o, look s.L x = some p ∧ Has s x q o ∧ o.own = p
set_option maxHeartbeats 2000000 in
theorem slotsHold_yes (h : HP own w i s wv) (hA : SlotsOk s) : Calls Try.prog 35 #[.pointer (some ⟨i.H, 0, none⟩)] w fun e w' => e = .returned (.bool true) ∧ Below w.heap.size w w' := by
  have HT := mkHid (hTable_any h)
  have HL := mkHid (ab_Live h.ab)
  have HSL := mkHid (fun (v : World) (x p : Nat) (hv : Below w.heap.size w v) (hx : x < 18446744073709551616) (hl : look s.L x = some p) => ab_Slot (h.below hv).ab x p hx hl)
  have HOB := mkHid (fun (v : World) (x q : Nat) (o : Ob) (hv : Below w.heap.size w v) (hh : Has s x q o) => object_let (h.below hv) hh)
  have hlen : (liveH s.L).length ≤ 1048576 := by
    rw [liveH_len]
    have := cnt_le h
    omega
  obtain ⟨N, hN⟩ : ∃ N, N = (liveH s.L).length := ⟨_, rfl⟩
  have HA := mkHid hA
  have HN := mkHid hN
  have hN20 : N ≤ 1048576 := by omega
  clear h hA hlen hN
  go_enter Try.func35, Try.ntmps35
  go_wp2_with fail
  refine HT.out.mono ?_
  rintro e w1 ⟨rfl, rfl⟩
  go_wp2_with fail
  refine HL.out.mono ?_
  rintro e w2 ⟨u, rfl, o2, b2⟩
  have HRW : Hid (∀ v : World, Below w2.heap.size w2 v → ∀ k, k < N → ∃ g c, u = .slice (some ⟨g, 0, none⟩) N c ∧ N ≤ c ∧ v.cell? ⟨g, k, none⟩ = some (.int .u64 (((liveH s.L).getD k 0 : Nat) : Int))) := by
    intro v hv k hk
    rcases o2.2 with ⟨_, h0⟩ | ⟨g, cap, cur, rfl, h1, h2, h3, h4, h5, h6⟩
    · have := HN.out; omega
    · have hgl := (Array.getElem?_eq_some_iff.1 h2).1
      refine ⟨g, cap, by rw [HN.out], by rw [HN.out]; exact h3, ?_⟩
      rw [hv.cell (p := ⟨g, k, none⟩) hgl, cell_of_row w2 g k _ _ _ h2]
      have e1 : (ucells (liveH s.L))[k]? = some (.int .u64 (((liveH s.L).getD k 0 : Nat) : Int)) := by
        have : k < (liveH s.L).length := by rw [← HN.out]; exact hk
        simp [ucells, this]
      rw [← e1, ← h6, List.getElem?_take_of_lt (by rw [← HN.out]; omega)]
      simp
  obtain ⟨ua, uc, hu⟩ : ∃ a c, u = .slice a N c := by
    rcases o2.2 with ⟨rfl, h0⟩ | ⟨g, cap, cur, rfl, h1, h2, h3, h4, h5, h6⟩
    · exact ⟨none, 0, by rw [HN.out, h0]⟩
    · exact ⟨_, cap, by rw [HN.out]⟩
  subst hu
  have B2 := mkHid b2
  clear o2 b2
  go_wp2_with fail
  go_loopw [16] (fun x wr => ∃ j : Nat, x = .int .i64 j ∧ j ≤ N ∧ Below w2.heap.size w2 wr) (fun x _ => N - (intOf x).toNat)
  case atStart => exact ⟨0, rfl, Nat.zero_le _, Below.refl _ _⟩
  case round =>
    obtain ⟨j, rfl, hj, hbw⟩ := hrel
    by_cases hlt : j < N
    · obtain ⟨g, c, hug, hgc, hcell⟩ := HRW.out wr hbw j hlt
      obtain ⟨x, hx⟩ : ∃ x, x = (liveH s.L).getD j 0 := ⟨_, rfl⟩
      have hmem : x ∈ liveH s.L := by
        have : j < (liveH s.L).length := by rw [← HN.out]; exact hlt
        rw [hx, List.getD_eq_getElem?_getD, List.getElem?_eq_getElem this]
        exact List.getElem_mem this
      obtain ⟨hx64, p, q, o, hlk, hhas, hpo⟩ := HA.out x hmem
      have hbb : Below w1.heap.size w1 wr := B2.out.trans (hbw.mono B2.out.size)
      have HS1 := mkHid (HSL.out wr x p hbb hx64 hlk)
      obtain ⟨t, r, z, mk, ow, ht, hr, hz, hrz, hzz, hmk, how, ho⟩ := HOB.out wr x q o hbb hhas
      have HO := mkHid ho
      have how2 : ow = p := by rw [how, hpo]
      have hne : ((ow : Int) != (p : Int)) = false := by rw [how2]; simp
      rw [← hx] at hcell
      injection hug with e1 e2 e3
      subst e1
      subst e3
      have hj0 : (0 : Int) ≤ (j : Int) := by omega
      have hj1 : (j : Int) < (N : Int) := by omega
      have HBW := mkHid hbw
      clear hbw hbb hmem hlk hhas hpo ho ht hr hz hmk how how2 hx e2
      go_wp2_with fail
      refine HS1.out.mono ?_
      rintro e w3 ⟨rfl, rfl⟩
      go_wp2_with fail
      refine HO.out.mono ?_
      rintro e w4 ⟨rfl, b4⟩
      have B4 := mkHid (HBW.out.trans ((b4.alloc b4.size (.cells #[.int .i64 (t : Int), .int .i64 (r : Int), .int .i64 (z : Int), .bool mk, .int .i64 (ow : Int)] 103)).mono HBW.out.size))
      clear b4
      go_wp2_with fail
      go_roundw
      case rel => exact ⟨j + 1, by go_num, by omega, B4.out⟩
      case measure => simp [intOf]; omega
    · go_wp2_with fail
      go_ret
      exact ⟨rfl, B2.out.trans (hbw.mono B2.out.size)⟩
theorem holdsAt_yes (h : HP own w i s wv) {p q : Nat} (hp : p < s.L.length) (ht : (rs s.L p).taken = true) (hq : (rs s.L p).at_ = q) : Calls Try.prog 62 #[.pointer (some ⟨i.H, 0, none⟩), .int .i64 p, .int .i64 q] w fun e w' => e = .returned (.bool true) ∧ w' = w := by
  have HT := mkHid (hTable_any h)
  have HOF := mkHid (ab_Of h.ab p hp ht)
  have hfew := h.ab.few
  have hg := hfew.2.2 p hp
  have hlk : look s.L (hnd p (rs s.L p).gen) = some p := look_of hp (by omega) ht
  have hx : hnd p (rs s.L p).gen < 18446744073709551616 := hnd_lt (by omega) hg
  have HAT := mkHid (ab_At h.ab _ p hx hlk)
  obtain ⟨x, hxx⟩ : ∃ x, x = hnd p (rs s.L p).gen := ⟨_, rfl⟩
  rw [← hxx] at HOF HAT
  rw [hq] at HAT
  have he : ((q : Int) == (q : Int)) = true := by simp
  clear h hp ht hq hfew hg hlk hx hxx
  go_enter Try.func62, Try.ntmps62
  go_wp2_with fail
  refine HT.out.mono ?_
  rintro e w1 ⟨rfl, rfl⟩
  go_wp2_with fail
  refine HOF.out.mono ?_
  rintro e w1 ⟨rfl, rfl⟩
  go_wp2_with fail
  refine HAT.out.mono ?_
  rintro e w1 ⟨rfl, rfl⟩
  go_wp2_with fail
  go_ret
  exact ⟨rfl, rfl⟩
end
end Go.Proofs.Ythdggdmaajlaiaa
