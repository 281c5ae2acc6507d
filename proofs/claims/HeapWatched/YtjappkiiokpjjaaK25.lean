/- Some texts in one: each opens with its own remark. -/
import Derived.Test.YtjappkiiokpjjaaK24
import Derived.Test.YtjappkiiokpjjaaZENode
import Derived.Test.YtjappkiiokpjjaaK15
import Derived.Test.YtjappkiiokpjjaaK17
import Derived.BigQuiet
/- What is reached is closed (no walk). -/
namespace Go.Proofs.Ytjappkiiokpjjaa
open Go.RowKit

theorem plc_zero (s : HS) : plc s 0 = none := by
  unfold plc
  cases hl : look s.L 0 with
  | none => rfl
  | some p =>
    have := (look_some hl).1
    simp at this
theorem meetM_pre (s : HS) (m : Mt) (x : Nat) : ∃ t, (meetM s m x).M = m.M ++ t := by
  unfold meetM
  split
  · exact ⟨[], by simp⟩
  · cases plc s x with
    | none => exact ⟨[], by simp⟩
    | some q =>
      dsimp only
      split
      · exact ⟨[], by simp⟩
      · exact ⟨[q], rfl⟩
theorem meetAll_pre (s : HS) : ∀ (l : List Nat) (m : Mt), ∃ t, (meetAll s m l).M = m.M ++ t
  | [], m => ⟨[], by simp [meetAll]⟩
  | x :: l, m => by
    obtain ⟨t1, h1⟩ := meetM_pre s m x
    obtain ⟨t2, h2⟩ := meetAll_pre s l (meetM s m x)
    exact ⟨t1 ++ t2, by show (meetAll s (meetM s m x) l).M = _; rw [h2, h1, List.append_assoc]⟩
theorem meetM_mem {s : HS} {m : Mt} {x p : Nat} (h : plc s x = some p) : p ∈ (meetM s m x).M := by
  unfold meetM
  have h0 : x ≠ 0 := by
    rintro rfl
    rw [plc_zero] at h
    cases h
  rw [if_neg h0, h]
  dsimp only
  split
  · assumption
  · simp
theorem meetAll_mem {s : HS} : ∀ (l : List Nat) {m : Mt} {x p : Nat}, x ∈ l → plc s x = some p → p ∈ (meetAll s m l).M
  | [], _, _, _, h, _ => by simp at h
  | y :: l, m, x, p, h, hp => by
    show p ∈ (meetAll s (meetM s m y) l).M
    rcases List.mem_cons.1 h with e | h
    · subst e
      obtain ⟨t, ht⟩ := meetAll_pre s l (meetM s m x)
      rw [ht]
      exact List.mem_append_left _ (meetM_mem hp)
    · exact meetAll_mem l h hp
theorem bfsK_pre (s : HS) (m : Mt) (k : Nat) : ∀ n, ∃ t, (bfsK s m (k + n)).M = (bfsK s m k).M ++ t
  | 0 => ⟨[], by simp⟩
  | n + 1 => by
    obtain ⟨t, ht⟩ := bfsK_pre s m k n
    obtain ⟨t2, ht2⟩ := meetAll_pre s (refsAt s ((bfsK s m (k + n)).M.getD (k + n) 0)) (bfsK s m (k + n))
    exact ⟨t ++ t2, by show (meetAll s (bfsK s m (k + n)) (refsAt s ((bfsK s m (k + n)).M.getD (k + n) 0))).M = _; rw [ht2, ht, List.append_assoc]⟩
theorem bfsK_get (s : HS) (m : Mt) {k K : Nat} (h : k ≤ K) {j : Nat} (hj : j < (bfsK s m k).M.length) : (bfsK s m K).M.getD j 0 = (bfsK s m k).M.getD j 0 := by
  obtain ⟨t, ht⟩ := bfsK_pre s m k (K - k)
  rw [show k + (K - k) = K by omega] at ht
  rw [ht, List.getD_eq_getElem?_getD, List.getD_eq_getElem?_getD, List.getElem?_append_left hj]
theorem bfsK_mono (s : HS) (m : Mt) {k K : Nat} (h : k ≤ K) {p : Nat} (hp : p ∈ (bfsK s m k).M) : p ∈ (bfsK s m K).M := by
  obtain ⟨t, ht⟩ := bfsK_pre s m k (K - k)
  rw [show k + (K - k) = K by omega] at ht
  rw [ht]
  exact List.mem_append_left _ hp
/-- What the first ones hold was met. -/
theorem bfsK_closed (s : HS) (m : Mt) {k K : Nat} (h : k < K) (hk : k < (bfsK s m k).M.length) {x p : Nat} (hx : x ∈ refsAt s ((bfsK s m K).M.getD k 0)) (hp : plc s x = some p) : p ∈ (bfsK s m K).M := by
  rw [bfsK_get s m (Nat.le_of_lt h) hk] at hx
  exact bfsK_mono s m h (show p ∈ (meetAll s (bfsK s m k) (refsAt s ((bfsK s m k).M.getD k 0))).M from meetAll_mem _ hx hp)
theorem bfsK_roots (s : HS) {K : Nat} {x p : Nat} (hx : x ∈ s.rt) (hp : plc s x = some p) : p ∈ (bfsK s (mRoots s) K).M :=
  bfsK_mono s _ (Nat.zero_le K) (show p ∈ (meetAll s m0 s.rt).M from meetAll_mem _ hx hp)
end Go.Proofs.Ytjappkiiokpjjaa

/- Graph. -/
namespace Go.Proofs.Ytjappkiiokpjjaa
open Go.RowKit Go.Maps

theorem infoNode : (Try.prog.info? 105).map (fun i => (i.zero, i.size, i.bytes)) = some (some (.agg #[.int .i64 0, .slice none 0 0, .slice none 0 0]), 3, 56) := by kernel_rfl
/-- Numbers as cells. -/
def zcells (l : List Int) : List Value := l.map fun x : Int => Value.int .i64 x
theorem zcells_len (l : List Int) : (zcells l).length = l.length := by simp [zcells]
theorem zcells_snoc (l : List Int) (x : Int) : zcells (l ++ [x]) = zcells l ++ [.int .i64 x] := by simp [zcells]
/-- Cells of nodes. -/
def NodesOk (w : World) (B : Nat) : List Value → List (Nat × List Int × List Nat) → Prop
  | [], [] => True
  | a :: b :: c :: r, x :: ns => (∃ g1 g2, a = .int .i64 (x.1 : Int) ∧ b = .slice (some ⟨g1, 0, none⟩) x.2.1.length x.2.1.length ∧ c = .slice (some ⟨g2, 0, none⟩) x.2.2.length x.2.2.length ∧ B ≤ g1 ∧ B ≤ g2 ∧ Nms w g1 x.2.1 ∧ Wds w g2 27 x.2.2) ∧ NodesOk w B r ns
  | _, _ => False
theorem NodesOk.len {w : World} {B : Nat} : ∀ {cs : List Value} {ns : List (Nat × List Int × List Nat)}, NodesOk w B cs ns → cs.length = ns.length * 3
  | [], [], _ => rfl
  | a :: b :: c :: r, x :: ns, h => by
    have := NodesOk.len (cs := r) (ns := ns) h.2
    simp only [List.length_cons]
    omega
  | [], _ :: _, h => h.elim
  | [_], [], h => h.elim
  | [_], _ :: _, h => h.elim
  | [_, _], [], h => h.elim
  | [_, _], _ :: _, h => h.elim
  | _ :: _ :: _ :: _, [], h => h.elim
theorem NodesOk.snoc {w : World} {B : Nat} {a b c : Value} {t : Nat} {rf : List Int} {ws : List Nat} (hv : NodeV w B (.agg #[a, b, c]) t rf ws) : ∀ {cs : List Value} {ns : List (Nat × List Int × List Nat)}, NodesOk w B cs ns → NodesOk w B (cs ++ [a, b, c]) (ns ++ [(t, rf, ws)])
  | [], [], _ => by
    obtain ⟨g1, g2, e, h1, h2, h3, h4⟩ := hv
    injection e with e
    simp at e
    exact ⟨⟨g1, g2, e.1, e.2.1, e.2.2, h1, h2, h3, h4⟩, trivial⟩
  | _ :: _ :: _ :: r, _ :: ns, h => ⟨h.1, NodesOk.snoc hv h.2⟩
  | [], _ :: _, h => h.elim
  | [_], [], h => h.elim
  | [_], _ :: _, h => h.elim
  | [_, _], [], h => h.elim
  | [_, _], _ :: _, h => h.elim
  | _ :: _ :: _ :: _, [], h => h.elim
theorem NodesOk.keep {w w' : World} {B : Nat} (hk : ∀ (k : Nat) (cs : Array Value) (t : Nat), w.heap[k]? = some (.cells cs t (0, 0)) → t = 3 ∨ t = 27 → w'.heap[k]? = w.heap[k]?) : ∀ {cs : List Value} {ns : List (Nat × List Int × List Nat)}, NodesOk w B cs ns → NodesOk w' B cs ns
  | [], [], _ => trivial
  | _ :: _ :: _ :: r, _ :: ns, h => by
    obtain ⟨⟨g1, g2, e1, e2, e3, h1, h2, h3, h4⟩, h5⟩ := h
    exact ⟨⟨g1, g2, e1, e2, e3, h1, h2, h3.same (hk _ _ _ h3 (Or.inl rfl)), h4.same (hk _ _ _ h4 (Or.inr rfl))⟩, NodesOk.keep hk h5⟩
  | [], _ :: _, h => h.elim
  | [_], [], h => h.elim
  | [_], _ :: _, h => h.elim
  | [_, _], [], h => h.elim
  | [_, _], _ :: _, h => h.elim
  | _ :: _ :: _ :: _, [], h => h.elim
/-- A graph as a value: its roots' numbers, its nodes. -/
def GraphV (w : World) (B : Nat) (v : Value) (roots : List Int) (ns : List (Nat × List Int × List Nat)) : Prop := ∃ u1 u2 cs, v = .agg #[u1, u2] ∧ w.ownsRow B 3 1 u1 roots.length (zcells roots) ∧ w.ownsRow B 105 3 u2 ns.length cs ∧ NodesOk w B cs ns
/-- The state between the steps of Graph. -/
structure Gst (w wr : World) (bn : Nat) (u1 u2 : Value) (roots : List Int) (cs : List Value) (k : Nat) : Prop where
  bel : Below w.heap.size w wr
  box : wr.heap[bn]? = some (.cells #[u1, u2] 43 (0, 0))
  r1 : wr.ownsRow w.heap.size 3 1 u1 roots.length (zcells roots)
  r2 : wr.ownsRow w.heap.size 105 3 u2 k cs
  ge : w.heap.size ≤ bn
theorem own_keep {w w' : World} {B e z n : Nat} {u : Value} {xs : List Value} (h : w.ownsRow B e z u n xs) (hk : ∀ (k : Nat) (cs : Array Value), u.ownBlock = some k → w.heap[k]? = some (.cells cs e (0, 0)) → w'.heap[k]? = w.heap[k]?) : w'.ownsRow B e z u n xs := by
  refine ⟨h.1, ?_⟩
  rcases h.2 with h0 | ⟨g, cap, cur, rfl, h1, h2, h3⟩
  · exact Or.inl h0
  · exact Or.inr ⟨g, cap, cur, rfl, h1, by rw [hk g cur rfl h2]; exact h2, h3⟩
theorem own_typed {w : World} {B e z n : Nat} {u : Value} {xs : List Value} (h : w.ownsRow B e z u n xs) {k : Nat} (hk : u.ownBlock = some k) : ∃ cs, w.heap[k]? = some (.cells cs e (0, 0)) := by
  rcases h.2 with ⟨rfl, _⟩ | ⟨g, cap, cur, rfl, h1, h2, h3⟩
  · cases hk
  · cases hk; exact ⟨_, h2⟩
theorem Gst.below {w wr w' : World} {bn : Nat} {u1 u2 : Value} {roots : List Int} {cs : List Value} {k : Nat} (h : Gst w wr bn u1 u2 roots cs k) (hb : Below wr.heap.size wr w') : Gst w w' bn u1 u2 roots cs k := by
  have lt : ∀ {j : Nat} {o : Obj}, wr.heap[j]? = some o → w'.heap[j]? = wr.heap[j]? := fun hj => hb.block _ (Array.getElem?_eq_some_iff.1 hj).1
  exact ⟨h.bel.trans (hb.mono h.bel.size), by rw [lt h.box]; exact h.box, own_keep h.r1 fun _ _ _ hg => lt hg, own_keep h.r2 fun _ _ _ hg => lt hg, h.ge⟩
theorem Gst.drew {w wr : World} {bn : Nat} {u1 u2 : Value} {roots : List Int} {cs : List Value} {k : Nat} (h : Gst w wr bn u1 u2 roots cs k) : Gst w wr.drew bn u1 u2 roots cs k := h.below (Below.refl _ _).drew
end Go.Proofs.Ytjappkiiokpjjaa

/- Graph: its steps. -/
namespace Go.Proofs.Ytjappkiiokpjjaa
open Go.RowKit Go.Maps

theorem grow_keep {w w' : World} {B e z n : Nat} {u : Value} {xs : List Value} (h : w.ownsRow B e z u n xs) (g : w.grownBy w' u.ownBlock) {k : Nat} {cs : Array Value} {t : Nat} {fr : Nat × Nat} (hk : w.heap[k]? = some (.cells cs t fr)) (ht : t ≠ e) : w'.heap[k]? = w.heap[k]? := by
  refine g.block k (Array.getElem?_eq_some_iff.1 hk).1 fun e2 => ?_
  obtain ⟨cs', h1⟩ := own_typed h e2.symm
  rw [hk] at h1
  cases h1
  exact ht rfl
theorem set_keep {w : World} {b i : Nat} {x : Value} {ds cs : Array Value} {t t' : Nat} {fr fr' : Nat × Nat} (hb : w.heap[b]? = some (.cells ds t fr)) {k : Nat} (hk : w.heap[k]? = some (.cells cs t' fr')) (ht : t' ≠ t) : (w.setCell ⟨b, i, none⟩ x).heap[k]? = w.heap[k]? := by
  refine Below.heap_setCell w ⟨b, i, none⟩ x k ?_
  rintro rfl
  rw [hk] at hb
  cases hb
  exact ht rfl
section
variable {w wr w5 w6 : World} {bn k : Nat} {u1 u2 u' : Value} {roots : List Int} {cs : List Value}
theorem Gst.root (h : Gst w wr bn u1 u2 roots cs k) (b5 : Below wr.heap.size wr w5) {x : Int} (r6 : w6.ownsRow w.heap.size 3 1 u' (roots.length + 1) (zcells roots ++ [.int .i64 x])) (g6 : w5.grownBy w6 u1.ownBlock) : Gst w (w6.setCell ⟨bn, 0, none⟩ u') bn u' u2 (roots ++ [x]) cs k ∧ w6.heap[bn]? = some (.cells #[u1, u2] 43 (0, 0)) := by
  have h5 := h.below b5
  have s6 := g6.size
  have kp : ∀ {j : Nat} {ds : Array Value} {t : Nat} {fr : Nat × Nat}, w5.heap[j]? = some (.cells ds t fr) → t ≠ 3 → w6.heap[j]? = w5.heap[j]? := fun hj ht => grow_keep h5.r1 g6 hj ht
  have hbox : w6.heap[bn]? = some (.cells #[u1, u2] 43 (0, 0)) := by rw [kp h5.box (by decide)]; exact h5.box
  have b6 : Below w.heap.size w w6 := by
    refine h5.bel.trans ⟨g6.os, g6.tape, g6.output, g6.size, fun j hj => g6.block j (by have := h5.bel.size; omega) fun e => ?_⟩
    have := (h5.r1.lt j e.symm).1
    omega
  refine ⟨⟨b6.setCell h.ge _, ?_, ?_, ?_, h.ge⟩, hbox⟩
  · rw [heap_setCell_same w6 bn 0 _ _ _ hbox]; rfl
  · rw [List.length_append, zcells_snoc]
    exact own_keep r6 fun j ds hj hg => set_keep hbox hg (by decide)
  · have r2 := own_keep (w' := w6) h5.r2 fun j ds hj hg => kp hg (by decide)
    exact own_keep r2 fun j ds hj hg => set_keep hbox hg (by decide)
theorem Gst.node (h : Gst w wr bn u1 u2 roots cs k) (b5 : Below wr.heap.size wr w5) {a b c : Value} (r6 : w6.ownsRow w.heap.size 105 3 u' (k + 1) (cs ++ [a, b, c])) (g6 : w5.grownBy w6 u2.ownBlock) : Gst w (w6.setCell ⟨bn, 1, none⟩ u') bn u1 u' roots (cs ++ [a, b, c]) (k + 1) ∧ w6.heap[bn]? = some (.cells #[u1, u2] 43 (0, 0)) := by
  have h5 := h.below b5
  have kp : ∀ {j : Nat} {ds : Array Value} {t : Nat} {fr : Nat × Nat}, w5.heap[j]? = some (.cells ds t fr) → t ≠ 105 → w6.heap[j]? = w5.heap[j]? := fun hj ht => grow_keep h5.r2 g6 hj ht
  have hbox : w6.heap[bn]? = some (.cells #[u1, u2] 43 (0, 0)) := by rw [kp h5.box (by decide)]; exact h5.box
  have b6 : Below w.heap.size w w6 := by
    refine h5.bel.trans ⟨g6.os, g6.tape, g6.output, g6.size, fun j hj => g6.block j (by have := h5.bel.size; omega) fun e => ?_⟩
    have := (h5.r2.lt j e.symm).1
    omega
  refine ⟨⟨b6.setCell h.ge _, ?_, ?_, ?_, h.ge⟩, hbox⟩
  · rw [heap_setCell_same w6 bn 1 _ _ _ hbox]; rfl
  · have r1 := own_keep (w' := w6) h5.r1 fun j ds hj hg => kp hg (by decide)
    exact own_keep r1 fun j ds hj hg => set_keep hbox hg (by decide)
  · exact own_keep r6 fun j ds hj hg => set_keep hbox hg (by decide)
/-- Behind the step the nodes that were laid are as they were. -/
theorem Gst.nodesKeep (h : Gst w wr bn u1 u2 roots cs k) (b5 : Below wr.heap.size wr w5) (g6 : w5.grownBy w6 u2.ownBlock) {ds : List Value} {ns : List (Nat × List Int × List Nat)} (hn : NodesOk w5 w.heap.size ds ns) : NodesOk (w6.setCell ⟨bn, 1, none⟩ u') w.heap.size ds ns := by
  have h5 := h.below b5
  have hbox : w6.heap[bn]? = some (.cells #[u1, u2] 43 (0, 0)) := by rw [grow_keep h5.r2 g6 h5.box (by decide)]; exact h5.box
  refine hn.keep fun j es t hj ht => ?_
  have h1 : w6.heap[j]? = w5.heap[j]? := grow_keep h5.r2 g6 hj (by rcases ht with rfl | rfl <;> decide)
  rw [set_keep hbox (by rw [h1]; exact hj) (by rcases ht with rfl | rfl <;> decide), h1]
end
theorem NodesOk.below {w w' : World} {B : Nat} {cs : List Value} {ns : List (Nat × List Int × List Nat)} (h : NodesOk w B cs ns) (hb : Below w.heap.size w w') : NodesOk w' B cs ns := h.keep fun k _cs _t hk _ => hb.block k (Array.getElem?_eq_some_iff.1 hk).1
theorem NodesOk.mono {w : World} {B B' : Nat} (hB : B' ≤ B) : ∀ {cs : List Value} {ns : List (Nat × List Int × List Nat)}, NodesOk w B cs ns → NodesOk w B' cs ns
  | [], [], _ => trivial
  | _ :: _ :: _ :: r, _ :: ns, h => by
    obtain ⟨⟨g1, g2, e1, e2, e3, h1, h2, h3, h4⟩, h5⟩ := h
    exact ⟨⟨g1, g2, e1, e2, e3, by omega, by omega, h3, h4⟩, NodesOk.mono hB h5⟩
  | [], _ :: _, h => h.elim
  | [_], [], h => h.elim
  | [_], _ :: _, h => h.elim
  | [_, _], [], h => h.elim
  | [_, _], _ :: _, h => h.elim
  | _ :: _ :: _ :: _, [], h => h.elim
theorem NodeV.mono {w : World} {B B' : Nat} {v : Value} {t : Nat} {rf : List Int} {ws : List Nat} (h : NodeV w B v t rf ws) (hB : B' ≤ B) : NodeV w B' v t rf ws := by
  obtain ⟨g1, g2, e, h1, h2, h3, h4⟩ := h
  exact ⟨g1, g2, e, by omega, by omega, h3, h4⟩
theorem own_mono {w : World} {B B' e z n : Nat} {u : Value} {xs : List Value} (h : w.ownsRow B e z u n xs) (hB : B' ≤ B) : w.ownsRow B' e z u n xs := by
  refine ⟨h.1, ?_⟩
  rcases h.2 with h0 | ⟨g, cap, cur, e1, h1, h2⟩
  · exact Or.inl h0
  · exact Or.inr ⟨g, cap, cur, e1, by omega, h2⟩
theorem own_slice {w : World} {B e z n : Nat} {u : Value} {xs : List Value} (h : w.ownsRow B e z u n xs) : ∃ p n c, u = .slice p n c := by
  rcases h.2 with ⟨rfl, _⟩ | ⟨g, cap, cur, rfl, _⟩
  · exact ⟨none, 0, 0, rfl⟩
  · exact ⟨_, _, _, rfl⟩
theorem set2 {W : World} {b T : Nat} {a0 a1 v0 v1 : Value} (h : W.heap[b]? = some (.cells #[a0, a1] T (0, 0))) : ((W.setCell ⟨b, 0, none⟩ v0).setCell ⟨b, 1, none⟩ v1).heap[b]? = some (.cells #[v0, v1] T (0, 0)) := by
  have g0 := heap_setCell_same W b 0 _ _ v0 h
  exact heap_setCell_same _ b 1 _ _ v1 g0
theorem s1_alloc {v : World} {a : Addr} {x : Value} (o : Obj) (h : v.drew.cell? a = some x) : (v.alloc o).drew.cell? a = some x := by
  have g1 : v.cell? a = some x := h
  exact (World.cell?_alloc_some v _ o (by rw [g1]; rfl)).trans g1
/-- An object as a node. -/
def nodeOf (s : HS) (m : Mt) (q : Nat) : Nat × List Int × List Nat := ((obD s q).tag, ((obD s q).ws.take (obD s q).refs).map (numX s m), (obD s q).ws.drop (obD s q).refs)
end Go.Proofs.Ytjappkiiokpjjaa

/- The heap's graph and the document's: the same order, the same numbers (no walk). -/
namespace Go.Proofs.Ytjappkiiokpjjaa
open Go.RowKit

section
variable {cap slots : Nat} {Os : List Ob} {rt : List Nat}
/-- A handle's place. -/
def plX (Os : List Ob) (x : Nat) : Nat := (plc (plainS 0 0 Os []) x).getD 0
theorem plc_plain (x : Nat) : plc (plainS cap slots Os rt) x = (look (plL 0 Os) x).map fun p => place Os p := by
  unfold plc
  show Option.map _ (look (plL 0 Os) x) = _
  rcases h : look (plL 0 Os) x with _ | p
  · rfl
  · have := plL_rs Os 0 p (look_lt h)
    show some (rs (plL 0 Os) p).at_ = some (place Os p)
    rw [this, Nat.zero_add]
theorem place_mono {j k : Nat} (h : j < k) (hk : k ≤ Os.length) : place Os j < place Os k := by
  induction k with
  | zero => omega
  | succ k ih =>
    have h1 := place_succ (Lo := Os) (k := k) (by omega)
    have hz : osz (oat Os k) = 1 + (oat Os k).ws.length := rfl
    rcases Nat.lt_or_ge j k with hj | hj
    · have := ih hj (by omega); omega
    · obtain rfl : j = k := by omega
      omega
theorem place_inj {j k : Nat} (hj : j < Os.length) (hk : k < Os.length) (h : place Os j = place Os k) : j = k := by
  rcases Nat.lt_trichotomy j k with h1 | h1 | h1
  · have := place_mono h1 (Nat.le_of_lt hk); omega
  · exact h1
  · have := place_mono h1 (Nat.le_of_lt hj); omega
/-- A row of places that stands for a row of handles. -/
def Mir (Os : List Ob) (M : List Nat) (o : List Nat) : Prop := M.length = o.length ∧ ∀ j, j < o.length → ∃ k, look (plL 0 Os) (o.getD j 0) = some k ∧ M.getD j 0 = place Os k
theorem Mir.mem {M o : List Nat} (h : Mir Os M o) {x k : Nat} (hx : look (plL 0 Os) x = some k) : place Os k ∈ M ↔ x ∈ o := by
  constructor
  · intro hm
    obtain ⟨j, hj, e⟩ := List.getElem_of_mem hm
    obtain ⟨k', h1, h2⟩ := h.2 j (by rw [← h.1]; exact hj)
    rw [List.getD_eq_getElem?_getD, List.getElem?_eq_getElem hj, e] at h2
    have : k = k' := place_inj (look_lt hx) (look_lt h1) h2
    subst this
    have e1 := (look_pl_some hx).2
    have e2 := (look_pl_some h1).2
    have hj' : j < o.length := by rw [← h.1]; exact hj
    rw [e1, ← e2, List.getD_eq_getElem?_getD, List.getElem?_eq_getElem hj']
    exact List.getElem_mem hj'
  · intro hm
    obtain ⟨j, hj, e⟩ := List.getElem_of_mem hm
    obtain ⟨k', h1, h2⟩ := h.2 j hj
    rw [List.getD_eq_getElem?_getD, List.getElem?_eq_getElem hj, e] at h1
    have e3 : some x = some x := rfl
    simp only [Option.getD_some] at h1
    rw [hx] at h1
    injection h1 with h1
    subst h1
    have hj' : j < M.length := by rw [h.1]; exact hj
    rw [← h2, List.getD_eq_getElem?_getD, List.getElem?_eq_getElem hj']
    exact List.getElem_mem hj'
theorem Mir.meet {m : Mt} {o : List Nat} (h : Mir Os m.M o) (_hb : Os.length ≤ 1048576) (y : Nat) : Mir Os (meetM (plainS cap slots Os rt) m y).M (metO Os o y) := by
  unfold meetM metO
  by_cases h0 : y = 0
  · have hl : look (plL 0 Os) y = none := by rw [h0]; exact look_miss (fun k _ e => by have := hnd_pos k; omega)
    rw [if_pos h0, hl]
    simpa using h
  · rw [if_neg h0, plc_plain]
    rcases hl : look (plL 0 Os) y with _ | k
    · simpa using h
    · simp only [Option.map_some]
      by_cases hm : place Os k ∈ m.M
      · rw [if_pos hm, if_neg (by simp [(h.mem hl).1 hm])]
        exact h
      · have hy : y ∉ o := fun e => hm ((h.mem hl).2 e)
        rw [if_neg hm, if_pos ⟨by simp, hy⟩]
        refine ⟨by simp [h.1], fun j hj => ?_⟩
        rw [List.length_append, List.length_singleton] at hj
        rcases Nat.lt_or_ge j o.length with h1 | h1
        · obtain ⟨k', h2, h3⟩ := h.2 j h1
          refine ⟨k', ?_, ?_⟩
          · rw [List.getD_eq_getElem?_getD, List.getElem?_append_left h1, ← List.getD_eq_getElem?_getD]; exact h2
          · rw [List.getD_eq_getElem?_getD, List.getElem?_append_left (by rw [h.1]; exact h1), ← List.getD_eq_getElem?_getD]; exact h3
        · obtain rfl : j = o.length := by omega
          refine ⟨k, ?_, ?_⟩
          · rw [List.getD_eq_getElem?_getD, List.getElem?_append_right (Nat.le_refl _)]; simpa using hl
          · rw [List.getD_eq_getElem?_getD, List.getElem?_append_right (by rw [h.1]; exact Nat.le_refl _), h.1]; simp
theorem Mir.all (hb : Os.length ≤ 1048576) : ∀ (ys : List Nat) {m : Mt} {o : List Nat}, Mir Os m.M o → Mir Os (meetAll (plainS cap slots Os rt) m ys).M (metX Os o ys)
  | [], _, _, h => h
  | y :: ys, _, _, h => Mir.all hb ys (h.meet hb y)
theorem obD_place {k : Nat} (hk : k < Os.length) : obD (plainS cap slots Os rt) (place Os k) = oat Os k := by
  unfold obD
  rw [show obAt (plainS cap slots Os rt).Lo (plainS cap slots Os rt).Hi (plainS cap slots Os rt).e (place Os k) = some (oat Os k) from obAt_place hk]
  rfl
theorem Mir.bfs (hb : Os.length ≤ 1048576) : ∀ K, (∀ j, j < K → j < (ordK Os rt j).length) → Mir Os (bfsK (plainS cap slots Os rt) (mRoots (plainS cap slots Os rt)) K).M (ordK Os rt K)
  | 0, _ => Mir.all hb rt ⟨rfl, fun j hj => absurd hj (Nat.not_lt_zero _)⟩
  | K + 1, h => by
    have ih := Mir.bfs hb K (fun j hj => h j (by omega))
    obtain ⟨k, h1, h2⟩ := ih.2 K (h K (by omega))
    have e : refsAt (plainS cap slots Os rt) ((bfsK (plainS cap slots Os rt) (mRoots (plainS cap slots Os rt)) K).M.getD K 0) = rfY Os ((ordK Os rt K).getD K 0) := by
      unfold refsAt rfY
      rw [h2, obD_place (look_lt h1), h1]
      rfl
    show Mir Os (meetAll _ _ (refsAt _ _)).M (metX Os _ _)
    rw [e]
    exact Mir.all hb _ ih
/-- Both go on as long. -/
theorem ord_same (hb : Os.length ≤ 1048576) {K1 K2 : Nat} (h1 : K1 = (bfsK (plainS cap slots Os rt) (mRoots (plainS cap slots Os rt)) K1).M.length) (h2 : ∀ j, j < K1 → j < (bfsK (plainS cap slots Os rt) (mRoots (plainS cap slots Os rt)) j).M.length) (g1 : K2 = (ordK Os rt K2).length) (g2 : ∀ j, j < K2 → j < (ordK Os rt j).length) : K1 = K2 := by
  rcases Nat.lt_trichotomy K1 K2 with h | h | h
  · have e := (Mir.bfs (cap := cap) (slots := slots) (rt := rt) hb K1 (fun j hj => g2 j (by omega))).1
    have := g2 K1 h
    omega
  · exact h
  · have e := (Mir.bfs (cap := cap) (slots := slots) (rt := rt) hb K2 g2).1
    have := h2 K2 h
    omega
theorem Mir.num {m : Mt} {o : List Nat} (h : Mir Os m.M o) (y : Nat) (hin : ∀ k, look (plL 0 Os) y = some k → place Os k ∈ m.M) : numX (plainS cap slots Os rt) m y = numI o y := by
  unfold numX
  rw [plc_plain]
  rcases hl : look (plL 0 Os) y with _ | k
  · simp only [Option.map_none]
    rw [numI_miss]
    intro j hj e
    obtain ⟨k, h1, _⟩ := h.2 j hj
    rw [e, hl] at h1
    cases h1
  · simp only [Option.map_some]
    have hm := hin k hl
    have hlt : m.M.idxOf (place Os k) < m.M.length := List.idxOf_lt_length_of_mem hm
    have hget : ∀ t, t < m.M.length → m.M.getD t 0 = place Os k → o.getD t 0 = y := fun t ht e => by
      obtain ⟨k', h1, h2⟩ := h.2 t (by rw [← h.1]; exact ht)
      rw [e] at h2
      have e2 : k = k' := place_inj (look_lt hl) (look_lt h1) h2
      subst e2
      rw [(look_pl_some h1).2, (look_pl_some hl).2]
    rw [numI_hit (j := m.M.idxOf (place Os k)) (by rw [← h.1]; exact hlt)]
    · exact hget _ hlt (by rw [List.getD_eq_getElem?_getD, List.getElem?_eq_getElem hlt, Option.getD_some]; exact List.getElem_idxOf hlt)
    · intro t ht e
      obtain ⟨k', h1, h2⟩ := h.2 t (by rw [← h.1]; omega)
      rw [e, hl] at h1
      injection h1 with h1
      subst h1
      have h3 := List.not_of_lt_findIdx ht
      rw [List.getD_eq_getElem?_getD, List.getElem?_eq_getElem (by omega), Option.getD_some] at h2
      rw [h2] at h3
      simp at h3
/-- The document's node. -/
def docN (Os : List Ob) (o : List Nat) (x : Nat) : Nat × List Int × List Nat :=
  match look (plL 0 Os) x with
  | some k => ((oat Os k).tag, (refsO (oat Os k)).map (numI o), wordsO (oat Os k))
  | none => (0, [], [])
theorem graph_same (hb : Os.length ≤ 1048576) {K : Nat} (h1 : K = (bfsK (plainS cap slots Os rt) (mRoots (plainS cap slots Os rt)) K).M.length) (h2 : ∀ j, j < K → j < (bfsK (plainS cap slots Os rt) (mRoots (plainS cap slots Os rt)) j).M.length) (g2 : ∀ j, j < K → j < (ordK Os rt j).length) :
    rt.map (numX (plainS cap slots Os rt) (bfsK (plainS cap slots Os rt) (mRoots (plainS cap slots Os rt)) K)) = rt.map (numI (ordK Os rt K)) ∧ (bfsK (plainS cap slots Os rt) (mRoots (plainS cap slots Os rt)) K).M.map (nodeOf (plainS cap slots Os rt) (bfsK (plainS cap slots Os rt) (mRoots (plainS cap slots Os rt)) K)) = (ordK Os rt K).map (docN Os (ordK Os rt K)) := by
  have hM := Mir.bfs (cap := cap) (slots := slots) (rt := rt) hb K g2
  constructor
  · apply List.map_congr_left
    intro y hy
    refine hM.num y fun k hk => ?_
    exact bfsK_roots (plainS cap slots Os rt) (x := y) hy (by rw [plc_plain, hk]; rfl)
  · apply List.ext_getElem?
    intro j
    rw [List.getElem?_map, List.getElem?_map]
    rcases Nat.lt_or_ge j (ordK Os rt K).length with hj | hj
    · obtain ⟨k, e1, e2⟩ := hM.2 j hj
      have hj' : j < (bfsK (plainS cap slots Os rt) (mRoots (plainS cap slots Os rt)) K).M.length := by rw [hM.1]; exact hj
      rw [List.getElem?_eq_getElem hj, List.getElem?_eq_getElem hj', Option.map_some, Option.map_some]
      rw [List.getD_eq_getElem?_getD, List.getElem?_eq_getElem hj, Option.getD_some] at e1
      have e2' := e2
      rw [List.getD_eq_getElem?_getD, List.getElem?_eq_getElem hj', Option.getD_some] at e2
      rw [e2]
      unfold docN nodeOf
      rw [e1, obD_place (look_lt e1)]
      dsimp only
      congr 2
      unfold refsO
      have : (fun l : List Nat => l) = fun l => l := rfl
      refine congrArg (fun z => (z, wordsO (oat Os k))) ?_
      apply List.map_congr_left
      intro y hy
      refine hM.num y fun k2 hk2 => ?_
      have hjK : j < K := by rw [h1]; exact hj'
      exact bfsK_closed (plainS cap slots Os rt) (mRoots (plainS cap slots Os rt)) (k := j) (K := K) hjK (h2 j hjK) (x := y) (by rw [e2']; unfold refsAt; rw [obD_place (look_lt e1)]; exact hy) (by rw [plc_plain, hk2]; rfl)
    · rw [List.getElem?_eq_none hj, List.getElem?_eq_none (by rw [hM.1]; exact hj)]
      rfl
end
end Go.Proofs.Ytjappkiiokpjjaa

/- Two nodes that are the same. -/
namespace Go.Proofs.Ytjappkiiokpjjaa
open Go.RowKit

/-- A row of numbers that is seen. -/
def RZ (k : IntKind) (w : World) (a : Option Addr) (zs : List Int) : Prop := zs = [] ∨ ∃ g, a = some ⟨g, 0, none⟩ ∧ g < w.heap.size ∧ ∀ j, j < zs.length → w.cell? ⟨g, j, none⟩ = some (.int k (zs.getD j 0))
theorem RZ.below {k : IntKind} {w w' : World} {a : Option Addr} {zs : List Int} (h : RZ k w a zs) (hb : Below w.heap.size w w') : RZ k w' a zs := by
  rcases h with h | ⟨g, e, hl, h⟩
  · exact Or.inl h
  · exact Or.inr ⟨g, e, Nat.lt_of_lt_of_le hl hb.size, fun j hj => (hb.cell (p := ⟨g, j, none⟩) hl).trans (h j hj)⟩
theorem RZ.open {k : IntKind} {w : World} {a : Option Addr} {zs : List Int} (h : RZ k w a zs) {j : Nat} (hj : j < zs.length) : ∃ g, a = some ⟨g, 0, none⟩ ∧ g < w.heap.size ∧ w.cell? ⟨g, j, none⟩ = some (.int k (zs.getD j 0)) := by
  rcases h with h | ⟨g, e, hl, h⟩
  · rw [h] at hj; exact absurd hj (Nat.not_lt_zero _)
  · exact ⟨g, e, hl, h j hj⟩
set_option maxHeartbeats 2000000 in
set_option maxRecDepth 100000 in
theorem nodeSame {w : World} (t : Int) (rf ws : List Int) {a1 a2 b1 b2 : Option Addr} {c1 c2 d1 d2 : Nat} (h1 : RZ .i64 w a1 rf) (h2 : RZ .u64 w a2 ws) (g1 : RZ .i64 w b1 rf) (g2 : RZ .u64 w b2 ws) (hr : rf.length ≤ 1048576) (hw : ws.length ≤ 1048576) : Calls Try.prog 46 #[.agg #[.int .i64 t, .slice a1 rf.length c1, .slice a2 ws.length c2], .agg #[.int .i64 t, .slice b1 rf.length d1, .slice b2 ws.length d2]] w fun e w' => e = .returned (.bool true) ∧ Below w.heap.size w w' := by
  obtain ⟨n, hn⟩ : ∃ n, n = rf.length := ⟨_, rfl⟩
  obtain ⟨m, hm⟩ : ∃ m, m = ws.length := ⟨_, rfl⟩
  rw [← hn, ← hm]
  have hnb : n ≤ 1048576 := by omega
  have hmb : m ≤ 1048576 := by omega
  have hb : Below w.heap.size w ((w.alloc (.cells #[.int .i64 t, .slice a1 n c1, .slice a2 m c2] 105)).alloc (.cells #[.int .i64 t, .slice b1 n d1, .slice b2 m d2] 106)) := ((Below.refl _ _).alloc (Nat.le_refl _) _).alloc (by simp) _
  have hA : ((w.alloc (.cells #[.int .i64 t, .slice a1 n c1, .slice a2 m c2] 105)).alloc (.cells #[.int .i64 t, .slice b1 n d1, .slice b2 m d2] 106)).heap[w.heap.size]? = some (.cells #[.int .i64 t, .slice a1 n c1, .slice a2 m c2] 105 (0, 0)) := by
    rw [heap_alloc_old _ _ (by simp)]; exact heap_alloc_new w _
  have hB : ((w.alloc (.cells #[.int .i64 t, .slice a1 n c1, .slice a2 m c2] 105)).alloc (.cells #[.int .i64 t, .slice b1 n d1, .slice b2 m d2] 106)).heap[w.heap.size + 1]? = some (.cells #[.int .i64 t, .slice b1 n d1, .slice b2 m d2] 106 (0, 0)) := by
    have e : (w.alloc (.cells #[.int .i64 t, .slice a1 n c1, .slice a2 m c2] 105)).heap.size = w.heap.size + 1 := by simp
    rw [← e]; exact heap_alloc_new _ _
  obtain ⟨W, hW⟩ : ∃ W, W = (w.alloc (.cells #[.int .i64 t, .slice a1 n c1, .slice a2 m c2] 105)).alloc (.cells #[.int .i64 t, .slice b1 n d1, .slice b2 m d2] 106) := ⟨_, rfl⟩
  rw [← hW] at hb hA hB
  have H1 := mkHid (h1.below hb)
  have H2 := mkHid (h2.below hb)
  have G1 := mkHid (g1.below hb)
  have G2 := mkHid (g2.below hb)
  have p0 : W.cell? ⟨w.heap.size, 0, none⟩ = some (.int .i64 t) := cell_of_row W _ 0 _ _ _ hA
  have p1 : W.cell? ⟨w.heap.size, 1, none⟩ = some (.slice a1 n c1) := cell_of_row W _ 1 _ _ _ hA
  have p2 : W.cell? ⟨w.heap.size, 2, none⟩ = some (.slice a2 m c2) := cell_of_row W _ 2 _ _ _ hA
  have q0 : W.cell? ⟨w.heap.size + 1, 0, none⟩ = some (.int .i64 t) := cell_of_row W _ 0 _ _ _ hB
  have q1 : W.cell? ⟨w.heap.size + 1, 1, none⟩ = some (.slice b1 n d1) := cell_of_row W _ 1 _ _ _ hB
  have q2 : W.cell? ⟨w.heap.size + 1, 2, none⟩ = some (.slice b2 m d2) := cell_of_row W _ 2 _ _ _ hB
  have HW := mkHid hW
  have HB := mkHid hb
  have HN := mkHid hn
  have HM := mkHid hm
  clear h1 h2 g1 g2 hb hA hB hW hn hm hr hw
  go_enter Try.func46, Try.ntmps46
  refine wp_seq_k (fun K1 hkA => ?_)
  have HK1 := mkHid hkA
  clear hkA
  go_wp2_with fail
  rw [← HW.out]
  refine HK1.out _ _ ?_
  clear HK1
  go_wp2_with fail
  go_loopw [5] (fun y wr => ∃ j : Nat, y = .int .i64 j ∧ j ≤ n ∧ ∃ q, wr = W.drewN q) (fun y _ => n - (intOf y).toNat)
  case atStart => exact ⟨0, rfl, Nat.zero_le _, 0, rfl⟩
  case round =>
    obtain ⟨j, rfl, hj, qd, rfl⟩ := hrel
    by_cases hlt : j < n
    · obtain ⟨ga, rfl, _, ca⟩ := H1.out.open (j := j) (by rw [← HN.out]; exact hlt)
      obtain ⟨gb, rfl, _, cb⟩ := G1.out.open (j := j) (by rw [← HN.out]; exact hlt)
      generalize rf.getD j 0 = x at ca cb
      have hj0 : (0 : Int) ≤ (j : Int) := by omega
      have hj1 : (j : Int) < (n : Int) := by omega
      go_wp2_with fail
      go_quiet (fail)
      go_wp2_with fail
      refine ⟨⟨j + 1, by go_num, by omega, _, rfl⟩, by simp [intOf]; omega⟩
    · obtain rfl : n = j := by omega
      go_wp2_with fail
      go_loopw [6] (fun y wr => ∃ j : Nat, y = .int .i64 j ∧ j ≤ m ∧ ∃ q, wr = W.drewN q) (fun y _ => m - (intOf y).toNat)
      case atStart => exact ⟨0, rfl, Nat.zero_le _, _, rfl⟩
      case round =>
        obtain ⟨j, rfl, hj2, qe, rfl⟩ := hrel
        by_cases hlt : j < m
        · obtain ⟨ga, rfl, _, ca⟩ := H2.out.open (j := j) (by rw [← HM.out]; exact hlt)
          obtain ⟨gb, rfl, _, cb⟩ := G2.out.open (j := j) (by rw [← HM.out]; exact hlt)
          generalize ws.getD j 0 = x at ca cb
          have hj0 : (0 : Int) ≤ (j : Int) := by omega
          have hj1 : (j : Int) < (m : Int) := by omega
          go_wp2_with fail
          go_quiet (fail)
          go_wp2_with fail
          refine ⟨⟨j + 1, by go_num, by omega, _, rfl⟩, by simp [intOf]; omega⟩
        · obtain rfl : m = j := by omega
          go_wp2_with fail
          go_ret
          exact ⟨rfl, below_dn HB.out _⟩
end Go.Proofs.Ytjappkiiokpjjaa
