/- Graph. -/
import Derived.Test.YtfknheljheggkaaENode
import Derived.Test.YtfknheljheggkaaEClosed
namespace Go.Proofs.Ytfknheljheggkaa
open Go.RowKit Go.Maps

theorem infoNode : (Try.prog.info? 41).map (fun i => (i.zero, i.size, i.bytes)) = some (some (.agg #[.int .i64 0, .slice none 0 0, .slice none 0 0]), 3, 56) := by kernel_rfl
/-- Numbers as cells. -/
def zcells (l : List Int) : List Value := l.map fun x : Int => Value.int .i64 x
theorem zcells_len (l : List Int) : (zcells l).length = l.length := by simp [zcells]
theorem zcells_snoc (l : List Int) (x : Int) : zcells (l ++ [x]) = zcells l ++ [.int .i64 x] := by simp [zcells]
/-- Cells of nodes. -/
def NodesOk (w : World) (B : Nat) : List Value → List (Nat × List Int × List Nat) → Prop
  | [], [] => True
  | a :: b :: c :: r, x :: ns => (∃ g1 g2, a = .int .i64 (x.1 : Int) ∧ b = .slice (some ⟨g1, 0, none⟩) x.2.1.length x.2.1.length ∧ c = .slice (some ⟨g2, 0, none⟩) x.2.2.length x.2.2.length ∧ B ≤ g1 ∧ B ≤ g2 ∧ Nms w g1 x.2.1 ∧ Wds w g2 25 x.2.2) ∧ NodesOk w B r ns
  | _, _ => False
theorem NodesOk.len {w : World} {B : Nat} : ∀ {cs : List Value} {ns : List (Nat × List Int × List Nat)}, NodesOk w B cs ns → cs.length = ns.length * 3
  | [], [], _ => rfl
  | a :: b :: c :: r, x :: ns, h => by
    have := NodesOk.len (cs := r) (ns := ns) h.2
    simp only [List.length_cons]
    omega
  | [], _ :: _, h => h.elim
  | [_], [], h => h.elim
  | [_], _ :: _, h => h.elim
  | [_, _], [], h => h.elim
  | [_, _], _ :: _, h => h.elim
  | _ :: _ :: _ :: _, [], h => h.elim
theorem NodesOk.snoc {w : World} {B : Nat} {a b c : Value} {t : Nat} {rf : List Int} {ws : List Nat} (hv : NodeV w B (.agg #[a, b, c]) t rf ws) : ∀ {cs : List Value} {ns : List (Nat × List Int × List Nat)}, NodesOk w B cs ns → NodesOk w B (cs ++ [a, b, c]) (ns ++ [(t, rf, ws)])
  | [], [], _ => by
    obtain ⟨g1, g2, e, h1, h2, h3, h4⟩ := hv
    injection e with e
    simp at e
    exact ⟨⟨g1, g2, e.1, e.2.1, e.2.2, h1, h2, h3, h4⟩, trivial⟩
  | _ :: _ :: _ :: r, _ :: ns, h => ⟨h.1, NodesOk.snoc hv h.2⟩
  | [], _ :: _, h => h.elim
  | [_], [], h => h.elim
  | [_], _ :: _, h => h.elim
  | [_, _], [], h => h.elim
  | [_, _], _ :: _, h => h.elim
  | _ :: _ :: _ :: _, [], h => h.elim
theorem NodesOk.keep {w w' : World} {B : Nat} (hk : ∀ (k : Nat) (cs : Array Value) (t : Nat), w.heap[k]? = some (.cells cs t (0, 0)) → t = 3 ∨ t = 25 → w'.heap[k]? = w.heap[k]?) : ∀ {cs : List Value} {ns : List (Nat × List Int × List Nat)}, NodesOk w B cs ns → NodesOk w' B cs ns
  | [], [], _ => trivial
  | _ :: _ :: _ :: r, _ :: ns, h => by
    obtain ⟨⟨g1, g2, e1, e2, e3, h1, h2, h3, h4⟩, h5⟩ := h
    exact ⟨⟨g1, g2, e1, e2, e3, h1, h2, h3.same (hk _ _ _ h3 (Or.inl rfl)), h4.same (hk _ _ _ h4 (Or.inr rfl))⟩, NodesOk.keep hk h5⟩
  | [], _ :: _, h => h.elim
  | [_], [], h => h.elim
  | [_], _ :: _, h => h.elim
  | [_, _], [], h => h.elim
  | [_, _], _ :: _, h => h.elim
  | _ :: _ :: _ :: _, [], h => h.elim
/-- A graph as a value: its roots' numbers, its nodes. -/
def GraphV (w : World) (B : Nat) (v : Value) (roots : List Int) (ns : List (Nat × List Int × List Nat)) : Prop := ∃ u1 u2 cs, v = .agg #[u1, u2] ∧ w.ownsRow B 3 1 u1 roots.length (zcells roots) ∧ w.ownsRow B 41 3 u2 ns.length cs ∧ NodesOk w B cs ns
/-- The state between the steps of Graph. -/
structure Gst (w wr : World) (bn : Nat) (u1 u2 : Value) (roots : List Int) (cs : List Value) (k : Nat) : Prop where
  bel : RowKit.Below w.heap.size w wr
  box : wr.heap[bn]? = some (.cells #[u1, u2] 34 (0, 0))
  r1 : wr.ownsRow w.heap.size 3 1 u1 roots.length (zcells roots)
  r2 : wr.ownsRow w.heap.size 41 3 u2 k cs
  ge : w.heap.size ≤ bn
theorem own_keep {w w' : World} {B e z n : Nat} {u : Value} {xs : List Value} (h : w.ownsRow B e z u n xs) (hk : ∀ (k : Nat) (cs : Array Value), u.ownBlock = some k → w.heap[k]? = some (.cells cs e (0, 0)) → w'.heap[k]? = w.heap[k]?) : w'.ownsRow B e z u n xs := by
  refine ⟨h.1, ?_⟩
  rcases h.2 with h0 | ⟨g, cap, cur, rfl, h1, h2, h3⟩
  · exact Or.inl h0
  · exact Or.inr ⟨g, cap, cur, rfl, h1, by rw [hk g cur rfl h2]; exact h2, h3⟩
theorem own_typed {w : World} {B e z n : Nat} {u : Value} {xs : List Value} (h : w.ownsRow B e z u n xs) {k : Nat} (hk : u.ownBlock = some k) : ∃ cs, w.heap[k]? = some (.cells cs e (0, 0)) := by
  rcases h.2 with ⟨rfl, _⟩ | ⟨g, cap, cur, rfl, h1, h2, h3⟩
  · cases hk
  · cases hk; exact ⟨_, h2⟩
theorem Gst.below {w wr w' : World} {bn : Nat} {u1 u2 : Value} {roots : List Int} {cs : List Value} {k : Nat} (h : Gst w wr bn u1 u2 roots cs k) (hb : RowKit.Below wr.heap.size wr w') : Gst w w' bn u1 u2 roots cs k := by
  have lt : ∀ {j : Nat} {o : Obj}, wr.heap[j]? = some o → w'.heap[j]? = wr.heap[j]? := fun hj => hb.block _ (Array.getElem?_eq_some_iff.1 hj).1
  exact ⟨h.bel.trans (hb.mono h.bel.size), by rw [lt h.box]; exact h.box, own_keep h.r1 fun _ _ _ hg => lt hg, own_keep h.r2 fun _ _ _ hg => lt hg, h.ge⟩
theorem Gst.drew {w wr : World} {bn : Nat} {u1 u2 : Value} {roots : List Int} {cs : List Value} {k : Nat} (h : Gst w wr bn u1 u2 roots cs k) : Gst w wr.drew bn u1 u2 roots cs k := h.below (RowKit.Below.refl _ _).drew
end Go.Proofs.Ytfknheljheggkaa
