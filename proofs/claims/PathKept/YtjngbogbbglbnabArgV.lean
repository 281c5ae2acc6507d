/- An argument of the type Val is a tree that lies in memory. -/
import Derived.Test.YtjngbogbbglbnabOpen
import Derived.WalkKit
import Derived.ProofKit
import Derived.OpenShut
namespace Go.Proofs.Ytjngbogbbglbnab
open Go.ChangeShapes Go.WideShapes Go.ChangeAt Go.RowKit

theorem argLaidOutV : laidOutB Try.prog = true := by kernel_rfl
theorem argRead : Try.prog.readableRec 25 = true := by kernel_rfl
theorem argType : 25 < Try.prog.types.size := of_decide_eq_true (by kernel_rfl)

set_option maxRecDepth 100000 in
/-- Opened: a tree; shut again in any world behind. -/
theorem arg_val {H : Type} {enc : TypeId × Value → H} {W : World} {base : Nat} {v : Value} {d : DataW H} {p : List MemPlace} (hv : Value.okWide Try.prog W .any base 25 v) (h : DataW.Trod enc Try.prog W 0 (fun _ => true) true 25 v d p)
  (hw : ∀ x ∈ d.weights Try.prog 25, x ≤ 140737488355328) :
  (∃ g, Lies W g v ∧ g.mass ≤ Rows.uptoBulk d) ∧ ∀ W', Below W.heap.size W W' → DataW.Trod enc Try.prog W' 0 (fun b => decide (b < W.heap.size)) true 25 v d p := by
 have hcs : ∃ cs, v = .agg cs := Exists.elim (okWide_struct Try.underlying25 hv) fun cs h => ⟨cs, h.1⟩
 obtain ⟨cs, rfl⟩ := hcs;have hlt : ∀ x ∈ p, x.block < W.heap.size := by obtain ⟨m, hm⟩ := h; exact DataW.trod_lt m _ _ _ hm
 refine ⟨?_, fun W' hb => Below.trod argLaidOutV argRead argType h hb hlt⟩;obtain ⟨fuel, hf⟩ := h;obtain ⟨g, hg, hm⟩ := lies_of (Rows.uptoBulk d) d (Nat.le_refl _) fuel _ _ hf hw;exact ⟨g, by simpa [Value.cells] using hg, hm⟩

theorem weights_arg {H : Type} {P : Program} {ts : List TypeId} {ds : List (DataW H)} {j : Nat} {t : TypeId} {d : DataW H} (h : (DataW.weightsEach P ts ds).all (· ≤ reachBytes) = true) (ht : ts[j]? = some t) (hd : ds[j]? = some d) :
  ∀ x ∈ d.weights P t, x ≤ 140737488355328 := by
 intro x hx;have := List.all_eq_true.1 h _ (DataW.weights_mem_each ht hd x hx);have hr := reachBytes_lt;simp at this;omega
end Go.Proofs.Ytjngbogbbglbnab
