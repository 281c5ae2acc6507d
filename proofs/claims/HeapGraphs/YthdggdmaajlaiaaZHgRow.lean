/- HeapGraphs holds: objects made in another order, links set in another order, have one graph, if they hang together in the same way, and both heaps are sound; the call returns true, ends, and changes nothing that was there. Conditions: those that the row itself prints. -/
import Derived.Test.YthdggdmaajlaiaaK20
import Derived.Test.YthdggdmaajlaiaaK19
import Derived.Test.YthdggdmaajlaiaaRows
import Derived.WalkKit
import Derived.ProofKit
import Derived.OpenShut
namespace Go.Proofs.Ythdggdmaajlaiaa
open Go.ChangeShapes Go.WideShapes Go.ChangeAt Go.RowKit

theorem heapGraphsOwn : ownKnob Try.prog.godebug = none := by kernel_rfl
theorem heapGraphsRead0 : Try.prog.readableRec 22 = true := by kernel_rfl
theorem heapGraphsType0 : 22 < Try.prog.types.size := of_decide_eq_true (by kernel_rfl)
theorem heapGraphsRead1 : Try.prog.readableRec 23 = true := by kernel_rfl
theorem heapGraphsType1 : 23 < Try.prog.types.size := of_decide_eq_true (by kernel_rfl)
theorem heapGraphsCell1 : Try.prog.cellsOf 27 = 1 := by kernel_rfl

set_option maxRecDepth 100000 in
theorem heapGraphsLifted (os : Os) (started : os.Started) (H : Type) (enc : TypeId × Value → H) :
    ReturnsInHanded {} Try.checked os 3 .any (Rows.heapGraphsSpec.pre6 enc Try.prog Try.f3 Rows.heapGraphsRow.domain false) (Rows.heapGraphsSpec.post enc Try.prog Try.f3 false true false false) := by
  refine returnsInHanded_of_change (C := Try.checked) heapGraphsOwn started (by kernel_rfl) Try.func3
    (ChangeSpec.witness6 (enc := enc) (C := Try.checked) false ⟨#[], #[.slice none 0 0, .slice none 0 0, .int .i64 0], []⟩ 8 (by kernel_rfl) (by kernel_rfl) (by kernel_rfl) (by kernel_rfl)) ?_
  intro W base args ds gs before hval0 hW _ _
  have hval : ∀ (j : Nat) t v, Try.f3.params[j]? = some t → args[j]? = some v → Value.okWide Try.prog W .any base t v := hval0
  have hW' := hW
  obtain ⟨p, q, hA0, hV, rfl, hfz, hnd⟩ := hW
  have hA : DataW.TrodAll enc Try.prog W 0 (fun _ => true) true Try.f3.params.toList args.toList ds p := hA0
  rw [Try.params3] at hA hval
  obtain ⟨v0, vs0, d0, ds0, p0, q0, hargs, rfl, rfl, h0, r0⟩ := trodAll_cons hA
  obtain ⟨v1, vs1, d1, ds1, p1, q1, rfl, rfl, rfl, h1, r1⟩ := trodAll_cons r0
  obtain ⟨v2, vs2, d2, ds2, p2, q2, rfl, rfl, rfl, h2, r2⟩ := trodAll_cons r1
  obtain ⟨rfl, rfl, rfl⟩ := trodAll_nil r2
  obtain rfl : args = #[v0, v1, v2] := by cases args; simp_all
  obtain ⟨rfl, rfl⟩ := trodVars_none hV
  have s0 := arg_shut heapGraphsRead0 heapGraphsType0 h0
  obtain ⟨a0, m0, c0, z0, rfl, hm0, hk0, hb0⟩ := arg_refs (hval 0 22 v0 rfl rfl) h0
  have s1 := arg_shut heapGraphsRead1 heapGraphsType1 h1
  obtain ⟨a1, m1, c1, z1, rfl, hm1, hk1⟩ := krow_of (k := .u64) Try.underlying23 Try.underlying27 heapGraphsCell1 (hval 1 23 v1 rfl rfl) h1
  obtain ⟨x2, rfl, rfl, rfl, w2⟩ := open_int Try.underlying3 (hval 2 3 v2 rfl rfl) h2
  clear hA0 hval0
  refine (heapGraphs_row a0 m0 c0 z0 a1 m1 c1 z1 x2 W  hm1 hk1 hm0 hk0).mono fun e W' ⟨he, hg⟩ => ?_
  subst he
  exact ⟨_, rfl, _, _, _, [], _, [], hW', trodAll_cons_mk (shut_bool Try.underlying4 _) trodAll_mk0, trodAll_cons_mk (s0 W' hg) (trodAll_cons_mk (s1 W' hg) (trodAll_cons_mk (shut_int Try.underlying3 w2) trodAll_mk0)), rfl, hg.frame _, fun h => by cases h⟩

theorem heapGraphs_holds : Rows.HeapGraphsSaid :=
  OpenClaim.holds_of_wide 3 Try.f3 rfl rfl rfl rfl rfl rfl rfl ⟨rfl, rfl, rfl, rfl, rfl⟩ rfl rfl rfl rfl rfl (by kernel_rfl) Try.func3 (by kernel_rfl)
    (of_decide_eq_true (by kernel_rfl)) (by unfold Func.isWrapper; first | (rw [if_pos (by decide +kernel)]; kernel_rfl) | (rw [if_neg (by decide +kernel)]; exact ⟨rfl, rfl⟩))
    (fun os started H enc _ => heapGraphsLifted os started H enc)
end Go.Proofs.Ythdggdmaajlaiaa
