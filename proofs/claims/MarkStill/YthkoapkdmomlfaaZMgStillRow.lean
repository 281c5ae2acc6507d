/- MarkStill holds: a heap that was made by whatever deeds, marked in steps of whatever size while nothing is changed: it ends within as many units as there are objects (and a step), just what is reached is marked, the graph is the model's; the call returns true, ends, and changes nothing that was there. Conditions: those that the row itself prints. -/
import Derived.Test.YthkoapkdmomlfaaZMgStill
import Derived.Test.YthkoapkdmomlfaaArgN
import Derived.Test.YthkoapkdmomlfaaZArgE
import Derived.Test.YthkoapkdmomlfaaRows
import Derived.WalkKit
import Derived.ProofKit
import Derived.OpenShut
namespace Go.Proofs.Ythkoapkdmomlfaa
open Go.ChangeShapes Go.WideShapes Go.ChangeAt Go.RowKit

theorem markStillOwn : ownKnob Try.prog.godebug = none := by kernel_rfl
theorem markStillRead0 : Try.prog.readableRec 22 = true := by kernel_rfl
theorem markStillType0 : 22 < Try.prog.types.size := of_decide_eq_true (by kernel_rfl)
theorem markStillRead1 : Try.prog.readableRec 40 = true := by kernel_rfl
theorem markStillType1 : 40 < Try.prog.types.size := of_decide_eq_true (by kernel_rfl)
theorem markStillCell1 : Try.prog.cellsOf 3 = 1 := by kernel_rfl

set_option maxRecDepth 100000 in
theorem markStillLifted (os : Os) (started : os.Started) (H : Type) (enc : TypeId × Value → H) :
    ReturnsInHanded {} Try.checked os 6 .any (Rows.markStillSpec.pre6 enc Try.prog Try.f6 Rows.markStillRow.domain false) (Rows.markStillSpec.post enc Try.prog Try.f6 false true false false) := by
  refine returnsInHanded_of_change (C := Try.checked) markStillOwn started (by kernel_rfl) Try.func6
    (ChangeSpec.witness6 (enc := enc) (C := Try.checked) false ⟨#[], #[.slice none 0 0, .slice none 0 0], []⟩ 8 (by kernel_rfl) (by kernel_rfl) (by kernel_rfl) (by kernel_rfl)) ?_
  intro W base args ds gs before hval0 hW _ _
  have hval : ∀ (j : Nat) t v, Try.f6.params[j]? = some t → args[j]? = some v → Value.okWide Try.prog W .any base t v := hval0
  have hW' := hW
  obtain ⟨p, q, hA0, hV, rfl, hfz, hnd⟩ := hW
  have hA : DataW.TrodAll enc Try.prog W 0 (fun _ => true) true Try.f6.params.toList args.toList ds p := hA0
  rw [Try.params6] at hA hval
  obtain ⟨v0, vs0, d0, ds0, p0, q0, hargs, rfl, rfl, h0, r0⟩ := trodAll_cons hA
  obtain ⟨v1, vs1, d1, ds1, p1, q1, rfl, rfl, rfl, h1, r1⟩ := trodAll_cons r0
  obtain ⟨rfl, rfl, rfl⟩ := trodAll_nil r1
  obtain rfl : args = #[v0, v1] := by cases args; simp_all
  obtain ⟨rfl, rfl⟩ := trodVars_none hV
  have s0 := arg_shut markStillRead0 markStillType0 h0
  obtain ⟨a0, m0, c0, z0, rfl, hm0, hk0, hb0⟩ := arg_deeds (hval 0 22 v0 rfl rfl) h0
  have s1 := arg_shut markStillRead1 markStillType1 h1
  obtain ⟨a1, m1, c1, z1, rfl, hm1, hk1⟩ := krow_of (k := .i64) Try.underlying40 Try.underlying3 markStillCell1 (hval 1 40 v1 rfl rfl) h1
  clear hA0 hval0
  refine (markStill_any a0 m0 c0 z0 a1 m1 c1 z1 W  hm1 hk1 hm0 hk0).mono fun e W' ⟨he, hg⟩ => ?_
  subst he
  exact ⟨_, rfl, _, _, _, [], _, [], hW', trodAll_cons_mk (shut_bool Try.underlying4 _) trodAll_mk0, trodAll_cons_mk (s0 W' hg) (trodAll_cons_mk (s1 W' hg) trodAll_mk0), rfl, hg.frame _, fun h => by cases h⟩

theorem markStill_holds : Rows.MarkStillSaid :=
  OpenClaim.holds_of_wide 6 Try.f6 rfl rfl rfl rfl rfl rfl rfl ⟨rfl, rfl, rfl, rfl, rfl⟩ rfl rfl rfl rfl rfl (by kernel_rfl) Try.func6 (by kernel_rfl)
    (of_decide_eq_true (by kernel_rfl)) (by unfold Func.isWrapper; first | (rw [if_pos (by decide +kernel)]; kernel_rfl) | (rw [if_neg (by decide +kernel)]; exact ⟨rfl, rfl⟩))
    (fun os started H enc _ => markStillLifted os started H enc)
end Go.Proofs.Ythkoapkdmomlfaa
