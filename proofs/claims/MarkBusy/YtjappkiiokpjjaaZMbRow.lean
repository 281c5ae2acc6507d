/- MarkBusy holds: a heap that was made by whatever deeds, marked in steps of whatever size while other deeds are done to it: in the end all that is reached is marked, what was made since Start too; where nothing was done, just what is reached; the graph is the model's; the call returns true, ends, and changes nothing that was there. Conditions: those that the row itself prints. -/
import Derived.Test.YtjappkiiokpjjaaZMbWalk
import Derived.Test.YtjappkiiokpjjaaK28
import Derived.Test.YtjappkiiokpjjaaRows
import Derived.WalkKit
import Derived.ProofKit
import Derived.OpenShut
namespace Go.Proofs.Ytjappkiiokpjjaa
open Go.ChangeShapes Go.WideShapes Go.ChangeAt Go.RowKit

theorem markBusyOwn : ownKnob Try.prog.godebug = none := by kernel_rfl
theorem markBusyRead0 : Try.prog.readableRec 22 = true := by kernel_rfl
theorem markBusyType0 : 22 < Try.prog.types.size := of_decide_eq_true (by kernel_rfl)
theorem markBusyRead1 : Try.prog.readableRec 22 = true := by kernel_rfl
theorem markBusyType1 : 22 < Try.prog.types.size := of_decide_eq_true (by kernel_rfl)
theorem markBusyRead2 : Try.prog.readableRec 40 = true := by kernel_rfl
theorem markBusyType2 : 40 < Try.prog.types.size := of_decide_eq_true (by kernel_rfl)
theorem markBusyCell2 : Try.prog.cellsOf 3 = 1 := by kernel_rfl

set_option maxRecDepth 100000 in
theorem markBusyLifted (os : Os) (started : os.Started) (H : Type) (enc : TypeId × Value → H) :
  ReturnsInHanded {} Try.checked os 6 .any (Rows.markBusySpec.pre6 enc Try.prog Try.f6 Rows.markBusyRow.domain false) (Rows.markBusySpec.post enc Try.prog Try.f6 false true false false) := by
 refine returnsInHanded_of_change (C := Try.checked) markBusyOwn started (by kernel_rfl) Try.func6
  (ChangeSpec.witness6 (enc := enc) (C := Try.checked) false ⟨#[], #[.slice none 0 0, .slice none 0 0, .slice none 0 0], []⟩ 8 (by kernel_rfl) (by kernel_rfl) (by kernel_rfl) (by kernel_rfl)) ?_
 intro W base args ds gs before hval0 hW _ _
 have hval : ∀ (j : Nat) t v, Try.f6.params[j]? = some t → args[j]? = some v → Value.okWide Try.prog W .any base t v := hval0
 have hW' := hW
 obtain ⟨p, q, hA0, hV, rfl, hfz, hnd⟩ := hW
 have hA : DataW.TrodAll enc Try.prog W 0 (fun _ => true) true Try.f6.params.toList args.toList ds p := hA0
 rw [Try.params6] at hA hval
 obtain ⟨v0, vs0, d0, ds0, p0, q0, hargs, rfl, rfl, h0, r0⟩ := trodAll_cons hA
 obtain ⟨v1, vs1, d1, ds1, p1, q1, rfl, rfl, rfl, h1, r1⟩ := trodAll_cons r0
 obtain ⟨v2, vs2, d2, ds2, p2, q2, rfl, rfl, rfl, h2, r2⟩ := trodAll_cons r1
 obtain ⟨rfl, rfl, rfl⟩ := trodAll_nil r2
 obtain rfl : args = #[v0, v1, v2] := by cases args; simp_all
 obtain ⟨rfl, rfl⟩ := trodVars_none hV
 have s0 := arg_shut markBusyRead0 markBusyType0 h0
 obtain ⟨a0, m0, c0, z0, rfl, hm0, hk0, hb0⟩ := arg_deeds (hval 0 22 v0 rfl rfl) h0
 have s1 := arg_shut markBusyRead1 markBusyType1 h1
 obtain ⟨a1, m1, c1, z1, rfl, hm1, hk1, hb1⟩ := arg_deeds (hval 1 22 v1 rfl rfl) h1
 have s2 := arg_shut markBusyRead2 markBusyType2 h2
 obtain ⟨a2, m2, c2, z2, rfl, hm2, hk2⟩ := krow_of (k := .i64) Try.underlying40 Try.underlying3 markBusyCell2 (hval 2 40 v2 rfl rfl) h2
 clear hA0 hval0
 refine (markBusy_any a0 m0 c0 z0 a1 m1 c1 z1 a2 m2 c2 z2 W  hm2 hk2 hm0 hk0 hm1 hk1).mono fun e W' ⟨he, hg⟩ => ?_
 subst he
 exact ⟨_, rfl, _, _, _, [], _, [], hW', trodAll_cons_mk (shut_bool Try.underlying4 _) trodAll_mk0, trodAll_cons_mk (s0 W' hg) (trodAll_cons_mk (s1 W' hg) (trodAll_cons_mk (s2 W' hg) trodAll_mk0)), rfl, hg.frame _, fun h => by cases h⟩

theorem markBusy_holds : Rows.MarkBusySaid :=
 OpenClaim.holds_of_wide 6 Try.f6 rfl rfl rfl rfl rfl rfl rfl ⟨rfl, rfl, rfl, rfl, rfl⟩ rfl rfl rfl rfl rfl (by kernel_rfl) Try.func6 (by kernel_rfl)
  (of_decide_eq_true (by kernel_rfl)) (by unfold Func.isWrapper; first | (rw [if_pos (by decide +kernel)]; kernel_rfl) | (rw [if_neg (by decide +kernel)]; exact ⟨rfl, rfl⟩))
  (fun os started H enc _ => markBusyLifted os started H enc)
end Go.Proofs.Ytjappkiiokpjjaa
