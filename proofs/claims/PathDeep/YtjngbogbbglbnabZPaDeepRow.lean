/- PathDeep holds: for any names and any value the call returns true, ends, and changes nothing that was there: set at a path of names that leads nowhere, Docs are made on the way. Conditions: those that the row itself prints. -/
import Derived.Test.YtjngbogbbglbnabZPaDeep
import Derived.Test.YtjngbogbbglbnabK5
import Derived.Test.YtjngbogbbglbnabK5
import Derived.Test.YtjngbogbbglbnabK5
import Derived.ChangeMaps5
import Derived.SizedLaws
namespace Go.Proofs.Ytjngbogbbglbnab
open Go.ChangeShapes Go.WideShapes Go.ChangeAt Go.RowKit
open Go.ChangeMaps (open_string shut_string)

theorem pathDeepOwn : ownKnob Try.prog.godebug = none := by kernel_rfl

theorem pathDeepRead0 : Try.prog.readableRec 40 = true := by kernel_rfl
theorem pathDeepType0 : 40 < Try.prog.types.size := of_decide_eq_true (by kernel_rfl)
theorem pathDeepCell0 : Try.prog.cellsOf 9 = 1 := by kernel_rfl
set_option maxRecDepth 100000 in
theorem pathDeepLifted (os : Os) (started : os.Started) (H : Type) (enc : TypeId × Value → H) :
    ReturnsInHanded {} Try.checked os 4 .any (Rows.pathDeepSpec.pre6 enc Try.prog Try.f4 Rows.pathDeepRow.domain false) (Rows.pathDeepSpec.post enc Try.prog Try.f4 false true false false) := by
  refine returnsInHanded_of_change_sized (C := Try.checked) pathDeepOwn started (by kernel_rfl) Try.func4
    (ChangeSpec.witness6 (enc := enc) (C := Try.checked) false ⟨#[], #[.slice none 0 0, .agg #[.int .i64 0, .int .i64 0, .string ⟨#[]⟩, .slice none 0 0, .slice none 0 0]], []⟩ 8 (by kernel_rfl) (by kernel_rfl) (by kernel_rfl) (by kernel_rfl)) ?_
  intro W base args ds gs before hval0 hW _ hsz _
  have hval : ∀ (j : Nat) t v, Try.f4.params[j]? = some t → args[j]? = some v → Value.okWide Try.prog W .any base t v := hval0
  have hW' := hW
  obtain ⟨p, q, hA0, hV, rfl, hfz, hnd⟩ := hW
  have hA : DataW.TrodAll enc Try.prog W 0 (fun _ => true) true Try.f4.params.toList args.toList ds p := hA0
  rw [Try.params4] at hA hval hsz
  obtain ⟨v0, vs0, d0, ds0, p0, q0, hargs, rfl, rfl, h0, r0⟩ := trodAll_cons hA
  obtain ⟨v1, vs1, d1, ds1, p1, q1, rfl, rfl, rfl, h1, r1⟩ := trodAll_cons r0
  obtain ⟨rfl, rfl, rfl⟩ := trodAll_nil r1
  obtain rfl : args = #[v0, v1] := by cases args; simp_all
  obtain ⟨rfl, rfl⟩ := trodVars_none hV
  have s0 := arg_shut pathDeepRead0 pathDeepType0 h0
  obtain ⟨a0, c0, l0, rfl, hl0, hS0, hb0⟩ := srow_of Try.underlying40 Try.underlying9 pathDeepCell0 (hval 0 40 v0 rfl rfl) h0 (weights_arg hsz (j := 0) rfl rfl)
  obtain ⟨⟨g1, ha1, _⟩, s1⟩ := arg_val (hval 1 25 v1 rfl rfl) h1 (weights_arg hsz (j := 1) rfl rfl)
  clear hA0 hval0
  refine (deep_walk l0 a0 c0 g1 v1 W hl0 hS0 hb0 ha1 ).mono fun e W' ⟨he, hg⟩ => ?_
  subst he
  exact ⟨_, rfl, _, _, _, [], _, [], hW', trodAll_cons_mk (shut_bool Try.underlying4 _) trodAll_mk0, trodAll_cons_mk (s0 W' hg) (trodAll_cons_mk (s1 W' hg) trodAll_mk0), rfl, hg.frame _, fun h => by cases h⟩

theorem pathDeep_holds : Rows.PathDeepSaid :=
  OpenClaim.holds_of_wide 4 Try.f4 rfl rfl rfl rfl rfl rfl rfl ⟨rfl, rfl, rfl, rfl, rfl⟩ rfl rfl rfl rfl rfl (by kernel_rfl) Try.func4 (by kernel_rfl)
    (of_decide_eq_true (by kernel_rfl)) (by unfold Func.isWrapper; first | (rw [if_pos (by decide +kernel)]; kernel_rfl) | (rw [if_neg (by decide +kernel)]; exact ⟨rfl, rfl⟩))
    (fun os started H enc _ => pathDeepLifted os started H enc)
end Go.Proofs.Ytjngbogbbglbnab
