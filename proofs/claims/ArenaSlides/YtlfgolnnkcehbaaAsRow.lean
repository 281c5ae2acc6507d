/- ArenaSlides holds: objects kept and skipped, others made between: those that were kept stand in their order, as they were, from 0 on, and the new ones behind them; the call returns true, ends, and changes nothing that was there. Conditions: those that the row itself prints. -/
import Derived.Test.YtlfgolnnkcehbaaArgI
import Derived.Test.YtlfgolnnkcehbaaArgN
import Derived.Test.YtlfgolnnkcehbaaRows
import Derived.WalkKit
import Derived.ProofKit
import Derived.OpenShut
namespace Go.Proofs.Ytlfgolnnkcehbaa
open Go.ChangeShapes Go.WideShapes Go.ChangeAt Go.RowKit

theorem arenaSlidesOwn : ownKnob Try.prog.godebug = none := by kernel_rfl
theorem arenaSlidesRead0 : Try.prog.readableRec 38 = true := by kernel_rfl
theorem arenaSlidesType0 : 38 < Try.prog.types.size := of_decide_eq_true (by kernel_rfl)
theorem arenaSlidesRead1 : Try.prog.readableRec 38 = true := by kernel_rfl
theorem arenaSlidesType1 : 38 < Try.prog.types.size := of_decide_eq_true (by kernel_rfl)

set_option maxRecDepth 100000 in
theorem arenaSlidesLifted (os : Os) (started : os.Started) (H : Type) (enc : TypeId × Value → H) :
    ReturnsInHanded {} Try.checked os 4 .any (Rows.arenaSlidesSpec.pre6 enc Try.prog Try.f4 Rows.arenaSlidesRow.domain false) (Rows.arenaSlidesSpec.post enc Try.prog Try.f4 false true false false) := by
  refine returnsInHanded_of_change (C := Try.checked) arenaSlidesOwn started (by kernel_rfl) Try.func4
    (ChangeSpec.witness6 (enc := enc) (C := Try.checked) false ⟨#[], #[.slice none 0 0, .slice none 0 0], []⟩ 8 (by kernel_rfl) (by kernel_rfl) (by kernel_rfl) (by kernel_rfl)) ?_
  intro W base args ds gs before hval0 hW _ _
  have hval : ∀ (j : Nat) t v, Try.f4.params[j]? = some t → args[j]? = some v → Value.okWide Try.prog W .any base t v := hval0
  have hW' := hW
  obtain ⟨p, q, hA0, hV, rfl, hfz, hnd⟩ := hW
  have hA : DataW.TrodAll enc Try.prog W 0 (fun _ => true) true Try.f4.params.toList args.toList ds p := hA0
  rw [Try.params4] at hA hval
  obtain ⟨v0, vs0, d0, ds0, p0, q0, hargs, rfl, rfl, h0, r0⟩ := trodAll_cons hA
  obtain ⟨v1, vs1, d1, ds1, p1, q1, rfl, rfl, rfl, h1, r1⟩ := trodAll_cons r0
  obtain ⟨rfl, rfl, rfl⟩ := trodAll_nil r1
  obtain rfl : args = #[v0, v1] := by cases args; simp_all
  obtain ⟨rfl, rfl⟩ := trodVars_none hV
  have s0 := arg_shut arenaSlidesRead0 arenaSlidesType0 h0
  obtain ⟨a0, m0, c0, z0, rfl, hm0, hk0, hb0⟩ := arg_items (hval 0 38 v0 rfl rfl) h0
  have s1 := arg_shut arenaSlidesRead1 arenaSlidesType1 h1
  obtain ⟨a1, m1, c1, z1, rfl, hm1, hk1, hb1⟩ := arg_items (hval 1 38 v1 rfl rfl) h1
  clear hA0 hval0
  refine (arenaSlides_row a0 m0 c0 z0 a1 m1 c1 z1 W   hm0 hk0 hm1 hk1).mono fun e W' ⟨he, hg⟩ => ?_
  subst he
  exact ⟨_, rfl, _, _, _, [], _, [], hW', trodAll_cons_mk (shut_bool Try.underlying4 _) trodAll_mk0, trodAll_cons_mk (s0 W' hg) (trodAll_cons_mk (s1 W' hg) trodAll_mk0), rfl, hg.frame _, fun h => by cases h⟩

theorem arenaSlides_holds : Rows.ArenaSlidesSaid :=
  OpenClaim.holds_of_wide 4 Try.f4 rfl rfl rfl rfl rfl rfl rfl ⟨rfl, rfl, rfl, rfl, rfl⟩ rfl rfl rfl rfl rfl (by kernel_rfl) Try.func4 (by kernel_rfl)
    (of_decide_eq_true (by kernel_rfl)) (by unfold Func.isWrapper; first | (rw [if_pos (by decide +kernel)]; kernel_rfl) | (rw [if_neg (by decide +kernel)]; exact ⟨rfl, rfl⟩))
    (fun os started H enc _ => arenaSlidesLifted os started H enc)
end Go.Proofs.Ytlfgolnnkcehbaa
