/- HandlePlays holds of arguments of bulk at most 1048576: for any arguments the call returns true, ends, and changes nothing that was there. Conditions: the bulk, and those that the row itself prints. -/
import Derived.Test.YtdmpbkdamdlefaaHPlays
import Derived.Test.YtdmpbkdamdlefaaArgN
import Derived.Test.YtdmpbkdamdlefaaRows
import Derived.WalkKit
import Derived.ProofKit
import Derived.OpenShut
import Derived.Deep.CondSized
import Derived.ChangeMaps5
namespace Go.Proofs.Ytdmpbkdamdlefaa
open Go.ChangeShapes Go.WideShapes Go.ChangeAt Go.RowKit

theorem handlePlaysOwn : ownKnob Try.prog.godebug = none := by kernel_rfl
theorem handlePlaysRead1 : Try.prog.readableRec 33 = true := by kernel_rfl
theorem handlePlaysType1 : 33 < Try.prog.types.size := of_decide_eq_true (by kernel_rfl)

set_option maxRecDepth 100000 in
theorem handlePlaysLifted (os : Os) (started : os.Started) (H : Type) (enc : TypeId × Value → H) (F : Stop.Interp) :
    ReturnsInHanded {} Try.checked os 4 .any ((Rows.OpenSpec.upto Rows.handlePlaysSpec).pre6 enc Try.prog Try.f4 Rows.handlePlaysUptoRow.domain false) (((Rows.OpenSpec.upto Rows.handlePlaysSpec).at F).post enc Try.prog Try.f4 false true false false) := by
  refine returnsInHanded_of_cond_sized (C := Try.checked) (s := Rows.OpenSpec.upto Rows.handlePlaysSpec) (k := Rows.uptoSmall) rfl handlePlaysOwn started (by kernel_rfl) Try.func4
    (OpenSpec.witness (enc := enc) (C := Try.checked) (s := Rows.OpenSpec.upto Rows.handlePlaysSpec) (k := Rows.uptoSmall) rfl false ⟨#[], #[.int .i64 0, .slice none 0 0], []⟩ 8 (by kernel_rfl) (by kernel_rfl) (by kernel_rfl)
      (x := ([.lit (.int .i64 0), .nil], [], [])) (by kernel_rfl) rfl (by kernel_rfl)) ?_
  intro W base args ds gs before hval0 hW _ hk hsz _
  have hval : ∀ (j : Nat) t v, Try.f4.params[j]? = some t → args[j]? = some v → Value.okWide Try.prog W .any base t v := hval0
  have hW' := hW
  obtain ⟨p, q, hA0, hV, rfl, hfz, hnd⟩ := hW
  have hA : DataW.TrodAll enc Try.prog W 0 (fun _ => true) true Try.f4.params.toList args.toList ds p := hA0
  rw [Try.params4] at hA hval
  obtain ⟨v0, vs0, d0, ds0, p0, q0, hargs, rfl, rfl, h0, r0⟩ := trodAll_cons hA
  obtain ⟨v1, vs1, d1, ds1, p1, q1, rfl, rfl, rfl, h1, r1⟩ := trodAll_cons r0
  obtain ⟨rfl, rfl, rfl⟩ := trodAll_nil r1
  obtain rfl : args = #[v0, v1] := by cases args; simp_all
  obtain ⟨rfl, rfl⟩ := trodVars_none hV
  have hbulk := of_decide_eq_true hk
  simp only [List.append_nil, Rows.uptoBulkAll] at hbulk
  obtain ⟨x0, rfl, rfl, rfl, w0⟩ := open_int Try.underlying3 (hval 0 3 v0 rfl rfl) h0
  have s1 := arg_shut handlePlaysRead1 handlePlaysType1 h1
  obtain ⟨a1, m1, c1, z1, rfl, hm1, hk1, hb1⟩ := arg_deeds (hval 1 33 v1 rfl rfl) h1
  clear hA0 hval0
  refine (plays_any x0 a1 m1 c1 z1 W   hm1 hk1 (by omega)).mono fun e W' ⟨he, hg⟩ => ?_
  subst he
  exact ⟨_, rfl, _, _, _, [], _, [], hW', trodAll_cons_mk (shut_bool Try.underlying4 _) trodAll_mk0, trodAll_cons_mk (shut_int Try.underlying3 w0) (trodAll_cons_mk (s1 W' hg) trodAll_mk0), rfl, hg.frame _, fun h => by cases h⟩

theorem handlePlays_upto : Rows.HandlePlaysUptoSaid :=
  OpenClaim.holds_of_cond 4 Try.f4 rfl rfl rfl rfl rfl rfl rfl ⟨rfl, rfl, rfl, rfl, rfl⟩ rfl rfl rfl rfl rfl (by kernel_rfl) Try.func4 (by kernel_rfl)
    (of_decide_eq_true (by kernel_rfl)) (by unfold Func.isWrapper; first | (rw [if_pos (by decide +kernel)]; kernel_rfl) | (rw [if_neg (by decide +kernel)]; exact ⟨rfl, rfl⟩))
    (fun os started H enc _ F => handlePlaysLifted os started H enc F)
end Go.Proofs.Ytdmpbkdamdlefaa
