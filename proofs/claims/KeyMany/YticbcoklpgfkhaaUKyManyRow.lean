/- KeyMany holds of any values, any bytes and any number of bulk at most 1048576 together: the call returns true, ends, and changes nothing that was there: the joint key, the values of the bytes, and what is above all that begin with them are the document's. Conditions: the bulk, and those that the row itself prints. -/
import Derived.Test.YticbcoklpgfkhaaR9
import Derived.Test.YticbcoklpgfkhaaR9
import Derived.Test.YticbcoklpgfkhaaR9
import Derived.Test.YticbcoklpgfkhaaRows
import Derived.WalkKit
import Derived.ProofKit
import Derived.OpenShut
import Derived.Deep.CondSized
import Derived.ChangeMaps5
namespace Go.Proofs.Yticbcoklpgfkhaa
open Go.ChangeShapes Go.WideShapes Go.ChangeAt Go.RowKit

theorem kmOwn : ownKnob Try.prog.godebug = none := by kernel_rfl
theorem kmCell : Try.prog.cellsOf 5 = 1 := by kernel_rfl
theorem kmRead1 : Try.prog.readableRec 29 = true := by kernel_rfl
theorem kmType1 : 29 < Try.prog.types.size := of_decide_eq_true (by kernel_rfl)

set_option maxRecDepth 100000 in
theorem kmLifted (os : Os) (started : os.Started) (H : Type) (enc : TypeId × Value → H) (F : Stop.Interp) :
    ReturnsInHanded {} Try.checked os 5 .any ((Rows.OpenSpec.upto Rows.keyManySpec).pre6 enc Try.prog Try.f5 Rows.keyManyUptoRow.domain false) (((Rows.OpenSpec.upto Rows.keyManySpec).at F).post enc Try.prog Try.f5 false true false false) := by
  refine returnsInHanded_of_cond_sized (C := Try.checked) (s := Rows.OpenSpec.upto Rows.keyManySpec) (k := Rows.uptoSmall) rfl kmOwn started (by kernel_rfl) Try.func5
    (OpenSpec.witness (enc := enc) (C := Try.checked) (s := Rows.OpenSpec.upto Rows.keyManySpec) (k := Rows.uptoSmall) rfl false ⟨#[], #[.slice none 0 0, .slice none 0 0, .int .i64 0], []⟩ 8 (by kernel_rfl) (by kernel_rfl) (by kernel_rfl)
      (x := ([.nil, .nil, .lit (.int .i64 0)], [], [])) (by kernel_rfl) rfl (by kernel_rfl)) ?_
  intro W base args ds gs before hval0 hW _ hk hsz _
  have hval : ∀ (j : Nat) t v, Try.f5.params[j]? = some t → args[j]? = some v → Value.okWide Try.prog W .any base t v := hval0
  have hW' := hW
  obtain ⟨p, q, hA0, hV, rfl, hfz, hnd⟩ := hW
  have hA : DataW.TrodAll enc Try.prog W 0 (fun _ => true) true Try.f5.params.toList args.toList ds p := hA0
  rw [Try.params5] at hA hval hsz
  obtain ⟨v0, vs0, d0, ds0, p0, q0, hargs, rfl, rfl, h0, r0⟩ := trodAll_cons hA
  obtain ⟨v1, vs1, d1, ds1, p1, q1, rfl, rfl, rfl, h1, r1⟩ := trodAll_cons r0
  obtain ⟨v2, vs2, d2, ds2, p2, q2, rfl, rfl, rfl, h2, r2⟩ := trodAll_cons r1
  obtain ⟨rfl, rfl, rfl⟩ := trodAll_nil r2
  obtain rfl : args = #[v0, v1, v2] := by cases args; simp_all
  obtain ⟨rfl, rfl⟩ := trodVars_none hV
  have hbulk := of_decide_eq_true hk
  simp only [List.append_nil, Rows.uptoBulkAll] at hbulk
  obtain ⟨⟨la, na, ca, lv, rfl, ha1, ha2, ha, hm0⟩, s0⟩ := arg_vals (hval 0 22 v0 rfl rfl) h0 (weights_arg hsz (j := 0) rfl rfl)
  have s1 := arg_shut kmRead1 kmType1 h1
  obtain ⟨a1, l1, c1, rfl, hy1, hl1, hc1, _, hb1⟩ := arg_bytes Try.underlying29 Try.underlying5 kmCell (hval 1 29 v1 rfl rfl) h1
  obtain ⟨x2, rfl, rfl, rfl, w2⟩ := open_int Try.underlying3 (hval 2 3 v2 rfl rfl) h2
  have hx2 : x2 ≤ 9223372036854775807 := by
    have h1 : IntKind.i64.min ≤ x2 ∧ x2 ≤ IntKind.i64.max := by simpa [Lit.wf] using w2
    exact h1.2
  clear hA0 hval0
  refine (many_any lv la na ca a1 c1 l1 x2 W ha ha1 ha2 (fun i hi => by have := sum_mem (f := fun i => GV.mass (lv i)) hi; omega) hy1 hl1 hc1 (by omega) hx2).mono fun e W' ⟨he, hg⟩ => ?_
  subst he
  exact ⟨_, rfl, _, _, _, [], _, [], hW', trodAll_cons_mk (shut_bool Try.underlying4 _) trodAll_mk0, trodAll_cons_mk (s0 W' hg) (trodAll_cons_mk (s1 W' hg) (trodAll_cons_mk (shut_int Try.underlying3 w2) trodAll_mk0)), rfl, hg.frame _, fun h => by cases h⟩

theorem keyMany_upto : Rows.KeyManyUptoSaid :=
  OpenClaim.holds_of_cond 5 Try.f5 rfl rfl rfl rfl rfl rfl rfl ⟨rfl, rfl, rfl, rfl, rfl⟩ rfl rfl rfl rfl rfl (by kernel_rfl) Try.func5 (by kernel_rfl)
    (of_decide_eq_true (by kernel_rfl)) (by unfold Func.isWrapper; first | (rw [if_pos (by decide +kernel)]; kernel_rfl) | (rw [if_neg (by decide +kernel)]; exact ⟨rfl, rfl⟩))
    (fun os started H enc _ F => kmLifted os started H enc F)
end Go.Proofs.Yticbcoklpgfkhaa
