/- KeySingle holds of any value and any bytes of bulk at most 1048576 together: the call returns true, ends, and changes nothing that was there: the key is the document's, and the bytes are told as the document tells them. Conditions: the bulk, and those that the row itself prints. -/
import Derived.Test.YticbcoklpgfkhaaUKySingle
import Derived.Test.YticbcoklpgfkhaaR7
import Derived.Test.YticbcoklpgfkhaaR7
import Derived.Test.YticbcoklpgfkhaaRows
import Derived.WalkKit
import Derived.ProofKit
import Derived.OpenShut
import Derived.Deep.CondSized
import Derived.ChangeMaps5
namespace Go.Proofs.Yticbcoklpgfkhaa
open Go.ChangeShapes Go.WideShapes Go.ChangeAt Go.RowKit

theorem ksOwn : ownKnob Try.prog.godebug = none := by kernel_rfl
theorem ksCell : Try.prog.cellsOf 5 = 1 := by kernel_rfl
theorem ksRead1 : Try.prog.readableRec 29 = true := by kernel_rfl
theorem ksType1 : 29 < Try.prog.types.size := of_decide_eq_true (by kernel_rfl)

set_option maxRecDepth 100000 in
theorem ksLifted (os : Os) (started : os.Started) (H : Type) (enc : TypeId × Value → H) (F : Stop.Interp) :
    ReturnsInHanded {} Try.checked os 4 .any ((Rows.OpenSpec.upto Rows.keySingleSpec).pre6 enc Try.prog Try.f4 Rows.keySingleUptoRow.domain false) (((Rows.OpenSpec.upto Rows.keySingleSpec).at F).post enc Try.prog Try.f4 false true false false) := by
  refine returnsInHanded_of_cond_sized (C := Try.checked) (s := Rows.OpenSpec.upto Rows.keySingleSpec) (k := Rows.uptoSmall) rfl ksOwn started (by kernel_rfl) Try.func4
    (OpenSpec.witness (enc := enc) (C := Try.checked) (s := Rows.OpenSpec.upto Rows.keySingleSpec) (k := Rows.uptoSmall) rfl false ⟨#[], #[.agg #[.int .i64 0, .int .i64 0, .string ⟨#[]⟩, .slice none 0 0, .slice none 0 0], .slice none 0 0], []⟩ 8 (by kernel_rfl) (by kernel_rfl) (by kernel_rfl)
      (x := ([.agg [.lit (.int .i64 0), .lit (.int .i64 0), .lit (.string []), .nil, .nil], .nil], [], [])) (by kernel_rfl) rfl (by kernel_rfl)) ?_
  intro W base args ds gs before hval0 hW _ hk hsz _
  have hval : ∀ (j : Nat) t v, Try.f4.params[j]? = some t → args[j]? = some v → Value.okWide Try.prog W .any base t v := hval0
  have hW' := hW
  obtain ⟨p, q, hA0, hV, rfl, hfz, hnd⟩ := hW
  have hA : DataW.TrodAll enc Try.prog W 0 (fun _ => true) true Try.f4.params.toList args.toList ds p := hA0
  rw [Try.params4] at hA hval hsz
  obtain ⟨v0, vs0, d0, ds0, p0, q0, hargs, rfl, rfl, h0, r0⟩ := trodAll_cons hA
  obtain ⟨v1, vs1, d1, ds1, p1, q1, rfl, rfl, rfl, h1, r1⟩ := trodAll_cons r0
  obtain ⟨rfl, rfl, rfl⟩ := trodAll_nil r1
  obtain rfl : args = #[v0, v1] := by cases args; simp_all
  obtain ⟨rfl, rfl⟩ := trodVars_none hV
  have hbulk := of_decide_eq_true hk
  simp only [List.append_nil, Rows.uptoBulkAll] at hbulk
  obtain ⟨⟨g, hg0, hm0⟩, s0⟩ := arg_val (hval 0 25 v0 rfl rfl) h0 (weights_arg hsz (j := 0) rfl rfl)
  have s1 := arg_shut ksRead1 ksType1 h1
  obtain ⟨a1, l1, c1, rfl, hy1, hl1, hc1, _, hb1⟩ := arg_bytes Try.underlying29 Try.underlying5 ksCell (hval 1 29 v1 rfl rfl) h1
  clear hA0 hval0
  refine (single_any g v0 a1 c1 l1 W hg0 (by omega) hy1 hl1 hc1 (by omega)).mono fun e W' ⟨he, hg⟩ => ?_
  subst he
  exact ⟨_, rfl, _, _, _, [], _, [], hW', trodAll_cons_mk (shut_bool Try.underlying4 _) trodAll_mk0, trodAll_cons_mk (s0 W' hg) (trodAll_cons_mk (s1 W' hg) trodAll_mk0), rfl, hg.frame _, fun h => by cases h⟩

theorem keySingle_upto : Rows.KeySingleUptoSaid :=
  OpenClaim.holds_of_cond 4 Try.f4 rfl rfl rfl rfl rfl rfl rfl ⟨rfl, rfl, rfl, rfl, rfl⟩ rfl rfl rfl rfl rfl (by kernel_rfl) Try.func4 (by kernel_rfl)
    (of_decide_eq_true (by kernel_rfl)) (by unfold Func.isWrapper; first | (rw [if_pos (by decide +kernel)]; kernel_rfl) | (rw [if_neg (by decide +kernel)]; exact ⟨rfl, rfl⟩))
    (fun os started H enc _ F => ksLifted os started H enc F)
end Go.Proofs.Yticbcoklpgfkhaa
