/- KeyBeyond holds of arguments of bulk at most 1048576: for any two rows of bytes the call returns true, ends, and changes nothing that was there: what After tells is above all that begin with the bytes, and nothing lies between but these. Conditions: the bulk, and those that the row itself prints. -/
import Derived.Test.YtpdhmlmpiaankaaKyBey
import Derived.Test.YtpdhmlmpiaankaaKyArg
import Derived.Test.YtpdhmlmpiaankaaRows
import Derived.WalkKit
import Derived.ProofKit
import Derived.OpenShut
import Derived.Deep.CondSized
import Derived.ChangeMaps5
namespace Go.Proofs.Ytpdhmlmpiaankaa
open Go.ChangeShapes Go.WideShapes Go.ChangeAt Go.RowKit

theorem keyBeyondOwn : ownKnob Try.prog.godebug = none := by kernel_rfl
theorem keyBeyondCell : Try.prog.cellsOf 5 = 1 := by kernel_rfl
theorem keyBeyondRead0 : Try.prog.readableRec 29 = true := by kernel_rfl
theorem keyBeyondType0 : 29 < Try.prog.types.size := of_decide_eq_true (by kernel_rfl)
theorem keyBeyondRead1 : Try.prog.readableRec 29 = true := by kernel_rfl
theorem keyBeyondType1 : 29 < Try.prog.types.size := of_decide_eq_true (by kernel_rfl)

set_option maxRecDepth 100000 in
theorem keyBeyondLifted (os : Os) (started : os.Started) (H : Type) (enc : TypeId × Value → H) (F : Stop.Interp) :
    ReturnsInHanded {} Try.checked os 8 .any ((Rows.OpenSpec.upto Rows.keyBeyondSpec).pre6 enc Try.prog Try.f8 Rows.keyBeyondUptoRow.domain false) (((Rows.OpenSpec.upto Rows.keyBeyondSpec).at F).post enc Try.prog Try.f8 false true false false) := by
  refine returnsInHanded_of_cond_sized (C := Try.checked) (s := Rows.OpenSpec.upto Rows.keyBeyondSpec) (k := Rows.uptoSmall) rfl keyBeyondOwn started (by kernel_rfl) Try.func8
    (OpenSpec.witness (enc := enc) (C := Try.checked) (s := Rows.OpenSpec.upto Rows.keyBeyondSpec) (k := Rows.uptoSmall) rfl false ⟨#[], #[.slice none 0 0, .slice none 0 0], []⟩ 8 (by kernel_rfl) (by kernel_rfl) (by kernel_rfl)
      (x := ([.nil, .nil], [], [])) (by kernel_rfl) rfl (by kernel_rfl)) ?_
  intro W base args ds gs before hval0 hW _ hk hsz _
  have hval : ∀ (j : Nat) t v, Try.f8.params[j]? = some t → args[j]? = some v → Value.okWide Try.prog W .any base t v := hval0
  have hW' := hW
  obtain ⟨p, q, hA0, hV, rfl, hfz, hnd⟩ := hW
  have hA : DataW.TrodAll enc Try.prog W 0 (fun _ => true) true Try.f8.params.toList args.toList ds p := hA0
  rw [Try.params8] at hA hval
  obtain ⟨v0, vs0, d0, ds0, p0, q0, hargs, rfl, rfl, h0, r0⟩ := trodAll_cons hA
  obtain ⟨v1, vs1, d1, ds1, p1, q1, rfl, rfl, rfl, h1, r1⟩ := trodAll_cons r0
  obtain ⟨rfl, rfl, rfl⟩ := trodAll_nil r1
  obtain rfl : args = #[v0, v1] := by cases args; simp_all
  obtain ⟨rfl, rfl⟩ := trodVars_none hV
  have hbulk := of_decide_eq_true hk
  simp only [List.append_nil, Rows.uptoBulkAll] at hbulk
  have s0 := arg_shut keyBeyondRead0 keyBeyondType0 h0
  obtain ⟨a0, l0, c0, rfl, hy0, hl0, hc0, hn0, hb0⟩ := arg_bytes Try.underlying29 Try.underlying5 keyBeyondCell (hval 0 29 v0 rfl rfl) h0
  have s1 := arg_shut keyBeyondRead1 keyBeyondType1 h1
  obtain ⟨a1, l1, c1, rfl, hy1, hl1, hc1, hn1, hb1⟩ := arg_bytes Try.underlying29 Try.underlying5 keyBeyondCell (hval 1 29 v1 rfl rfl) h1
  clear hA0 hval0
  refine (beyond_any a0 a1 c0 c1 l0 l1 W hy0 hy1 hl0 hc0 hl1 hc1 hn0 hn1 (by omega) (by omega)).mono fun e W' ⟨he, hg⟩ => ?_
  subst he
  exact ⟨_, rfl, _, _, _, [], _, [], hW', trodAll_cons_mk (shut_bool Try.underlying4 _) trodAll_mk0, trodAll_cons_mk (s0 W' hg) (trodAll_cons_mk (s1 W' hg) trodAll_mk0), rfl, hg.frame _, fun h => by cases h⟩

theorem keyBeyond_upto : Rows.KeyBeyondUptoSaid :=
  OpenClaim.holds_of_cond 8 Try.f8 rfl rfl rfl rfl rfl rfl rfl ⟨rfl, rfl, rfl, rfl, rfl⟩ rfl rfl rfl rfl rfl (by kernel_rfl) Try.func8 (by kernel_rfl)
    (of_decide_eq_true (by kernel_rfl)) (by unfold Func.isWrapper; first | (rw [if_pos (by decide +kernel)]; kernel_rfl) | (rw [if_neg (by decide +kernel)]; exact ⟨rfl, rfl⟩))
    (fun os started H enc _ F => keyBeyondLifted os started H enc F)
end Go.Proofs.Ytpdhmlmpiaankaa
