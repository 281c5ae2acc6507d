/- PathBack holds: for any two values and any text the call returns true, ends, and changes nothing that was there: what was set is got, what was unset is not, if the last step is a name; set to what is there, or unset where nothing is, the value stays. Conditions: those that the row itself prints. -/
import Derived.Test.YtjngbogbbglbnaaZPaBack
import Derived.Test.YtjngbogbbglbnaaArgV
import Derived.ChangeMaps5
import Derived.SizedLaws
namespace Go.Proofs.Ytjngbogbbglbnaa
open Go.ChangeShapes Go.WideShapes Go.ChangeAt Go.RowKit
open Go.ChangeMaps (open_string shut_string)

theorem paBackOwn : ownKnob Try.prog.godebug = none := by kernel_rfl

def zeroValB : Value := .agg #[.int .i64 0, .int .i64 0, .string ⟨#[]⟩, .slice none 0 0, .slice none 0 0]

set_option maxRecDepth 100000 in
theorem paBackLifted (os : Os) (started : os.Started) (H : Type) (enc : TypeId × Value → H) :
    ReturnsInHanded {} Try.checked os 6 .any (Rows.pathBackSpec.pre6 enc Try.prog Try.f6 Rows.pathBackRow.domain false) (Rows.pathBackSpec.post enc Try.prog Try.f6 false true false false) := by
  refine returnsInHanded_of_change_sized (C := Try.checked) paBackOwn started (by kernel_rfl) Try.func6
    (ChangeSpec.witness6 (enc := enc) (C := Try.checked) false ⟨#[], #[zeroValB, .string ⟨#[]⟩, zeroValB], []⟩ 8 (by kernel_rfl) (by kernel_rfl) (by kernel_rfl) (by kernel_rfl)) ?_
  intro W base args ds gs before hval0 hW _ hsz _
  have hval : ∀ (j : Nat) t v, Try.f6.params[j]? = some t → args[j]? = some v → Value.okWide Try.prog W .any base t v := hval0
  have hW' := hW
  obtain ⟨p, q, hA0, hV, rfl, hfz, hnd⟩ := hW
  have hA : DataW.TrodAll enc Try.prog W 0 (fun _ => true) true Try.f6.params.toList args.toList ds p := hA0
  rw [Try.params6] at hA hval hsz
  obtain ⟨v0, vs0, d0, ds0, p0, q0, hargs, rfl, rfl, h0, r0⟩ := trodAll_cons hA
  obtain ⟨v1, vs1, d1, ds1, p1, q1, rfl, rfl, rfl, h1, r1⟩ := trodAll_cons r0
  obtain ⟨v2, vs2, d2, ds2, p2, q2, rfl, rfl, rfl, h2, r2⟩ := trodAll_cons r1
  obtain ⟨rfl, rfl, rfl⟩ := trodAll_nil r2
  obtain rfl : args = #[v0, v1, v2] := by cases args; simp_all
  obtain ⟨rfl, rfl⟩ := trodVars_none hV
  obtain ⟨⟨a, ha, _⟩, s0⟩ := arg_val (hval 0 25 v0 rfl rfl) h0 (weights_arg hsz (j := 0) rfl rfl)
  obtain ⟨⟨b, hb, _⟩, s2⟩ := arg_val (hval 2 25 v2 rfl rfl) h2 (weights_arg hsz (j := 2) rfl rfl)
  obtain ⟨tp, rfl, rfl, rfl, wp⟩ := open_string Try.underlying9 (hval 1 9 v1 rfl rfl) h1
  have hr := reachBytes_lt
  have hp := sized_string hsz (j := 1) (t := 9) rfl rfl
  have hp2 := size_list tp
  clear hA0 hval0
  refine (back_any a b tp v0 v2 W ha hb (by omega)).mono fun e W' ⟨he, hg⟩ => ?_
  subst he
  exact ⟨_, rfl, _, _, _, [], _, [], hW', trodAll_cons_mk (shut_bool Try.underlying4 _) trodAll_mk0, trodAll_cons_mk (s0 W' hg) (trodAll_cons_mk (shut_string Try.underlying9 wp) (trodAll_cons_mk (s2 W' hg) trodAll_mk0)), rfl, hg.frame _, fun h => by cases h⟩

theorem pathBack_holds : Rows.PathBackSaid :=
  OpenClaim.holds_of_wide 6 Try.f6 rfl rfl rfl rfl rfl rfl rfl ⟨rfl, rfl, rfl, rfl, rfl⟩ rfl rfl rfl rfl rfl (by kernel_rfl) Try.func6 (by kernel_rfl)
    (of_decide_eq_true (by kernel_rfl)) (by unfold Func.isWrapper; first | (rw [if_pos (by decide +kernel)]; kernel_rfl) | (rw [if_neg (by decide +kernel)]; exact ⟨rfl, rfl⟩))
    (fun os started H enc _ => paBackLifted os started H enc)
end Go.Proofs.Ytjngbogbbglbnaa
