/- PathKept holds of arguments of bulk at most 1048576: for any value, text and value the call returns true, ends, and changes nothing that was there: whatever is written into what Set, Push, Unset and Get told, the next calls tell what the document's own steps make, and an error tells the zero value. Conditions: the bulk, and those that the row itself prints. -/
import Derived.Test.YtjngbogbbglbnabZPaKept
import Derived.Test.YtjngbogbbglbnabArgV
import Derived.Deep.CondSized
import Derived.SizedLaws
import Derived.ChangeMaps5
namespace Go.Proofs.Ytjngbogbbglbnab
open Go.ChangeShapes Go.WideShapes Go.ChangeAt Go.RowKit
open Go.ChangeMaps (open_string shut_string)

theorem pathKeptOwn : ownKnob Try.prog.godebug = none := by kernel_rfl

set_option maxRecDepth 100000 in
theorem pathKeptLifted (os : Os) (started : os.Started) (H : Type) (enc : TypeId × Value → H) (F : Stop.Interp) :
  ReturnsInHanded {} Try.checked os 3 .any ((Rows.OpenSpec.upto Rows.pathKeptSpec).pre6 enc Try.prog Try.f3 Rows.pathKeptUptoRow.domain false) (((Rows.OpenSpec.upto Rows.pathKeptSpec).at F).post enc Try.prog Try.f3 false true false false) := by
 refine returnsInHanded_of_cond_sized (C := Try.checked) (s := Rows.OpenSpec.upto Rows.pathKeptSpec) (k := Rows.uptoSmall) rfl pathKeptOwn started (by kernel_rfl) Try.func3
  (OpenSpec.witness (enc := enc) (C := Try.checked) (s := Rows.OpenSpec.upto Rows.pathKeptSpec) (k := Rows.uptoSmall) rfl false ⟨#[], #[.agg #[.int .i64 0, .int .i64 0, .string ⟨#[]⟩, .slice none 0 0, .slice none 0 0], .string ⟨#[]⟩, .agg #[.int .i64 0, .int .i64 0, .string ⟨#[]⟩, .slice none 0 0, .slice none 0 0]], []⟩ 8 (by kernel_rfl) (by kernel_rfl) (by kernel_rfl)
   (x := ([.agg [.lit (.int .i64 0), .lit (.int .i64 0), .lit (.string []), .nil, .nil], .lit (.string []), .agg [.lit (.int .i64 0), .lit (.int .i64 0), .lit (.string []), .nil, .nil]], [], [])) (by kernel_rfl) rfl (by kernel_rfl)) ?_
 intro W base args ds gs before hval0 hW _ hk hsz _;have hval : ∀ (j : Nat) t v, Try.f3.params[j]? = some t → args[j]? = some v → Value.okWide Try.prog W .any base t v := hval0;have hW' := hW;obtain ⟨p, q, hA0, hV, rfl, hfz, hnd⟩ := hW;have hA : DataW.TrodAll enc Try.prog W 0 (fun _ => true) true Try.f3.params.toList args.toList ds p := hA0;rw [Try.params3] at hA hval hsz;obtain ⟨v0, vs0, d0, ds0, p0, q0, hargs, rfl, rfl, h0, r0⟩ := trodAll_cons hA;obtain ⟨v1, vs1, d1, ds1, p1, q1, rfl, rfl, rfl, h1, r1⟩ := trodAll_cons r0;obtain ⟨v2, vs2, d2, ds2, p2, q2, rfl, rfl, rfl, h2, r2⟩ := trodAll_cons r1;obtain ⟨rfl, rfl, rfl⟩ := trodAll_nil r2;obtain rfl : args = #[v0, v1, v2] := by cases args; simp_all
 obtain ⟨rfl, rfl⟩ := trodVars_none hV;have hbulk := of_decide_eq_true hk;simp only [List.append_nil, Rows.uptoBulkAll] at hbulk;obtain ⟨⟨g0, ha0, hm0⟩, s0⟩ := arg_val (hval 0 25 v0 rfl rfl) h0 (weights_arg hsz (j := 0) rfl rfl);obtain ⟨t1, rfl, rfl, rfl, w1⟩ := open_string Try.underlying9 (hval 1 9 v1 rfl rfl) h1;obtain ⟨⟨g2, ha2, hm2⟩, s2⟩ := arg_val (hval 2 25 v2 rfl rfl) h2 (weights_arg hsz (j := 2) rfl rfl);have hr1 := reachBytes_lt;have hs1 := sized_string hsz (j := 1) (t := 9) rfl rfl;have hz1 := size_list t1;clear hA0 hval0;refine (kept_any g0 t1 g2 v0 v2 W ha0 ha2 (by omega) (by omega)).mono fun e W' ⟨he, hg⟩ => ?_
 subst he;exact ⟨_, rfl, _, _, _, [], _, [], hW', trodAll_cons_mk (shut_bool Try.underlying4 _) trodAll_mk0, trodAll_cons_mk (s0 W' hg) (trodAll_cons_mk (shut_string Try.underlying9 w1) (trodAll_cons_mk (s2 W' hg) trodAll_mk0)), rfl, hg.frame _, fun h => by cases h⟩

theorem pathKept_upto : Rows.PathKeptUptoSaid :=
 OpenClaim.holds_of_cond 3 Try.f3 rfl rfl rfl rfl rfl rfl rfl ⟨rfl, rfl, rfl, rfl, rfl⟩ rfl rfl rfl rfl rfl (by kernel_rfl) Try.func3 (by kernel_rfl)
  (of_decide_eq_true (by kernel_rfl)) (by unfold Func.isWrapper; first | (rw [if_pos (by decide +kernel)]; kernel_rfl) | (rw [if_neg (by decide +kernel)]; exact ⟨rfl, rfl⟩))
  (fun os started H enc _ F => pathKeptLifted os started H enc F)
end Go.Proofs.Ytjngbogbbglbnab
