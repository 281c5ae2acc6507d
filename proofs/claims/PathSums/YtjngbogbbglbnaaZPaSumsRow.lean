/- PathSums holds: for any two values, any text and any two numbers the call returns true, ends, and changes nothing that was there: what is added twice is their sum, added once; pushed, a List has one more, and the same ahead of it. Conditions: those that the row itself prints. -/
import Derived.Test.YtjngbogbbglbnaaZPaSums
import Derived.Test.YtjngbogbbglbnaaArgV
import Derived.ChangeMaps5
import Derived.SizedLaws
namespace Go.Proofs.Ytjngbogbbglbnaa
open Go.ChangeShapes Go.WideShapes Go.ChangeAt Go.RowKit
open Go.ChangeMaps (open_string shut_string)

theorem paSumsOwn : ownKnob Try.prog.godebug = none := by kernel_rfl

def zeroValS : Value := .agg #[.int .i64 0, .int .i64 0, .string ⟨#[]⟩, .slice none 0 0, .slice none 0 0]

set_option maxRecDepth 100000 in
theorem paSumsLifted (os : Os) (started : os.Started) (H : Type) (enc : TypeId × Value → H) :
    ReturnsInHanded {} Try.checked os 8 .any (Rows.pathSumsSpec.pre6 enc Try.prog Try.f8 Rows.pathSumsRow.domain false) (Rows.pathSumsSpec.post enc Try.prog Try.f8 false true false false) := by
  refine returnsInHanded_of_change_sized (C := Try.checked) paSumsOwn started (by kernel_rfl) Try.func8
    (ChangeSpec.witness6 (enc := enc) (C := Try.checked) false ⟨#[], #[zeroValS, .string ⟨#[]⟩, .int .i32 0, .int .i32 0, zeroValS], []⟩ 8 (by kernel_rfl) (by kernel_rfl) (by kernel_rfl) (by kernel_rfl)) ?_
  intro W base args ds gs before hval0 hW _ hsz _
  have hval : ∀ (j : Nat) t v, Try.f8.params[j]? = some t → args[j]? = some v → Value.okWide Try.prog W .any base t v := hval0
  have hW' := hW
  obtain ⟨p, q, hA0, hV, rfl, hfz, hnd⟩ := hW
  have hA : DataW.TrodAll enc Try.prog W 0 (fun _ => true) true Try.f8.params.toList args.toList ds p := hA0
  rw [Try.params8] at hA hval hsz
  obtain ⟨v0, vs0, d0, ds0, p0, q0, hargs, rfl, rfl, h0, r0⟩ := trodAll_cons hA
  obtain ⟨v1, vs1, d1, ds1, p1, q1, rfl, rfl, rfl, h1, r1⟩ := trodAll_cons r0
  obtain ⟨v2, vs2, d2, ds2, p2, q2, rfl, rfl, rfl, h2, r2⟩ := trodAll_cons r1
  obtain ⟨v3, vs3, d3, ds3, p3, q3, rfl, rfl, rfl, h3, r3⟩ := trodAll_cons r2
  obtain ⟨v4, vs4, d4, ds4, p4, q4, rfl, rfl, rfl, h4, r4⟩ := trodAll_cons r3
  obtain ⟨rfl, rfl, rfl⟩ := trodAll_nil r4
  obtain rfl : args = #[v0, v1, v2, v3, v4] := by cases args; simp_all
  obtain ⟨rfl, rfl⟩ := trodVars_none hV
  obtain ⟨⟨a, ha, _⟩, s0⟩ := arg_val (hval 0 25 v0 rfl rfl) h0 (weights_arg hsz (j := 0) rfl rfl)
  obtain ⟨⟨b, hb, _⟩, s4⟩ := arg_val (hval 4 25 v4 rfl rfl) h4 (weights_arg hsz (j := 4) rfl rfl)
  obtain ⟨tp, rfl, rfl, rfl, wp⟩ := open_string Try.underlying9 (hval 1 9 v1 rfl rfl) h1
  obtain ⟨m, rfl, rfl, rfl, wm⟩ := open_int Try.underlying21 (hval 2 21 v2 rfl rfl) h2
  obtain ⟨n, rfl, rfl, rfl, wn⟩ := open_int Try.underlying21 (hval 3 21 v3 rfl rfl) h3
  have bm := wm
  have bn := wn
  simp only [Lit.wf, IntKind.min, IntKind.max, IntKind.signed, IntKind.bits, Bool.and_eq_true, decide_eq_true_eq, if_true] at bm bn
  have hr := reachBytes_lt
  have hp := sized_string hsz (j := 1) (t := 9) rfl rfl
  have hp2 := size_list tp
  clear hA0 hval0
  refine (sums_any a b tp m n v0 v4 W ha hb (by omega) (by omega) (by omega) (by omega) (by omega)).mono fun e W' ⟨he, hg⟩ => ?_
  subst he
  exact ⟨_, rfl, _, _, _, [], _, [], hW', trodAll_cons_mk (shut_bool Try.underlying4 _) trodAll_mk0, trodAll_cons_mk (s0 W' hg) (trodAll_cons_mk (shut_string Try.underlying9 wp) (trodAll_cons_mk (shut_int Try.underlying21 wm) (trodAll_cons_mk (shut_int Try.underlying21 wn) (trodAll_cons_mk (s4 W' hg) trodAll_mk0)))), rfl, hg.frame _, fun h => by cases h⟩

theorem pathSums_holds : Rows.PathSumsSaid :=
  OpenClaim.holds_of_wide 8 Try.f8 rfl rfl rfl rfl rfl rfl rfl ⟨rfl, rfl, rfl, rfl, rfl⟩ rfl rfl rfl rfl rfl (by kernel_rfl) Try.func8 (by kernel_rfl)
    (of_decide_eq_true (by kernel_rfl)) (by unfold Func.isWrapper; first | (rw [if_pos (by decide +kernel)]; kernel_rfl) | (rw [if_neg (by decide +kernel)]; exact ⟨rfl, rfl⟩))
    (fun os started H enc _ => paSumsLifted os started H enc)
end Go.Proofs.Ytjngbogbbglbnaa
