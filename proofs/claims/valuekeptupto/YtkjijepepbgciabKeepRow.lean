/- ValueKept holds of any fields, any value and any name of bulk at most 1048576 together: the call returns true, ends, and changes nothing that was there. Conditions: the bulk, and those that the row itself prints. -/
import Derived.Test.YtkjijepepbgciabKeepLaw
import Derived.Test.YtkjijepepbgciabArgF
import Derived.Deep.CondSized
import Derived.ChangeMaps5
namespace Go.Proofs.Ytkjijepepbgciab
open Go.ChangeShapes Go.WideShapes Go.ChangeAt Go.RowKit
open Go.ChangeMaps (open_string shut_string)

set_option maxRecDepth 100000 in
theorem arg_none {H : Type} {enc : TypeId × Value → H} {W : World} {len cap : Nat} {dd : DataW H} {p : List MemPlace} (h : DataW.Trod enc Try.prog W 0 (fun _ => true) true 24 (.slice none len cap) dd p) : len = 0 ∧ cap = 0 := by
  obtain ⟨fuel, hf⟩ := h
  have hf' : DataW.trod enc Try.prog W 0 (fun _ => true) true fuel 24 [.slice none len cap] = some (dd, p) := by simpa [Value.cells] using hf
  rcases Deep.open_slice Try.underlying24 hf' with ⟨hc, _⟩ | ⟨a, _, _, _, _, _, _, hc, _⟩
  · simp at hc
    exact hc
  · simp at hc

theorem mkOwn : ownKnob Try.prog.godebug = none := by kernel_rfl

set_option maxRecDepth 100000 in
theorem mkLifted (os : Os) (started : os.Started) (H : Type) (enc : TypeId × Value → H) (F : Stop.Interp) :
    ReturnsInHanded {} Try.checked os 4 .any ((Rows.OpenSpec.upto Rows.valueKeptSpec).pre6 enc Try.prog Try.f4 Rows.valueKeptUptoRow.domain false) (((Rows.OpenSpec.upto Rows.valueKeptSpec).at F).post enc Try.prog Try.f4 false true false false) := by
  refine returnsInHanded_of_cond_sized (C := Try.checked) (s := Rows.OpenSpec.upto Rows.valueKeptSpec) (k := Rows.uptoSmall) rfl mkOwn started (by kernel_rfl) Try.func4
    (OpenSpec.witness (enc := enc) (C := Try.checked) (s := Rows.OpenSpec.upto Rows.valueKeptSpec) (k := Rows.uptoSmall) rfl false ⟨#[], #[.slice none 0 0, .agg #[.int .i64 0, .int .i64 0, .string ⟨#[]⟩, .slice none 0 0, .slice none 0 0], .string ⟨#[]⟩], []⟩ 8 (by kernel_rfl) (by kernel_rfl) (by kernel_rfl)
      (x := ([.nil, .agg [.lit (.int .i64 0), .lit (.int .i64 0), .lit (.string []), .nil, .nil], .lit (.string [])], [], [])) (by kernel_rfl) rfl (by kernel_rfl)) ?_
  intro W base args ds gs before hval0 hW _ hk hsz _
  have hval : ∀ (j : Nat) t v, Try.f4.params[j]? = some t → args[j]? = some v → Value.okWide Try.prog W .any base t v := hval0
  have hW' := hW
  obtain ⟨p, q, hA0, hV, rfl, hfz, hnd⟩ := hW
  have hA : DataW.TrodAll enc Try.prog W 0 (fun _ => true) true Try.f4.params.toList args.toList ds p := hA0
  rw [Try.params4] at hA hval hsz
  obtain ⟨v0, vs0, d0, ds0, p0, q0, hargs, rfl, rfl, h0, r0⟩ := trodAll_cons hA
  obtain ⟨v1, vs1, d1, ds1, p1, q1, rfl, rfl, rfl, h1, r1⟩ := trodAll_cons r0
  obtain ⟨v2, vs2, d2, ds2, p2, q2, rfl, rfl, rfl, h2, r2⟩ := trodAll_cons r1
  obtain ⟨rfl, rfl, rfl⟩ := trodAll_nil r2
  obtain rfl : args = #[v0, v1, v2] := by cases args; simp_all
  obtain ⟨rfl, rfl⟩ := trodVars_none hV
  obtain ⟨⟨fa, fc, d, rfl, hrow, hok, hm0⟩, s0⟩ := arg_fields (hval 0 24 v0 rfl rfl) h0 (weights_arg hsz (j := 0) rfl rfl)
  obtain ⟨⟨g, hg1, hm1⟩, s1⟩ := arg_val (hval 1 26 v1 rfl rfl) h1 (weights_arg hsz (j := 1) rfl rfl)
  obtain ⟨nm, rfl, rfl, rfl, wnm⟩ := open_string Try.underlying9 (hval 2 9 v2 rfl rfl) h2
  have hbk : Rows.uptoBulk d0 ≤ 1048576 := by
    have h := of_decide_eq_true hk
    simp only [List.append_nil, Rows.uptoBulkAll] at h
    omega
  have hlen := len_massF d
  clear hA0 hval0
  have hfa : fa = none → d.length = 0 ∧ fc = 0 := by
    intro e
    subst e
    exact arg_none h0
  refine (keepLaw_any d fa fc g v1 nm W hrow hok hg1 (by omega) (by omega) hfa).mono fun e W' ⟨he, hg⟩ => ?_
  subst he
  exact ⟨_, rfl, _, _, _, [], _, [], hW', trodAll_cons_mk (shut_bool Try.underlying4 _) trodAll_mk0, trodAll_cons_mk (s0 W' hg) (trodAll_cons_mk (s1 W' hg) (trodAll_cons_mk (shut_string Try.underlying9 wnm) trodAll_mk0)), rfl, hg.frame _, fun h => by cases h⟩

theorem valueKept_upto : Rows.ValueKeptUptoSaid :=
  OpenClaim.holds_of_cond 4 Try.f4 rfl rfl rfl rfl rfl rfl rfl ⟨rfl, rfl, rfl, rfl, rfl⟩ rfl rfl rfl rfl rfl (by kernel_rfl) Try.func4 (by kernel_rfl)
    (of_decide_eq_true (by kernel_rfl)) (by unfold Func.isWrapper; first | (rw [if_pos (by decide +kernel)]; kernel_rfl) | (rw [if_neg (by decide +kernel)]; exact ⟨rfl, rfl⟩))
    (fun os started H enc _ F => mkLifted os started H enc F)
end Go.Proofs.Ytkjijepepbgciab
