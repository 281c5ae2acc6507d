/- ValueChain: from its walk to its row: for any three values the call returns true, ends, and changes nothing that was there, if the walk does. -/
import Derived.Test.YtkjijepepbgciaaArgV
namespace Go.Proofs.Ytkjijepepbgciaa
open Go.ChangeShapes Go.WideShapes Go.ChangeAt Go.RowKit

theorem chOwn : ownKnob Try.prog.godebug = none := by kernel_rfl

def zeroVal : Value := .agg #[.int .i64 0, .int .i64 0, .string ⟨#[]⟩, .slice none 0 0, .slice none 0 0]

/-- The walk, of values that lie. -/
def ChainWalk : Prop := ∀ (a b c : GV) (va vb vc : Value) (w : World), Lies w a va → Lies w b vb → Lies w c vc →
  Calls Try.prog 7 #[va, vb, vc] w fun e w' => e = .returned (.bool true) ∧ Below w.heap.size w w'

set_option maxRecDepth 100000 in
theorem chLifted (walk : ChainWalk) (os : Os) (started : os.Started) (H : Type) (enc : TypeId × Value → H) :
    ReturnsInHanded {} Try.checked os 7 .any (Rows.valueChainSpec.pre6 enc Try.prog Try.f7 Rows.valueChainRow.domain false) (Rows.valueChainSpec.post enc Try.prog Try.f7 false true false false) := by
  refine returnsInHanded_of_change_sized (C := Try.checked) chOwn started (by kernel_rfl) Try.func7
    (ChangeSpec.witness6 (enc := enc) (C := Try.checked) false ⟨#[], #[zeroVal, zeroVal, zeroVal], []⟩ 8 (by kernel_rfl) (by kernel_rfl) (by kernel_rfl) (by kernel_rfl)) ?_
  intro W base args ds gs before hval0 hW _ hsz _
  have hval : ∀ (j : Nat) t v, Try.f7.params[j]? = some t → args[j]? = some v → Value.okWide Try.prog W .any base t v := hval0
  have hW' := hW
  obtain ⟨p, q, hA0, hV, rfl, hfz, hnd⟩ := hW
  have hA : DataW.TrodAll enc Try.prog W 0 (fun _ => true) true Try.f7.params.toList args.toList ds p := hA0
  rw [Try.params7] at hA hval hsz
  obtain ⟨v0, vs0, d0, ds0, p0, q0, hargs, rfl, rfl, h0, r0⟩ := trodAll_cons hA
  obtain ⟨v1, vs1, d1, ds1, p1, q1, rfl, rfl, rfl, h1, r1⟩ := trodAll_cons r0
  obtain ⟨v2, vs2, d2, ds2, p2, q2, rfl, rfl, rfl, h2, r2⟩ := trodAll_cons r1
  obtain ⟨rfl, rfl, rfl⟩ := trodAll_nil r2
  obtain rfl : args = #[v0, v1, v2] := by cases args; simp_all
  obtain ⟨rfl, rfl⟩ := trodVars_none hV
  obtain ⟨⟨a, ha, _⟩, s0⟩ := arg_val (hval 0 29 v0 rfl rfl) h0 (weights_arg hsz (j := 0) rfl rfl)
  obtain ⟨⟨b, hb, _⟩, s1⟩ := arg_val (hval 1 29 v1 rfl rfl) h1 (weights_arg hsz (j := 1) rfl rfl)
  obtain ⟨⟨c, hc, _⟩, s2⟩ := arg_val (hval 2 29 v2 rfl rfl) h2 (weights_arg hsz (j := 2) rfl rfl)
  clear hA0 hval0
  refine (walk a b c v0 v1 v2 W ha hb hc).mono fun e W' ⟨he, hg⟩ => ?_
  subst he
  exact ⟨_, rfl, _, _, _, [], _, [], hW', trodAll_cons_mk (shut_bool Try.underlying4 _) trodAll_mk0, trodAll_cons_mk (s0 W' hg) (trodAll_cons_mk (s1 W' hg) (trodAll_cons_mk (s2 W' hg) trodAll_mk0)), rfl, hg.frame _, fun h => by cases h⟩

theorem chain_row (walk : ChainWalk) : Rows.ValueChainSaid :=
  OpenClaim.holds_of_wide 7 Try.f7 rfl rfl rfl rfl rfl rfl rfl ⟨rfl, rfl, rfl, rfl, rfl⟩ rfl rfl rfl rfl rfl (by kernel_rfl) Try.func7 (by kernel_rfl)
    (of_decide_eq_true (by kernel_rfl)) (by unfold Func.isWrapper; first | (rw [if_pos (by decide +kernel)]; kernel_rfl) | (rw [if_neg (by decide +kernel)]; exact ⟨rfl, rfl⟩))
    (fun os started H enc _ => chLifted walk os started H enc)
end Go.Proofs.Ytkjijepepbgciaa
