/- HeapWatched holds: a watcher is told each object that is made and each handle that is linked, in order, while it watches, and nothing else; the call returns true, ends, and changes nothing that was there. Conditions: those that the row itself prints. -/
import Derived.Test.YtjappkiiokpjjaaZHwWalk
import Derived.Test.YtjappkiiokpjjaaK27
import Derived.Test.YtjappkiiokpjjaaRows
import Derived.WalkKit
import Derived.ProofKit
import Derived.OpenShut
import Derived.SizedLaws
import Derived.Deep.Slices
namespace Go.Proofs.Ytjappkiiokpjjaa
open Go.ChangeShapes Go.WideShapes Go.ChangeAt Go.RowKit Go.Deep

theorem heapWatchedOwn : ownKnob Try.prog.godebug = none := by kernel_rfl
theorem heapWatchedRead0 : Try.prog.readableRec 22 = true := by kernel_rfl
theorem heapWatchedType0 : 22 < Try.prog.types.size := of_decide_eq_true (by kernel_rfl)

theorem heapWatchedBytes0 : Try.prog.bytesOf 35 = 48 := by kernel_rfl
theorem heapWatchedLen0 {H : Type} {enc : TypeId × Value → H} {W : World} {a : Option Addr} {m c : Nat} {dd : DataW H} {p : List MemPlace} (h : DataW.Trod enc Try.prog W 0 (fun _ => true) true 22 (.slice a m c) dd p) : m = 0 ∨ ∃ E S, dd = .slice E S ∧ E.length = m := by
  obtain ⟨fuel, hf⟩ := h
  rcases open_slice Try.underlying22 (show DataW.trod enc Try.prog W 0 (fun _ => true) true fuel 22 [.slice a m c] = some (dd, p) by simpa [Value.cells] using hf) with ⟨hc, hx⟩ | ⟨ad, len2, cap2, mm, n2, D, Pl, hc, _, hl, hm2, hmm, hx, hel⟩
  · simp at hc
    exact Or.inl hc.2.1
  · simp at hc
    obtain ⟨rfl, rfl, rfl⟩ := hc
    exact Or.inr ⟨_, _, congrArg Prod.fst hx, by simp⟩
set_option maxRecDepth 100000 in
theorem heapWatchedLifted (os : Os) (started : os.Started) (H : Type) (enc : TypeId × Value → H) :
    ReturnsInHanded {} Try.checked os 4 .any (Rows.heapWatchedSpec.pre6 enc Try.prog Try.f4 Rows.heapWatchedRow.domain false) (Rows.heapWatchedSpec.post enc Try.prog Try.f4 false true false false) := by
  refine returnsInHanded_of_change_sized (C := Try.checked) heapWatchedOwn started (by kernel_rfl) Try.func4
    (ChangeSpec.witness6 (enc := enc) (C := Try.checked) false ⟨#[], #[.slice none 0 0, .int .i64 0, .int .i64 0], []⟩ 8 (by kernel_rfl) (by kernel_rfl) (by kernel_rfl) (by kernel_rfl)) ?_
  intro W base args ds gs before hval0 hW _ hsz0 _
  have hsz : (DataW.weightsEach Try.prog (Try.f4.params.toList ++ Rows.heapWatchedSpec.plain.varTypes Try.prog) (ds ++ gs)).all (· ≤ reachBytes) = true := hsz0
  have hval : ∀ (j : Nat) t v, Try.f4.params[j]? = some t → args[j]? = some v → Value.okWide Try.prog W .any base t v := hval0
  have hW' := hW
  obtain ⟨p, q, hA0, hV, rfl, hfz, hnd⟩ := hW
  have hA : DataW.TrodAll enc Try.prog W 0 (fun _ => true) true Try.f4.params.toList args.toList ds p := hA0
  rw [Try.params4] at hA hval hsz
  obtain ⟨v0, vs0, d0, ds0, p0, q0, hargs, rfl, rfl, h0, r0⟩ := trodAll_cons hA
  obtain ⟨v1, vs1, d1, ds1, p1, q1, rfl, rfl, rfl, h1, r1⟩ := trodAll_cons r0
  obtain ⟨v2, vs2, d2, ds2, p2, q2, rfl, rfl, rfl, h2, r2⟩ := trodAll_cons r1
  obtain ⟨rfl, rfl, rfl⟩ := trodAll_nil r2
  obtain rfl : args = #[v0, v1, v2] := by cases args; simp_all
  obtain ⟨rfl, rfl⟩ := trodVars_none hV
  have s0 := arg_shut heapWatchedRead0 heapWatchedType0 h0
  obtain ⟨a0, m0, c0, z0, rfl, hm0, hk0, hb0⟩ := arg_deeds (hval 0 22 v0 rfl rfl) h0
  have hs0 : m0 * 48 ≤ 140737488351232 := by
    rcases heapWatchedLen0 h0 with hz | ⟨E, S, rfl, hE⟩
    · omega
    · have := sized_slice hsz (j := 0) rfl rfl Try.underlying22
      rw [heapWatchedBytes0, hE] at this
      simp only [reachBytes] at this
      omega
  obtain ⟨x1, rfl, rfl, rfl, w1⟩ := open_int Try.underlying3 (hval 1 3 v1 rfl rfl) h1
  obtain ⟨x2, rfl, rfl, rfl, w2⟩ := open_int Try.underlying3 (hval 2 3 v2 rfl rfl) h2
  clear hA0 hval0
  refine (heapWatched_any a0 m0 c0 z0 x1 x2 W   hm0 hk0 (by omega)).mono fun e W' ⟨he, hg⟩ => ?_
  subst he
  exact ⟨_, rfl, _, _, _, [], _, [], hW', trodAll_cons_mk (shut_bool Try.underlying4 _) trodAll_mk0, trodAll_cons_mk (s0 W' hg) (trodAll_cons_mk (shut_int Try.underlying3 w1) (trodAll_cons_mk (shut_int Try.underlying3 w2) trodAll_mk0)), rfl, hg.frame _, fun h => by cases h⟩

theorem heapWatched_holds : Rows.HeapWatchedSaid :=
  OpenClaim.holds_of_wide 4 Try.f4 rfl rfl rfl rfl rfl rfl rfl ⟨rfl, rfl, rfl, rfl, rfl⟩ rfl rfl rfl rfl rfl (by kernel_rfl) Try.func4 (by kernel_rfl)
    (of_decide_eq_true (by kernel_rfl)) (by unfold Func.isWrapper; first | (rw [if_pos (by decide +kernel)]; kernel_rfl) | (rw [if_neg (by decide +kernel)]; exact ⟨rfl, rfl⟩))
    (fun os started H enc _ => heapWatchedLifted os started H enc)
end Go.Proofs.Ytjappkiiokpjjaa
