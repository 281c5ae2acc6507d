/- The statements' own same, and the sum of nodes of a row of fields. (As in MakesLaw.lean, which is not imported beside it.) -/
import Derived.Test.YtkjijepepbgciabMakeA
import Derived.Test.YtkjijepepbgciabRFindA
import Derived.Test.YtkjijepepbgciabHelp2
import Derived.Test.YtkjijepepbgciabSame2
namespace Go.Proofs.Ytkjijepepbgciab
open Go.RowKit

set_option maxHeartbeats 4000000 in
set_option maxRecDepth 1000000 in
theorem sameLawM (ga gb : GV) (v v' : Value) (w : World) (ha : Lies w ga v) (hb : Lies w gb v') :
    Calls Try.prog 19 #[v, v'] w fun e w' => e = .returned (.bool (ga.same gb)) ∧ Below w.heap.size w w' := by
  have HA : Hid (Lies w ga v) := ha
  have HB : Hid (Lies w gb v') := hb
  obtain ⟨k1, n1, s1, la1, ln1, lc1, fa1, fn1, fc1, rfl⟩ := ha.agg
  obtain ⟨k2, n2, s2, la2, ln2, lc2, fa2, fn2, fc2, rfl⟩ := hb.agg
  clear ha hb
  have hbx := ((Below.refl w.heap.size w).alloc (Nat.le_refl _) (.cells #[.int .i64 k1, .int .i64 n1, .string s1, .slice la1 ln1 lc1, .slice fa1 fn1 fc1] 26)).alloc (by simp) (.cells #[.int .i64 k2, .int .i64 n2, .string s2, .slice la2 ln2 lc2, .slice fa2 fn2 fc2] 26)
  have HBX : Hid (Below w.heap.size w _) := hbx
  clear hbx
  go_enter Try.func19, Try.ntmps19
  go_wp2_with fail
  refine (Same_any ga gb _ _ _ (HA.out.below HBX.out) (HB.out.below HBX.out)).mono ?_
  rintro e w1 ⟨rfl, b1⟩
  have B1 : Below w.heap.size w w1 := HBX.out.trans (b1.mono HBX.out.size)
  go_wp2_with fail
  go_ret
  exact ⟨rfl, B1⟩

theorem same_refl {w : World} : ∀ {g : GV} {v : Value}, Lies w g v → g.same g = true := by
  intro g
  induction g with
  | nil => intro v h; exact False.elim h
  | mk k n s ln l fn nm f ihl ihf =>
    intro v h
    obtain ⟨la, lc, fa, fc, rfl, _, _, _, _, _, _, _, hl, hf⟩ := h
    simp only [GV.same, decide_true, Bool.true_and, Bool.and_eq_true, List.all_eq_true, List.mem_range]
    refine ⟨fun i hi => ?_, fun i hi => ?_⟩
    · obtain ⟨b, o, v', _, h1, _⟩ := hl i hi
      exact ihl i h1
    · obtain ⟨b, o, v', _, _, _, h1, _⟩ := hf i hi
      exact ihf i h1

theorem sum_nodesF (d : List Fl) : sumN (gOf d) d.length = nodesF d := by
  unfold sumN nodesF
  rw [range_map (k := fun x => x.g.nodes) (fun i hi => by rw [gOf_at hi])]
end Go.Proofs.Ytkjijepepbgciab
