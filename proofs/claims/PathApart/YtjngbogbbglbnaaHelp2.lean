/- Contracts of the statements' helpers: a Doc of one field, awake. -/
import Derived.Test.YtjngbogbbglbnaaHelp
import Derived.Laws.AppendOwnNone
import Derived.Laws.OwnMore
namespace Go.Proofs.Ytjngbogbbglbnaa
open Go.RowKit

set_option maxHeartbeats 1000000 in
theorem D_any (s : ByteArray) (g : GV) (v : Value) (w : World) (hL : Lies w g v) (hs : s.size ≤ 140737488355328) :
    Calls Try.prog 9 #[.string s, v] w fun e w' => ∃ a, e = .returned (vD a 1 1) ∧ Flds w' a 1 (fun _ => s) (fun _ => g) ∧ Below w.heap.size w w' := by
  have HL : Hid (Lies w g v) := hL
  obtain ⟨k, n, s0, la, ln, lc, fa, fn, fc, rfl⟩ := hL.agg
  clear hL
  go_enter Try.func9, Try.ntmps9
  go_wp2
  have hB : ∀ {w' : World}, Below w.heap.size w w' → w'.cell? ⟨w.heap.size + 2, 0, none⟩ = some (.string s) → w'.cell? ⟨w.heap.size + 2, 1, none⟩ = some (.int .i64 k) → w'.cell? ⟨w.heap.size + 2, 2, none⟩ = some (.int .i64 n) → w'.cell? ⟨w.heap.size + 2, 3, none⟩ = some (.string s0) → w'.cell? ⟨w.heap.size + 2, 4, none⟩ = some (.slice la ln lc) → w'.cell? ⟨w.heap.size + 2, 5, none⟩ = some (.slice fa fn fc) →
      Flds w' (some ⟨w.heap.size + 2, 0, none⟩) 1 (fun _ => s) (fun _ => g) ∧ Below w.heap.size w w' := by
    intro w' hb c0 c1 c2 c3 c4 c5
    refine ⟨fun i hi => ?_, hb⟩
    obtain rfl : i = 0 := by omega
    refine ⟨w.heap.size + 2, 0, _, rfl, hs, by simpa using c0, HL.out.below hb, fun j hj => ?_⟩
    obtain rfl | rfl | rfl | rfl | rfl : j = 0 ∨ j = 1 ∨ j = 2 ∨ j = 3 ∨ j = 4 := by omega
    · simpa [Value.cells] using c1
    · simpa [Value.cells] using c2
    · simpa [Value.cells] using c3
    · simpa [Value.cells] using c4
    · simpa [Value.cells] using c5
  refine bodyPost_ret (v := vD (some ⟨w.heap.size + 2, 0, none⟩) 1 1) ?_ rfl ⟨_, rfl, hB ?_ ?_ ?_ ?_ ?_ ?_ ?_⟩
  · have hres : Try.f9.results = #[.cell 4 25] := by kernel_rfl
    simp only [results, hres]
    go_simp
    rfl
  · repeat (first | exact Below.refl _ _ | apply Below.drew | refine Below.alloc ?_ (by simp <;> omega) _ | refine Below.setCell ?_ (by simp) _)
  all_goals (go_simp)

theorem err_cmp {a b : GV} (ha : a.err = 0) (hb : b.err = 0) : cmpErr a b = 0 ∧ cmpVal a b = a.cmp b := by
  have h : cmpErr a b = 0 := by simp [cmpErr, ha, hb]
  exact ⟨h, by simp [cmpVal, h]⟩

end Go.Proofs.Ytjngbogbbglbnaa
