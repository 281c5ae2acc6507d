/- The statements' small helpers, of stage 3. -/
import Derived.Test.YticbcoklpgfkhaaCHelp
import Derived.Laws.OwnMore
namespace Go.Proofs.Yticbcoklpgfkhaa
open Go.RowKit

set_option maxHeartbeats 1000000 in
theorem N_any (w : World) : Calls Try.prog 14 #[] w fun e w' => e = .returned vN ∧ Below w.heap.size w w' := by
  go_enter Try.func14, Try.ntmps14
  go_wp2
  refine bodyPost_ret (v := vN) ?_ rfl ⟨rfl, by repeat (first | exact Below.refl _ _ | apply Below.drew | refine Below.alloc ?_ (by simp) _ | refine Below.setCell ?_ (by simp) _)⟩
  have hres : Try.f14.results = #[.cell 0 25] := by kernel_rfl
  simp only [results, hres]
  go_simp
  rfl
set_option maxHeartbeats 1000000 in
theorem L_any (a : Option Addr) (n c : Nat) (w : World) : Calls Try.prog 16 #[.slice a n c] w fun e w' => e = .returned (vL a n c) ∧ Below w.heap.size w w' := by
  go_enter Try.func16, Try.ntmps16
  go_wp2
  refine bodyPost_ret (v := (vL a n c)) ?_ rfl ⟨rfl, by repeat (first | exact Below.refl _ _ | apply Below.drew | refine Below.alloc ?_ (by simp) _ | refine Below.setCell ?_ (by simp) _)⟩
  have hres : Try.f16.results = #[.cell 2 25] := by kernel_rfl
  simp only [results, hres]
  go_simp
  rfl
set_option maxHeartbeats 1000000 in
theorem T_any (s : ByteArray) (w : World) : Calls Try.prog 34 #[.string s] w fun e w' => e = .returned (vT s) ∧ Below w.heap.size w w' := by
  go_enter Try.func34, Try.ntmps34
  go_wp2
  refine bodyPost_ret (v := (vT s)) ?_ rfl ⟨rfl, by repeat (first | exact Below.refl _ _ | apply Below.drew | refine Below.alloc ?_ (by simp) _ | refine Below.setCell ?_ (by simp) _)⟩
  have hres : Try.f34.results = #[.cell 2 25] := by kernel_rfl
  simp only [results, hres]
  go_simp
  rfl
set_option maxHeartbeats 1000000 in
theorem D_any (s : ByteArray) (g : GV) (v : Value) (w : World) (hL : Lies w g v) (hs : s.size ≤ 140737488355328) :
    Calls Try.prog 17 #[.string s, v] w fun e w' => ∃ a, e = .returned (vD a 1 1) ∧ Flds w' a 1 (fun _ => s) (fun _ => g) ∧ Below w.heap.size w w' := by
  have HL : Hid (Lies w g v) := hL
  obtain ⟨k, n, s0, la, ln, lc, fa, fn, fc, rfl⟩ := hL.agg
  clear hL
  go_enter Try.func17, Try.ntmps17
  go_wp2
  have hB : ∀ {w' : World}, Below w.heap.size w w' → w'.cell? ⟨w.heap.size + 2, 0, none⟩ = some (.string s) → w'.cell? ⟨w.heap.size + 2, 1, none⟩ = some (.int .i64 k) → w'.cell? ⟨w.heap.size + 2, 2, none⟩ = some (.int .i64 n) → w'.cell? ⟨w.heap.size + 2, 3, none⟩ = some (.string s0) → w'.cell? ⟨w.heap.size + 2, 4, none⟩ = some (.slice la ln lc) → w'.cell? ⟨w.heap.size + 2, 5, none⟩ = some (.slice fa fn fc) →
      Flds w' (some ⟨w.heap.size + 2, 0, none⟩) 1 (fun _ => s) (fun _ => g) ∧ Below w.heap.size w w' := by
    intro w' hb c0 c1 c2 c3 c4 c5
    refine ⟨fun i hi => ?_, hb⟩
    obtain rfl : i = 0 := by omega
    refine ⟨w.heap.size + 2, 0, _, rfl, hs, by simpa using c0, HL.out.below hb, fun j hj => ?_⟩
    obtain rfl | rfl | rfl | rfl | rfl : j = 0 ∨ j = 1 ∨ j = 2 ∨ j = 3 ∨ j = 4 := by omega
    · simpa [Value.cells] using c1
    · simpa [Value.cells] using c2
    · simpa [Value.cells] using c3
    · simpa [Value.cells] using c4
    · simpa [Value.cells] using c5
  refine bodyPost_ret (v := vD (some ⟨w.heap.size + 2, 0, none⟩) 1 1) ?_ rfl ⟨_, rfl, hB ?_ ?_ ?_ ?_ ?_ ?_ ?_⟩
  · have hres : Try.f17.results = #[.cell 4 25] := by kernel_rfl
    simp only [results, hres]
    go_simp
    rfl
  · repeat (first | exact Below.refl _ _ | apply Below.drew | refine Below.alloc ?_ (by simp <;> omega) _ | refine Below.setCell ?_ (by simp) _)
  all_goals (go_simp)
end Go.Proofs.Yticbcoklpgfkhaa
