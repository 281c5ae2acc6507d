/- Contracts of the statements' helpers: a Doc of one field, awake. -/
import Derived.Test.YtkjijepepbgciabHelp
import Derived.Laws.AppendOwnNone
import Derived.Laws.OwnMore
namespace Go.Proofs.Ytkjijepepbgciab
open Go.RowKit

set_option maxHeartbeats 1000000 in
theorem D_any (s : ByteArray) (g : GV) (v : Value) (w : World) (hL : Lies w g v) (hs : s.size ≤ 140737488355328) :
    Calls Try.prog 9 #[.string s, v] w fun e w' => ∃ a, e = .returned (vD a 1 1) ∧ Flds w' a 1 (fun _ => s) (fun _ => g) ∧ Below w.heap.size w w' := by
  have HL : Hid (Lies w g v) := hL
  obtain ⟨k, n, s0, la, ln, lc, fa, fn, fc, rfl⟩ := hL.agg
  clear hL
  go_enter Try.func9, Try.ntmps9
  go_wp2
  have hB : ∀ {w' : World}, Below w.heap.size w w' → w'.cell? ⟨w.heap.size + 2, 0, none⟩ = some (.string s) → w'.cell? ⟨w.heap.size + 2, 1, none⟩ = some (.int .i64 k) → w'.cell? ⟨w.heap.size + 2, 2, none⟩ = some (.int .i64 n) → w'.cell? ⟨w.heap.size + 2, 3, none⟩ = some (.string s0) → w'.cell? ⟨w.heap.size + 2, 4, none⟩ = some (.slice la ln lc) → w'.cell? ⟨w.heap.size + 2, 5, none⟩ = some (.slice fa fn fc) →
      Flds w' (some ⟨w.heap.size + 2, 0, none⟩) 1 (fun _ => s) (fun _ => g) ∧ Below w.heap.size w w' := by
    intro w' hb c0 c1 c2 c3 c4 c5
    refine ⟨fun i hi => ?_, hb⟩
    obtain rfl : i = 0 := by omega
    refine ⟨w.heap.size + 2, 0, _, rfl, hs, by simpa using c0, HL.out.below hb, fun j hj => ?_⟩
    obtain rfl | rfl | rfl | rfl | rfl : j = 0 ∨ j = 1 ∨ j = 2 ∨ j = 3 ∨ j = 4 := by omega
    · simpa [Value.cells] using c1
    · simpa [Value.cells] using c2
    · simpa [Value.cells] using c3
    · simpa [Value.cells] using c4
    · simpa [Value.cells] using c5
  refine bodyPost_ret (v := vD (some ⟨w.heap.size + 2, 0, none⟩) 1 1) ?_ rfl ⟨_, rfl, hB ?_ ?_ ?_ ?_ ?_ ?_ ?_⟩
  · have hres : Try.f9.results = #[.cell 4 26] := by kernel_rfl
    simp only [results, hres]
    go_simp
    rfl
  · repeat (first | exact Below.refl _ _ | apply Below.drew | refine Below.alloc ?_ (by simp <;> omega) _ | refine Below.setCell ?_ (by simp) _)
  all_goals (go_simp)

theorem err_cmp {a b : GV} (ha : a.err = 0) (hb : b.err = 0) : cmpErr a b = 0 ∧ cmpVal a b = a.cmp b := by
  have h : cmpErr a b = 0 := by simp [cmpErr, ha, hb]
  exact ⟨h, by simp [cmpVal, h]⟩

set_option maxHeartbeats 2000000 in
theorem awake_any (w : World) : Calls Try.prog 5 #[] w fun e w' => e = .returned (.bool true) ∧ Below w.heap.size w w' := by
  have H1 : Hid (cmpErr (gI 1) (gT ⟨#[97]⟩) = 0 ∧ cmpVal (gI 1) (gT ⟨#[97]⟩) = -1) := by
    have h1 : (gI 1).err = 0 := by decide +kernel
    have h2 : (gT ⟨#[97]⟩).err = 0 := by decide +kernel
    exact ⟨(err_cmp h1 h2).1, (err_cmp h1 h2).2.trans (by decide +kernel)⟩
  have H2 : Hid ((gI 1).err = 0 ∧ (gI 1).bytes = 2) := ⟨by decide +kernel, by decide +kernel⟩
  go_enter Try.func5, Try.ntmps5
  go_wp2_with fail
  refine (I_any 1 _).mono ?_
  rintro e w1 ⟨rfl, b1⟩
  go_wp2_with fail
  refine (T_any _ _).mono ?_
  rintro e w2 ⟨rfl, b2⟩
  have B2 : Below w.heap.size w w2 := b1.trans (b2.mono b1.size)
  clear b1 b2
  go_wp2_with fail
  refine (Compare_any (gI 1) (gT ⟨#[97]⟩) _ _ w2 (lies_I _ _ (small64 (by omega))) (lies_T _ _ (by decide)) (by decide +kernel) (by decide +kernel)).mono ?_
  rintro e w3 ⟨rfl, b3⟩
  have B3 : Below w.heap.size w w3 := B2.trans (b3.mono B2.size)
  clear b3 B2
  rw [H1.out.1, H1.out.2]
  go_wp2_with fail
  refine (I_any 1 _).mono ?_
  rintro e w4 ⟨rfl, b4⟩
  have B4 : Below w.heap.size w w4 := B3.trans (b4.mono B3.size)
  clear b4 B3
  go_wp2_with fail
  refine (Size_any (gI 1) _ w4 (lies_I _ _ (small64 (by omega))) (by decide +kernel)).mono ?_
  rintro e w5 ⟨rfl, b5⟩
  have B5 : Below w.heap.size w w5 := B4.trans (b5.mono B4.size)
  rw [H2.out.1, H2.out.2]
  go_wp2_with fail
  go_ret
  exact ⟨rfl, B5⟩
end Go.Proofs.Ytkjijepepbgciab
