/- A new arena. -/
import Derived.Test.YtlfgolnnkcehbaaANew
namespace Go.Proofs.Ytlfgolnnkcehbaa
open Go.RowKit

theorem ar_new {u : World} {W B n : Nat} (hn : n ≤ 1048576) (hW : Wds u W 33 (List.replicate n 0)) (hB : Wds u B 33 (List.replicate ((n + 63) / 64) 0)) (hne : W ≠ B) (ta : Nat) :
    Ar (u.alloc (.cells #[.slice (some ⟨W, 0, none⟩) n n, .slice (some ⟨B, 0, none⟩) ((n + 63) / 64) ((n + 63) / 64), .int .i64 0, .int .i64 0, .int .i64 0, .bool false] ta)) u.heap.size W B ta 33 33 (List.replicate n 0) (List.replicate ((n + 63) / 64) 0) 0 0 0 false := by
  have hb : RowKit.Below u.heap.size u (u.alloc (.cells #[.slice (some ⟨W, 0, none⟩) n n, .slice (some ⟨B, 0, none⟩) ((n + 63) / 64) ((n + 63) / 64), .int .i64 0, .int .i64 0, .int .i64 0, .bool false] ta)) := (RowKit.Below.refl _ u).alloc (Nat.le_refl _) _
  have hz : ∀ k i : Nat, (List.replicate k 0).getD i 0 < 18446744073709551616 := by
    intro k i
    rw [List.getD_eq_getElem?_getD, List.getElem?_replicate]
    split <;> simp
  have h1 := hW.lt
  have h2 := hB.lt
  refine ⟨?_, hW.below hb, hB.below hb, by omega, by omega, hne, by simp, by simpa using hn, hz _, hz _, by simp, Nat.le_refl _, Nat.le_refl _⟩
  rw [List.length_replicate, List.length_replicate]
  exact heap_alloc_new u _
set_option maxHeartbeats 1000000 in
theorem New_any (n : Nat) (w : World) (h0 : 1 ≤ n) (hn : n ≤ 1048576) :
    Calls Try.prog 6 #[.int .i64 n] w fun e w' => ∃ A W B, e = .returned (.tuple #[.pointer (some ⟨A, 0, none⟩), .int .i64 0]) ∧ RowKit.Below w.heap.size w w' ∧ w.heap.size ≤ A ∧ w.heap.size ≤ W ∧ w.heap.size ≤ B ∧ Ar w' A W B 69 33 33 (List.replicate n 0) (List.replicate ((n + 63) / 64) 0) 0 0 0 false := by
  have HW := mkHid (fun u : World => within_any (n : Int) 1 1048576 u)
  rw [decide_eq_true (show (1 : Int) ≤ (n : Int) ∧ (n : Int) ≤ 1048576 by omega)] at HW
  have HP := mkHid (fun u : World => placesFor_any n u h0 hn)
  have HMK := mkHid (fun u : World => run_make_row' (P := Try.prog) 41 33 (.int .u64 0) 8 Try.underlying41 (by kernel_rfl) rfl .i64 .i64 n (by omega) (by omega) u)
  have hm0 := HMK.out w.drew
  obtain ⟨W2, hW2⟩ : ∃ W2, W2 = w.drew.alloc (.cells (madeCells #[.int .u64 0] n) 33) := ⟨_, rfl⟩
  rw [← hW2] at hm0
  have HW2 := mkHid hW2
  clear hW2
  go_enter Try.func6, Try.ntmps6
  go_wp2_with fail
  refine (HW.out _).mono ?_
  rintro e w1 ⟨rfl, rfl⟩
  go_wp2_with fail
  go_region_with (go_at_call 25; refine (HP.out _).mono ?_; rintro e w3 ⟨rfl, b3, p3⟩; have hm1 := HMK.out w3)
  all_goals go_wp2_with fail
  all_goals go_ret2
  all_goals first
    | (have hp2 : Wds w3 w1.heap.size 33 (List.replicate n 0) := by
         have h2 : Wds W2 w1.heap.size 33 (List.replicate n 0) := by
           rw [HW2.out, made_words]; exact heap_alloc_new w1.drew _
         exact h2.below b3
       have hs2 : W2.heap.size = w1.heap.size + 1 := by rw [HW2.out]; simp
       have hb2 : RowKit.Below w1.heap.size w1 W2 := by rw [HW2.out]; exact ((RowKit.Below.refl _ w1).drew).alloc (Nat.le_refl _) _
       have hb3 : RowKit.Below w1.heap.size w1 w3 := hb2.trans (b3.mono hb2.size)
       exact ⟨_, _, _, rfl, hb3.alloc hb3.size _, hb3.size, Nat.le_refl _, hb2.size, ar_new hn hp2 p3 (by omega) _⟩)
    | (have hb3 : RowKit.Below w1.heap.size w1 w3 := ((RowKit.Below.refl _ w1).drew).trans b3
       have hr : RowKit.Below w3.heap.size w3 (w3.alloc (.cells (madeCells #[.int .u64 0] n) 33)) := (RowKit.Below.refl _ w3).alloc (Nat.le_refl _) _
       have hp2 : Wds (w3.alloc (.cells (madeCells #[.int .u64 0] n) 33)) w3.heap.size 33 (List.replicate n 0) := by
         rw [made_words]; exact heap_alloc_new w3 _
       have hb4 := hb3.trans (hr.mono hb3.size)
       have hlt := p3.lt
       exact ⟨_, _, _, rfl, hb4.alloc hb4.size _, by have := hb3.size; omega, hb3.size, Nat.le_refl _, by simpa using ar_new hn hp2 (p3.below hr) (by have h : w1.drew.heap.size = w1.heap.size := rfl; omega) _⟩)

theorem New_bad (n : Int) (w : World) (h : ¬ (1 ≤ n ∧ n ≤ 1048576)) :
    Calls Try.prog 6 #[.int .i64 n] w fun e w' => e = .returned (.tuple #[.pointer none, .int .i64 1]) ∧ w' = w := by
  have HW := mkHid (within_any n 1 1048576 w)
  rw [decide_eq_false h] at HW
  clear h
  go_enter Try.func6, Try.ntmps6
  go_wp2_with fail
  refine HW.out.mono ?_
  rintro e w1 ⟨rfl, rfl⟩
  go_wp2_with fail
  go_ret2
  exact ⟨rfl, rfl⟩
end Go.Proofs.Ytlfgolnnkcehbaa
