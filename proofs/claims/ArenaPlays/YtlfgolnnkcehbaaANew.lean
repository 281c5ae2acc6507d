/- What an object may be; room for bits. -/
import Derived.Test.YtlfgolnnkcehbaaAMark2
import Derived.Deep.OwnRows
namespace Go.Proofs.Ytlfgolnnkcehbaa
open Go.RowKit

/-- May an object have such a head? -/
def fitsA (t r s o : Int) : Bool := decide (1 ≤ t ∧ t ≤ 255) && (decide (0 ≤ s ∧ s ≤ 4096) && (decide (0 ≤ r ∧ r ≤ s) && decide (0 ≤ o ∧ o ≤ 1048575)))
theorem fits_any (t r s o : Int) (w : World) :
    Calls Try.prog 49 #[.int .i64 t, .int .i64 r, .int .i64 s, .int .i64 o] w fun e w' => e = .returned (.bool (fitsA t r s o)) ∧ w' = w := by
  have H1 := mkHid (within_any t 1 255 w)
  have H2 := mkHid (within_any s 0 4096 w)
  have H3 := mkHid (within_any r 0 s w)
  have H4 := mkHid (within_any o 0 1048575 w)
  unfold fitsA
  generalize decide (1 ≤ t ∧ t ≤ 255) = b1 at *
  generalize decide (0 ≤ s ∧ s ≤ 4096) = b2 at *
  generalize decide (0 ≤ r ∧ r ≤ s) = b3 at *
  generalize decide (0 ≤ o ∧ o ≤ 1048575) = b4 at *
  cases b1
  · go_enter Try.func49, Try.ntmps49
    go_wp2_with fail
    refine H1.out.mono ?_
    rintro e w1 ⟨rfl, rfl⟩
    go_wp2_with fail
    go_ret
    exact ⟨rfl, rfl⟩
  cases b2
  · go_enter Try.func49, Try.ntmps49
    go_wp2_with fail
    refine H1.out.mono ?_
    rintro e w1 ⟨rfl, rfl⟩
    go_wp2_with fail
    refine H2.out.mono ?_
    rintro e w1 ⟨rfl, rfl⟩
    go_wp2_with fail
    go_ret
    exact ⟨rfl, rfl⟩
  cases b3
  · go_enter Try.func49, Try.ntmps49
    go_wp2_with fail
    refine H1.out.mono ?_
    rintro e w1 ⟨rfl, rfl⟩
    go_wp2_with fail
    refine H2.out.mono ?_
    rintro e w1 ⟨rfl, rfl⟩
    go_wp2_with fail
    refine H3.out.mono ?_
    rintro e w1 ⟨rfl, rfl⟩
    go_wp2_with fail
    go_ret
    exact ⟨rfl, rfl⟩
  cases b4
  all_goals
    go_enter Try.func49, Try.ntmps49
    go_wp2_with fail
    refine H1.out.mono ?_
    rintro e w1 ⟨rfl, rfl⟩
    go_wp2_with fail
    refine H2.out.mono ?_
    rintro e w1 ⟨rfl, rfl⟩
    go_wp2_with fail
    refine H3.out.mono ?_
    rintro e w1 ⟨rfl, rfl⟩
    go_wp2_with fail
    refine H4.out.mono ?_
    rintro e w1 ⟨rfl, rfl⟩
    go_wp2_with fail
    go_ret
    exact ⟨rfl, rfl⟩

theorem made_words (m : Nat) : madeCells #[.int .u64 0] m = wcells (List.replicate m 0) := by
  unfold madeCells wcells
  apply Array.ext
  · simp
  · intro i h1 h2
    simp [Nat.mod_one]

theorem placesFor_any (n : Nat) (w : World) (h0 : 1 ≤ n) (hn : n ≤ 1048576) :
    Calls Try.prog 25 #[.int .i64 n] w fun e w' => e = .returned (.slice (some ⟨w.heap.size, 0, none⟩) ((n + 63) / 64) ((n + 63) / 64)) ∧ RowKit.Below w.heap.size w w' ∧ Wds w' w.heap.size 33 (List.replicate ((n + 63) / 64) 0) := by
  obtain ⟨m, hm⟩ : ∃ m, m = (n + 63) / 64 := ⟨_, rfl⟩
  rw [← hm]
  have h64 : ((n : Int) + 63) / 64 = (m : Int) := by omega
  have hm0 : (0 : Int) ≤ (m : Int) := by omega
  have hm1 : m ≤ 20000 := by omega
  have hmk := run_make_row' (P := Try.prog) 66 33 (.int .u64 0) 8 Try.underlying66 (by kernel_rfl) rfl .i64 .i64 m (by omega) (by omega) w
  obtain ⟨W2, hW2⟩ : ∃ W2, W2 = w.alloc (.cells (madeCells #[.int .u64 0] m) 33) := ⟨_, rfl⟩
  have B2 := mkHid (p := RowKit.Below w.heap.size w W2) (by rw [hW2]; exact (RowKit.Below.refl _ w).alloc (Nat.le_refl _) _)
  have P2 := mkHid (p := Wds W2 w.heap.size 33 (List.replicate m 0)) (by rw [hW2, made_words]; exact heap_alloc_new w _)
  rw [← hW2] at hmk
  clear hm hW2
  go_enter Try.func25, Try.ntmps25
  go_wp2_with fail
  go_ret
  exact ⟨rfl, B2.out, P2.out⟩
end Go.Proofs.Ytlfgolnnkcehbaa
