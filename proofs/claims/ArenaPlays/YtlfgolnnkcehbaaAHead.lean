/- Small functions of package arena. -/
import Derived.Test.YtlfgolnnkcehbaaProg
import Derived.WalkKit
import Derived.ProofKit
import Derived.Test.YtlfgolnnkcehbaaBitW
namespace Go.Proofs.Ytlfgolnnkcehbaa
open Go.RowKit

theorem within_any (n lo hi : Int) (w : World) :
    Calls Try.prog 24 #[.int .i64 n, .int .i64 lo, .int .i64 hi] w fun e w' => e = .returned (.bool (decide (lo ≤ n ∧ n ≤ hi))) ∧ w' = w := by
  by_cases h1 : lo ≤ n
  · by_cases h2 : n ≤ hi
    · go_enter Try.func24, Try.ntmps24
      go_wp2_with fail
      go_ret
      exact ⟨by simp [h1, h2], rfl⟩
    · go_enter Try.func24, Try.ntmps24
      go_wp2_with fail
      go_ret
      exact ⟨by simp [h2], rfl⟩
  · go_enter Try.func24, Try.ntmps24
    go_wp2_with fail
    go_ret
    exact ⟨by simp; omega, rfl⟩

/-- The number in so many bits of a word, from a place on. -/
def part (x a b : Nat) : Nat := x / 2 ^ a % 2 ^ b

theorem part_lt (x a b : Nat) : part x a b < 2 ^ b := Nat.mod_lt _ (Nat.two_pow_pos _)

theorem part_0 (x : Nat) (hx : x < 18446744073709551616) (w : World) :
    Calls Try.prog 56 #[.int .u64 x, .int .u64 0, .int .u64 8] w fun e w' => e = .returned (.int .i64 (part x 0 8 : Int)) ∧ w' = w := by
  have H : Hid (wrap64 (bits .and .u64 (x : Int) 255) = (part x 0 8 : Int)) := by
    have e0 : (x : Int) = ((x / 2 ^ 0 : Nat) : Int) := by simp
    have e1 := and_mask (x / 2 ^ 0) 8 (by omega) (by omega)
    have e2 : bits .and .u64 ((x / 2 ^ 0 : Nat) : Int) 255 = (((x / 2 ^ 0) % 2 ^ 8 : Nat) : Int) := e1
    have h3 : (x / 2 ^ 0) % 2 ^ 8 < 256 := Nat.mod_lt _ (by decide)
    show _ = _
    rw [e0, e2]; unfold part wrap64; omega
  go_enter Try.func56, Try.ntmps56
  go_wp2_with fail
  go_ret
  exact ⟨congrArg (fun z => Ending.returned (.int .i64 z)) H.out, rfl⟩
theorem part_8 (x : Nat) (hx : x < 18446744073709551616) (w : World) :
    Calls Try.prog 56 #[.int .u64 x, .int .u64 8, .int .u64 13] w fun e w' => e = .returned (.int .i64 (part x 8 13 : Int)) ∧ w' = w := by
  have H : Hid (wrap64 (bits .and .u64 ((x : Int) / 256) 8191) = (part x 8 13 : Int)) := by
    have e0 : ((x : Int) / 256) = ((x / 2 ^ 8 : Nat) : Int) := by simp
    have e1 := and_mask (x / 2 ^ 8) 13 (by omega) (by omega)
    have e2 : bits .and .u64 ((x / 2 ^ 8 : Nat) : Int) 8191 = (((x / 2 ^ 8) % 2 ^ 13 : Nat) : Int) := e1
    have h3 : (x / 2 ^ 8) % 2 ^ 13 < 8192 := Nat.mod_lt _ (by decide)
    show _ = _
    rw [e0, e2]; unfold part wrap64; omega
  go_enter Try.func56, Try.ntmps56
  go_wp2_with fail
  go_ret
  exact ⟨congrArg (fun z => Ending.returned (.int .i64 z)) H.out, rfl⟩
theorem part_21 (x : Nat) (hx : x < 18446744073709551616) (w : World) :
    Calls Try.prog 56 #[.int .u64 x, .int .u64 21, .int .u64 13] w fun e w' => e = .returned (.int .i64 (part x 21 13 : Int)) ∧ w' = w := by
  have H : Hid (wrap64 (bits .and .u64 ((x : Int) / 2097152) 8191) = (part x 21 13 : Int)) := by
    have e0 : ((x : Int) / 2097152) = ((x / 2 ^ 21 : Nat) : Int) := by simp
    have e1 := and_mask (x / 2 ^ 21) 13 (by omega) (by omega)
    have e2 : bits .and .u64 ((x / 2 ^ 21 : Nat) : Int) 8191 = (((x / 2 ^ 21) % 2 ^ 13 : Nat) : Int) := e1
    have h3 : (x / 2 ^ 21) % 2 ^ 13 < 8192 := Nat.mod_lt _ (by decide)
    show _ = _
    rw [e0, e2]; unfold part wrap64; omega
  go_enter Try.func56, Try.ntmps56
  go_wp2_with fail
  go_ret
  exact ⟨congrArg (fun z => Ending.returned (.int .i64 z)) H.out, rfl⟩
theorem part_34 (x : Nat) (hx : x < 18446744073709551616) (w : World) :
    Calls Try.prog 56 #[.int .u64 x, .int .u64 34, .int .u64 20] w fun e w' => e = .returned (.int .i64 (part x 34 20 : Int)) ∧ w' = w := by
  have H : Hid (wrap64 (bits .and .u64 ((x : Int) / 17179869184) 1048575) = (part x 34 20 : Int)) := by
    have e0 : ((x : Int) / 17179869184) = ((x / 2 ^ 34 : Nat) : Int) := by simp
    have e1 := and_mask (x / 2 ^ 34) 20 (by omega) (by omega)
    have e2 : bits .and .u64 ((x / 2 ^ 34 : Nat) : Int) 1048575 = (((x / 2 ^ 34) % 2 ^ 20 : Nat) : Int) := e1
    have h3 : (x / 2 ^ 34) % 2 ^ 20 < 1048576 := Nat.mod_lt _ (by decide)
    show _ = _
    rw [e0, e2]; unfold part wrap64; omega
  go_enter Try.func56, Try.ntmps56
  go_wp2_with fail
  go_ret
  exact ⟨congrArg (fun z => Ending.returned (.int .i64 z)) H.out, rfl⟩
/-- A head's word. -/
def packed (t r s o : Nat) : Nat := t + s * 2 ^ 8 + r * 2 ^ 21 + o * 2 ^ 34
theorem pack_any (t r s o : Nat) (w : World) (ht : t < 256) (hr : r ≤ 4096) (hs : s ≤ 4096) (ho : o < 1048576) :
    Calls Try.prog 50 #[.int .i64 t, .int .i64 r, .int .i64 s, .int .i64 o] w fun e w' => e = .returned (.int .u64 (packed t r s o : Int)) ∧ w' = w := by
  have h1 := or_add t s 8 (by omega) (by omega)
  have h2 := or_add (t + s * 2 ^ 8) r 21 (by omega) (by omega)
  have h3 := or_add (t + s * 2 ^ 8 + r * 2 ^ 21) o 34 (by omega) (by omega)
  have H : Hid (bits .or .u64 (bits .or .u64 (bits .or .u64 (t : Int) ((s : Int) * 256)) ((r : Int) * 2097152)) ((o : Int) * 17179869184) = (packed t r s o : Int)) := by
    have e1 : ((s : Int) * 256) = ((s * 2 ^ 8 : Nat) : Int) := by simp
    have e2 : ((r : Int) * 2097152) = ((r * 2 ^ 21 : Nat) : Int) := by simp
    have e3 : ((o : Int) * 17179869184) = ((o * 2 ^ 34 : Nat) : Int) := by simp
    show _ = _
    rw [e1, e2, e3, h1, h2, h3]; rfl
  clear h1 h2 h3
  go_enter Try.func50, Try.ntmps50
  go_wp2_with fail
  go_ret
  exact ⟨congrArg (fun z => Ending.returned (.int .u64 z)) H.out, rfl⟩
end Go.Proofs.Ytlfgolnnkcehbaa
