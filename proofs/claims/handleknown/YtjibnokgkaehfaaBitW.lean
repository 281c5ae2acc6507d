/- Bits of words. -/
import Derived.Test.YtjibnokgkaehfaaProg
import Derived.WalkKit
import Derived.ProofKit
import Derived.Laws.Bits64b
import Derived.Laws.BitsLemmas
namespace Go.Proofs.Ytjibnokgkaehfaa
open Go.RowKit

theorem and_mask (x : Nat) (b : Nat) (hb : b < 64) (hx : x < 18446744073709551616) : bits .and .u64 (x : Int) ((2 ^ b - 1 : Nat) : Int) = ((x % 2 ^ b : Nat) : Int) := by
  have h2 : 2 ^ b < 18446744073709551616 := Nat.lt_of_lt_of_le (Nat.pow_lt_pow_right (by omega) hb) (by decide)
  rw [bits_and_u64_nat x (2 ^ b - 1) hx (by omega), Nat.and_two_pow_sub_one_eq_mod]

theorem or_add (a b i : Nat) (ha : a < 2 ^ i) (hi : 2 ^ i * (b + 1) ≤ 18446744073709551616) : bits .or .u64 (a : Int) ((b * 2 ^ i : Nat) : Int) = ((a + b * 2 ^ i : Nat) : Int) := by
  have h1 : 2 ^ i * (b + 1) = b * 2 ^ i + 2 ^ i := by rw [Nat.mul_add, Nat.mul_comm]; omega
  rw [bits_or_u64_nat a (b * 2 ^ i) (by omega) (by have := Nat.two_pow_pos i; omega)]
  have h := Nat.shiftLeft_add_eq_or_of_lt (i := i) ha b
  rw [Nat.shiftLeft_eq] at h
  rw [Nat.or_comm, ← h]
  congr 1
  omega

theorem and_63 (p : Nat) (hp : p < 9223372036854775808) : bits .and .i64 (p : Int) 63 = ((p % 64 : Nat) : Int) := by
  have h := bits_mask .i64 63 (by decide) (fun n h0 h1 => by rw [IntKind.wrap_i64]; omega) 6 (by omega) (p : Int) (by omega) (by omega)
  rw [show (2 : Int) ^ 6 - 1 = 63 from rfl] at h
  rw [h]
  simp
theorem and_1 (y : Nat) (hy : y < 18446744073709551616) : bits .and .u64 (y : Int) 1 = ((y % 2 : Nat) : Int) := and_mask y 1 (by omega) hy

end Go.Proofs.Ytjibnokgkaehfaa
