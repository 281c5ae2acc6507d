/- The walks of value.unsigned, value.digits and value.sizeOfText. -/
import Derived.Test.YtjngbogbbglbnabZForm
import Derived.Laws.Bits64
import Derived.Laws.Bits64b
namespace Go.Proofs.Ytjngbogbbglbnab
open Go.RowKit

/-- The number as which the bytes have an Int. -/
def zig (n : Int) : Int := if n < 0 then -2 * n - 1 else 2 * n

/-- How many digits by base 128. -/
def digitsN (n : Nat) : Nat := (Lib.bitLen (n ||| 1) + 6) / 7

theorem xor_ones (a : Nat) (h : a < 18446744073709551616) : a ^^^ 18446744073709551615 = 18446744073709551615 - a := by
 have h1 : (BitVec.ofNat 64 a ^^^ BitVec.allOnes 64).toNat = (~~~ (BitVec.ofNat 64 a)).toNat := by rw [BitVec.xor_allOnes]
 rw [BitVec.toNat_xor, BitVec.toNat_not, BitVec.toNat_ofNat, BitVec.toNat_allOnes] at h1;rw [Nat.mod_eq_of_lt (show a < 2 ^ 64 by omega)] at h1;simpa using h1

theorem u64_wrap (n : Int) : IntKind.u64.wrap n = n % 18446744073709551616 := by
 simp [IntKind.wrap, IntKind.bits, IntKind.signed]

theorem zig_neg (n : Int) (h1 : -9223372036854775808 ≤ n) (hn : n < 0) :
  bits BinOp.xor IntKind.u64 (IntKind.u64.wrap (IntKind.u64.wrap n * 2)) (IntKind.u64.wrap (n / 9223372036854775808)) = zig n := by
 have e1 : IntKind.u64.wrap n = n + 18446744073709551616 := by
  rw [u64_wrap];omega
 have e2 : IntKind.u64.wrap ((n + 18446744073709551616) * 2) = 2 * n + 18446744073709551616 := by
  rw [u64_wrap];omega
 have e3 : n / 9223372036854775808 = -1 := by omega
 have e4 : IntKind.u64.wrap (-1) = 18446744073709551615 := by decide
 rw [e1, e2, e3, e4];obtain ⟨a, ha⟩ : ∃ a : Nat, 2 * n + 18446744073709551616 = (a : Int) := ⟨(2 * n + 18446744073709551616).toNat, by omega⟩;rw [ha, show (18446744073709551615 : Int) = ((18446744073709551615 : Nat) : Int) from rfl, bits_xor_u64_nat a _ (by omega) (by omega), xor_ones a (by omega)];unfold zig;rw [if_pos hn];omega

theorem zig_pos (n : Int) (h2 : n ≤ 9223372036854775807) (hn : ¬ n < 0) : bits BinOp.xor IntKind.u64 (n * 2) (n / 9223372036854775808) = zig n := by
 have e3 : n / 9223372036854775808 = ((0 : Nat) : Int) := by omega
 obtain ⟨a, ha⟩ : ∃ a : Nat, n * 2 = (a : Int) := ⟨(n * 2).toNat, by omega⟩;rw [e3, ha, bits_xor_u64_nat a 0 (by omega) (by omega)];unfold zig;rw [if_neg hn];simp;omega

set_option maxHeartbeats 1000000 in
theorem unsigned_any (n : Int) (w : World) (h : Int64 n) : Calls Try.prog 83 #[.int .i64 n] w fun e w' => e = .returned (.int .u64 (zig n)) ∧ w' = w := by
 obtain ⟨h1, h2⟩ := h
 by_cases hn : n < 0
 ·have HZ : Hid _ := zig_neg n h1 hn
  go_enter Try.func83, Try.ntmps83
  go_wp2_with fail;go_ret;refine ⟨?_, rfl⟩;rw [← HZ.out]
  rfl
 ·have HZ : Hid _ := zig_pos n h2 hn
  go_enter Try.func83, Try.ntmps83
  go_wp2_with fail;go_ret;refine ⟨?_, rfl⟩;rw [← HZ.out]
  rfl

theorem bitLenAux_le : ∀ (f n : Nat), Lib.bitLenAux f n ≤ f
 | 0, _ => by simp [Lib.bitLenAux]
 | f + 1, n => by
  have := bitLenAux_le f (n / 2);unfold Lib.bitLenAux
  split <;> omega
theorem bitLen_le (n : Nat) : Lib.bitLen n ≤ 64 := bitLenAux_le 64 n
theorem digitsN_le (n : Nat) : digitsN n ≤ 10 := by
 have := bitLen_le (n ||| 1);unfold digitsN;omega

set_option maxHeartbeats 1000000 in
theorem digits_any (n : Nat) (w : World) (h : n ≤ 18446744073709551615) : Calls Try.prog 82 #[.int .u64 n] w fun e w' => e = .returned (.int .i64 (digitsN n : Int)) ∧ w' = w := by
 have ho : bits BinOp.or IntKind.u64 (n : Int) 1 = ((n ||| 1 : Nat) : Int) := bits_or_u64_nat n 1 (by omega) (by omega);have hlt : n ||| 1 < 18446744073709551616 := Nat.or_lt_two_pow (n := 64) (by omega) (by omega);have hl := bitLen_le (n ||| 1);have HB : Hid (digitsN n = (Lib.bitLen (n ||| 1) + 6) / 7) := rfl
 go_enter Try.func82, Try.ntmps82
 go_wp2_with fail;refine (Try.bits_Len64 _ w (by omega) (by omega)).mono ?_;rintro e w' ⟨rfl, rfl⟩;rw [Int.toNat_natCast];go_wp2_with fail;go_ret;refine ⟨?_, rfl⟩;rw [HB.out]
 rfl

def textN (s : ByteArray) : Nat := digitsN s.size + s.size

set_option maxHeartbeats 1000000 in
theorem sizeOfText_any (s : ByteArray) (w : World) (h : s.size ≤ 140737488355328) : Calls Try.prog 84 #[.string s] w fun e w' => e = .returned (.int .i64 (textN s : Int)) ∧ w' = w := by
 have hd := digitsN_le s.size;have HB : Hid (textN s = digitsN s.size + s.size) := rfl
 go_enter Try.func84, Try.ntmps84
 go_wp2_with fail;refine (digits_any s.size w (by omega)).mono ?_;rintro e w' ⟨rfl, rfl⟩;go_wp2_with fail;go_ret;refine ⟨?_, rfl⟩;rw [HB.out]
 rfl
end Go.Proofs.Ytjngbogbbglbnab
