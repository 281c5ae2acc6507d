/- unicode/utf8's word: eight bytes at once, and whether one of them is 128 or more. -/
import Derived.Test.YtfnmmpakejdlgaaDoorK6
import Derived.Laws.BitsAllLaws
namespace Go.Proofs.YtfnmmpakejdlgaaDoor
open Go.RowKit

/-- Eight bytes as one number, as the walk has it. -/
def wordE (b0 b1 b2 b3 b4 b5 b6 b7 : Int) : Int := bits .or .u64 (bits .or .u64 (bits .or .u64 (bits .or .u64 (bits .or .u64 (bits .or .u64 (bits .or .u64 b0 (b1 * 256)) (b2 * 65536)) (b3 * 16777216)) (b4 * 4294967296)) (b5 * 1099511627776)) (b6 * 281474976710656)) (b7 * 72057594037927936)

set_option maxHeartbeats 4000000 in
set_option maxRecDepth 1000000 in
theorem word_any (b o m c : Nat) (x : Nat → Nat) (w : World) (hm : 8 ≤ m) (hml : m ≤ 140737488355328) (hx : ∀ i, x i < 256) (hc : ∀ i, i < 8 → w.cell? ⟨b, o + i, none⟩ = some (.int .u8 (x i : Int))) :
    Calls Tryd.prog 81 #[.slice (some ⟨b, o, none⟩) m c] w fun e w' => e = .returned (.int .u64 (wordE (x 0) (x 1) (x 2) (x 3) (x 4) (x 5) (x 6) (x 7))) ∧ ∃ q, w' = w.drewN q := by
  have c0 := hc 0 (by omega)
  have c1 := hc 1 (by omega)
  have c2 := hc 2 (by omega)
  have c3 := hc 3 (by omega)
  have c4 := hc 4 (by omega)
  have c5 := hc 5 (by omega)
  have c6 := hc 6 (by omega)
  have c7 := hc 7 (by omega)
  have x0 := hx 0
  have x1 := hx 1
  have x2 := hx 2
  have x3 := hx 3
  have x4 := hx 4
  have x5 := hx 5
  have x6 := hx 6
  have x7 := hx 7
  generalize x 0 = y0 at c0 x0 ⊢
  generalize x 1 = y1 at c1 x1 ⊢
  generalize x 2 = y2 at c2 x2 ⊢
  generalize x 3 = y3 at c3 x3 ⊢
  generalize x 4 = y4 at c4 x4 ⊢
  generalize x 5 = y5 at c5 x5 ⊢
  generalize x 6 = y6 at c6 x6 ⊢
  generalize x 7 = y7 at c7 x7 ⊢
  rw [Nat.add_zero] at c0
  clear hc hx
  go_enter Tryd.func81, Tryd.ntmps81
  go_wp2_with fail
  go_quiet (fail)
  go_wp2_with fail
  go_ret
  exact ⟨rfl, _, rfl⟩

theorem or_up (a b i : Nat) (h : a < 2 ^ i) : a ||| b * 2 ^ i = a + b * 2 ^ i := by
  have e := Nat.shiftLeft_add_eq_or_of_lt h b
  rw [Nat.shiftLeft_eq] at e
  rw [Nat.or_comm, ← e, Nat.add_comm]

theorem wordE_nat (y0 y1 y2 y3 y4 y5 y6 y7 : Nat) (h0 : y0 < 256) (h1 : y1 < 256) (h2 : y2 < 256) (h3 : y3 < 256) (h4 : y4 < 256) (h5 : y5 < 256) (h6 : y6 < 256) (h7 : y7 < 256) :
    wordE y0 y1 y2 y3 y4 y5 y6 y7 = ((y0 + y1 * 256 + y2 * 65536 + y3 * 16777216 + y4 * 4294967296 + y5 * 1099511627776 + y6 * 281474976710656 + y7 * 72057594037927936 : Nat) : Int) := by
  have step : ∀ (a b k i : Nat), a < 2 ^ i → k = 2 ^ i → a < 18446744073709551616 → b * k < 18446744073709551616 → bits .or .u64 (a : Int) ((b : Int) * (k : Int)) = ((a + b * k : Nat) : Int) := by
    intro a b k i ha hk h1 h2
    have h := u64_or_nat a (b * k) h1 h2
    rw [Int.natCast_mul] at h
    rw [h]
    subst hk
    rw [or_up a b i ha]
  unfold wordE
  have s1 := step y0 y1 256 8 (by omega) (by decide) (by omega) (by omega)
  have s2 := step (y0 + y1 * 256) y2 65536 16 (by omega) (by decide) (by omega) (by omega)
  have s3 := step (y0 + y1 * 256 + y2 * 65536) y3 16777216 24 (by omega) (by decide) (by omega) (by omega)
  have s4 := step (y0 + y1 * 256 + y2 * 65536 + y3 * 16777216) y4 4294967296 32 (by omega) (by decide) (by omega) (by omega)
  have s5 := step (y0 + y1 * 256 + y2 * 65536 + y3 * 16777216 + y4 * 4294967296) y5 1099511627776 40 (by omega) (by decide) (by omega) (by omega)
  have s6 := step (y0 + y1 * 256 + y2 * 65536 + y3 * 16777216 + y4 * 4294967296 + y5 * 1099511627776) y6 281474976710656 48 (by omega) (by decide) (by omega) (by omega)
  have s7 := step (y0 + y1 * 256 + y2 * 65536 + y3 * 16777216 + y4 * 4294967296 + y5 * 1099511627776 + y6 * 281474976710656) y7 72057594037927936 56 (by omega) (by decide) (by omega) (by omega)
  rw [show ((256 : Nat) : Int) = 256 from rfl] at s1
  rw [show ((65536 : Nat) : Int) = 65536 from rfl] at s2
  rw [show ((16777216 : Nat) : Int) = 16777216 from rfl] at s3
  rw [show ((4294967296 : Nat) : Int) = 4294967296 from rfl] at s4
  rw [show ((1099511627776 : Nat) : Int) = 1099511627776 from rfl] at s5
  rw [show ((281474976710656 : Nat) : Int) = 281474976710656 from rfl] at s6
  rw [show ((72057594037927936 : Nat) : Int) = 72057594037927936 from rfl] at s7
  rw [s1, s2, s3, s4, s5, s6, s7]

theorem top_bit : ∀ b : Fin 256, (b.val &&& 128 = 0) = (b.val < 128) := by decide +kernel
/-- The lowest byte and the rest, each by itself. -/
theorem and_split (x y : Nat) : (x &&& y = 0) ↔ ((x % 256) &&& (y % 256) = 0) ∧ ((x / 256) &&& (y / 256) = 0) := by
  have h1 : (x &&& y) % 256 = (x % 256) &&& (y % 256) := Nat.and_mod_two_pow (n := 8)
  have h2 : (x &&& y) / 256 = (x / 256) &&& (y / 256) := Nat.and_div_two_pow (n := 8)
  rw [← h1, ← h2]
  omega

theorem hi_one (b r : Nat) (m : Nat) (hb : b < 256) : ((b + 256 * r) &&& (128 + 256 * m) = 0) ↔ b < 128 ∧ (r &&& m = 0) := by
  rw [and_split]
  rw [show (b + 256 * r) % 256 = b by omega, show (128 + 256 * m) % 256 = 128 by omega, show (b + 256 * r) / 256 = r by omega, show (128 + 256 * m) / 256 = m by omega]
  rw [top_bit ⟨b, hb⟩]

/-- No byte of the eight is 128 or more. -/
theorem hi_eight (y0 y1 y2 y3 y4 y5 y6 y7 : Nat) (h0 : y0 < 256) (h1 : y1 < 256) (h2 : y2 < 256) (h3 : y3 < 256) (h4 : y4 < 256) (h5 : y5 < 256) (h6 : y6 < 256) (h7 : y7 < 256) :
    ((y0 + y1 * 256 + y2 * 65536 + y3 * 16777216 + y4 * 4294967296 + y5 * 1099511627776 + y6 * 281474976710656 + y7 * 72057594037927936) &&& 9259542123273814144 = 0) ↔ (y0 < 128 ∧ y1 < 128 ∧ y2 < 128 ∧ y3 < 128 ∧ y4 < 128 ∧ y5 < 128 ∧ y6 < 128 ∧ y7 < 128) := by
  rw [show y0 + y1 * 256 + y2 * 65536 + y3 * 16777216 + y4 * 4294967296 + y5 * 1099511627776 + y6 * 281474976710656 + y7 * 72057594037927936 = y0 + 256 * (y1 + 256 * (y2 + 256 * (y3 + 256 * (y4 + 256 * (y5 + 256 * (y6 + 256 * (y7 + 256 * 0))))))) by omega,
    show 9259542123273814144 = 128 + 256 * (128 + 256 * (128 + 256 * (128 + 256 * (128 + 256 * (128 + 256 * (128 + 256 * (128 + 256 * 0))))))) by rfl]
  rw [hi_one _ _ _ h0, hi_one _ _ _ h1, hi_one _ _ _ h2, hi_one _ _ _ h3, hi_one _ _ _ h4, hi_one _ _ _ h5, hi_one _ _ _ h6, hi_one _ _ _ h7]
  simp
end Go.Proofs.YtfnmmpakejdlgaaDoor
