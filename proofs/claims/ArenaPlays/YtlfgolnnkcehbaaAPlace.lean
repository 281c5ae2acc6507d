/- Bits, one for each place. -/
import Derived.Test.YtlfgolnnkcehbaaAHead
import Derived.Test.YtlfgolnnkcehbaaAMem
import Derived.Laws.BitsLemmas
import Derived.Deep.RegionHeld3
namespace Go.Proofs.Ytlfgolnnkcehbaa
open Go.RowKit

theorem has_any (p : Nat) (B m c : Nat) (x : Nat) (w : World) (hp : p / 64 < m) (hm : m ≤ 100000) (hx : x < 18446744073709551616) (hc : w.cell? ⟨B, p / 64, none⟩ = some (.int .u64 x)) :
    Calls Try.prog 55 #[.slice (some ⟨B, 0, none⟩) m c, .int .i64 p] w fun e w' => e = .returned (.bool (x.testBit (p % 64))) ∧ w' = w := by
  obtain ⟨q, hq⟩ : ∃ q, q = p % 64 := ⟨_, rfl⟩
  have h63 := and_63 p (by omega)
  have hq64 : q < 64 := by omega
  rw [← hq] at h63 ⊢
  have hle : x / 2 ^ q ≤ x := Nat.div_le_self _ _
  have HB : Hid ((bits .and .u64 ((x : Int) / 2 ^ q) 1 == 1) = x.testBit q) := by
    have e0 : (x : Int) / 2 ^ q = ((x / 2 ^ q : Nat) : Int) := by simp
    show _ = _
    rw [e0, and_1 _ (by omega), Nat.testBit_eq_decide_div_mod_eq]
    rcases Nat.mod_two_eq_zero_or_one (x / 2 ^ q) with h | h <;> rw [h] <;> rfl
  clear hq hle
  go_enter Try.func55, Try.ntmps55
  go_wp2_with fail
  go_ret
  exact ⟨congrArg (fun z => Ending.returned (.bool z)) HB.out, rfl⟩

theorem bits_andNot_u64 (a b : Nat) (ha : a < 18446744073709551616) (hb : b < 18446744073709551616) : bits .andNot .u64 (a : Int) (b : Int) = ((a ^^^ (a &&& b) : Nat) : Int) := by
  have hx : a ^^^ (a &&& b) < 2 ^ 64 := Nat.xor_lt_two_pow (by omega) (Nat.and_lt_two_pow _ (by omega))
  have h1 : (BitVec.ofInt 64 (a : Int)).toNat = a := by
    rw [BitVec.ofInt_natCast, BitVec.toNat_ofNat]; exact Nat.mod_eq_of_lt (by omega)
  have h2 : (BitVec.ofInt 64 (b : Int)).toNat = b := by
    rw [BitVec.ofInt_natCast, BitVec.toNat_ofNat]; exact Nat.mod_eq_of_lt (by omega)
  have e : BitVec.ofInt 64 (a : Int) &&& ~~~ BitVec.ofInt 64 (b : Int) = BitVec.ofInt 64 (a : Int) ^^^ (BitVec.ofInt 64 (a : Int) &&& BitVec.ofInt 64 (b : Int)) := by
    generalize BitVec.ofInt 64 (a : Int) = x
    generalize BitVec.ofInt 64 (b : Int) = y
    ext i hi
    simp
    cases x[i] <;> cases y[i] <;> rfl
  show IntKind.u64.wrap ((BitVec.ofInt 64 (a : Int) &&& ~~~ BitVec.ofInt 64 (b : Int)).toNat : Int) = _
  rw [e, BitVec.toNat_xor, BitVec.toNat_and, h1, h2, IntKind.wrap_u64]
  omega
theorem add_any (p : Nat) (B t c : Nat) (l : List Nat) (w : World) (hp : p / 64 < l.length) (hm : l.length ≤ 100000) (hB : Wds w B t l) (hx : ∀ i, l.getD i 0 < 18446744073709551616) :
    Calls Try.prog 43 #[.slice (some ⟨B, 0, none⟩) l.length c, .int .i64 p] w fun e w' => e = .returned (.tuple #[]) ∧ Chg (fun k => k = B) w w' ∧ Wds w' B t (l.set (p / 64) (l.getD (p / 64) 0 ||| 2 ^ (p % 64))) := by
  have hxk := hx (p / 64)
  have hc := hB.cell hp
  have hf := hB.free (p / 64)
  obtain ⟨x, hx'⟩ : ∃ x, x = l.getD (p / 64) 0 := ⟨_, rfl⟩
  rw [← hx'] at hc hxk ⊢
  obtain ⟨q, hq⟩ : ∃ q, q = p % 64 := ⟨_, rfl⟩
  have h63 := and_63 p (by omega)
  have hq64 : q < 64 := by omega
  rw [← hq] at h63 ⊢
  obtain ⟨k, hk⟩ : ∃ k, k = p / 64 := ⟨_, rfl⟩
  have hk64 : (p : Int) / 64 = (k : Int) := by omega
  rw [← hk] at hc hp hf ⊢
  have hk0 : (0 : Int) ≤ (k : Int) := by omega
  have hk1 : (k : Int) < (l.length : Int) := by omega
  have HB := mkHid hB
  have HV : Hid (bits .or .u64 (x : Int) (IntKind.u64.wrap (2 ^ q)) = ((x ||| 2 ^ q : Nat) : Int)) := by
    have h2 : 2 ^ q < 18446744073709551616 := Nat.lt_of_lt_of_le (Nat.pow_lt_pow_right (by omega) hq64) (by decide)
    have e : IntKind.u64.wrap (2 ^ q) = ((2 ^ q : Nat) : Int) := by
      rw [IntKind.wrap_u64, show ((2 : Int) ^ q) = ((2 ^ q : Nat) : Int) by simp]
      exact Int.emod_eq_of_lt (Int.natCast_nonneg _) (Int.ofNat_lt.2 h2)
    show _ = _
    rw [e, bits_or_u64_nat x (2 ^ q) hxk h2]
  clear hq hk hx hx' hB
  obtain ⟨m, hml⟩ : ∃ m, m = l.length := ⟨_, rfl⟩
  have HML := mkHid hml
  rw [← hml] at hp hm hk1 ⊢
  clear hml
  go_enter Try.func43, Try.ntmps43
  have hcd : w.drew.cell? ⟨B, k, none⟩ = some (.int .u64 x) := by simpa using hc
  have hfd : w.drew.frozen? ⟨B, k, none⟩ = false := by simpa using hf
  go_region_with fail
  all_goals
    go_end0
    refine ⟨rfl, ?_, ?_⟩
    · exact ((Chg.refl (fun k => k = B) w).setCell (Or.inl rfl) k _).drew
    · rw [HV.out]
      exact (HB.out.set k _).drew
theorem drop_any (p : Nat) (B t c : Nat) (l : List Nat) (w : World) (hp : p / 64 < l.length) (hm : l.length ≤ 100000) (hB : Wds w B t l) (hx : ∀ i, l.getD i 0 < 18446744073709551616) :
    Calls Try.prog 54 #[.slice (some ⟨B, 0, none⟩) l.length c, .int .i64 p] w fun e w' => e = .returned (.tuple #[]) ∧ Chg (fun k => k = B) w w' ∧ Wds w' B t (l.set (p / 64) (l.getD (p / 64) 0 ^^^ (l.getD (p / 64) 0 &&& 2 ^ (p % 64)))) := by
  have hxk := hx (p / 64)
  have hc := hB.cell hp
  have hf := hB.free (p / 64)
  obtain ⟨x, hx'⟩ : ∃ x, x = l.getD (p / 64) 0 := ⟨_, rfl⟩
  rw [← hx'] at hc hxk ⊢
  obtain ⟨q, hq⟩ : ∃ q, q = p % 64 := ⟨_, rfl⟩
  have h63 := and_63 p (by omega)
  have hq64 : q < 64 := by omega
  rw [← hq] at h63 ⊢
  obtain ⟨k, hk⟩ : ∃ k, k = p / 64 := ⟨_, rfl⟩
  have hk64 : (p : Int) / 64 = (k : Int) := by omega
  rw [← hk] at hc hp hf ⊢
  have hk0 : (0 : Int) ≤ (k : Int) := by omega
  have hk1 : (k : Int) < (l.length : Int) := by omega
  have HB := mkHid hB
  have HV : Hid (bits .andNot .u64 (x : Int) (IntKind.u64.wrap (2 ^ q)) = ((x ^^^ (x &&& 2 ^ q) : Nat) : Int)) := by
    have h2 : 2 ^ q < 18446744073709551616 := Nat.lt_of_lt_of_le (Nat.pow_lt_pow_right (by omega) hq64) (by decide)
    have e : IntKind.u64.wrap (2 ^ q) = ((2 ^ q : Nat) : Int) := by
      rw [IntKind.wrap_u64, show ((2 : Int) ^ q) = ((2 ^ q : Nat) : Int) by simp]
      exact Int.emod_eq_of_lt (Int.natCast_nonneg _) (Int.ofNat_lt.2 h2)
    show _ = _
    rw [e, bits_andNot_u64 x (2 ^ q) hxk h2]
  clear hq hk hx hx' hB
  obtain ⟨m, hml⟩ : ∃ m, m = l.length := ⟨_, rfl⟩
  have HML := mkHid hml
  rw [← hml] at hp hm hk1 ⊢
  clear hml
  go_enter Try.func54, Try.ntmps54
  have hcd : w.drew.cell? ⟨B, k, none⟩ = some (.int .u64 x) := by simpa using hc
  have hfd : w.drew.frozen? ⟨B, k, none⟩ = false := by simpa using hf
  go_region_with fail
  all_goals
    go_end0
    refine ⟨rfl, ?_, ?_⟩
    · exact ((Chg.refl (fun k => k = B) w).setCell (Or.inl rfl) k _).drew
    · rw [HV.out]
      exact (HB.out.set k _).drew
end Go.Proofs.Ytlfgolnnkcehbaa
