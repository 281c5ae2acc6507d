/- Some texts in one: each opens with its own remark. -/
import Derived.Test.YthdggdmaajlaiaaProg
import Derived.WalkKit
import Derived.ProofKit
import Derived.Laws.Bits64b
import Derived.Laws.BitsLemmas
import Derived.Deep.RegionHeld3
/- Bits of words. -/
namespace Go.Proofs.Ythdggdmaajlaiaa
open Go.RowKit
theorem Sx0 {α : Type _} {l : List α} {i : Nat} {a : α} : l.toArray.setIfInBounds i a = (l.set i a).toArray := List.setIfInBounds_toArray _ _ _
theorem Sx1 {α : Type _} {a b : α} {l : List α} : (a :: l).set 0 b = b :: l := List.set_cons_zero
theorem Sx2 {α : Type _} {a b : α} {l : List α} {n : Nat} : (a :: l).set (n + 1) b = a :: l.set n b := List.set_cons_succ

theorem and_mask (x : Nat) (b : Nat) (hb : b < 64) (hx : x < 18446744073709551616) : bits .and .u64 (x : Int) ((2 ^ b - 1 : Nat) : Int) = ((x % 2 ^ b : Nat) : Int) := by
  have h2 : 2 ^ b < 18446744073709551616 := Nat.lt_of_lt_of_le (Nat.pow_lt_pow_right (by omega) hb) (by decide)
  rw [bits_and_u64_nat x (2 ^ b - 1) hx (by omega), Nat.and_two_pow_sub_one_eq_mod]

theorem or_add (a b i : Nat) (ha : a < 2 ^ i) (hi : 2 ^ i * (b + 1) ≤ 18446744073709551616) : bits .or .u64 (a : Int) ((b * 2 ^ i : Nat) : Int) = ((a + b * 2 ^ i : Nat) : Int) := by
  have h1 : 2 ^ i * (b + 1) = b * 2 ^ i + 2 ^ i := by rw [Nat.mul_add, Nat.mul_comm]; omega
  rw [bits_or_u64_nat a (b * 2 ^ i) (by omega) (by have := Nat.two_pow_pos i; omega)]
  have h := Nat.shiftLeft_add_eq_or_of_lt (i := i) ha b
  rw [Nat.shiftLeft_eq] at h
  rw [Nat.or_comm, ← h]
  congr 1
  omega

theorem and_63 (p : Nat) (hp : p < 9223372036854775808) : bits .and .i64 (p : Int) 63 = ((p % 64 : Nat) : Int) := by
  have h := bits_mask .i64 63 (by decide) (fun n h0 h1 => by rw [IntKind.wrap_i64]; omega) 6 (by omega) (p : Int) (by omega) (by omega)
  rw [show (2 : Int) ^ 6 - 1 = 63 from rfl] at h
  rw [h]
  simp
theorem and_1 (y : Nat) (hy : y < 18446744073709551616) : bits .and .u64 (y : Int) 1 = ((y % 2 : Nat) : Int) := and_mask y 1 (by omega) hy

theorem land_1 (n : Int) : bits .and .i64 n 1 = n % 2 := by
  have h1 : (BitVec.ofInt 64 1).toNat = 2 ^ 1 - 1 := by decide
  have key : (BitVec.ofInt 64 n &&& BitVec.ofInt 64 1).toNat = (n % ((2 ^ 64 : Nat) : Int)).toNat % 2 ^ 1 := by
    rw [BitVec.toNat_and, BitVec.toNat_ofInt, h1, Nat.and_two_pow_sub_one_eq_mod]
  show IntKind.i64.wrap ((BitVec.ofInt 64 n &&& BitVec.ofInt 64 1).toNat : Nat) = n % 2
  rw [key, IntKind.wrap_i64]
  omega
theorem land_7 (n : Int) : bits .and .i64 n 7 = n % 8 := by
  have h1 : (BitVec.ofInt 64 7).toNat = 2 ^ 3 - 1 := by decide
  have key : (BitVec.ofInt 64 n &&& BitVec.ofInt 64 7).toNat = (n % ((2 ^ 64 : Nat) : Int)).toNat % 2 ^ 3 := by
    rw [BitVec.toNat_and, BitVec.toNat_ofInt, h1, Nat.and_two_pow_sub_one_eq_mod]
  show IntKind.i64.wrap ((BitVec.ofInt 64 n &&& BitVec.ofInt 64 7).toNat : Nat) = n % 8
  rw [key, IntKind.wrap_i64]
  omega
theorem land_15 (n : Int) : bits .and .i64 n 15 = n % 16 := by
  have h1 : (BitVec.ofInt 64 15).toNat = 2 ^ 4 - 1 := by decide
  have key : (BitVec.ofInt 64 n &&& BitVec.ofInt 64 15).toNat = (n % ((2 ^ 64 : Nat) : Int)).toNat % 2 ^ 4 := by
    rw [BitVec.toNat_and, BitVec.toNat_ofInt, h1, Nat.and_two_pow_sub_one_eq_mod]
  show IntKind.i64.wrap ((BitVec.ofInt 64 n &&& BitVec.ofInt 64 15).toNat : Nat) = n % 16
  rw [key, IntKind.wrap_i64]
  omega
theorem land_31 (n : Int) : bits .and .i64 n 31 = n % 32 := by
  have h1 : (BitVec.ofInt 64 31).toNat = 2 ^ 5 - 1 := by decide
  have key : (BitVec.ofInt 64 n &&& BitVec.ofInt 64 31).toNat = (n % ((2 ^ 64 : Nat) : Int)).toNat % 2 ^ 5 := by
    rw [BitVec.toNat_and, BitVec.toNat_ofInt, h1, Nat.and_two_pow_sub_one_eq_mod]
  show IntKind.i64.wrap ((BitVec.ofInt 64 n &&& BitVec.ofInt 64 31).toNat : Nat) = n % 32
  rw [key, IntKind.wrap_i64]
  omega
theorem land_63 (n : Int) : bits .and .i64 n 63 = n % 64 := by
  have h1 : (BitVec.ofInt 64 63).toNat = 2 ^ 6 - 1 := by decide
  have key : (BitVec.ofInt 64 n &&& BitVec.ofInt 64 63).toNat = (n % ((2 ^ 64 : Nat) : Int)).toNat % 2 ^ 6 := by
    rw [BitVec.toNat_and, BitVec.toNat_ofInt, h1, Nat.and_two_pow_sub_one_eq_mod]
  show IntKind.i64.wrap ((BitVec.ofInt 64 n &&& BitVec.ofInt 64 63).toNat : Nat) = n % 64
  rw [key, IntKind.wrap_i64]
  omega
theorem land_127 (n : Int) : bits .and .i64 n 127 = n % 128 := by
  have h1 : (BitVec.ofInt 64 127).toNat = 2 ^ 7 - 1 := by decide
  have key : (BitVec.ofInt 64 n &&& BitVec.ofInt 64 127).toNat = (n % ((2 ^ 64 : Nat) : Int)).toNat % 2 ^ 7 := by
    rw [BitVec.toNat_and, BitVec.toNat_ofInt, h1, Nat.and_two_pow_sub_one_eq_mod]
  show IntKind.i64.wrap ((BitVec.ofInt 64 n &&& BitVec.ofInt 64 127).toNat : Nat) = n % 128
  rw [key, IntKind.wrap_i64]
  omega
theorem land_1023 (n : Int) : bits .and .i64 n 1023 = n % 1024 := by
  have h1 : (BitVec.ofInt 64 1023).toNat = 2 ^ 10 - 1 := by decide
  have key : (BitVec.ofInt 64 n &&& BitVec.ofInt 64 1023).toNat = (n % ((2 ^ 64 : Nat) : Int)).toNat % 2 ^ 10 := by
    rw [BitVec.toNat_and, BitVec.toNat_ofInt, h1, Nat.and_two_pow_sub_one_eq_mod]
  show IntKind.i64.wrap ((BitVec.ofInt 64 n &&& BitVec.ofInt 64 1023).toNat : Nat) = n % 1024
  rw [key, IntKind.wrap_i64]
  omega
theorem land_65535 (n : Int) : bits .and .i64 n 65535 = n % 65536 := by
  have h1 : (BitVec.ofInt 64 65535).toNat = 2 ^ 16 - 1 := by decide
  have key : (BitVec.ofInt 64 n &&& BitVec.ofInt 64 65535).toNat = (n % ((2 ^ 64 : Nat) : Int)).toNat % 2 ^ 16 := by
    rw [BitVec.toNat_and, BitVec.toNat_ofInt, h1, Nat.and_two_pow_sub_one_eq_mod]
  show IntKind.i64.wrap ((BitVec.ofInt 64 n &&& BitVec.ofInt 64 65535).toNat : Nat) = n % 65536
  rw [key, IntKind.wrap_i64]
  omega
end Go.Proofs.Ythdggdmaajlaiaa

/- Small functions of package arena. -/
namespace Go.Proofs.Ythdggdmaajlaiaa
open Go.RowKit

theorem within_any (n lo hi : Int) (w : World) :
    Calls Try.prog 64 #[.int .i64 n, .int .i64 lo, .int .i64 hi] w fun e w' => e = .returned (.bool (decide (lo ≤ n ∧ n ≤ hi))) ∧ w' = w := by
  by_cases h1 : lo ≤ n
  · by_cases h2 : n ≤ hi
    · go_enter Try.func64, Try.ntmps64
      go_wp2_with fail
      go_ret
      exact ⟨by simp [h1, h2], rfl⟩
    · go_enter Try.func64, Try.ntmps64
      go_wp2_with fail
      go_ret
      exact ⟨by simp [h2], rfl⟩
  · go_enter Try.func64, Try.ntmps64
    go_wp2_with fail
    go_ret
    exact ⟨by simp; omega, rfl⟩

/-- The number in so many bits of a word, from a place on. -/
def part (x a b : Nat) : Nat := x / 2 ^ a % 2 ^ b

theorem part_lt (x a b : Nat) : part x a b < 2 ^ b := Nat.mod_lt _ (Nat.two_pow_pos _)

theorem part_0 (x : Nat) (hx : x < 18446744073709551616) (w : World) :
    Calls Try.prog 75 #[.int .u64 x, .int .u64 0, .int .u64 8] w fun e w' => e = .returned (.int .i64 (part x 0 8 : Int)) ∧ w' = w := by
  have H : Hid (wrap64 (bits .and .u64 (x : Int) 255) = (part x 0 8 : Int)) := by
    have e0 : (x : Int) = ((x / 2 ^ 0 : Nat) : Int) := by simp
    have e1 := and_mask (x / 2 ^ 0) 8 (by omega) (by omega)
    have e2 : bits .and .u64 ((x / 2 ^ 0 : Nat) : Int) 255 = (((x / 2 ^ 0) % 2 ^ 8 : Nat) : Int) := e1
    have h3 : (x / 2 ^ 0) % 2 ^ 8 < 256 := Nat.mod_lt _ (by decide)
    show _ = _
    rw [e0, e2]; unfold part wrap64; omega
  go_enter Try.func75, Try.ntmps75
  go_wp2_with fail
  go_ret
  exact ⟨congrArg (fun z => Ending.returned (.int .i64 z)) H.out, rfl⟩
theorem part_8 (x : Nat) (hx : x < 18446744073709551616) (w : World) :
    Calls Try.prog 75 #[.int .u64 x, .int .u64 8, .int .u64 13] w fun e w' => e = .returned (.int .i64 (part x 8 13 : Int)) ∧ w' = w := by
  have H : Hid (wrap64 (bits .and .u64 ((x : Int) / 256) 8191) = (part x 8 13 : Int)) := by
    have e0 : ((x : Int) / 256) = ((x / 2 ^ 8 : Nat) : Int) := by simp
    have e1 := and_mask (x / 2 ^ 8) 13 (by omega) (by omega)
    have e2 : bits .and .u64 ((x / 2 ^ 8 : Nat) : Int) 8191 = (((x / 2 ^ 8) % 2 ^ 13 : Nat) : Int) := e1
    have h3 : (x / 2 ^ 8) % 2 ^ 13 < 8192 := Nat.mod_lt _ (by decide)
    show _ = _
    rw [e0, e2]; unfold part wrap64; omega
  go_enter Try.func75, Try.ntmps75
  go_wp2_with fail
  go_ret
  exact ⟨congrArg (fun z => Ending.returned (.int .i64 z)) H.out, rfl⟩
theorem part_21 (x : Nat) (hx : x < 18446744073709551616) (w : World) :
    Calls Try.prog 75 #[.int .u64 x, .int .u64 21, .int .u64 13] w fun e w' => e = .returned (.int .i64 (part x 21 13 : Int)) ∧ w' = w := by
  have H : Hid (wrap64 (bits .and .u64 ((x : Int) / 2097152) 8191) = (part x 21 13 : Int)) := by
    have e0 : ((x : Int) / 2097152) = ((x / 2 ^ 21 : Nat) : Int) := by simp
    have e1 := and_mask (x / 2 ^ 21) 13 (by omega) (by omega)
    have e2 : bits .and .u64 ((x / 2 ^ 21 : Nat) : Int) 8191 = (((x / 2 ^ 21) % 2 ^ 13 : Nat) : Int) := e1
    have h3 : (x / 2 ^ 21) % 2 ^ 13 < 8192 := Nat.mod_lt _ (by decide)
    show _ = _
    rw [e0, e2]; unfold part wrap64; omega
  go_enter Try.func75, Try.ntmps75
  go_wp2_with fail
  go_ret
  exact ⟨congrArg (fun z => Ending.returned (.int .i64 z)) H.out, rfl⟩
theorem part_34 (x : Nat) (hx : x < 18446744073709551616) (w : World) :
    Calls Try.prog 75 #[.int .u64 x, .int .u64 34, .int .u64 20] w fun e w' => e = .returned (.int .i64 (part x 34 20 : Int)) ∧ w' = w := by
  have H : Hid (wrap64 (bits .and .u64 ((x : Int) / 17179869184) 1048575) = (part x 34 20 : Int)) := by
    have e0 : ((x : Int) / 17179869184) = ((x / 2 ^ 34 : Nat) : Int) := by simp
    have e1 := and_mask (x / 2 ^ 34) 20 (by omega) (by omega)
    have e2 : bits .and .u64 ((x / 2 ^ 34 : Nat) : Int) 1048575 = (((x / 2 ^ 34) % 2 ^ 20 : Nat) : Int) := e1
    have h3 : (x / 2 ^ 34) % 2 ^ 20 < 1048576 := Nat.mod_lt _ (by decide)
    show _ = _
    rw [e0, e2]; unfold part wrap64; omega
  go_enter Try.func75, Try.ntmps75
  go_wp2_with fail
  go_ret
  exact ⟨congrArg (fun z => Ending.returned (.int .i64 z)) H.out, rfl⟩
/-- A head's word. -/
def packed (t r s o : Nat) : Nat := t + s * 2 ^ 8 + r * 2 ^ 21 + o * 2 ^ 34
theorem pack_any (t r s o : Nat) (w : World) (ht : t < 256) (hr : r ≤ 4096) (hs : s ≤ 4096) (ho : o < 1048576) :
    Calls Try.prog 49 #[.int .i64 t, .int .i64 r, .int .i64 s, .int .i64 o] w fun e w' => e = .returned (.int .u64 (packed t r s o : Int)) ∧ w' = w := by
  have h1 := or_add t s 8 (by omega) (by omega)
  have h2 := or_add (t + s * 2 ^ 8) r 21 (by omega) (by omega)
  have h3 := or_add (t + s * 2 ^ 8 + r * 2 ^ 21) o 34 (by omega) (by omega)
  have H : Hid (bits .or .u64 (bits .or .u64 (bits .or .u64 (t : Int) ((s : Int) * 256)) ((r : Int) * 2097152)) ((o : Int) * 17179869184) = (packed t r s o : Int)) := by
    have e1 : ((s : Int) * 256) = ((s * 2 ^ 8 : Nat) : Int) := by simp
    have e2 : ((r : Int) * 2097152) = ((r * 2 ^ 21 : Nat) : Int) := by simp
    have e3 : ((o : Int) * 17179869184) = ((o * 2 ^ 34 : Nat) : Int) := by simp
    show _ = _
    rw [e1, e2, e3, h1, h2, h3]; rfl
  clear h1 h2 h3
  go_enter Try.func49, Try.ntmps49
  go_wp2_with fail
  go_ret
  exact ⟨congrArg (fun z => Ending.returned (.int .u64 z)) H.out, rfl⟩
end Go.Proofs.Ythdggdmaajlaiaa

/- What is changed and what not; rows of words. -/
namespace Go.Proofs.Ythdggdmaajlaiaa
open Go.RowKit

theorem mkHid {p : Prop} (h : p) : Hid p := h

/-- Nothing that was there is changed but in the blocks that p names. -/
structure Chg (p : Nat → Prop) (w w' : World) : Prop where
  os : w'.os = w.os
  tape : w'.tape = w.tape
  output : w'.output = w.output
  size : w.heap.size ≤ w'.heap.size
  block : ∀ k, k < w.heap.size → ¬ p k → w'.heap[k]? = w.heap[k]?
theorem Chg.refl (p : Nat → Prop) (w : World) : Chg p w w := ⟨rfl, rfl, rfl, Nat.le_refl _, fun _ _ _ => rfl⟩
theorem Chg.of_below {p : Nat → Prop} {w w' : World} (h : Below w.heap.size w w') : Chg p w w' := ⟨h.os, h.tape, h.output, h.size, fun k hk _ => h.block k hk⟩
theorem Chg.below {w w' : World} (h : Chg (fun _ => False) w w') : Below w.heap.size w w' := ⟨h.os, h.tape, h.output, h.size, fun k hk => h.block k hk (fun h => h)⟩
theorem Chg.trans {p : Nat → Prop} {w w1 w2 : World} (h : Chg p w w1) (g : Chg p w1 w2) : Chg p w w2 :=
  ⟨g.os.trans h.os, g.tape.trans h.tape, g.output.trans h.output, Nat.le_trans h.size g.size, fun k hk hn => (g.block k (Nat.lt_of_lt_of_le hk h.size) hn).trans (h.block k hk hn)⟩
theorem Chg.mono {p q : Nat → Prop} {w w' : World} (h : Chg p w w') (hpq : ∀ k, k < w.heap.size → p k → q k) : Chg q w w' := ⟨h.os, h.tape, h.output, h.size, fun k hk hn => h.block k hk (fun hp => hn (hpq k hk hp))⟩
theorem Chg.drew {p : Nat → Prop} {w w' : World} (h : Chg p w w') : Chg p w w'.drew := ⟨h.os, h.tape, h.output, h.size, h.block⟩
theorem Chg.setCell {p : Nat → Prop} {w w' : World} (h : Chg p w w') {b : Nat} (hb : p b ∨ w.heap.size ≤ b) (o : Nat) (v : Value) : Chg p w (w'.setCell ⟨b, o, none⟩ v) := by
  have hb' := (Below.refl 0 w').setCell (p := ⟨b, o, none⟩) (Nat.zero_le _) v
  refine ⟨hb'.os.trans h.os, hb'.tape.trans h.tape, hb'.output.trans h.output, Nat.le_trans h.size hb'.size, fun k hk hn => ?_⟩
  have hne : k ≠ b := by
    rintro rfl
    rcases hb with hp | hs
    · exact hn hp
    · omega
  rw [Below.heap_setCell w' ⟨b, o, none⟩ v k hne]
  exact h.block k hk hn

/-- A row of words lies in a block of its own. -/
def wcells (l : List Nat) : Array Value := (l.map fun x : Nat => Value.int .u64 (x : Int)).toArray
def Wds (w : World) (b t : Nat) (l : List Nat) : Prop := w.heap[b]? = some (.cells (wcells l) t (0, 0))
theorem Wds.lt {w : World} {b t : Nat} {l : List Nat} (h : Wds w b t l) : b < w.heap.size := (Array.getElem?_eq_some_iff.1 h).1
theorem Wds.cell {w : World} {b t : Nat} {l : List Nat} (h : Wds w b t l) {i : Nat} (hi : i < l.length) : w.cell? ⟨b, i, none⟩ = some (.int .u64 ((l.getD i 0 : Nat) : Int)) := by
  rw [cell_of_row w b i _ _ _ h]
  simp [wcells, hi]
theorem Wds.free {w : World} {b t : Nat} {l : List Nat} (h : Wds w b t l) (i : Nat) : w.frozen? ⟨b, i, none⟩ = false := frozen_of_row w b i _ _ h
theorem Wds.set {w : World} {b t : Nat} {l : List Nat} (h : Wds w b t l) (i x : Nat) : Wds (w.setCell ⟨b, i, none⟩ (.int .u64 (x : Int))) b t (l.set i x) := by
  unfold Wds
  rw [heap_setCell_same w b i _ _ _ h]
  simp [wcells, List.map_set]
theorem Wds.other {w : World} {b t : Nat} {l : List Nat} (h : Wds w b t l) {g i : Nat} {u : Value} (hne : b ≠ g) : Wds (w.setCell ⟨g, i, none⟩ u) b t l := by
  unfold Wds
  rw [Below.heap_setCell w ⟨g, i, none⟩ u b hne]
  exact h
theorem Wds.chg {w w' : World} {p : Nat → Prop} {b t : Nat} {l : List Nat} (h : Wds w b t l) (hc : Chg p w w') (hn : ¬ p b) : Wds w' b t l := by
  unfold Wds
  rw [hc.block b h.lt hn]
  exact h
theorem Wds.drew {w : World} {b t : Nat} {l : List Nat} (h : Wds w b t l) : Wds w.drew b t l := h
end Go.Proofs.Ythdggdmaajlaiaa

/- Bits, one for each place. -/
namespace Go.Proofs.Ythdggdmaajlaiaa
open Go.RowKit

theorem has_any (p : Nat) (B m c : Nat) (x : Nat) (w : World) (hp : p / 64 < m) (hm : m ≤ 100000) (hx : x < 18446744073709551616) (hc : w.cell? ⟨B, p / 64, none⟩ = some (.int .u64 x)) :
    Calls Try.prog 74 #[.slice (some ⟨B, 0, none⟩) m c, .int .i64 p] w fun e w' => e = .returned (.bool (x.testBit (p % 64))) ∧ w' = w := by
  obtain ⟨q, hq⟩ : ∃ q, q = p % 64 := ⟨_, rfl⟩
  have h63 := and_63 p (by omega)
  have hq64 : q < 64 := by omega
  rw [← hq] at h63 ⊢
  have hle : x / 2 ^ q ≤ x := Nat.div_le_self _ _
  have HB : Hid ((bits .and .u64 ((x : Int) / 2 ^ q) 1 == 1) = x.testBit q) := by
    have e0 : (x : Int) / 2 ^ q = ((x / 2 ^ q : Nat) : Int) := by simp
    show _ = _
    rw [e0, and_1 _ (by omega), Nat.testBit_eq_decide_div_mod_eq]
    rcases Nat.mod_two_eq_zero_or_one (x / 2 ^ q) with h | h <;> rw [h] <;> rfl
  clear hq hle
  go_enter Try.func74, Try.ntmps74
  go_wp2_with fail
  go_ret
  exact ⟨congrArg (fun z => Ending.returned (.bool z)) HB.out, rfl⟩

theorem bits_andNot_u64 (a b : Nat) (ha : a < 18446744073709551616) (hb : b < 18446744073709551616) : bits .andNot .u64 (a : Int) (b : Int) = ((a ^^^ (a &&& b) : Nat) : Int) := by
  have hx : a ^^^ (a &&& b) < 2 ^ 64 := Nat.xor_lt_two_pow (by omega) (Nat.and_lt_two_pow _ (by omega))
  have h1 : (BitVec.ofInt 64 (a : Int)).toNat = a := by
    rw [BitVec.ofInt_natCast, BitVec.toNat_ofNat]; exact Nat.mod_eq_of_lt (by omega)
  have h2 : (BitVec.ofInt 64 (b : Int)).toNat = b := by
    rw [BitVec.ofInt_natCast, BitVec.toNat_ofNat]; exact Nat.mod_eq_of_lt (by omega)
  have e : BitVec.ofInt 64 (a : Int) &&& ~~~ BitVec.ofInt 64 (b : Int) = BitVec.ofInt 64 (a : Int) ^^^ (BitVec.ofInt 64 (a : Int) &&& BitVec.ofInt 64 (b : Int)) := by
    generalize BitVec.ofInt 64 (a : Int) = x
    generalize BitVec.ofInt 64 (b : Int) = y
    ext i hi
    simp
    cases x[i] <;> cases y[i] <;> rfl
  show IntKind.u64.wrap ((BitVec.ofInt 64 (a : Int) &&& ~~~ BitVec.ofInt 64 (b : Int)).toNat : Int) = _
  rw [e, BitVec.toNat_xor, BitVec.toNat_and, h1, h2, IntKind.wrap_u64]
  omega
theorem add_any (p : Nat) (B t c : Nat) (l : List Nat) (w : World) (hp : p / 64 < l.length) (hm : l.length ≤ 100000) (hB : Wds w B t l) (hx : ∀ i, l.getD i 0 < 18446744073709551616) :
    Calls Try.prog 50 #[.slice (some ⟨B, 0, none⟩) l.length c, .int .i64 p] w fun e w' => e = .returned (.tuple #[]) ∧ Chg (fun k => k = B) w w' ∧ Wds w' B t (l.set (p / 64) (l.getD (p / 64) 0 ||| 2 ^ (p % 64))) := by
  have hxk := hx (p / 64)
  have hc := hB.cell hp
  have hf := hB.free (p / 64)
  obtain ⟨x, hx'⟩ : ∃ x, x = l.getD (p / 64) 0 := ⟨_, rfl⟩
  rw [← hx'] at hc hxk ⊢
  obtain ⟨q, hq⟩ : ∃ q, q = p % 64 := ⟨_, rfl⟩
  have h63 := and_63 p (by omega)
  have hq64 : q < 64 := by omega
  rw [← hq] at h63 ⊢
  obtain ⟨k, hk⟩ : ∃ k, k = p / 64 := ⟨_, rfl⟩
  have hk64 : (p : Int) / 64 = (k : Int) := by omega
  rw [← hk] at hc hp hf ⊢
  have hk0 : (0 : Int) ≤ (k : Int) := by omega
  have hk1 : (k : Int) < (l.length : Int) := by omega
  have HB := mkHid hB
  have HV : Hid (bits .or .u64 (x : Int) (IntKind.u64.wrap (2 ^ q)) = ((x ||| 2 ^ q : Nat) : Int)) := by
    have h2 : 2 ^ q < 18446744073709551616 := Nat.lt_of_lt_of_le (Nat.pow_lt_pow_right (by omega) hq64) (by decide)
    have e : IntKind.u64.wrap (2 ^ q) = ((2 ^ q : Nat) : Int) := by
      rw [IntKind.wrap_u64, show ((2 : Int) ^ q) = ((2 ^ q : Nat) : Int) by simp]
      exact Int.emod_eq_of_lt (Int.natCast_nonneg _) (Int.ofNat_lt.2 h2)
    show _ = _
    rw [e, bits_or_u64_nat x (2 ^ q) hxk h2]
  clear hq hk hx hx' hB
  obtain ⟨m, hml⟩ : ∃ m, m = l.length := ⟨_, rfl⟩
  have HML := mkHid hml
  rw [← hml] at hp hm hk1 ⊢
  clear hml
  go_enter Try.func50, Try.ntmps50
  have hcd : w.drew.cell? ⟨B, k, none⟩ = some (.int .u64 x) := by simpa using hc
  have hfd : w.drew.frozen? ⟨B, k, none⟩ = false := by simpa using hf
  go_region_with fail
  all_goals
    go_end0
    refine ⟨rfl, ?_, ?_⟩
    · exact ((Chg.refl (fun k => k = B) w).setCell (Or.inl rfl) k _).drew
    · rw [HV.out]
      exact (HB.out.set k _).drew
end Go.Proofs.Ythdggdmaajlaiaa

/- An arena in memory; does an object begin at a place? -/
namespace Go.Proofs.Ythdggdmaajlaiaa
open Go.RowKit

/-- An arena: its block A, its words in block W, its bits in block B. -/
structure Ar (w : World) (A W B ta tw tb : Nat) (ws bs : List Nat) (top low high : Nat) (op : Bool) : Prop where
  head : w.heap[A]? = some (.cells #[.slice (some ⟨W, 0, none⟩) ws.length ws.length, .slice (some ⟨B, 0, none⟩) bs.length bs.length, .int .i64 top, .int .i64 low, .int .i64 high, .bool op] ta (0, 0))
  words : Wds w W tw ws
  bits : Wds w B tb bs
  aw : A ≠ W
  ab : A ≠ B
  wb : W ≠ B
  len : bs.length = (ws.length + 63) / 64
  few : ws.length ≤ 1048576
  wlt : ∀ i, ws.getD i 0 < 18446744073709551616
  blt : ∀ i, bs.getD i 0 < 18446744073709551616
  topLe : top ≤ ws.length
  lowLe : low ≤ high
  highLe : high ≤ top
theorem Ar.cells {w : World} {A W B ta tw tb : Nat} {ws bs : List Nat} {top low high : Nat} {op : Bool} (h : Ar w A W B ta tw tb ws bs top low high op) :
    w.cell? ⟨A, 0, none⟩ = some (.slice (some ⟨W, 0, none⟩) ws.length ws.length) ∧ w.cell? ⟨A, 1, none⟩ = some (.slice (some ⟨B, 0, none⟩) bs.length bs.length) ∧ w.cell? ⟨A, 2, none⟩ = some (.int .i64 top) ∧ w.cell? ⟨A, 3, none⟩ = some (.int .i64 low) ∧ w.cell? ⟨A, 4, none⟩ = some (.int .i64 high) ∧ w.cell? ⟨A, 5, none⟩ = some (.bool op) := by
  refine ⟨?_, ?_, ?_, ?_, ?_, ?_⟩ <;> (rw [cell_of_row w A _ _ _ _ h.head]; rfl)
theorem Ar.lt {w : World} {A W B ta tw tb : Nat} {ws bs : List Nat} {top low high : Nat} {op : Bool} (h : Ar w A W B ta tw tb ws bs top low high op) : A < w.heap.size := (Array.getElem?_eq_some_iff.1 h.head).1
theorem Ar.free {w : World} {A W B ta tw tb : Nat} {ws bs : List Nat} {top low high : Nat} {op : Bool} (h : Ar w A W B ta tw tb ws bs top low high op) (i : Nat) : w.frozen? ⟨A, i, none⟩ = false := frozen_of_row w A i _ _ h.head
/-- The blocks of an arena. -/
def mine (A W B : Nat) (k : Nat) : Prop := k = A ∨ k = W ∨ k = B
theorem chg_below {w w' : World} {A W B k : Nat} (h : Chg (mine A W B) w w') (hk : k ≤ w.heap.size) (hA : k ≤ A) (hW : k ≤ W) (hB : k ≤ B) : Below k w w' :=
  ⟨h.os, h.tape, h.output, h.size, fun j hj => h.block j (by omega) (by unfold mine; omega)⟩

/-- Does an object begin there? -/
def holdsAt (bs : List Nat) (top : Nat) (at_ : Int) : Bool := decide (0 ≤ at_ ∧ at_ ≤ (top : Int) - 1) && (bs.getD (at_.toNat / 64) 0).testBit (at_.toNat % 64)

set_option maxHeartbeats 1000000 in
theorem holds_any {w : World} {A W B ta tw tb : Nat} {ws bs : List Nat} {top low high : Nat} {op : Bool} (h : Ar w A W B ta tw tb ws bs top low high op) (at_ : Int) :
    Calls Try.prog 68 #[.pointer (some ⟨A, 0, none⟩), .int .i64 at_] w fun e w' => e = .returned (.bool (holdsAt bs top at_)) ∧ w' = w := by
  have hfew := h.few
  have hlen := h.len
  have htop := h.topLe
  obtain ⟨c0, c1, c2, c3, c4, c5⟩ := h.cells
  have hW := mkHid (within_any at_ 0 ((top : Int) - 1) w)
  by_cases h1 : 0 ≤ at_ ∧ at_ ≤ (top : Int) - 1
  · have hd : decide (0 ≤ at_ ∧ at_ ≤ (top : Int) - 1) = true := decide_eq_true h1
    rw [hd] at hW
    obtain ⟨p, rfl⟩ : ∃ p : Nat, at_ = (p : Int) := ⟨at_.toNat, by omega⟩
    have hH := mkHid (has_any p B bs.length bs.length (bs.getD (p / 64) 0) w (by omega) (by omega) (h.blt _) (h.bits.cell (by omega)))
    have HR : Hid (holdsAt bs top (p : Int) = (bs.getD (p / 64) 0).testBit (p % 64)) := by
      show _ = _
      unfold holdsAt
      rw [hd]; simp
    clear h1 hd h hlen
    go_enter Try.func68, Try.ntmps68
    go_wp2_with fail
    refine hW.out.mono ?_
    rintro e w1 ⟨rfl, rfl⟩
    go_wp2_with fail
    refine hH.out.mono ?_
    rintro e w1 ⟨rfl, rfl⟩
    go_wp2_with fail
    go_ret
    rw [HR.out]
    exact ⟨by simp, rfl⟩
  · have hd : decide (0 ≤ at_ ∧ at_ ≤ (top : Int) - 1) = false := decide_eq_false h1
    rw [hd] at hW
    have HR : Hid (holdsAt bs top at_ = false) := by
      show _ = _
      unfold holdsAt
      rw [hd]; simp
    clear h1 hd h hlen
    go_enter Try.func68, Try.ntmps68
    go_wp2_with fail
    refine hW.out.mono ?_
    rintro e w1 ⟨rfl, rfl⟩
    go_wp2_with fail
    go_ret
    rw [HR.out]
    exact ⟨by simp, rfl⟩
end Go.Proofs.Ythdggdmaajlaiaa
