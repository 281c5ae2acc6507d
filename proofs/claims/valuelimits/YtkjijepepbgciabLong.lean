/- What the statement ValueLimits needs besides: texts of so many letters; values at the limits, and their errors. -/
import Derived.Test.YtkjijepepbgciabRowv
import Derived.Laws.BitsLemmas
namespace Go.Proofs.Ytkjijepepbgciab
open Go.RowKit

theorem i64_and63 (n : Int) : bits .and .i64 n 63 = n % 64 := by
  have h127 : (BitVec.ofInt 64 63).toNat = 2 ^ 6 - 1 := by decide
  have key : (BitVec.ofInt 64 n &&& BitVec.ofInt 64 63).toNat = (n % ((2 ^ 64 : Nat) : Int)).toNat % 2 ^ 6 := by
    rw [BitVec.toNat_and, BitVec.toNat_ofInt, h127, Nat.and_two_pow_sub_one_eq_mod]
  show IntKind.i64.wrap ((BitVec.ofInt 64 n &&& BitVec.ofInt 64 63).toNat : Nat) = n % 64
  rw [key, IntKind.wrap_i64]
  omega
theorem i64_and3 (n : Int) : bits .and .i64 n 3 = n % 4 := by
  have h127 : (BitVec.ofInt 64 3).toNat = 2 ^ 2 - 1 := by decide
  have key : (BitVec.ofInt 64 n &&& BitVec.ofInt 64 3).toNat = (n % ((2 ^ 64 : Nat) : Int)).toNat % 2 ^ 2 := by
    rw [BitVec.toNat_and, BitVec.toNat_ofInt, h127, Nat.and_two_pow_sub_one_eq_mod]
  show IntKind.i64.wrap ((BitVec.ofInt 64 n &&& BitVec.ofInt 64 3).toNat : Nat) = n % 4
  rw [key, IntKind.wrap_i64]
  omega

/-- So many letters. -/
def longS (n : Nat) : ByteArray := ⟨(List.replicate n 110).toArray⟩
theorem longS_size (n : Nat) : (longS n).size = n := by
  show (List.replicate n (110 : UInt8)).toArray.size = n
  simp
theorem longS_get (n i : Nat) (h : i < n) : (longS n).get! i = 110 := by
  show (List.replicate n (110 : UInt8)).toArray[i]! = 110
  simp [h]
theorem longS_decode (n i : Nat) (h : i < n) : Utf8.decode (longS n) i = (110, 1) := by
  unfold Utf8.decode
  simp [longS_get n i h]
theorem longS_from (n : Nat) : ∀ (f p : Nat), validFrom (longS n) f p = true
  | 0, _ => rfl
  | f + 1, p => by
    unfold validFrom
    rw [longS_size]
    split
    · rename_i h
      rw [longS_decode n p h, brokenB_no _ _ _ (by decide), if_neg (by decide)]
      exact longS_from n f (p + 1)
    · rfl
theorem longS_valid (n : Nat) : validB (longS n) = true := longS_from n _ 0

/-- Lists within one another. -/
def nest : Nat → GV
  | 0 => gI 1
  | k + 1 => gL 1 (fun _ => nest k)

theorem nest_err : ∀ k : Fin 64, (nest k.val).err = (if 8 < k.val then 3 else 0) ∧ (nest k.val).nodes ≤ 16384 := by decide +kernel
theorem list_err : ∀ k : Fin 64, (gL k.val (fun _ => gN)).err = (if 32 < k.val then 15 else 0) ∧ (gL k.val (fun _ => gN)).nodes ≤ 16384 := by decide +kernel
theorem digits_few : ∀ k : Fin 64, digitsN (2013 + k.val) = 2 := by decide +kernel

theorem long_err (n : Nat) (h1 : 2013 ≤ n) (h2 : n < 2077) : (gT (longS n)).err = (if 2045 < n then 2 else 0) ∧ (gT (longS n)).nodes ≤ 16384 := by
  have hd : digitsN n = 2 := by
    have h := digits_few ⟨n - 2013, by omega⟩
    rwa [show 2013 + (n - 2013) = n by omega] at h
  have hs : (gT (longS n)).size = 3 + n := by
    simp only [gT, GV.size, textN, longS_size]
    rw [hd]
    simp
    omega
  have hf : (gT (longS n)).every GV.formed = true := by simp [gT, GV.every, GV.formed]
  have hr : (gT (longS n)).every GV.readable = true := by simp [gT, GV.every, GV.readable, longS_valid]
  have hl : (gT (longS n)).every GV.limited = true := by simp [gT, GV.every, GV.limited]
  have hp : (gT (longS n)).depth = 0 := by simp [gT, GV.depth]
  refine ⟨?_, by simp [gT, GV.nodes]⟩
  unfold GV.err
  rw [hf, hr, hl, hp, hs]
  by_cases h : 2045 < n
  · rw [if_pos h]; simp; omega
  · rw [if_neg h]; simp; omega

theorem name_err (n : Nat) (h2 : n < 64) : (gD 1 (fun _ => longS n) (fun _ => gI 1)).err = (if n < 1 ∨ 24 < n then 15 else 0) ∧ (gD 1 (fun _ => longS n) (fun _ => gI 1)).nodes ≤ 16384 := by
  have hs : (gD 1 (fun _ => longS n) (fun _ => gI 1)).size ≤ 2048 := by
    have h1 := digitsN_le n
    have h3 : digitsN 1 = 1 := by decide +kernel
    have h4 : (gI 1).size = 2 := by decide +kernel
    simp [gD, GV.size, textN, longS_size, h3, h4]
    omega
  have hf : (gD 1 (fun _ => longS n) (fun _ => gI 1)).every GV.formed = true := by
    have : (gI 1).every GV.formed = true := by decide +kernel
    simp [gD, GV.every, GV.formed, risingB, this]
  have hr : (gD 1 (fun _ => longS n) (fun _ => gI 1)).every GV.readable = true := by
    have : (gI 1).every GV.readable = true := by decide +kernel
    simp [gD, GV.every, GV.readable, longS_valid, this]
  have hl : (gD 1 (fun _ => longS n) (fun _ => gI 1)).every GV.limited = nameFits (longS n) := by
    have : (gI 1).every GV.limited = true := by decide +kernel
    simp [gD, GV.every, GV.limited, this]
  have hp : (gD 1 (fun _ => longS n) (fun _ => gI 1)).depth = 1 := by
    have : (gI 1).depth = 0 := by decide +kernel
    simp [gD, GV.depth, this]
  refine ⟨?_, by simp [gD, gI, GV.nodes]⟩
  unfold GV.err
  rw [hf, hr, hl, hp]
  by_cases h : n < 1 ∨ 24 < n
  · rw [if_pos h]
    have : nameFits (longS n) = false := by simp [nameFits, longS_size]; omega
    simp [this]
  · rw [if_neg h]
    have : nameFits (longS n) = true := by simp [nameFits, longS_size]; omega
    simp [this]
    omega

set_option maxHeartbeats 2000000 in
set_option maxRecDepth 1000000 in
theorem long_any (n : Nat) (w : World) (hn : n ≤ 3000) : Calls Try.prog 10 #[.int .i64 n] w fun e w' => e = .returned (.string (longS n)) ∧ Below w.heap.size w w' := by
  go_enter Try.func10, Try.ntmps10
  go_wp2_with fail
  go_loopw [3, 4] (fun v i wr => ∃ (j : Nat), i = .int .i64 j ∧ v = .string (longS j) ∧ j ≤ n ∧ Below w.heap.size w wr) (fun _ i _ => n - (intOf i).toNat)
  case atStart => exact ⟨0, rfl, rfl, by omega, Below.refl _ w⟩
  case round =>
    obtain ⟨j, rfl, rfl, hj, hbw⟩ := hrel
    by_cases hlt : j < n
    · have hsz := longS_size j
      have HS : Hid (longS j ++ ⟨#[110]⟩ = longS (j + 1)) := by
        show _ = _
        refine ByteArray.ext ?_
        show (longS j ++ ⟨#[110]⟩).data = (longS (j + 1)).data
        simp [longS, Array.replicate_succ]
      generalize longS j = t at hsz HS
      go_wp2_with fail
      go_roundw
      case rel => exact ⟨j + 1, by go_num, by rw [← HS.out], by omega, hbw⟩
      case measure => simp [intOf]; omega
    · obtain rfl : j = n := by omega
      go_wp2_with fail
      go_ret
      exact ⟨rfl, hbw⟩
end Go.Proofs.Ytkjijepepbgciab
