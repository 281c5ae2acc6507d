/- Plain facts on the order of rows of bytes: one of three answers, the other way round, nought just of the same, over a third one. -/
import Derived.WalkKit
import Derived.Lib.Bytealg
namespace Go.Proofs.Ytjngbogbbglbnab

theorem cmp_range : ∀ l m : List UInt8, Lib.compareBytes l m = -1 ∨ Lib.compareBytes l m = 0 ∨ Lib.compareBytes l m = 1
 | [], [] => by simp [Lib.compareBytes]
 | [], _ :: _ => by simp [Lib.compareBytes]
 | _ :: _, [] => by simp [Lib.compareBytes]
 | a :: as, b :: bs => by
  simp only [Lib.compareBytes]
  split
  ·exact Or.inl rfl
  ·split
   ·exact Or.inr (Or.inr rfl)
   ·exact cmp_range as bs

theorem cmp_anti : ∀ l m : List UInt8, Lib.compareBytes m l = - Lib.compareBytes l m
 | [], [] => by simp [Lib.compareBytes]
 | [], _ :: _ => by simp [Lib.compareBytes]
 | _ :: _, [] => by simp [Lib.compareBytes]
 | a :: as, b :: bs => by
  simp only [Lib.compareBytes]
  by_cases h1 : a < b
  ·have h2 : ¬ b < a := by simp only [UInt8.lt_iff_toNat_lt] at *; omega
   simp [h1, h2]
  ·by_cases h2 : b < a
   ·simp [h1, h2]
   ·simp only [h1, h2, if_false];exact cmp_anti as bs

theorem cmp_zero : ∀ l m : List UInt8, Lib.compareBytes l m = 0 → l = m
 | [], [] => by simp
 | [], _ :: _ => by simp [Lib.compareBytes]
 | _ :: _, [] => by simp [Lib.compareBytes]
 | a :: as, b :: bs => by
  simp only [Lib.compareBytes]
  by_cases h1 : a < b
  ·simp [h1]
  ·by_cases h2 : b < a
   ·simp [h1, h2]
   ·simp only [h1, h2, if_false];intro h
    have hab : a = b := by
     apply UInt8.toNat_inj.1;simp only [UInt8.lt_iff_toNat_lt] at *;omega
    rw [hab, cmp_zero as bs h]

theorem cmp_self : ∀ l : List UInt8, Lib.compareBytes l l = 0
 | [] => rfl
 | a :: as => by
  have h : ¬ a < a := by simp only [UInt8.lt_iff_toNat_lt]; omega
  simp only [Lib.compareBytes, h, if_false];exact cmp_self as

theorem cmp_trans : ∀ l m k : List UInt8, Lib.compareBytes l m ≤ 0 → Lib.compareBytes m k ≤ 0 → Lib.compareBytes l k ≤ 0
 | [], _, [] => by simp [Lib.compareBytes]
 | [], _, _ :: _ => by simp [Lib.compareBytes]
 | _ :: _, [], _ => by simp [Lib.compareBytes]
 | _ :: _, _ :: _, [] => by simp [Lib.compareBytes]
 | a :: as, b :: bs, c :: cs => by
  simp only [Lib.compareBytes]
  by_cases h1 : a < b
  ·by_cases h3 : b < c
   ·have h5 : a < c := by simp only [UInt8.lt_iff_toNat_lt] at *; omega
    simp [h5]
   ·by_cases h4 : c < b
    ·simp [h1, h3, h4]
    ·have h5 : a < c := by simp only [UInt8.lt_iff_toNat_lt] at *; omega
     simp [h5]
  ·by_cases h2 : b < a
   ·simp [h1, h2]
   ·by_cases h3 : b < c
    ·have h5 : a < c := by simp only [UInt8.lt_iff_toNat_lt] at *; omega
     simp [h5]
    ·by_cases h4 : c < b
     ·simp [h1, h2, h3, h4]
     ·have h5 : ¬ a < c := by simp only [UInt8.lt_iff_toNat_lt] at *; omega
      have h6 : ¬ c < a := by simp only [UInt8.lt_iff_toNat_lt] at *; omega
      simp only [h1, h2, h3, h4, h5, h6, if_false];exact cmp_trans as bs cs

theorem less_cmp : ∀ l m : List UInt8, Op.bytesLess l m = decide (Lib.compareBytes l m < 0)
 | [], [] => by simp [Lib.compareBytes, Op.bytesLess]
 | [], _ :: _ => by simp [Lib.compareBytes, Op.bytesLess]
 | _ :: _, [] => by simp [Lib.compareBytes, Op.bytesLess]
 | a :: as, b :: bs => by
  simp only [Lib.compareBytes, Op.bytesLess]
  by_cases h1 : a < b
  ·simp [h1]
  ·by_cases h2 : b < a
   ·have hne : (a == b) = false := by
     rw [beq_eq_false_iff_ne]; intro e; rw [e] at h2; simp only [UInt8.lt_iff_toNat_lt] at h2; omega
    simp [h1, h2, hne]
   ·have hab : a = b := by
     apply UInt8.toNat_inj.1;simp only [UInt8.lt_iff_toNat_lt] at *;omega
    simp only [hab, less_cmp as bs];simp
end Go.Proofs.Ytjngbogbbglbnab
