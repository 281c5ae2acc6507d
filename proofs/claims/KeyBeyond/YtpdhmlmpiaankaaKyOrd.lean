/- Bytes in order: what After tells is above all that begin with the bytes, and nothing lies between. (No walk.) -/
import Derived.Test.YtpdhmlmpiaankaaKyAfter
import Derived.Lib.Bytealg
namespace Go.Proofs.Ytpdhmlmpiaankaa
open Go.RowKit

theorem cb_prefix : ∀ (p u v : List UInt8), Lib.compareBytes (p ++ u) (p ++ v) = Lib.compareBytes u v
  | [], _, _ => rfl
  | c :: p, u, v => by
    rw [List.cons_append, List.cons_append, Lib.compareBytes, if_neg (UInt8.lt_irrefl c), if_neg (UInt8.lt_irrefl c)]
    exact cb_prefix p u v
theorem u8_next {y : UInt8} (h : y ≠ 255) : (y + 1).toNat = y.toNat + 1 := by
  have h1 := y.toNat_lt
  have h2 : y.toNat ≠ 255 := fun e => h (UInt8.toNat_inj.1 e)
  rw [UInt8.toNat_add]
  simp
  omega
theorem u8_up {y : UInt8} (h : y ≠ 255) : y < y + 1 := by
  rw [UInt8.lt_iff_toNat_lt, u8_next h]
  omega
/-- A row of bytes 255: less, or begun with it. -/
theorem cb_full : ∀ (k : Nat) (b : List UInt8), Lib.compareBytes b (List.replicate k 255) < 0 ∨ ∃ r, b = List.replicate k 255 ++ r
  | 0, b => Or.inr ⟨b, rfl⟩
  | k + 1, [] => Or.inl (by simp [List.replicate_succ, Lib.compareBytes])
  | k + 1, z :: b => by
    rw [List.replicate_succ]
    by_cases h : z = 255
    · subst h
      rcases cb_full k b with h1 | ⟨r, h1⟩
      · left
        rw [Lib.compareBytes, if_neg (UInt8.lt_irrefl _), if_neg (UInt8.lt_irrefl _)]
        exact h1
      · exact Or.inr ⟨r, by rw [h1]; rfl⟩
    · left
      have h2 : z < 255 := by
        rw [UInt8.lt_iff_toNat_lt]
        have h1 := z.toNat_lt
        have h3 : z.toNat ≠ 255 := fun e => h (UInt8.toNat_inj.1 e)
        show z.toNat < 255
        omega
      rw [Lib.compareBytes, if_pos h2]
      decide
theorem cb_nil (b : List UInt8) : 0 ≤ Lib.compareBytes b [] := by
  cases b <;> simp [Lib.compareBytes]
theorem cb_between : ∀ (p : List UInt8) (y : UInt8) (k : Nat) (b : List UInt8), y ≠ 255 → 0 ≤ Lib.compareBytes b (p ++ [y + 1]) ∨ Lib.compareBytes b (p ++ y :: List.replicate k 255) < 0 ∨ ∃ r, b = (p ++ y :: List.replicate k 255) ++ r
  | [], y, k, [], _ => Or.inr (Or.inl (by simp [Lib.compareBytes]))
  | [], y, k, z :: b, h => by
    by_cases h1 : z < y
    · right; left
      simp [Lib.compareBytes, h1]
    by_cases h2 : y < z
    · left
      have h3 : ¬ z < y + 1 := by
        rw [UInt8.lt_iff_toNat_lt, u8_next h]
        rw [UInt8.lt_iff_toNat_lt] at h2
        omega
      rw [List.nil_append, Lib.compareBytes, if_neg h3]
      split
      · decide
      · exact cb_nil b
    have e : z = y := by
      apply UInt8.toNat_inj.1
      rw [UInt8.lt_iff_toNat_lt] at h1 h2
      omega
    subst e
    rcases cb_full k b with h3 | ⟨r, h3⟩
    · right; left
      rw [List.nil_append, Lib.compareBytes, if_neg h1, if_neg h1]
      exact h3
    · right; right
      exact ⟨r, by rw [h3]; rfl⟩
  | c :: p, y, k, [], _ => Or.inr (Or.inl (by simp [Lib.compareBytes]))
  | c :: p, y, k, z :: b, h => by
    by_cases h1 : z < c
    · right; left
      simp [Lib.compareBytes, h1]
    by_cases h2 : c < z
    · left
      rw [List.cons_append, Lib.compareBytes, if_neg h1, if_pos h2]
      decide
    have e : z = c := by
      apply UInt8.toNat_inj.1
      rw [UInt8.lt_iff_toNat_lt] at h1 h2
      omega
    subst e
    rcases cb_between p y k b h with h3 | h3 | ⟨r, h3⟩
    · left
      rw [List.cons_append, Lib.compareBytes, if_neg h1, if_neg h1]
      exact h3
    · right; left
      rw [List.cons_append, Lib.compareBytes, if_neg h1, if_neg h1]
      exact h3
    · right; right
      exact ⟨r, by rw [h3]; rfl⟩
/-- The parts of bytes that After lets rise. -/
theorem rise_parts {a : List UInt8} (h : cutR a ≠ []) : ∃ p y k, y ≠ 255 ∧ a = p ++ y :: List.replicate k 255 ∧ riseR a = p ++ [y + 1] := by
  obtain ⟨k, hk⟩ := cut_split a
  have hl := cut_last a h
  have e := List.dropLast_concat_getLast h
  refine ⟨(cutR a).dropLast, (cutR a).getLast h, k, hl, ?_, ?_⟩
  · conv => lhs; rw [hk, ← e]
    simp
  · unfold riseR
    split
    · rename_i hc
      exact absurd hc h
    · rename_i x t hc
      have e2 : (cutR a).getLast h = (x :: t).getLast (by simp) := by simp only [hc]
      rw [e2, hc]
theorem rise_above {a : List UInt8} (h : cutR a ≠ []) (b : List UInt8) : Lib.compareBytes (a ++ b) (riseR a) = -1 ∧ (riseR a).length ≤ a.length ∧ (0 ≤ Lib.compareBytes b (riseR a) ∨ Lib.compareBytes b a < 0 ∨ ∃ r, b = a ++ r) := by
  obtain ⟨p, y, k, hy, e1, e2⟩ := rise_parts h
  rw [e2]
  refine ⟨?_, ?_, ?_⟩
  · rw [e1, List.append_assoc, cb_prefix, List.cons_append, Lib.compareBytes, if_pos (u8_up hy)]
  · rw [e1]
    simp
  · rw [e1]
    exact cb_between p y k b hy
theorem cut_none {a : List UInt8} (h : cutR a = []) : ∀ (i : Nat) (hi : i < a.length), a[i] = 255 := by
  obtain ⟨k, hk⟩ := cut_split a
  rw [h, List.nil_append] at hk
  intro i hi
  have e : a[i]? = some 255 := by
    rw [hk, List.getElem?_replicate]
    have : i < k := by rw [hk] at hi; simpa using hi
    rw [if_pos this]
  rw [List.getElem?_eq_some_iff] at e
  exact e.2
end Go.Proofs.Ytpdhmlmpiaankaa
