/- A key is at most five times as long as the value is great. (No walk.) -/
import Derived.Test.YticbcoklpgfkhaaKyPut
namespace Go.Proofs.Yticbcoklpgfkhaa
open Go.RowKit

theorem digits_pos (n : Nat) : 1 ≤ digitsN n := by
  have h0 : n ||| 1 ≠ 0 := by
    intro e
    have := Nat.right_le_or (n := n) (m := 1)
    omega
  have h : 1 ≤ Lib.bitLen (n ||| 1) := by
    unfold Lib.bitLen
    rw [Lib.bitLenAux]
    simp [h0]
  unfold digitsN
  omega
theorem flat_sum {c : Nat → List UInt8} : ∀ n, ((List.range n).flatMap c).length = ((List.range n).map fun i => (c i).length).sum
  | 0 => rfl
  | n + 1 => by
    rw [flat_snoc, List.length_append, flat_sum n, List.range_succ, List.map_append, List.sum_append]
    simp
theorem key_small : ∀ g : GV, g.every GV.formed = true → g.key.length + 1 ≤ 5 * g.size := by
  intro g
  induction g with
  | nil => intro h; simp [GV.every, GV.formed] at h
  | mk k n s ln l fn nm f ihl ihf =>
    intro hf
    rcases kind_of (every_top hf) with rfl | rfl | rfl | rfl | rfl | rfl
    · simp [GV.key, GV.size]
    · simp [GV.key, GV.size]
    · have := digits_pos (zig n).toNat
      simp [GV.key, GV.size, numK_len]
      omega
    · have h1 := lettersK_len s.data.toList
      have h2 := digits_pos s.size
      have h3 : s.data.toList.length = s.size := by simp
      simp [GV.key, GV.size, textN]
      omega
    · have h1 := digits_pos ln
      have h2 : ((List.range ln).map fun i => (1 :: (l i).key).length).sum ≤ ((List.range ln).map fun i => (l i).size * 5).sum := sum_le fun i hi => by
        have := ihl i (every_l hf i hi)
        simp only [List.length_cons]
        omega
      rw [sum_mul] at h2
      rw [GV.size_l5, foldl_add]
      have e : (GV.mk 5 n s ln l fn nm f).key.length = ((List.range ln).map fun i => (1 :: (l i).key).length).sum + 2 := by
        rw [← flat_sum]
        simp [GV.key]
      omega
    · have h1 := digits_pos fn
      have h2 : ((List.range fn).map fun i => (1 :: (lettersK (nm i).data.toList ++ (f i).key)).length).sum ≤ ((List.range fn).map fun i => (textN (nm i) + (f i).size) * 5).sum := sum_le fun i hi => by
        have := ihf i (every_f hf i hi)
        have h3 := lettersK_len (nm i).data.toList
        have h4 := digits_pos (nm i).size
        have h5 : (nm i).data.toList.length = (nm i).size := by simp
        simp only [List.length_cons, List.length_append, textN]
        omega
      rw [sum_mul (f := fun i => textN (nm i) + (f i).size)] at h2
      rw [GV.size_l6, foldl_add]
      have e : (GV.mk 6 n s ln l fn nm f).key.length = ((List.range fn).map fun i => (1 :: (lettersK (nm i).data.toList ++ (f i).key)).length).sum + 2 := by
        rw [← flat_sum]
        simp [GV.key]
      omega
theorem key_most {g : GV} (h : g.err = 0) : g.key.length ≤ 10239 := by
  obtain ⟨h1, _, _, _, h2⟩ := err_zeroM h
  have := key_small g h1
  omega
end Go.Proofs.Yticbcoklpgfkhaa
