/- As many bytes as the size says. -/
import Derived.Test.YtjngbogbbglbnabK6
namespace Go.Proofs.Ytjngbogbbglbnab
open Go.RowKit

theorem zig_lt {n : Int} (h : Int64 n) : (zig n).toNat < 18446744073709551616 ∧ 0 ≤ zig n := by
 obtain ⟨h1, h2⟩ := h;unfold zig
 split <;> constructor <;> omega

theorem or_one_half (n : Nat) : (n ||| 1) / 2 = n / 2 := by
 have := Nat.shiftRight_or_distrib (a := n) (b := 1) (i := 1);simpa [Nat.shiftRight_eq_div_pow] using this

theorem bitLen_or {n : Nat} (h0 : n ≠ 0) (h : n < 18446744073709551616) : Lib.bitLen (n ||| 1) = Lib.bitLen n := by
 have h1 : n ||| 1 < 2 ^ 64 := Nat.or_lt_two_pow (by omega) (by omega)
 have h2 : n ||| 1 ≠ 0 := by
  intro e;have : n ≤ n ||| 1 := Nat.left_le_or;omega
 rw [Lib.bitLen_half _ h2 h1, or_one_half, ← Lib.bitLen_half _ h0 (by omega)]

theorem digits_small : ∀ k : Fin 128, digitsN k.val = 1 := by decide +kernel

theorem digits_len : ∀ (f n : Nat), n ≤ f → n < 18446744073709551616 → (varint n).length = digitsN n
 | 0, n, hf, _ => by
  obtain rfl : n = 0 := by omega
  rw [varint_last (by omega)];exact (digits_small 0).symm
 | f + 1, n, hf, h => by
  by_cases h128 : 128 ≤ n
  ·rw [varint_more h128, List.length_cons, digits_len f (n / 128) (by omega) (by omega)];unfold digitsN;rw [bitLen_or (n := n) (by omega) h, bitLen_or (n := n / 128) (by omega) (by omega), Lib.bitLen_shift 7 n (by omega) (by omega), show (2 : Nat) ^ 7 = 128 from rfl];omega
  ·rw [varint_last h128];have := digits_small ⟨n, by omega⟩;simp at this;simp [this]

theorem sum_congr {f g : Nat → Nat} : ∀ {n : Nat}, (∀ i, i < n → f i = g i) → ((List.range n).map f).sum = ((List.range n).map g).sum
 | 0, _ => by simp
 | n + 1, h => by
  rw [List.range_succ, List.map_append, List.map_append, List.sum_append, List.sum_append, sum_congr (n := n) (fun i hi => h i (by omega))];simp [h n (by omega)]

theorem flat_len_sum {c : Nat → List UInt8} : ∀ n, ((List.range n).flatMap c).length = ((List.range n).map fun i => (c i).length).sum
 | 0 => by simp
 | n + 1 => by
  rw [flat_snoc, List.length_append, flat_len_sum n, List.range_succ, List.map_append, List.sum_append];simp

/-- A tree's bytes are as many as its size says. -/
theorem enc_size : ∀ {w : World} {g : GV} {v : Value}, Lies w g v → g.enc.length = g.size := by
 intro w g
 induction g with
 | nil => intro v h; exact False.elim h
 | mk k n s ln l fn nm f ihl ihf =>
  intro v h;obtain ⟨la, lc, fa, fc, rfl, hk, hn, hs, h4, h5, h6, h7, hl, hf⟩ := h;have hml : maxLen = 9223372036854775807 := rfl;have z := digits_len _ _ (Nat.le_refl _) (zig_lt hn).1;have vs := digits_len _ s.size (Nat.le_refl _) (by omega);have vl := digits_len _ ln (Nat.le_refl _) (by omega);have vf := digits_len _ fn (Nat.le_refl _) (by omega)
  have e1 : ((List.range ln).flatMap fun i => (l i).enc).length = ((List.range ln).map fun i => (l i).size).sum := by
   rw [flat_len_sum];refine sum_congr fun i hi => ?_
   obtain ⟨b, o, v', _, hv, _⟩ := hl i hi;exact ihl i hv
  have e2 : ((List.range fn).flatMap fun i => encS (nm i) ++ (f i).enc).length = ((List.range fn).map fun i => textN (nm i) + (f i).size).sum := by
   rw [flat_len_sum];refine sum_congr fun i hi => ?_
   obtain ⟨b, o, v', _, hsz, _, hv, _⟩ := hf i hi;have vn := digits_len _ (nm i).size (Nat.le_refl _) (by omega);have hd : (nm i).data.size = (nm i).size := rfl;simp only [encS, textN, List.length_append, Array.length_toList, ihf i hv];omega
  have hsd : s.data.size = s.size := rfl;have es : (encS s).length = textN s := by simp only [encS, textN, List.length_append, Array.length_toList]; omega
  simp only [GV.enc, GV.size, List.length_cons, foldl_add]
  by_cases k2 : k = 2
  ·simp [k2]
  ·rw [if_neg k2, if_neg k2]
   by_cases k3 : k = 3
   ·rw [if_pos k3, if_pos k3]; omega
   ·rw [if_neg k3, if_neg k3]
    by_cases k4 : k = 4
    ·rw [if_pos k4, if_pos k4]; omega
    ·rw [if_neg k4, if_neg k4]
     by_cases k5 : k = 5
     ·rw [if_pos k5, if_pos k5, List.length_append]; omega
     ·rw [if_neg k5, if_neg k5]
      by_cases k6 : k = 6
      ·rw [if_pos k6, if_pos k6, List.length_append]; omega
      ·rw [if_neg k6, if_neg k6]; simp
end Go.Proofs.Ytjngbogbbglbnab
