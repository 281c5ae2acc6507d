/- Contract of tidemarkref1.Quote: a text's bytes one by one, each as its part, between two quotes. -/
import Derived.Test.YtagjemdoefldaaaDoorRText
import Derived.Test.YtagjemdoefldaaaDoorBackT
import Derived.Test.YtagjemdoefldaaaDoorNext
namespace Go.Proofs.YtagjemdoefldaaaDoor
open Go.RowKit

def bq (c : UInt8) : List UInt8 := if c.toNat < 128 then partOf (c.toNat : Int) else [c]
def qb (l : List UInt8) : List UInt8 := l.flatMap bq

theorem qb_snoc (l : List UInt8) (c : UInt8) : qb (l ++ [c]) = qb l ++ bq c := by simp [qb]
theorem bq_len (c : UInt8) : (bq c).length ≤ 6 := by
  unfold bq
  split
  · exact partOf_len _
  · simp
theorem qb_len (l : List UInt8) : (qb l).length ≤ 6 * l.length := by
  induction l with
  | nil => simp [qb]
  | cons c l ih =>
    have h : qb (c :: l) = bq c ++ qb l := rfl
    have := bq_len c
    rw [h, List.length_append, List.length_cons]
    omega

/-- The bytes of a character. -/
theorem enc_high (r : Nat) (h0 : 128 ≤ r) (h1 : okRune r) : ∀ c ∈ Lib.encodeRune (r : Int), 128 ≤ c.toNat := by
  unfold okRune at h1
  intro c hc
  by_cases h2 : r ≤ 2047
  · rw [enc2 r h0 h2] at hc
    simp only [List.mem_cons, List.not_mem_nil, or_false] at hc
    rcases hc with rfl | rfl <;> rw [u8_of _ (by omega)] <;> omega
  · by_cases h3 : r ≤ 65535
    · rw [enc3 r (by omega)] at hc
      simp only [List.mem_cons, List.not_mem_nil, or_false] at hc
      rcases hc with rfl | rfl | rfl <;> rw [u8_of _ (by omega)] <;> omega
    · rw [enc4 r (by omega) (by omega)] at hc
      simp only [List.mem_cons, List.not_mem_nil, or_false] at hc
      rcases hc with rfl | rfl | rfl | rfl <;> rw [u8_of _ (by omega)] <;> omega

theorem qb_high (l : List UInt8) (h : ∀ c ∈ l, 128 ≤ c.toNat) : qb l = l := by
  induction l with
  | nil => rfl
  | cons c l ih =>
    have h1 : qb (c :: l) = bq c ++ qb l := rfl
    have h2 : bq c = [c] := by
      unfold bq
      rw [if_neg (by have := h c (by simp); omega)]
    rw [h1, h2, ih (fun x hx => h x (by simp [hx]))]
    rfl

theorem qb_char (r : Nat) (h : okRune r) : qb (Lib.encodeRune (r : Int)) = partOf (r : Int) := by
  by_cases h1 : r < 128
  · rw [enc1 r h1]
    have h2 : qb [r.toUInt8] = bq r.toUInt8 := by simp [qb]
    rw [h2]
    unfold bq
    rw [u8_of r (by omega), if_pos h1]
  · rw [qb_high _ (enc_high r (by omega) h), partOf_plainR r ⟨by omega, by omega, by omega, by omega⟩]

theorem qb_runes (rs : List Nat) (h : allOk rs) : qb (bytesOf rs) = partsOf rs := by
  induction rs with
  | nil => rfl
  | cons r rs ih =>
    rw [bytesOf_cons, partsOf_cons]
    have : ∀ a b : List UInt8, qb (a ++ b) = qb a ++ qb b := fun a b => by simp [qb]
    rw [this, qb_char r (h r (by simp)), ih (fun x hx => h x (by simp [hx]))]
end Go.Proofs.YtagjemdoefldaaaDoor
