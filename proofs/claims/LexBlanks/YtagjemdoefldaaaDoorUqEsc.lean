/- What utf.Unquote tells of the rest of a text that begins with a backslash. -/
import Derived.Test.YtagjemdoefldaaaDoorUqPart
namespace Go.Proofs.YtagjemdoefldaaaDoor
open Go.RowKit

set_option maxRecDepth 100000 in
theorem letters_none (c : UInt8) (h : c.toNat ≠ 34 ∧ c.toNat ≠ 92 ∧ c.toNat ≠ 98 ∧ c.toNat ≠ 102 ∧ c.toNat ≠ 110 ∧ c.toNat ≠ 114 ∧ c.toNat ≠ 116 ∧ c.toNat ≠ 47) : Lib.indexByte [34, 92, 98, 102, 110, 114, 116, 47] c = -1 := by
  have key : ∀ n : Nat, n < 256 → (n = 34 ∨ n = 92 ∨ n = 98 ∨ n = 102 ∨ n = 110 ∨ n = 114 ∨ n = 116 ∨ n = 47) ∨ Lib.indexByte [34, 92, 98, 102, 110, 114, 116, 47] (UInt8.ofNat n) = -1 := by decide
  have := (key c.toNat (UInt8.toNat_lt c)).resolve_left (by omega)
  rwa [UInt8.ofNat_toNat] at this

theorem tail_cons2 (s : ByteArray) (p : Nat) (h : p + 1 < s.size) : (s.extract p s.size).data.toList = s.data.toList.getD p 0 :: s.data.toList.getD (p + 1) 0 :: s.data.toList.drop (p + 2) := by
  rw [tail_cons s p (by omega), drop_getD _ (p + 1) (by rw [size_list]; omega)]

/-- A backslash at the end. -/
theorem uq_lone (s : ByteArray) (p : Nat) (acc : List UInt8) (h : p < s.size) (hb : byteAt s p = 92) (h1 : s.size ≤ p + 1) : uq (s.extract p s.size) acc = ([], 4) := by
  rw [uq_slash s p acc h hb]
  unfold uEsc
  rw [if_neg (by rw [uOk_not s p (Or.inl (by omega))]; decide), if_neg]
  intro hs
  have := shortOk_size _ hs
  rw [extract_size s p (by omega)] at this
  omega

/-- A backslash and a letter. -/
theorem uq_letter (s : ByteArray) (p : Nat) (c v : UInt8) (i : Nat) (acc : List UInt8) (h : p + 1 < s.size) (hb : byteAt s p = 92) (hc : byteAt s (p + 1) = c.toNat) (hn : c ≠ 117) (hi : Lib.indexByte [34, 92, 98, 102, 110, 114, 116, 47] c = (i : Int)) (hv : ([34, 92, 8, 12, 10, 13, 9, 47] : List UInt8).getD i 0 = v) (hv7 : v.toNat < 128) :
    uq (s.extract p s.size) acc = uq (s.extract (p + 2) s.size) (acc ++ [v]) := by
  have e1 : s.data.toList.getD p 0 = 92 := UInt8.toNat_inj.1 hb
  have e2 : s.data.toList.getD (p + 1) 0 = c := UInt8.toNat_inj.1 hc
  have hl := tail_cons2 s p h
  rw [e1, e2] at hl
  obtain ⟨h1, h2, h3⟩ := letter_part v.toNat c i _ _ hl hn hi (by rw [hv])
  rw [uq_slash s p acc (by omega) hb]
  unfold uEsc
  rw [if_neg (by rw [h1]; decide), if_pos h2, h3, enc1 _ hv7, extract_rest s p 2 (by omega)]
  simp

/-- A backslash and a byte that is no letter. -/
theorem uq_wrong (s : ByteArray) (p : Nat) (acc : List UInt8) (h : p + 1 < s.size) (hb : byteAt s p = 92) (hn : byteAt s (p + 1) ≠ 34 ∧ byteAt s (p + 1) ≠ 92 ∧ byteAt s (p + 1) ≠ 98 ∧ byteAt s (p + 1) ≠ 102 ∧ byteAt s (p + 1) ≠ 110 ∧ byteAt s (p + 1) ≠ 114 ∧ byteAt s (p + 1) ≠ 116 ∧ byteAt s (p + 1) ≠ 47) (hu : uOkC (s.extract p s.size) = false) :
    uq (s.extract p s.size) acc = ([], 4) := by
  rw [uq_slash s p acc (by omega) hb]
  unfold uEsc
  have hs : shortOk (s.extract p s.size) = false := by
    unfold shortOk shortIdx
    rw [tail_cons2 s p h]
    have : Lib.indexByte [34, 92, 98, 102, 110, 114, 116, 47] ((s.data.toList.getD p 0 :: s.data.toList.getD (p + 1) 0 :: s.data.toList.drop (p + 2)).getD 1 0) = -1 := letters_none _ hn
    rw [this]
    simp
  rw [if_neg (by rw [hu]; decide), if_neg (by rw [hs]; decide)]

/-- A number that is a character. -/
theorem uq_num (s : ByteArray) (p n : Nat) (acc : List UInt8) (h : p + 6 ≤ s.size) (hb : byteAt s p = 92) (hu : uOkC (s.extract p s.size) = true) (hr : uRC (s.extract p s.size) = (n : Int)) (hn : n < 55296 ∨ 57343 < n) :
    uq (s.extract p s.size) acc = uq (s.extract (p + 6) s.size) (acc ++ Lib.encodeRune (n : Int)) := by
  rw [uq_slash s p acc (by omega) hb]
  unfold uEsc
  rw [if_pos hu, hr, if_pos (by omega), extract_rest s p 6 h]

/-- Two halves. -/
theorem uq_pair (s : ByteArray) (p n m : Nat) (acc : List UInt8) (h : p + 12 ≤ s.size) (hb : byteAt s p = 92) (hu : uOkC (s.extract p s.size) = true) (hr : uRC (s.extract p s.size) = (n : Int)) (hn : 55296 ≤ n ∧ n ≤ 56319) (hu2 : uOkC (s.extract (p + 6) s.size) = true) (hr2 : uRC (s.extract (p + 6) s.size) = (m : Int)) (hm : 56320 ≤ m ∧ m ≤ 57343) :
    uq (s.extract p s.size) acc = uq (s.extract (p + 12) s.size) (acc ++ Lib.encodeRune (65536 + ((n : Int) - 55296) * 1024 + ((m : Int) - 56320))) := by
  rw [uq_slash s p acc (by omega) hb]
  unfold uEsc
  rw [if_pos hu, hr, if_neg (by omega), extract_rest s p 6 (by omega), hr2, hu2, if_neg, extract_rest s (p + 6) 6 (by omega)]
  rintro (h | h | h | h)
  · omega
  · cases h
  · omega
  · omega

/-- A half alone. -/
theorem uq_half (s : ByteArray) (p n : Nat) (acc : List UInt8) (h : p + 6 ≤ s.size) (hb : byteAt s p = 92) (hu : uOkC (s.extract p s.size) = true) (hr : uRC (s.extract p s.size) = (n : Int)) (hn : 55296 ≤ n ∧ n ≤ 57343) (hw : 56320 ≤ n ∨ uOkC (s.extract (p + 6) s.size) = false ∨ (∃ m : Nat, uRC (s.extract (p + 6) s.size) = (m : Int) ∧ (m < 56320 ∨ 57343 < m))) :
    uq (s.extract p s.size) acc = ([], 11) := by
  rw [uq_slash s p acc (by omega) hb]
  unfold uEsc
  rw [if_pos hu, hr, if_neg (by omega), extract_rest s p 6 (by omega), if_pos]
  rcases hw with h | h | ⟨m, h, h' | h'⟩
  · exact Or.inl (by omega)
  · exact Or.inr (Or.inl h)
  · exact Or.inr (Or.inr (Or.inl (by rw [h]; omega)))
  · exact Or.inr (Or.inr (Or.inr (by rw [h]; omega)))
end Go.Proofs.YtagjemdoefldaaaDoor
