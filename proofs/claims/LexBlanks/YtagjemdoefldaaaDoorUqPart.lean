/- What utf.Unquote tells of the rest of a text, by what stands at its beginning. -/
import Derived.Test.YtagjemdoefldaaaDoorUqStep
namespace Go.Proofs.YtagjemdoefldaaaDoor
open Go.RowKit

theorem drop_getD (l : List UInt8) (p : Nat) (h : p < l.length) : l.drop p = l.getD p 0 :: l.drop (p + 1) := by
  rw [List.drop_eq_getElem_cons h]
  simp [List.getD_eq_getElem?_getD, List.getElem?_eq_getElem h]

theorem tail_cons (s : ByteArray) (p : Nat) (h : p < s.size) : (s.extract p s.size).data.toList = s.data.toList.getD p 0 :: s.data.toList.drop (p + 1) := by
  rw [extract_tail]
  exact drop_getD _ _ (by rw [size_list]; exact h)

theorem stop_ascii (t : ByteArray) (c : UInt8) (Y : List UInt8) (ht : t.data.toList = c :: Y) (hc : c.toNat < 32 ∨ c.toNat = 34 ∨ c.toNat = 92) : stopB t 0 = true := by
  have h1 : t.data.toList = Lib.encodeRune (c.toNat : Int) ++ Y := by
    rw [enc1 c.toNat (by omega), ht]
    simp
  obtain ⟨h2, _, _⟩ := stop_char t c.toNat Y (by unfold okRune; omega) h1
  rw [h2]
  simp
  omega

theorem uq_out (s : ByteArray) (p : Nat) (acc : List UInt8) (h : s.size ≤ p) : uq (s.extract p s.size) acc = ([], 4) := by
  have hl : (s.extract p s.size).data.toList = [] := by rw [extract_tail]; exact List.drop_eq_nil_of_le (by rw [size_list]; exact h)
  rw [uq_stop _ _ (Or.inr (by rw [← size_list, hl]; rfl))]
  unfold uBody endB slashB highB
  rw [ByteArray.toList_eq, hl]
  rfl

theorem uq_quote (s : ByteArray) (p : Nat) (acc : List UInt8) (h : p < s.size) (hb : byteAt s p = 34) : uq (s.extract p s.size) acc = if p + 1 = s.size then (acc, 0) else ([], 4) := by
  have hl := tail_cons s p h
  have hc : s.data.toList.getD p 0 = 34 := UInt8.toNat_inj.1 hb
  rw [hc] at hl
  rw [uq_stop _ _ (Or.inl (stop_ascii _ 34 _ hl (Or.inr (Or.inl rfl))))]
  unfold uBody endB slashB highB
  rw [ByteArray.toList_eq, hl]
  by_cases h1 : p + 1 = s.size
  · have hn : s.data.toList.drop (p + 1) = [] := List.drop_eq_nil_of_le (by rw [size_list]; omega)
    rw [if_pos h1, hn]
    rfl
  · have hn := drop_getD s.data.toList (p + 1) (by rw [size_list]; omega)
    rw [if_neg h1, hn]
    simp [Lib.hasPrefix]

theorem uq_ctl (s : ByteArray) (p : Nat) (acc : List UInt8) (h : p < s.size) (hb : byteAt s p < 32) : uq (s.extract p s.size) acc = ([], 4) := by
  have hl := tail_cons s p h
  have hc : (s.data.toList.getD p 0).toNat < 32 := hb
  generalize s.data.toList.getD p 0 = c at hl hc
  rw [uq_stop _ _ (Or.inl (stop_ascii _ c _ hl (Or.inl hc)))]
  have n34 : c ≠ 34 := by intro e; subst e; simp at hc
  have n92 : (92 : UInt8) ≠ c := by intro e; subst e; simp at hc
  unfold uBody endB slashB highB
  rw [ByteArray.toList_eq, hl]
  simp [Lib.hasPrefix, n34, n92]
  omega

theorem uq_char (s : ByteArray) (p r : Nat) (acc : List UInt8) (hc : CharAt s p r) (h32 : 32 ≤ r) (h34 : r ≠ 34) (h92 : r ≠ 92) : uq (s.extract p s.size) acc = uq (s.extract (p + (Lib.encodeRune (r : Int)).length) s.size) (acc ++ Lib.encodeRune (r : Int)) := by
  obtain ⟨ho, rest, hd⟩ := hc
  have hle : p + (Lib.encodeRune (r : Int)).length ≤ s.size := by
    have := congrArg List.length hd
    have := encode_pos r
    simp at *
    omega
  rw [uq_self (s.extract p s.size) r rest acc ⟨ho, h32, h34, h92⟩ (by rw [extract_tail]; exact hd), extract_rest s p _ hle]

theorem uq_none (s : ByteArray) (p : Nat) (acc : List UInt8) (h : p < s.size) (_h32 : 32 ≤ byteAt s p) (_h34 : byteAt s p ≠ 34) (_h92 : byteAt s p ≠ 92) (hn : ∀ r, ¬ CharAt s p r) : uq (s.extract p s.size) acc = ([], 11) := by
  have hl := tail_cons s p h
  have h128 : 128 ≤ byteAt s p := by
    by_cases hh : byteAt s p < 128
    · exact absurd (char1 s p h hh) (hn _)
    · omega
  have hs0 : 0 < (s.extract p s.size).size := by rw [extract_size s p (by omega)]; omega
  have hst : stopB (s.extract p s.size) 0 = true := by
    have hbr : brokenB (s.extract p s.size) 0 (Utf8.decode (s.extract p s.size) 0).1 = true := by
      cases hb : brokenB (s.extract p s.size) 0 (Utf8.decode (s.extract p s.size) 0).1
      · obtain ⟨e1, _⟩ := char_at (s.extract p s.size) 0 hs0 hb
        rw [List.drop_zero, extract_tail] at e1
        exact absurd ⟨rune_ok _ 0, _, e1⟩ (hn (Utf8.decode (s.extract p s.size) 0).1)
      · rfl
    unfold stopB
    rw [hbr]
    simp
  have hc : 128 ≤ (s.data.toList.getD p 0).toNat := h128
  generalize s.data.toList.getD p 0 = c at hl hc
  rw [uq_stop _ _ (Or.inl hst)]
  have n34 : c ≠ 34 := by intro e; subst e; simp at hc
  have n92 : (92 : UInt8) ≠ c := by intro e; subst e; simp at hc
  unfold uBody endB slashB highB
  rw [ByteArray.toList_eq, hl]
  simp [Lib.hasPrefix, n34, n92]
  omega

/-- What stands behind a backslash. -/
def uEsc (u : ByteArray) (acc : List UInt8) : List UInt8 × Int :=
    if uOkC u = true then
      if uRC u < 55296 ∨ 57343 < uRC u then uq (u.extract 6 u.size) (acc ++ Lib.encodeRune (uRC u))
      else if 56320 ≤ uRC u ∨ uOkC (u.extract 6 u.size) = false ∨ uRC (u.extract 6 u.size) < 56320 ∨ 57343 < uRC (u.extract 6 u.size) then ([], 11)
      else uq ((u.extract 6 u.size).extract 6 (u.extract 6 u.size).size) (acc ++ Lib.encodeRune (65536 + (uRC u - 55296) * 1024 + (uRC (u.extract 6 u.size) - 56320)))
    else if shortOk u = true then uq (u.extract 2 u.size) (acc ++ Lib.encodeRune (shortR u))
    else ([], 4)

theorem uq_slash (s : ByteArray) (p : Nat) (acc : List UInt8) (h : p < s.size) (hb : byteAt s p = 92) : uq (s.extract p s.size) acc = uEsc (s.extract p s.size) acc := by
  have hl := tail_cons s p h
  have hc : s.data.toList.getD p 0 = 92 := UInt8.toNat_inj.1 hb
  rw [hc] at hl
  rw [uq_stop _ _ (Or.inl (stop_ascii _ 92 _ hl (Or.inr (Or.inr rfl))))]
  have hE : ¬ endB (s.extract p s.size) = true := by
    unfold endB
    rw [ByteArray.toList_eq, hl]
    simp
  have hS : slashB (s.extract p s.size) = true := by
    unfold slashB
    rw [hl]
    simp [Lib.hasPrefix]
  unfold uBody
  rw [if_neg hE, if_pos hS]
  rfl

theorem take2_tail (s : ByteArray) (q : Nat) (h : q + 2 ≤ s.size) : ((s.extract q s.size).extract 0 2).data.toList = [s.data.toList.getD q 0, s.data.toList.getD (q + 1) 0] := by
  rw [extract_list, extract_tail, List.drop_zero, drop_getD _ q (by rw [size_list]; omega), drop_getD _ (q + 1) (by rw [size_list]; omega)]
  rfl

theorem take4_tail (s : ByteArray) (q : Nat) (h : q + 6 ≤ s.size) : ((s.extract q s.size).extract 2 6).data.toList = [s.data.toList.getD (q + 2) 0, s.data.toList.getD (q + 2 + 1) 0, s.data.toList.getD (q + 2 + 2) 0, s.data.toList.getD (q + 2 + 3) 0] := by
  rw [extract_list, extract_tail, List.drop_drop, drop_getD _ (q + 2) (by rw [size_list]; omega), drop_getD _ (q + 2 + 1) (by rw [size_list]; omega), drop_getD _ (q + 2 + 1 + 1) (by rw [size_list]; omega), drop_getD _ (q + 2 + 1 + 1 + 1) (by rw [size_list]; omega)]
  rfl

theorem four_fold (s : ByteArray) (p : Nat) : fourAcc s p 4 = if hexVal (s.data.toList.getD p 0) < 16 ∧ hexVal (s.data.toList.getD (p + 1) 0) < 16 ∧ hexVal (s.data.toList.getD (p + 2) 0) < 16 ∧ hexVal (s.data.toList.getD (p + 3) 0) < 16 then some (hexFold 0 [s.data.toList.getD p 0, s.data.toList.getD (p + 1) 0, s.data.toList.getD (p + 2) 0, s.data.toList.getD (p + 3) 0]) else none := by
  by_cases h0 : hexVal (s.data.toList.getD p 0) < 16 <;> by_cases h1 : hexVal (s.data.toList.getD (p + 1) 0) < 16 <;> by_cases h2 : hexVal (s.data.toList.getD (p + 2) 0) < 16 <;> by_cases h3 : hexVal (s.data.toList.getD (p + 3) 0) < 16 <;> simp only [fourAcc, Nat.add_zero, h0, h1, h2, h3, if_true, if_false, and_true, and_false, hexFold]

theorem uOk_not (s : ByteArray) (q : Nat) (h : s.size < q + 6 ∨ byteAt s q ≠ 92 ∨ byteAt s (q + 1) ≠ 117) : uOkC (s.extract q s.size) = false := by
  by_cases h6 : q + 6 ≤ s.size
  · unfold uOkC
    rw [take2_tail s q (by omega)]
    have : ([s.data.toList.getD q 0, s.data.toList.getD (q + 1) 0] == [92, 117]) = false := by
      rw [beq_eq_false_iff_ne]
      intro e
      injection e with e1 e2
      injection e2 with e2 _
      rcases h with h | h | h
      · omega
      · exact h (by unfold byteAt; rw [e1]; rfl)
      · exact h (by unfold byteAt; rw [e2]; rfl)
    rw [this]
    simp
  · unfold uOkC
    have : ¬ 6 ≤ (s.extract q s.size).size := by
      by_cases hq : q ≤ s.size
      · rw [extract_size s q hq]; omega
      · rw [← size_list, extract_tail, List.length_drop, size_list]; omega
    rw [decide_eq_false this]
    rfl

/-- Four digits behind a backslash and a u. -/
theorem four_uOk (s : ByteArray) (q : Nat) (h92 : byteAt s q = 92) (h117 : byteAt s (q + 1) = 117) :
    (fourV s (q + 2) = -1 ∧ uOkC (s.extract q s.size) = false) ∨ (∃ n : Nat, fourV s (q + 2) = (n : Int) ∧ n ≤ 65535 ∧ q + 6 ≤ s.size ∧ uOkC (s.extract q s.size) = true ∧ uRC (s.extract q s.size) = (n : Int)) := by
  by_cases h6 : q + 6 ≤ s.size
  · have e1 : s.data.toList.getD q 0 = 92 := UInt8.toNat_inj.1 h92
    have e2 : s.data.toList.getD (q + 1) 0 = 117 := UInt8.toNat_inj.1 h117
    have hsz : 6 ≤ (s.extract q s.size).size := by rw [extract_size s q (by omega)]; omega
    by_cases hx : hexVal (s.data.toList.getD (q + 2) 0) < 16 ∧ hexVal (s.data.toList.getD (q + 2 + 1) 0) < 16 ∧ hexVal (s.data.toList.getD (q + 2 + 2) 0) < 16 ∧ hexVal (s.data.toList.getD (q + 2 + 3) 0) < 16
    · refine Or.inr ⟨hexFold 0 [s.data.toList.getD (q + 2) 0, s.data.toList.getD (q + 2 + 1) 0, s.data.toList.getD (q + 2 + 2) 0, s.data.toList.getD (q + 2 + 3) 0], ?_, ?_, h6, ?_⟩
      · unfold fourV
        rw [if_pos (by omega), four_fold, if_pos hx]
      · refine hexFold_small _ rfl ?_
        intro x hxm
        simp only [List.mem_cons, List.not_mem_nil, or_false] at hxm
        rcases hxm with rfl | rfl | rfl | rfl
        · exact hx.1
        · exact hx.2.1
        · exact hx.2.2.1
        · exact hx.2.2.2
      · have hu : uOkC (s.extract q s.size) = true := by
          unfold uOkC
          rw [take2_tail s q (by omega), take4_tail s q h6, e1, e2, decide_eq_true hsz]
          simp only [List.all_cons, List.all_nil, decide_eq_true hx.1, decide_eq_true hx.2.1, decide_eq_true hx.2.2.1, decide_eq_true hx.2.2.2]
          rfl
        refine ⟨hu, ?_⟩
        unfold uRC
        rw [if_pos hu, take4_tail s q h6]
    · refine Or.inl ⟨?_, ?_⟩
      · unfold fourV
        rw [if_pos (by omega), four_fold, if_neg hx]
      · unfold uOkC
        rw [take4_tail s q h6]
        have : ([s.data.toList.getD (q + 2) 0, s.data.toList.getD (q + 2 + 1) 0, s.data.toList.getD (q + 2 + 2) 0, s.data.toList.getD (q + 2 + 3) 0].all (fun c => decide (hexVal c < 16))) = false := by
          simp only [List.all_cons, List.all_nil, Bool.and_true]
          rw [← Bool.not_eq_true]
          simp only [Bool.and_eq_true, decide_eq_true_eq]
          exact hx
        rw [this]
        simp
  · exact Or.inl ⟨by unfold fourV; rw [if_neg (by omega)], uOk_not s q (Or.inl (by omega))⟩
end Go.Proofs.YtagjemdoefldaaaDoor
