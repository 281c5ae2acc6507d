/- How many bytes a quoted text has behind its first quote, and how the reading of it goes on by one part wherever the text is cut behind it. -/
import Derived.Test.YtagjemdoefldaaaDoorUqEsc
import Derived.Test.YtagjemdoefldaaaDoorRQuote
namespace Go.Proofs.YtagjemdoefldaaaDoor
open Go.RowKit

/-- The bytes up to the first quote that stands behind no backslash, it too; all of them, if there is none. -/
def sizeQ : List UInt8 → Nat
  | [] => 0
  | [_] => 1
  | c :: d :: t => if c = 34 then 1 else if c = 92 then 2 + sizeQ t else 1 + sizeQ (d :: t)

theorem sizeQ_le : ∀ l : List UInt8, sizeQ l ≤ l.length
  | [] => by simp [sizeQ]
  | [_] => by simp [sizeQ]
  | c :: d :: t => by
    have h1 := sizeQ_le t
    have h2 := sizeQ_le (d :: t)
    simp only [List.length_cons] at h2
    unfold sizeQ
    simp only [List.length_cons]
    split
    · omega
    · split <;> omega

theorem sizeQ_quote (t : List UInt8) : sizeQ (34 :: t) = 1 := by
  cases t <;> simp [sizeQ]

theorem sizeQ_slash (c : UInt8) (t : List UInt8) : sizeQ (92 :: c :: t) = 2 + sizeQ t := by
  rw [sizeQ, if_neg (by decide), if_pos rfl]

theorem sizeQ_plain (c : UInt8) (t : List UInt8) (h : c ≠ 34) (h' : c ≠ 92) : sizeQ (c :: t) = 1 + sizeQ t := by
  cases t with
  | nil => simp [sizeQ]
  | cons d t => rw [sizeQ, if_neg h, if_neg h']

theorem sizeQ_skip : ∀ (l t : List UInt8), (∀ c ∈ l, c ≠ 34 ∧ c ≠ 92) → sizeQ (l ++ t) = l.length + sizeQ t
  | [], t, _ => by simp
  | c :: l, t, h => by
    rw [List.cons_append, sizeQ_plain c _ (h c (by simp)).1 (h c (by simp)).2, sizeQ_skip l t (fun x hx => h x (by simp [hx])), List.length_cons]
    omega

theorem cut_size (s : ByteArray) (m : Nat) (h : m ≤ s.size) : (s.extract 0 m).size = m := by
  simp [ByteArray.size_extract]; omega

theorem cut_list (s : ByteArray) (m : Nat) : (s.extract 0 m).data.toList = s.data.toList.take m := by
  rw [extract_list, List.drop_zero, Nat.sub_zero]

theorem cut_getD (s : ByteArray) (m p : Nat) (h : p < m) : (s.extract 0 m).data.toList.getD p 0 = s.data.toList.getD p 0 := by
  rw [cut_list, List.getD_eq_getElem?_getD, List.getD_eq_getElem?_getD, List.getElem?_take_of_lt h]

theorem cut_byte (s : ByteArray) (m p : Nat) (h : p < m) : byteAt (s.extract 0 m) p = byteAt s p := by
  unfold byteAt
  rw [cut_getD s m p h]

theorem cut_rest (s : ByteArray) (m p : Nat) (_h : m ≤ s.size) : (s.extract 0 m).extract p m = (s.extract p s.size).extract 0 (m - p) := by
  apply ByteArray.ext
  apply Array.toList_inj.1
  rw [extract_list, cut_list, cut_list, extract_tail, List.drop_take, List.take_take, Nat.min_self]

def UStep (s : ByteArray) (p q : Nat) (bs : List UInt8) : Prop :=
  sizeQ (s.data.toList.drop p) = (q - p) + sizeQ (s.data.toList.drop q) ∧
  ∀ m, q ≤ m → m ≤ s.size → ∀ acc, uq ((s.extract 0 m).extract p m) acc = uq ((s.extract 0 m).extract q m) (acc ++ bs)

def UErr (s : ByteArray) (p : Nat) (E : Int) : Prop :=
  ∀ m, p + sizeQ (s.data.toList.drop p) ≤ m → m ≤ s.size → ∀ acc, uq ((s.extract 0 m).extract p m) acc = ([], E)

/-- The text that is cut, as one of its own. -/
theorem at_cut (s : ByteArray) (m p : Nat) (h : m ≤ s.size) {P : ByteArray → Prop} (hp : P ((s.extract 0 m).extract p (s.extract 0 m).size)) : P ((s.extract 0 m).extract p m) := by
  rwa [cut_size s m h] at hp

theorem tail_at (s : ByteArray) (p : Nat) (h : p < s.size) : s.data.toList.drop p = s.data.toList.getD p 0 :: s.data.toList.drop (p + 1) := drop_getD _ _ (by rw [size_list]; exact h)

theorem byte_is (s : ByteArray) (p n : Nat) (hn : n < 256) (h : byteAt s p = n) : s.data.toList.getD p 0 = n.toUInt8 := by
  apply UInt8.toNat_inj.1
  rw [u8_of n hn]
  exact h

theorem sizeQ_pos (s : ByteArray) (p : Nat) (h : p < s.size) : 1 ≤ sizeQ (s.data.toList.drop p) := by
  rw [tail_at s p h]
  generalize s.data.toList.drop (p + 1) = t
  cases t with
  | nil => simp [sizeQ]
  | cons d t =>
    unfold sizeQ
    split
    · omega
    · split <;> omega

theorem sizeQ_two (s : ByteArray) (p : Nat) (h : p + 1 < s.size) (hb : byteAt s p = 92) : sizeQ (s.data.toList.drop p) = 2 + sizeQ (s.data.toList.drop (p + 2)) := by
  rw [tail_at s p (by omega), tail_at s (p + 1) h, byte_is s p 92 (by omega) hb]
  exact sizeQ_slash _ _

theorem char_plain (r : Nat) (h : okRune r) (h34 : r ≠ 34) (h92 : r ≠ 92) : ∀ c ∈ Lib.encodeRune (r : Int), c ≠ 34 ∧ c ≠ 92 := by
  by_cases hr : r < 128
  · rw [enc1 r hr]
    intro c hc
    rw [List.mem_singleton] at hc
    subst hc
    constructor
    · intro e
      have := congrArg UInt8.toNat e
      rw [u8_of r (by omega)] at this
      exact h34 this
    · intro e
      have := congrArg UInt8.toNat e
      rw [u8_of r (by omega)] at this
      exact h92 this
  · intro c hc
    have hh : 128 ≤ c.toNat := by
      have key : ∀ c ∈ Lib.encodeRune (r : Int), 128 ≤ c.toNat := enc_high r (by omega) h
      exact key c hc
    constructor
    · intro e; subst e; simp at hh
    · intro e; subst e; simp at hh

theorem us_char (s : ByteArray) (p r : Nat) (hc : CharAt s p r) (h32 : 32 ≤ r) (h34 : r ≠ 34) (h92 : r ≠ 92) : UStep s p (p + (Lib.encodeRune (r : Int)).length) (Lib.encodeRune (r : Int)) := by
  obtain ⟨ho, rest, hd⟩ := hc
  have hl := congrArg List.length hd
  rw [List.length_drop, List.length_append, size_list] at hl
  have hpos := encode_pos r
  refine ⟨?_, ?_⟩
  · rw [← List.drop_drop, hd, sizeQ_skip _ _ (char_plain r ho h34 h92), List.drop_left]
    omega
  · intro m hq hm acc
    have hsz := cut_size s m hm
    have hC : CharAt (s.extract 0 m) p r := by
      refine ⟨ho, rest.take (m - p - (Lib.encodeRune (r : Int)).length), ?_⟩
      rw [cut_list, List.drop_take, hd, List.take_append]
      congr 1
      exact List.take_of_length_le (by omega)
    have := uq_char (s.extract 0 m) p r acc hC h32 h34 h92
    rwa [hsz] at this

theorem us_ctl (s : ByteArray) (p : Nat) (h : p < s.size) (hb : byteAt s p < 32) : UErr s p 4 := by
  intro m hq hm acc
  have hsz := cut_size s m hm
  have := sizeQ_pos s p h
  have := uq_ctl (s.extract 0 m) p acc (by omega) (by rw [cut_byte s m p (by omega)]; exact hb)
  rwa [hsz] at this

theorem us_out (s : ByteArray) (p : Nat) (h : s.size ≤ p) : UErr s p 4 := by
  intro m hq hm acc
  have hsz := cut_size s m hm
  have := uq_out (s.extract 0 m) p acc (by omega)
  rwa [hsz] at this

theorem char_cut (s : ByteArray) (m p r : Nat) (h : CharAt (s.extract 0 m) p r) : CharAt s p r := by
  obtain ⟨ho, rest, hd⟩ := h
  rw [cut_list, List.drop_take] at hd
  have := List.take_append_drop (m - p) (s.data.toList.drop p)
  rw [hd, List.append_assoc] at this
  exact ⟨ho, _, this.symm⟩

theorem us_none (s : ByteArray) (p : Nat) (h : p < s.size) (h32 : 32 ≤ byteAt s p) (h34 : byteAt s p ≠ 34) (h92 : byteAt s p ≠ 92) (hn : ∀ r, ¬ CharAt s p r) : UErr s p 11 := by
  intro m hq hm acc
  have hsz := cut_size s m hm
  have := sizeQ_pos s p h
  have hb := cut_byte s m p (by omega)
  have := uq_none (s.extract 0 m) p acc (by omega) (by rw [hb]; exact h32) (by rw [hb]; exact h34) (by rw [hb]; exact h92) (fun r hr => hn r (char_cut s m p r hr))
  rwa [hsz] at this

theorem us_lone (s : ByteArray) (p : Nat) (h : p < s.size) (hb : byteAt s p = 92) (h1 : s.size ≤ p + 1) : UErr s p 4 := by
  intro m hq hm acc
  have hsz := cut_size s m hm
  have := sizeQ_pos s p h
  have := uq_lone (s.extract 0 m) p acc (by omega) (by rw [cut_byte s m p (by omega)]; exact hb) (by omega)
  rwa [hsz] at this

theorem us_letter (s : ByteArray) (p : Nat) (c v : UInt8) (i : Nat) (h : p + 1 < s.size) (hb : byteAt s p = 92) (hc : byteAt s (p + 1) = c.toNat) (hn : c ≠ 117) (hi : Lib.indexByte [34, 92, 98, 102, 110, 114, 116, 47] c = (i : Int)) (hv : ([34, 92, 8, 12, 10, 13, 9, 47] : List UInt8).getD i 0 = v) (hv7 : v.toNat < 128) :
    UStep s p (p + 2) [v] := by
  refine ⟨?_, ?_⟩
  · rw [sizeQ_two s p h hb]; omega
  · intro m hq hm acc
    have hsz := cut_size s m hm
    have := uq_letter (s.extract 0 m) p c v i acc (by omega) (by rw [cut_byte s m p (by omega)]; exact hb) (by rw [cut_byte s m (p + 1) (by omega)]; exact hc) hn hi hv hv7
    rwa [hsz] at this

/-- A number behind a backslash within the part that is left, and within the whole. -/
theorem uOk_cut (s : ByteArray) (m p : Nat) (hm : m ≤ s.size) : uOkC ((s.extract 0 m).extract p m) = (decide (p + 6 ≤ m) && uOkC (s.extract p s.size)) ∧ (p + 6 ≤ m → uRC ((s.extract 0 m).extract p m) = uRC (s.extract p s.size)) := by
  rw [cut_rest s m p hm]
  have e1 : ∀ a b : Nat, b ≤ m - p → ((s.extract p s.size).extract 0 (m - p)).extract a b = (s.extract p s.size).extract a b := by
    intro a b hb
    apply ByteArray.ext
    apply Array.toList_inj.1
    rw [extract_list, cut_list, extract_list (s.extract p s.size) a b, List.drop_take, List.take_take]
    congr 1
    omega
  by_cases h6 : p + 6 ≤ m
  · have hs1 : 6 ≤ ((s.extract p s.size).extract 0 (m - p)).size := by
      rw [cut_size _ _ (by rw [extract_size s p (by omega)]; omega)]; omega
    have hs2 : 6 ≤ (s.extract p s.size).size := by rw [extract_size s p (by omega)]; omega
    have hU : uOkC ((s.extract p s.size).extract 0 (m - p)) = uOkC (s.extract p s.size) := by
      unfold uOkC
      rw [e1 0 2 (by omega), e1 2 6 (by omega), decide_eq_true hs1, decide_eq_true hs2]
    refine ⟨by rw [decide_eq_true h6, Bool.true_and, hU], fun _ => ?_⟩
    unfold uRC
    rw [hU, e1 2 6 (by omega)]
  · refine ⟨?_, fun h => absurd h h6⟩
    rw [decide_eq_false h6, Bool.false_and]
    unfold uOkC
    have : ¬ 6 ≤ ((s.extract p s.size).extract 0 (m - p)).size := by
      rw [ByteArray.size_extract]; omega
    rw [decide_eq_false this]
    rfl

theorem us_wrong (s : ByteArray) (p : Nat) (h : p + 1 < s.size) (hb : byteAt s p = 92) (hn : byteAt s (p + 1) ≠ 34 ∧ byteAt s (p + 1) ≠ 92 ∧ byteAt s (p + 1) ≠ 98 ∧ byteAt s (p + 1) ≠ 102 ∧ byteAt s (p + 1) ≠ 110 ∧ byteAt s (p + 1) ≠ 114 ∧ byteAt s (p + 1) ≠ 116 ∧ byteAt s (p + 1) ≠ 47) (hu : uOkC (s.extract p s.size) = false) :
    UErr s p 4 := by
  intro m hq hm acc
  have hsz := cut_size s m hm
  have h2 := sizeQ_two s p h hb
  have hu2 : uOkC ((s.extract 0 m).extract p (s.extract 0 m).size) = false := by
    rw [hsz, (uOk_cut s m p hm).1, hu, Bool.and_false]
  have := uq_wrong (s.extract 0 m) p acc (by omega) (by rw [cut_byte s m p (by omega)]; exact hb) (by rw [cut_byte s m (p + 1) (by omega)]; exact hn) hu2
  rwa [hsz] at this

theorem hex_plain (c : UInt8) (h : hexVal c < 16) : c ≠ 34 ∧ c ≠ 92 := by
  constructor
  · intro e; subst e; simp [hexVal] at h
  · intro e; subst e; simp [hexVal] at h

theorem sizeQ_six (s : ByteArray) (p : Nat) (h6 : p + 6 ≤ s.size) (hu : uOkC (s.extract p s.size) = true) : sizeQ (s.data.toList.drop p) = 6 + sizeQ (s.data.toList.drop (p + 6)) := by
  unfold uOkC at hu
  simp only [Bool.and_eq_true, decide_eq_true_eq] at hu
  obtain ⟨⟨_, h2⟩, h4⟩ := hu
  rw [take2_tail s p (by omega)] at h2
  rw [take4_tail s p h6] at h4
  have h2' := eq_of_beq h2
  injection h2' with e0 e1
  injection e1 with e1 _
  simp only [List.all_cons, List.all_nil, Bool.and_true, Bool.and_eq_true, decide_eq_true_eq] at h4
  have hd : s.data.toList.drop p = 92 :: 117 :: ([s.data.toList.getD (p + 2) 0, s.data.toList.getD (p + 2 + 1) 0, s.data.toList.getD (p + 2 + 2) 0, s.data.toList.getD (p + 2 + 3) 0] ++ s.data.toList.drop (p + 6)) := by
    rw [tail_at s p (by omega), tail_at s (p + 1) (by omega), tail_at s (p + 1 + 1) (by omega), tail_at s (p + 1 + 1 + 1) (by omega), tail_at s (p + 1 + 1 + 1 + 1) (by omega), tail_at s (p + 1 + 1 + 1 + 1 + 1) (by omega), e0, e1]
    rfl
  rw [hd, sizeQ_slash, sizeQ_skip]
  · simp only [List.length_cons, List.length_nil]
    omega
  · intro c hc
    simp only [List.mem_cons, List.not_mem_nil, or_false] at hc
    rcases hc with rfl | rfl | rfl | rfl
    · exact hex_plain _ h4.1
    · exact hex_plain _ h4.2.1
    · exact hex_plain _ h4.2.2.1
    · exact hex_plain _ h4.2.2.2

theorem us_num (s : ByteArray) (p n : Nat) (h : p + 6 ≤ s.size) (hb : byteAt s p = 92) (hu : uOkC (s.extract p s.size) = true) (hr : uRC (s.extract p s.size) = (n : Int)) (hn : n < 55296 ∨ 57343 < n) :
    UStep s p (p + 6) (Lib.encodeRune (n : Int)) := by
  refine ⟨by rw [sizeQ_six s p h hu]; omega, ?_⟩
  intro m hq hm acc
  have hsz := cut_size s m hm
  obtain ⟨c1, c2⟩ := uOk_cut s m p hm
  rw [hu, decide_eq_true hq] at c1
  have := uq_num (s.extract 0 m) p n acc (by omega) (by rw [cut_byte s m p (by omega)]; exact hb) (by rw [hsz]; exact c1) (by rw [hsz, c2 hq]; exact hr) hn
  rwa [hsz] at this

theorem us_pair (s : ByteArray) (p n k : Nat) (h : p + 12 ≤ s.size) (hb : byteAt s p = 92) (hu : uOkC (s.extract p s.size) = true) (hr : uRC (s.extract p s.size) = (n : Int)) (hn : 55296 ≤ n ∧ n ≤ 56319) (hu2 : uOkC (s.extract (p + 6) s.size) = true) (hr2 : uRC (s.extract (p + 6) s.size) = (k : Int)) (hk : 56320 ≤ k ∧ k ≤ 57343) :
    UStep s p (p + 12) (Lib.encodeRune (65536 + ((n : Int) - 55296) * 1024 + ((k : Int) - 56320))) := by
  refine ⟨by rw [sizeQ_six s p (by omega) hu, sizeQ_six s (p + 6) (by omega) hu2, show p + 6 + 6 = p + 12 by omega]; omega, ?_⟩
  intro m hq hm acc
  have hsz := cut_size s m hm
  obtain ⟨c1, c2⟩ := uOk_cut s m p hm
  obtain ⟨d1, d2⟩ := uOk_cut s m (p + 6) hm
  rw [hu, decide_eq_true (by omega)] at c1
  rw [hu2, decide_eq_true (by omega)] at d1
  have := uq_pair (s.extract 0 m) p n k acc (by omega) (by rw [cut_byte s m p (by omega)]; exact hb) (by rw [hsz]; exact c1) (by rw [hsz, c2 (by omega)]; exact hr) hn (by rw [hsz]; exact d1) (by rw [hsz, d2 (by omega)]; exact hr2) hk
  rwa [hsz] at this

theorem us_half (s : ByteArray) (p n : Nat) (h : p + 6 ≤ s.size) (hb : byteAt s p = 92) (hu : uOkC (s.extract p s.size) = true) (hr : uRC (s.extract p s.size) = (n : Int)) (hn : 55296 ≤ n ∧ n ≤ 57343) (hw : 56320 ≤ n ∨ uOkC (s.extract (p + 6) s.size) = false ∨ (∃ k : Nat, uRC (s.extract (p + 6) s.size) = (k : Int) ∧ (k < 56320 ∨ 57343 < k))) :
    UErr s p 11 := by
  intro m hq hm acc
  have hsz := cut_size s m hm
  have h6 := sizeQ_six s p h hu
  obtain ⟨c1, c2⟩ := uOk_cut s m p hm
  obtain ⟨d1, d2⟩ := uOk_cut s m (p + 6) hm
  rw [hu, decide_eq_true (by omega)] at c1
  have := uq_half (s.extract 0 m) p n acc (by omega) (by rw [cut_byte s m p (by omega)]; exact hb) (by rw [hsz]; exact c1) (by rw [hsz, c2 (by omega)]; exact hr) hn ?_
  · rwa [hsz] at this
  · rw [hsz]
    rcases hw with h | h | ⟨k, hk, hk'⟩
    · exact Or.inl h
    · exact Or.inr (Or.inl (by rw [d1, h, Bool.and_false]))
    · by_cases h12 : p + 6 + 6 ≤ m
      · exact Or.inr (Or.inr ⟨k, by rw [d2 h12]; exact hk, hk'⟩)
      · exact Or.inr (Or.inl (by rw [d1, decide_eq_false h12, Bool.false_and]))
end Go.Proofs.YtagjemdoefldaaaDoor
