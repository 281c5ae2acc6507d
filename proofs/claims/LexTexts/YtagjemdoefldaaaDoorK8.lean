/- Some texts in one: each opens with its own remark. -/
import Derived.Test.YtagjemdoefldaaaDoorK7
import Derived.Lib.ParseIntBCases
import Derived.Lib.ItoaMem
/- How many bytes a quoted text has behind its first quote, and how the reading of it goes on by one part wherever the text is cut behind it. -/
namespace Go.Proofs.YtagjemdoefldaaaDoor
open Go.RowKit

/-- The bytes up to the first quote that stands behind no backslash, it too; all of them, if there is none. -/
def sizeQ : List UInt8 → Nat
  | [] => 0
  | [_] => 1
  | c :: d :: t => if c = 34 then 1 else if c = 92 then 2 + sizeQ t else 1 + sizeQ (d :: t)

theorem sizeQ_le : ∀ l : List UInt8, sizeQ l ≤ l.length
  | [] => by simp [sizeQ]
  | [_] => by simp [sizeQ]
  | c :: d :: t => by
    have h1 := sizeQ_le t
    have h2 := sizeQ_le (d :: t)
    simp only [List.length_cons] at h2
    unfold sizeQ
    simp only [List.length_cons]
    split
    · omega
    · split <;> omega

theorem sizeQ_quote (t : List UInt8) : sizeQ (34 :: t) = 1 := by
  cases t <;> simp [sizeQ]

theorem sizeQ_slash (c : UInt8) (t : List UInt8) : sizeQ (92 :: c :: t) = 2 + sizeQ t := by
  rw [sizeQ, if_neg (by decide), if_pos rfl]

theorem sizeQ_plain (c : UInt8) (t : List UInt8) (h : c ≠ 34) (h' : c ≠ 92) : sizeQ (c :: t) = 1 + sizeQ t := by
  cases t with
  | nil => simp [sizeQ]
  | cons d t => rw [sizeQ, if_neg h, if_neg h']

theorem sizeQ_skip : ∀ (l t : List UInt8), (∀ c ∈ l, c ≠ 34 ∧ c ≠ 92) → sizeQ (l ++ t) = l.length + sizeQ t
  | [], t, _ => by simp
  | c :: l, t, h => by
    rw [List.cons_append, sizeQ_plain c _ (h c (by simp)).1 (h c (by simp)).2, sizeQ_skip l t (fun x hx => h x (by simp [hx])), List.length_cons]
    omega

theorem cut_size (s : ByteArray) (m : Nat) (h : m ≤ s.size) : (s.extract 0 m).size = m := by
  simp [ByteArray.size_extract]; omega

theorem cut_list (s : ByteArray) (m : Nat) : (s.extract 0 m).data.toList = s.data.toList.take m := by
  rw [extract_list, List.drop_zero, Nat.sub_zero]

theorem cut_getD (s : ByteArray) (m p : Nat) (h : p < m) : (s.extract 0 m).data.toList.getD p 0 = s.data.toList.getD p 0 := by
  rw [cut_list, List.getD_eq_getElem?_getD, List.getD_eq_getElem?_getD, List.getElem?_take_of_lt h]

theorem cut_byte (s : ByteArray) (m p : Nat) (h : p < m) : byteAt (s.extract 0 m) p = byteAt s p := by
  unfold byteAt
  rw [cut_getD s m p h]

theorem cut_rest (s : ByteArray) (m p : Nat) (_h : m ≤ s.size) : (s.extract 0 m).extract p m = (s.extract p s.size).extract 0 (m - p) := by
  apply ByteArray.ext
  apply Array.toList_inj.1
  rw [extract_list, cut_list, cut_list, extract_tail, List.drop_take, List.take_take, Nat.min_self]

def UStep (s : ByteArray) (p q : Nat) (bs : List UInt8) : Prop :=
  sizeQ (s.data.toList.drop p) = (q - p) + sizeQ (s.data.toList.drop q) ∧
  ∀ m, q ≤ m → m ≤ s.size → ∀ acc, uq ((s.extract 0 m).extract p m) acc = uq ((s.extract 0 m).extract q m) (acc ++ bs)

def UErr (s : ByteArray) (p : Nat) (E : Int) : Prop :=
  ∀ m, p + sizeQ (s.data.toList.drop p) ≤ m → m ≤ s.size → ∀ acc, uq ((s.extract 0 m).extract p m) acc = ([], E)

/-- The text that is cut, as one of its own. -/
theorem at_cut (s : ByteArray) (m p : Nat) (h : m ≤ s.size) {P : ByteArray → Prop} (hp : P ((s.extract 0 m).extract p (s.extract 0 m).size)) : P ((s.extract 0 m).extract p m) := by
  rwa [cut_size s m h] at hp

theorem tail_at (s : ByteArray) (p : Nat) (h : p < s.size) : s.data.toList.drop p = s.data.toList.getD p 0 :: s.data.toList.drop (p + 1) := drop_getD _ _ (by rw [size_list]; exact h)

theorem byte_is (s : ByteArray) (p n : Nat) (hn : n < 256) (h : byteAt s p = n) : s.data.toList.getD p 0 = n.toUInt8 := by
  apply UInt8.toNat_inj.1
  rw [u8_of n hn]
  exact h

theorem sizeQ_pos (s : ByteArray) (p : Nat) (h : p < s.size) : 1 ≤ sizeQ (s.data.toList.drop p) := by
  rw [tail_at s p h]
  generalize s.data.toList.drop (p + 1) = t
  cases t with
  | nil => simp [sizeQ]
  | cons d t =>
    unfold sizeQ
    split
    · omega
    · split <;> omega

theorem sizeQ_two (s : ByteArray) (p : Nat) (h : p + 1 < s.size) (hb : byteAt s p = 92) : sizeQ (s.data.toList.drop p) = 2 + sizeQ (s.data.toList.drop (p + 2)) := by
  rw [tail_at s p (by omega), tail_at s (p + 1) h, byte_is s p 92 (by omega) hb]
  exact sizeQ_slash _ _

theorem char_plain (r : Nat) (h : okRune r) (h34 : r ≠ 34) (h92 : r ≠ 92) : ∀ c ∈ Lib.encodeRune (r : Int), c ≠ 34 ∧ c ≠ 92 := by
  by_cases hr : r < 128
  · rw [enc1 r hr]
    intro c hc
    rw [List.mem_singleton] at hc
    subst hc
    constructor
    · intro e
      have := congrArg UInt8.toNat e
      rw [u8_of r (by omega)] at this
      exact h34 this
    · intro e
      have := congrArg UInt8.toNat e
      rw [u8_of r (by omega)] at this
      exact h92 this
  · intro c hc
    have hh : 128 ≤ c.toNat := by
      have key : ∀ c ∈ Lib.encodeRune (r : Int), 128 ≤ c.toNat := enc_high r (by omega) h
      exact key c hc
    constructor
    · intro e; subst e; simp at hh
    · intro e; subst e; simp at hh

theorem us_char (s : ByteArray) (p r : Nat) (hc : CharAt s p r) (h32 : 32 ≤ r) (h34 : r ≠ 34) (h92 : r ≠ 92) : UStep s p (p + (Lib.encodeRune (r : Int)).length) (Lib.encodeRune (r : Int)) := by
  obtain ⟨ho, rest, hd⟩ := hc
  have hl := congrArg List.length hd
  rw [List.length_drop, List.length_append, size_list] at hl
  have hpos := encode_pos r
  refine ⟨?_, ?_⟩
  · rw [← List.drop_drop, hd, sizeQ_skip _ _ (char_plain r ho h34 h92), List.drop_left]
    omega
  · intro m hq hm acc
    have hsz := cut_size s m hm
    have hC : CharAt (s.extract 0 m) p r := by
      refine ⟨ho, rest.take (m - p - (Lib.encodeRune (r : Int)).length), ?_⟩
      rw [cut_list, List.drop_take, hd, List.take_append]
      congr 1
      exact List.take_of_length_le (by omega)
    have := uq_char (s.extract 0 m) p r acc hC h32 h34 h92
    rwa [hsz] at this

theorem us_ctl (s : ByteArray) (p : Nat) (h : p < s.size) (hb : byteAt s p < 32) : UErr s p 4 := by
  intro m hq hm acc
  have hsz := cut_size s m hm
  have := sizeQ_pos s p h
  have := uq_ctl (s.extract 0 m) p acc (by omega) (by rw [cut_byte s m p (by omega)]; exact hb)
  rwa [hsz] at this

theorem us_out (s : ByteArray) (p : Nat) (h : s.size ≤ p) : UErr s p 4 := by
  intro m hq hm acc
  have hsz := cut_size s m hm
  have := uq_out (s.extract 0 m) p acc (by omega)
  rwa [hsz] at this

theorem char_cut (s : ByteArray) (m p r : Nat) (h : CharAt (s.extract 0 m) p r) : CharAt s p r := by
  obtain ⟨ho, rest, hd⟩ := h
  rw [cut_list, List.drop_take] at hd
  have := List.take_append_drop (m - p) (s.data.toList.drop p)
  rw [hd, List.append_assoc] at this
  exact ⟨ho, _, this.symm⟩

theorem us_none (s : ByteArray) (p : Nat) (h : p < s.size) (h32 : 32 ≤ byteAt s p) (h34 : byteAt s p ≠ 34) (h92 : byteAt s p ≠ 92) (hn : ∀ r, ¬ CharAt s p r) : UErr s p 11 := by
  intro m hq hm acc
  have hsz := cut_size s m hm
  have := sizeQ_pos s p h
  have hb := cut_byte s m p (by omega)
  have := uq_none (s.extract 0 m) p acc (by omega) (by rw [hb]; exact h32) (by rw [hb]; exact h34) (by rw [hb]; exact h92) (fun r hr => hn r (char_cut s m p r hr))
  rwa [hsz] at this

theorem us_lone (s : ByteArray) (p : Nat) (h : p < s.size) (hb : byteAt s p = 92) (h1 : s.size ≤ p + 1) : UErr s p 4 := by
  intro m hq hm acc
  have hsz := cut_size s m hm
  have := sizeQ_pos s p h
  have := uq_lone (s.extract 0 m) p acc (by omega) (by rw [cut_byte s m p (by omega)]; exact hb) (by omega)
  rwa [hsz] at this

theorem us_letter (s : ByteArray) (p : Nat) (c v : UInt8) (i : Nat) (h : p + 1 < s.size) (hb : byteAt s p = 92) (hc : byteAt s (p + 1) = c.toNat) (hn : c ≠ 117) (hi : Lib.indexByte [34, 92, 98, 102, 110, 114, 116, 47] c = (i : Int)) (hv : ([34, 92, 8, 12, 10, 13, 9, 47] : List UInt8).getD i 0 = v) (hv7 : v.toNat < 128) :
    UStep s p (p + 2) [v] := by
  refine ⟨?_, ?_⟩
  · rw [sizeQ_two s p h hb]; omega
  · intro m hq hm acc
    have hsz := cut_size s m hm
    have := uq_letter (s.extract 0 m) p c v i acc (by omega) (by rw [cut_byte s m p (by omega)]; exact hb) (by rw [cut_byte s m (p + 1) (by omega)]; exact hc) hn hi hv hv7
    rwa [hsz] at this

/-- A number behind a backslash within the part that is left, and within the whole. -/
theorem uOk_cut (s : ByteArray) (m p : Nat) (hm : m ≤ s.size) : uOkC ((s.extract 0 m).extract p m) = (decide (p + 6 ≤ m) && uOkC (s.extract p s.size)) ∧ (p + 6 ≤ m → uRC ((s.extract 0 m).extract p m) = uRC (s.extract p s.size)) := by
  rw [cut_rest s m p hm]
  have e1 : ∀ a b : Nat, b ≤ m - p → ((s.extract p s.size).extract 0 (m - p)).extract a b = (s.extract p s.size).extract a b := by
    intro a b hb
    apply ByteArray.ext
    apply Array.toList_inj.1
    rw [extract_list, cut_list, extract_list (s.extract p s.size) a b, List.drop_take, List.take_take]
    congr 1
    omega
  by_cases h6 : p + 6 ≤ m
  · have hs1 : 6 ≤ ((s.extract p s.size).extract 0 (m - p)).size := by
      rw [cut_size _ _ (by rw [extract_size s p (by omega)]; omega)]; omega
    have hs2 : 6 ≤ (s.extract p s.size).size := by rw [extract_size s p (by omega)]; omega
    have hU : uOkC ((s.extract p s.size).extract 0 (m - p)) = uOkC (s.extract p s.size) := by
      unfold uOkC
      rw [e1 0 2 (by omega), e1 2 6 (by omega), decide_eq_true hs1, decide_eq_true hs2]
    refine ⟨by rw [decide_eq_true h6, Bool.true_and, hU], fun _ => ?_⟩
    unfold uRC
    rw [hU, e1 2 6 (by omega)]
  · refine ⟨?_, fun h => absurd h h6⟩
    rw [decide_eq_false h6, Bool.false_and]
    unfold uOkC
    have : ¬ 6 ≤ ((s.extract p s.size).extract 0 (m - p)).size := by
      rw [ByteArray.size_extract]; omega
    rw [decide_eq_false this]
    rfl

theorem us_wrong (s : ByteArray) (p : Nat) (h : p + 1 < s.size) (hb : byteAt s p = 92) (hn : byteAt s (p + 1) ≠ 34 ∧ byteAt s (p + 1) ≠ 92 ∧ byteAt s (p + 1) ≠ 98 ∧ byteAt s (p + 1) ≠ 102 ∧ byteAt s (p + 1) ≠ 110 ∧ byteAt s (p + 1) ≠ 114 ∧ byteAt s (p + 1) ≠ 116 ∧ byteAt s (p + 1) ≠ 47) (hu : uOkC (s.extract p s.size) = false) :
    UErr s p 4 := by
  intro m hq hm acc
  have hsz := cut_size s m hm
  have h2 := sizeQ_two s p h hb
  have hu2 : uOkC ((s.extract 0 m).extract p (s.extract 0 m).size) = false := by
    rw [hsz, (uOk_cut s m p hm).1, hu, Bool.and_false]
  have := uq_wrong (s.extract 0 m) p acc (by omega) (by rw [cut_byte s m p (by omega)]; exact hb) (by rw [cut_byte s m (p + 1) (by omega)]; exact hn) hu2
  rwa [hsz] at this

theorem hex_plain (c : UInt8) (h : hexVal c < 16) : c ≠ 34 ∧ c ≠ 92 := by
  constructor
  · intro e; subst e; simp [hexVal] at h
  · intro e; subst e; simp [hexVal] at h

theorem sizeQ_six (s : ByteArray) (p : Nat) (h6 : p + 6 ≤ s.size) (hu : uOkC (s.extract p s.size) = true) : sizeQ (s.data.toList.drop p) = 6 + sizeQ (s.data.toList.drop (p + 6)) := by
  unfold uOkC at hu
  simp only [Bool.and_eq_true, decide_eq_true_eq] at hu
  obtain ⟨⟨_, h2⟩, h4⟩ := hu
  rw [take2_tail s p (by omega)] at h2
  rw [take4_tail s p h6] at h4
  have h2' := eq_of_beq h2
  injection h2' with e0 e1
  injection e1 with e1 _
  simp only [List.all_cons, List.all_nil, Bool.and_true, Bool.and_eq_true, decide_eq_true_eq] at h4
  have hd : s.data.toList.drop p = 92 :: 117 :: ([s.data.toList.getD (p + 2) 0, s.data.toList.getD (p + 2 + 1) 0, s.data.toList.getD (p + 2 + 2) 0, s.data.toList.getD (p + 2 + 3) 0] ++ s.data.toList.drop (p + 6)) := by
    rw [tail_at s p (by omega), tail_at s (p + 1) (by omega), tail_at s (p + 1 + 1) (by omega), tail_at s (p + 1 + 1 + 1) (by omega), tail_at s (p + 1 + 1 + 1 + 1) (by omega), tail_at s (p + 1 + 1 + 1 + 1 + 1) (by omega), e0, e1]
    rfl
  rw [hd, sizeQ_slash, sizeQ_skip]
  · simp only [List.length_cons, List.length_nil]
    omega
  · intro c hc
    simp only [List.mem_cons, List.not_mem_nil, or_false] at hc
    rcases hc with rfl | rfl | rfl | rfl
    · exact hex_plain _ h4.1
    · exact hex_plain _ h4.2.1
    · exact hex_plain _ h4.2.2.1
    · exact hex_plain _ h4.2.2.2

theorem us_num (s : ByteArray) (p n : Nat) (h : p + 6 ≤ s.size) (hb : byteAt s p = 92) (hu : uOkC (s.extract p s.size) = true) (hr : uRC (s.extract p s.size) = (n : Int)) (hn : n < 55296 ∨ 57343 < n) :
    UStep s p (p + 6) (Lib.encodeRune (n : Int)) := by
  refine ⟨by rw [sizeQ_six s p h hu]; omega, ?_⟩
  intro m hq hm acc
  have hsz := cut_size s m hm
  obtain ⟨c1, c2⟩ := uOk_cut s m p hm
  rw [hu, decide_eq_true hq] at c1
  have := uq_num (s.extract 0 m) p n acc (by omega) (by rw [cut_byte s m p (by omega)]; exact hb) (by rw [hsz]; exact c1) (by rw [hsz, c2 hq]; exact hr) hn
  rwa [hsz] at this

theorem us_pair (s : ByteArray) (p n k : Nat) (h : p + 12 ≤ s.size) (hb : byteAt s p = 92) (hu : uOkC (s.extract p s.size) = true) (hr : uRC (s.extract p s.size) = (n : Int)) (hn : 55296 ≤ n ∧ n ≤ 56319) (hu2 : uOkC (s.extract (p + 6) s.size) = true) (hr2 : uRC (s.extract (p + 6) s.size) = (k : Int)) (hk : 56320 ≤ k ∧ k ≤ 57343) :
    UStep s p (p + 12) (Lib.encodeRune (65536 + ((n : Int) - 55296) * 1024 + ((k : Int) - 56320))) := by
  refine ⟨by rw [sizeQ_six s p (by omega) hu, sizeQ_six s (p + 6) (by omega) hu2, show p + 6 + 6 = p + 12 by omega]; omega, ?_⟩
  intro m hq hm acc
  have hsz := cut_size s m hm
  obtain ⟨c1, c2⟩ := uOk_cut s m p hm
  obtain ⟨d1, d2⟩ := uOk_cut s m (p + 6) hm
  rw [hu, decide_eq_true (by omega)] at c1
  rw [hu2, decide_eq_true (by omega)] at d1
  have := uq_pair (s.extract 0 m) p n k acc (by omega) (by rw [cut_byte s m p (by omega)]; exact hb) (by rw [hsz]; exact c1) (by rw [hsz, c2 (by omega)]; exact hr) hn (by rw [hsz]; exact d1) (by rw [hsz, d2 (by omega)]; exact hr2) hk
  rwa [hsz] at this

theorem us_half (s : ByteArray) (p n : Nat) (h : p + 6 ≤ s.size) (hb : byteAt s p = 92) (hu : uOkC (s.extract p s.size) = true) (hr : uRC (s.extract p s.size) = (n : Int)) (hn : 55296 ≤ n ∧ n ≤ 57343) (hw : 56320 ≤ n ∨ uOkC (s.extract (p + 6) s.size) = false ∨ (∃ k : Nat, uRC (s.extract (p + 6) s.size) = (k : Int) ∧ (k < 56320 ∨ 57343 < k))) :
    UErr s p 11 := by
  intro m hq hm acc
  have hsz := cut_size s m hm
  have h6 := sizeQ_six s p h hu
  obtain ⟨c1, c2⟩ := uOk_cut s m p hm
  obtain ⟨d1, d2⟩ := uOk_cut s m (p + 6) hm
  rw [hu, decide_eq_true (by omega)] at c1
  have := uq_half (s.extract 0 m) p n acc (by omega) (by rw [cut_byte s m p (by omega)]; exact hb) (by rw [hsz]; exact c1) (by rw [hsz, c2 (by omega)]; exact hr) hn ?_
  · rwa [hsz] at this
  · rw [hsz]
    rcases hw with h | h | ⟨k, hk, hk'⟩
    · exact Or.inl h
    · exact Or.inr (Or.inl (by rw [d1, h, Bool.and_false]))
    · by_cases h12 : p + 6 + 6 ≤ m
      · exact Or.inr (Or.inr ⟨k, by rw [d2 h12]; exact hk, hk'⟩)
      · exact Or.inr (Or.inl (by rw [d1, decide_eq_false h12, Bool.false_and]))
end Go.Proofs.YtagjemdoefldaaaDoor

/- Numbers as digits: what is read of digits, and when what is printed is what was read. No program. -/
namespace Go.Proofs.YtagjemdoefldaaaDoor
open Go.RowKit

def isL (c : UInt8) : Bool := decide (c.toNat = 95 ∨ (65 ≤ c.toNat ∧ c.toNat ≤ 90) ∨ (97 ≤ c.toNat ∧ c.toNat ≤ 122))
def isD (c : UInt8) : Bool := decide (48 ≤ c.toNat ∧ c.toNat ≤ 57)
def isB (c : UInt8) : Bool := decide (c.toNat = 32 ∨ c.toNat = 9 ∨ c.toNat = 10 ∨ c.toNat = 13)
def isW (c : UInt8) : Bool := isL c || isD c

/-- The number that digits stand for, behind one that was read already. -/
def decA : Nat → List UInt8 → Nat
  | a, [] => a
  | a, c :: l => decA (a * 10 + (c.toNat - 48)) l
def decV (l : List UInt8) : Nat := decA 0 l

theorem decA_snoc (l : List UInt8) (c : UInt8) : ∀ a, decA a (l ++ [c]) = decA a l * 10 + (c.toNat - 48) := by
  induction l with
  | nil => intro a; rfl
  | cons d l ih => intro a; exact ih _

theorem decA_ge (l : List UInt8) : ∀ a, a ≤ decA a l := by
  induction l with
  | nil => intro a; exact Nat.le_refl _
  | cons d l ih => intro a; have := ih (a * 10 + (d.toNat - 48)); unfold decA; omega

theorem decA_pow (l : List UInt8) : ∀ a, a * 10 ^ l.length ≤ decA a l := by
  induction l with
  | nil => intro a; rw [List.length_nil, Nat.pow_zero, Nat.mul_one]; exact Nat.le_refl _
  | cons d l ih =>
    intro a
    have := ih (a * 10 + (d.toNat - 48))
    unfold decA
    refine Nat.le_trans ?_ this
    rw [List.length_cons, Nat.pow_succ, show a * (10 ^ l.length * 10) = a * 10 * 10 ^ l.length by rw [Nat.mul_assoc, Nat.mul_comm (10 ^ l.length)]]
    exact Nat.mul_le_mul_right _ (by omega)

theorem decA_lt (l : List UInt8) (h : ∀ c ∈ l, isD c = true) : ∀ a, decA a l < (a + 1) * 10 ^ l.length := by
  induction l with
  | nil => intro a; rw [List.length_nil, Nat.pow_zero, Nat.mul_one]; exact Nat.lt_succ_self _
  | cons d l ih =>
    intro a
    have hd := h d (by simp)
    simp only [isD, decide_eq_true_eq] at hd
    have := ih (fun x hx => h x (by simp [hx])) (a * 10 + (d.toNat - 48))
    unfold decA
    refine Nat.lt_of_lt_of_le this ?_
    rw [List.length_cons, Nat.pow_succ, show (a + 1) * (10 ^ l.length * 10) = (a + 1) * 10 * 10 ^ l.length by rw [Nat.mul_assoc, Nat.mul_comm (10 ^ l.length)]]
    exact Nat.mul_le_mul_right _ (by omega)

theorem parseM (M : Nat) (hM : M ≤ 18446744073709551615) (l : List UInt8) (h : ∀ c ∈ l, isD c = true) : ∀ a, a ≤ M → Lib.parseUintM M a l = if decA a l ≤ M then .ok (decA a l) else .range := by
  induction l with
  | nil => intro a ha; show Lib.NumEnd.ok a = if a ≤ M then .ok a else .range; rw [if_pos ha]
  | cons d l ih =>
    intro a ha
    have hd := h d (by simp)
    have hd' := hd
    simp only [isD, decide_eq_true_eq] at hd
    have hge := decA_ge l (a * 10 + (d.toNat - 48))
    show (if 48 ≤ d.toNat ∧ d.toNat ≤ 57 then (if 1844674407370955162 ≤ a then Lib.NumEnd.range else if M < a * 10 + (d.toNat - 48) then .range else Lib.parseUintM M (a * 10 + (d.toNat - 48)) l) else .syntax) = if decA (a * 10 + (d.toNat - 48)) l ≤ M then .ok (decA (a * 10 + (d.toNat - 48)) l) else .range
    rw [if_pos hd]
    by_cases h1 : 1844674407370955162 ≤ a
    · rw [if_pos h1, if_neg (by omega)]
    · rw [if_neg h1]
      by_cases h2 : M < a * 10 + (d.toNat - 48)
      · rw [if_pos h2, if_neg (by omega)]
      · rw [if_neg h2, ih (fun x hx => h x (by simp [hx])) _ (by omega)]

theorem digit_of (c : UInt8) (h : isD c = true) : UInt8.ofNat (48 + (c.toNat - 48)) = c := by
  simp only [isD, decide_eq_true_eq] at h
  rw [show 48 + (c.toNat - 48) = c.toNat by omega, UInt8.ofNat_toNat]

theorem decDigits_back (n : Nat) : ∀ l : List UInt8, l.length = n → (∀ c ∈ l, isD c = true) → l ≠ [] → (l.length = 1 ∨ l.head? ≠ some 48) → Lib.decDigits (decV l) = l := by
  induction n with
  | zero => intro l h _ hn; exact absurd (List.eq_nil_of_length_eq_zero h) hn
  | succ n ih =>
    intro l hl hd hne hh
    obtain ⟨l', c, rfl⟩ : ∃ l' c, l = l' ++ [c] := ⟨l.dropLast, l.getLast hne, (List.dropLast_concat_getLast hne).symm⟩
    have hc := hd c (by simp)
    have hc' := hc
    simp only [isD, decide_eq_true_eq] at hc'
    have ev : decV (l' ++ [c]) = decV l' * 10 + (c.toNat - 48) := decA_snoc l' c 0
    have hlen : l'.length = n := by simpa using hl
    by_cases h0 : l' = []
    · subst h0
      rw [ev]
      show Lib.decDigits (0 * 10 + (c.toNat - 48)) = _
      rw [Nat.zero_mul, Nat.zero_add, Lib.decDigits_one (by omega), digit_of c hc]
      rfl
    · have hhead : l'.head? ≠ some 48 := by
        rcases hh with hh | hh
        · exfalso
          have : l'.length ≠ 0 := fun e => h0 (List.eq_nil_of_length_eq_zero e)
          rw [List.length_append, List.length_singleton] at hh
          omega
        · cases l' with
          | nil => exact absurd rfl h0
          | cons d r => simpa using hh
      have hd1 : ∀ x ∈ l', isD x = true := fun x hx => hd x (by simp [hx])
      have h1 : 1 ≤ decV l' := by
        cases l' with
        | nil => exact absurd rfl h0
        | cons d r =>
          have hdd := hd1 d (by simp)
          simp only [isD, decide_eq_true_eq] at hdd
          have hne48 : d.toNat ≠ 48 := by
            intro e
            apply hhead
            simp only [List.head?_cons, Option.some.injEq]
            exact UInt8.toNat_inj.1 e
          have := decA_ge r (0 * 10 + (d.toNat - 48))
          show 1 ≤ decA (0 * 10 + (d.toNat - 48)) r
          omega
      rw [ev, Lib.decDigits, dif_neg (by omega), show (decV l' * 10 + (c.toNat - 48)) / 10 = decV l' by omega, show (decV l' * 10 + (c.toNat - 48)) % 10 = c.toNat - 48 by omega, digit_of c hc, ih l' hlen hd1 h0 (Or.inr hhead)]

theorem decDigits_head (u : Nat) : (Lib.decDigits u) ≠ [] ∧ (1 ≤ u → (Lib.decDigits u).head? ≠ some 48) ∧ (u = 0 → Lib.decDigits u = [48]) := by
  induction u using Nat.strongRecOn with
  | _ u ih =>
    by_cases h : u < 10
    · rw [Lib.decDigits, dif_pos h]
      refine ⟨by simp, ?_, ?_⟩
      · intro h1 e
        simp only [List.head?_cons, Option.some.injEq] at e
        have := congrArg UInt8.toNat e
        rw [UInt8.toNat_ofNat'] at this
        simp at this
        omega
      · intro e; subst e; rfl
    · obtain ⟨i1, i2, _⟩ := ih (u / 10) (by omega)
      rw [Lib.decDigits, dif_neg h]
      refine ⟨by simp, fun _ => ?_, by omega⟩
      have i3 := i2 (by omega)
      generalize Lib.decDigits (u / 10) = q at i1 i3
      cases q with
      | nil => exact absurd rfl i1
      | cons x q => simpa using i3

/-- A number's text: a sign or none, and digits; what it stands for, if it may be so. -/
def numR (minus : Bool) (d : List UInt8) : Option Int :=
  if 19 < d.length ∨ (d.head? = some 48 ∧ (1 < d.length ∨ minus = true)) ∨ (minus = false ∧ 9223372036854775808 ≤ decV d) ∨ (minus = true ∧ 9223372036854775808 < decV d) then none
  else some (if minus = true then -(decV d : Int) else (decV d : Int))

def numText (minus : Bool) (d : List UInt8) : List UInt8 := if minus = true then 45 :: d else d

theorem big20 (d : List UInt8) (_hd : ∀ c ∈ d, isD c = true) (h : 19 < d.length) (hh : d.head? ≠ some 48) : 10000000000000000000 ≤ decV d := by
  cases d with
  | nil => simp at h
  | cons c r =>
    have hc := _hd c (by simp)
    simp only [isD, decide_eq_true_eq] at hc
    have hne48 : c.toNat ≠ 48 := by
      intro e
      apply hh
      simp only [List.head?_cons, Option.some.injEq]
      exact UInt8.toNat_inj.1 e
    have h1 := decA_pow r (0 * 10 + (c.toNat - 48))
    have h2 : 10 ^ 19 ≤ 10 ^ r.length := Nat.pow_le_pow_right (by omega) (by simp at h; omega)
    have h3 : 1 * 10 ^ r.length ≤ (0 * 10 + (c.toNat - 48)) * 10 ^ r.length := Nat.mul_le_mul_right _ (by omega)
    show 10000000000000000000 ≤ decA (0 * 10 + (c.toNat - 48)) r
    have h4 : (10 : Nat) ^ 19 = 10000000000000000000 := by decide
    omega

/-- What ParseInt tells of a number's text, and what FormatInt makes of it. -/
theorem num_parse (minus : Bool) (d : List UInt8) (hd : ∀ c ∈ d, isD c = true) (hne : d ≠ []) :
    (Lib.parseIntB 64 (numText minus d) = .range ∧ numR minus d = none) ∨
    (∃ v, Lib.parseIntB 64 (numText minus d) = .ok v ∧ -9223372036854775808 ≤ v ∧ v ≤ 9223372036854775807 ∧ ((Lib.itoa v = numText minus d ∧ numR minus d = some v) ∨ (Lib.itoa v ≠ numText minus d ∧ numR minus d = none))) := by
  have hpu : Lib.parseUintB 64 d = if decV d ≤ 18446744073709551615 then .ok (decV d) else .range := by
    unfold Lib.parseUintB
    rw [if_neg hne]
    exact parseM 18446744073709551615 (by omega) d hd 0 (by omega)
  have hback := decDigits_back d.length d rfl hd hne
  obtain ⟨k1, k2, k3⟩ := decDigits_head (decV d)
  cases minus
  · have ht : numText false d = d := rfl
    rw [ht]
    have hpi : Lib.parseIntB 64 d = Lib.signlessC (2 ^ 63) (Lib.parseUintB 64 d) := by
      cases d with
      | nil => exact absurd rfl hne
      | cons c r =>
        have hc := hd c (by simp)
        simp only [isD, decide_eq_true_eq] at hc
        exact Lib.parseIntB_plain 64 c r (by omega) (by omega)
    rw [hpi, hpu]
    by_cases hb : 9223372036854775808 ≤ decV d
    · left
      refine ⟨?_, by unfold numR; rw [if_pos (Or.inr (Or.inr (Or.inl ⟨rfl, hb⟩)))]⟩
      split
      · simp only [Lib.signlessC]
        rw [if_pos (by omega)]
      · rfl
    · right
      rw [if_pos (by omega)]
      refine ⟨(decV d : Int), ?_, by omega, by omega, ?_⟩
      · simp only [Lib.signlessC]
        rw [if_neg (by omega)]
      · rw [Lib.itoa_nonneg]
        by_cases hz : d.head? = some 48 ∧ 1 < d.length
        · right
          refine ⟨?_, by unfold numR; rw [if_pos (Or.inr (Or.inl ⟨hz.1, Or.inl hz.2⟩))]⟩
          intro e
          by_cases h0 : decV d = 0
          · have := k3 h0
            rw [this] at e
            have := congrArg List.length e
            simp at this
            omega
          · have := k2 (by omega)
            rw [e] at this
            exact this hz.1
        · left
          have hor : d.length = 1 ∨ d.head? ≠ some 48 := by
            by_cases h48 : d.head? = some 48
            · left
              have : d.length ≠ 0 := fun e => hne (List.eq_nil_of_length_eq_zero e)
              have : ¬ 1 < d.length := fun h => hz ⟨h48, h⟩
              omega
            · exact Or.inr h48
          refine ⟨hback hor, ?_⟩
          unfold numR
          rw [if_neg]
          · rfl
          · rintro (h | ⟨h, h' | h'⟩ | ⟨_, h⟩ | ⟨h, _⟩)
            · rcases hor with ho | ho
              · omega
              · have := big20 d hd h ho; omega
            · exact hz ⟨h, h'⟩
            · cases h'
            · exact hb h
            · cases h
  · have ht : numText true d = 45 :: d := rfl
    rw [ht, Lib.parseIntB_minus, hpu]
    by_cases hb : 9223372036854775808 < decV d
    · left
      refine ⟨?_, by unfold numR; rw [if_pos (Or.inr (Or.inr (Or.inr ⟨rfl, hb⟩)))]⟩
      split
      · simp only [Lib.signedC]
        rw [if_pos (by omega)]
      · rfl
    · right
      rw [if_pos (by omega)]
      refine ⟨-(decV d : Int), ?_, by omega, by omega, ?_⟩
      · simp only [Lib.signedC]
        rw [if_neg (by omega)]
      · by_cases h48 : d.head? = some 48
        · right
          refine ⟨?_, by unfold numR; rw [if_pos (Or.inr (Or.inl ⟨h48, Or.inr rfl⟩))]⟩
          by_cases h0 : decV d = 0
          · rw [h0]
            intro e
            have e0 : Lib.itoa (-((0 : Nat) : Int)) = [48] := by
              show Lib.decDigits 0 = [48]
              exact (decDigits_head 0).2.2 rfl
            rw [e0] at e
            injection e with e1 _
            exact absurd e1 (by decide)
          · rw [Lib.itoa_neg _ (by omega)]
            intro e
            have := k2 (by omega)
            injection e with _ e
            rw [e] at this
            exact this h48
        · left
          have h1 : 1 ≤ decV d := by
            by_cases h0 : decV d = 0
            · exfalso
              have e := hback (Or.inr h48)
              rw [k3 h0] at e
              rw [← e] at h48
              exact h48 rfl
            · omega
          refine ⟨by rw [Lib.itoa_neg _ h1, hback (Or.inr h48)], ?_⟩
          unfold numR
          rw [if_neg]
          · rfl
          · rintro (h | ⟨h, _⟩ | ⟨h, _⟩ | ⟨_, h⟩)
            · have := big20 d hd h h48; omega
            · exact h48 h
            · cases h
            · exact hb h
end Go.Proofs.YtagjemdoefldaaaDoor
