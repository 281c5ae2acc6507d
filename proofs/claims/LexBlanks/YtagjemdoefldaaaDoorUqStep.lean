/- How the reading of a quoted text goes on by one part: what utf.Unquote tells of the rest of a text, said of one part at its beginning. -/
import Derived.Test.YtagjemdoefldaaaDoorBackT
import Derived.Test.YtagjemdoefldaaaDoorFour
namespace Go.Proofs.YtagjemdoefldaaaDoor
open Go.RowKit

def uBody (R : ByteArray → List UInt8 → List UInt8 × Int) (u : ByteArray) (acc : List UInt8) : List UInt8 × Int :=
  if endB u = true then (acc, 0)
  else if slashB u = true then
    if uOkC u = true then
      if uRC u < 55296 ∨ 57343 < uRC u then R (u.extract 6 u.size) (acc ++ Lib.encodeRune (uRC u))
      else if 56320 ≤ uRC u ∨ uOkC (u.extract 6 u.size) = false ∨ uRC (u.extract 6 u.size) < 56320 ∨ 57343 < uRC (u.extract 6 u.size) then ([], 11)
      else R ((u.extract 6 u.size).extract 6 (u.extract 6 u.size).size) (acc ++ Lib.encodeRune (65536 + (uRC u - 55296) * 1024 + (uRC (u.extract 6 u.size) - 56320)))
    else if shortOk u = true then R (u.extract 2 u.size) (acc ++ Lib.encodeRune (shortR u))
    else ([], 4)
  else if highB u = true then ([], 11) else ([], 4)

theorem unqFrom_succ (f : Nat) (t : ByteArray) (acc : List UInt8) : unqFrom uRC uOkC (f + 1) t acc = uBody (unqFrom uRC uOkC f) (t.extract (plainLen t) t.size) (acc ++ (t.extract 0 (plainLen t)).data.toList) := rfl

theorem shortOk_size (u : ByteArray) (h : shortOk u = true) : 2 ≤ u.size := by
  simp only [shortOk, Bool.and_eq_true, decide_eq_true_eq] at h
  exact h.1

theorem uBody_congr (R R' : ByteArray → List UInt8 → List UInt8 × Int) (u : ByteArray) (acc : List UInt8) (h : ∀ v a, v.size < u.size → R v a = R' v a) : uBody R u acc = uBody R' u acc := by
  unfold uBody
  by_cases h1 : endB u = true
  · simp only [if_pos h1]
  · simp only [if_neg h1]
    by_cases h2 : slashB u = true
    · simp only [if_pos h2]
      by_cases h3 : uOkC u = true
      · simp only [if_pos h3]
        have s6 := uOkC_size u h3
        by_cases h4 : uRC u < 55296 ∨ 57343 < uRC u
        · simp only [if_pos h4]
          exact h _ _ (by rw [extract_size u 6 s6]; omega)
        · simp only [if_neg h4]
          by_cases h5 : 56320 ≤ uRC u ∨ uOkC (u.extract 6 u.size) = false ∨ uRC (u.extract 6 u.size) < 56320 ∨ 57343 < uRC (u.extract 6 u.size)
          · simp only [if_pos h5]
          · simp only [if_neg h5]
            have h6 : uOkC (u.extract 6 u.size) = true := by
              cases hh : uOkC (u.extract 6 u.size)
              · exact absurd (Or.inr (Or.inl hh)) h5
              · rfl
            exact h _ _ (by rw [extract_size _ 6 (uOkC_size _ h6), extract_size u 6 s6]; omega)
      · simp only [if_neg h3]
        by_cases h4 : shortOk u = true
        · simp only [if_pos h4]
          have := shortOk_size u h4
          exact h _ _ (by rw [extract_size u 2 this]; omega)
        · simp only [if_neg h4]
    · simp only [if_neg h2]

def uq (t : ByteArray) (acc : List UInt8) : List UInt8 × Int := unqFrom uRC uOkC (t.size + 1) t acc

theorem uq_fuel : ∀ (f g : Nat) (t : ByteArray) (acc : List UInt8), t.size < f → t.size < g → unqFrom uRC uOkC f t acc = unqFrom uRC uOkC g t acc := by
  intro f
  induction f with
  | zero => intro g t acc h; omega
  | succ f ih =>
    intro g t acc hf hg
    cases g with
    | zero => omega
    | succ g =>
      rw [unqFrom_succ, unqFrom_succ]
      refine uBody_congr _ _ _ _ fun v a hv => ?_
      have := extract_size t (plainLen t) (plainLen_le t)
      exact ih g v a (by omega) (by omega)

theorem uq_eq (t : ByteArray) (acc : List UInt8) : uq t acc = uBody uq (t.extract (plainLen t) t.size) (acc ++ (t.extract 0 (plainLen t)).data.toList) := by
  show unqFrom uRC uOkC (t.size + 1) t acc = _
  rw [unqFrom_succ]
  refine uBody_congr _ _ _ _ fun v a hv => ?_
  have := extract_size t (plainLen t) (plainLen_le t)
  exact uq_fuel _ _ v a (by omega) (by omega)

theorem decode_shift (t : ByteArray) (k pos : Nat) : Utf8.decode t (k + pos) = Utf8.decode (t.extract k t.size) pos := by
  rw [← Lib.decodeL_drop, ← Lib.decodeL_drop, extract_tail, List.drop_drop]

theorem stop_shift (t : ByteArray) (k pos : Nat) (h : k ≤ t.size) : stopB t (k + pos) = stopB (t.extract k t.size) pos := by
  unfold stopB brokenB
  rw [decode_shift, extract_tail, List.drop_drop, extract_size t k h, Nat.sub_sub]

theorem plainFrom_shift (t : ByteArray) (k : Nat) (h : k ≤ t.size) : ∀ fuel pos : Nat, plainFrom t fuel (k + pos) = k + plainFrom (t.extract k t.size) fuel pos := by
  intro fuel
  have hs := extract_size t k h
  induction fuel with
  | zero => intro pos; show t.size = k + (t.extract k t.size).size; omega
  | succ fuel ih =>
    intro pos
    unfold plainFrom
    by_cases hp : pos < (t.extract k t.size).size
    · rw [if_pos hp, if_pos (by omega : k + pos < t.size), stop_shift t k pos h, decode_shift, Nat.add_assoc]
      split
      · rfl
      · exact ih _
    · rw [if_neg hp, if_neg (by omega : ¬ k + pos < t.size)]
      omega

theorem plainFrom_fuel (s : ByteArray) : ∀ (f g pos : Nat), s.size ≤ pos + f → s.size ≤ pos + g → plainFrom s f pos = plainFrom s g pos := by
  intro f
  induction f with
  | zero =>
    intro g pos hf hg
    rw [plainFrom_end s 0 pos (by omega), plainFrom_end s g pos (by omega)]
  | succ f ih =>
    intro g pos hf hg
    by_cases hp : pos < s.size
    · cases g with
      | zero => omega
      | succ g =>
        have hw := width_pos s pos hp
        unfold plainFrom
        rw [if_pos hp, if_pos hp]
        split
        · rfl
        · exact ih g _ (by omega) (by omega)
    · rw [plainFrom_end s _ pos hp, plainFrom_end s g pos hp]

theorem stop_char (t : ByteArray) (r : Nat) (rest : List UInt8) (h : okRune r) (hd : t.data.toList = Lib.encodeRune (r : Int) ++ rest) :
    stopB t 0 = (decide (r < 32) || (r == 34) || (r == 92)) ∧ Utf8.decode t 0 = (r, (Lib.encodeRune (r : Int)).length) ∧ 0 < t.size := by
  obtain ⟨h0, h1, h2, _⟩ := at_char t 0 r rest h (by rw [List.drop_zero]; exact hd)
  refine ⟨?_, h1, h0⟩
  unfold stopB
  rw [h1]
  simp only [h2, Bool.or_false]

theorem plainLen_stop (t : ByteArray) (h : stopB t 0 = true ∨ t.size = 0) : plainLen t = 0 := by
  unfold plainLen
  cases hn : t.size with
  | zero => unfold plainFrom; exact hn
  | succ n =>
    unfold plainFrom
    rcases h with h | h
    · rw [if_pos (by omega), if_pos h]
    · omega

theorem plainLen_char (t : ByteArray) (r : Nat) (rest : List UInt8) (h : selfR r) (hd : t.data.toList = Lib.encodeRune (r : Int) ++ rest) :
    plainLen t = (Lib.encodeRune (r : Int)).length + plainLen (t.extract (Lib.encodeRune (r : Int)).length t.size) := by
  obtain ⟨h1, h2, h3⟩ := stop_char t r rest h.1 hd
  have hst : stopB t 0 = false := by
    rw [h1]
    unfold selfR at h
    simp
    omega
  have hle : (Lib.encodeRune (r : Int)).length ≤ t.size := by
    rw [← size_list, hd, List.length_append]; omega
  have hsz := extract_size t _ hle
  have hpos := encode_pos r
  unfold plainLen
  cases hn : t.size with
  | zero => omega
  | succ n =>
    rw [← hn]
    have e1 : plainFrom t t.size 0 = plainFrom t n (0 + (Utf8.decode t 0).2) := by
      rw [hn]
      show (if 0 < t.size then (if stopB t 0 = true then 0 else plainFrom t n (0 + (Utf8.decode t 0).2)) else t.size) = _
      rw [if_pos h3, hst]
      simp
    rw [e1, h2]
    show plainFrom t n (0 + (Lib.encodeRune (r : Int)).length) = _
    rw [Nat.zero_add, ← Nat.add_zero (Lib.encodeRune (r : Int)).length, plainFrom_shift t _ hle n 0]
    rw [Nat.add_zero, plainFrom_fuel (t.extract (Lib.encodeRune (r : Int)).length t.size) n (t.extract (Lib.encodeRune (r : Int)).length t.size).size 0 (by omega) (by omega)]

/-- A character that stands for itself. -/
theorem uq_self (t : ByteArray) (r : Nat) (rest : List UInt8) (acc : List UInt8) (h : selfR r) (hd : t.data.toList = Lib.encodeRune (r : Int) ++ rest) :
    uq t acc = uq (t.extract (Lib.encodeRune (r : Int)).length t.size) (acc ++ Lib.encodeRune (r : Int)) := by
  have hle : (Lib.encodeRune (r : Int)).length ≤ t.size := by
    rw [← size_list, hd, List.length_append]; omega
  have hp := plainLen_char t r rest h hd
  have hpl := plainLen_le (t.extract (Lib.encodeRune (r : Int)).length t.size)
  have hsz := extract_size t _ hle
  rw [uq_eq t acc, uq_eq (t.extract (Lib.encodeRune (r : Int)).length t.size), extract_rest t _ _ (by omega), ← hp]
  congr 1
  rw [List.append_assoc]
  congr 1
  rw [extract_list, extract_list, extract_tail, hp, hd, List.drop_zero, Nat.sub_zero, Nat.sub_zero, List.drop_zero, List.drop_left, List.take_append, List.take_of_length_le (by omega), Nat.add_sub_cancel_left]

/-- Where no character stands for itself, the rest is looked at as it is. -/
theorem uq_stop (t : ByteArray) (acc : List UInt8) (h : stopB t 0 = true ∨ t.size = 0) : uq t acc = uBody uq t acc := by
  rw [uq_eq, plainLen_stop t h]
  have e1 : t.extract 0 t.size = t := by
    apply ByteArray.ext
    apply Array.toList_inj.1
    rw [extract_tail, List.drop_zero]
  have e2 : (t.extract 0 0).data.toList = [] := by rw [extract_list]; simp
  rw [e1, e2, List.append_nil]
end Go.Proofs.YtagjemdoefldaaaDoor
