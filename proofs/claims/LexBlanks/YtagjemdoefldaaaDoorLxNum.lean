/- Numbers as digits: what is read of digits, and when what is printed is what was read. No program. -/
import Derived.Test.YtagjemdoefldaaaDoorLUq
import Derived.Lib.ParseIntBCases
import Derived.Lib.ItoaMem
namespace Go.Proofs.YtagjemdoefldaaaDoor
open Go.RowKit

def isL (c : UInt8) : Bool := decide (c.toNat = 95 ∨ (65 ≤ c.toNat ∧ c.toNat ≤ 90) ∨ (97 ≤ c.toNat ∧ c.toNat ≤ 122))
def isD (c : UInt8) : Bool := decide (48 ≤ c.toNat ∧ c.toNat ≤ 57)
def isB (c : UInt8) : Bool := decide (c.toNat = 32 ∨ c.toNat = 9 ∨ c.toNat = 10 ∨ c.toNat = 13)
def isW (c : UInt8) : Bool := isL c || isD c

/-- The number that digits stand for, behind one that was read already. -/
def decA : Nat → List UInt8 → Nat
  | a, [] => a
  | a, c :: l => decA (a * 10 + (c.toNat - 48)) l
def decV (l : List UInt8) : Nat := decA 0 l

theorem decA_snoc (l : List UInt8) (c : UInt8) : ∀ a, decA a (l ++ [c]) = decA a l * 10 + (c.toNat - 48) := by
  induction l with
  | nil => intro a; rfl
  | cons d l ih => intro a; exact ih _

theorem decA_ge (l : List UInt8) : ∀ a, a ≤ decA a l := by
  induction l with
  | nil => intro a; exact Nat.le_refl _
  | cons d l ih => intro a; have := ih (a * 10 + (d.toNat - 48)); unfold decA; omega

theorem decA_pow (l : List UInt8) : ∀ a, a * 10 ^ l.length ≤ decA a l := by
  induction l with
  | nil => intro a; rw [List.length_nil, Nat.pow_zero, Nat.mul_one]; exact Nat.le_refl _
  | cons d l ih =>
    intro a
    have := ih (a * 10 + (d.toNat - 48))
    unfold decA
    refine Nat.le_trans ?_ this
    rw [List.length_cons, Nat.pow_succ, show a * (10 ^ l.length * 10) = a * 10 * 10 ^ l.length by rw [Nat.mul_assoc, Nat.mul_comm (10 ^ l.length)]]
    exact Nat.mul_le_mul_right _ (by omega)

theorem decA_lt (l : List UInt8) (h : ∀ c ∈ l, isD c = true) : ∀ a, decA a l < (a + 1) * 10 ^ l.length := by
  induction l with
  | nil => intro a; rw [List.length_nil, Nat.pow_zero, Nat.mul_one]; exact Nat.lt_succ_self _
  | cons d l ih =>
    intro a
    have hd := h d (by simp)
    simp only [isD, decide_eq_true_eq] at hd
    have := ih (fun x hx => h x (by simp [hx])) (a * 10 + (d.toNat - 48))
    unfold decA
    refine Nat.lt_of_lt_of_le this ?_
    rw [List.length_cons, Nat.pow_succ, show (a + 1) * (10 ^ l.length * 10) = (a + 1) * 10 * 10 ^ l.length by rw [Nat.mul_assoc, Nat.mul_comm (10 ^ l.length)]]
    exact Nat.mul_le_mul_right _ (by omega)

theorem parseM (M : Nat) (hM : M ≤ 18446744073709551615) (l : List UInt8) (h : ∀ c ∈ l, isD c = true) : ∀ a, a ≤ M → Lib.parseUintM M a l = if decA a l ≤ M then .ok (decA a l) else .range := by
  induction l with
  | nil => intro a ha; show Lib.NumEnd.ok a = if a ≤ M then .ok a else .range; rw [if_pos ha]
  | cons d l ih =>
    intro a ha
    have hd := h d (by simp)
    have hd' := hd
    simp only [isD, decide_eq_true_eq] at hd
    have hge := decA_ge l (a * 10 + (d.toNat - 48))
    show (if 48 ≤ d.toNat ∧ d.toNat ≤ 57 then (if 1844674407370955162 ≤ a then Lib.NumEnd.range else if M < a * 10 + (d.toNat - 48) then .range else Lib.parseUintM M (a * 10 + (d.toNat - 48)) l) else .syntax) = if decA (a * 10 + (d.toNat - 48)) l ≤ M then .ok (decA (a * 10 + (d.toNat - 48)) l) else .range
    rw [if_pos hd]
    by_cases h1 : 1844674407370955162 ≤ a
    · rw [if_pos h1, if_neg (by omega)]
    · rw [if_neg h1]
      by_cases h2 : M < a * 10 + (d.toNat - 48)
      · rw [if_pos h2, if_neg (by omega)]
      · rw [if_neg h2, ih (fun x hx => h x (by simp [hx])) _ (by omega)]

theorem digit_of (c : UInt8) (h : isD c = true) : UInt8.ofNat (48 + (c.toNat - 48)) = c := by
  simp only [isD, decide_eq_true_eq] at h
  rw [show 48 + (c.toNat - 48) = c.toNat by omega, UInt8.ofNat_toNat]

theorem decDigits_back (n : Nat) : ∀ l : List UInt8, l.length = n → (∀ c ∈ l, isD c = true) → l ≠ [] → (l.length = 1 ∨ l.head? ≠ some 48) → Lib.decDigits (decV l) = l := by
  induction n with
  | zero => intro l h _ hn; exact absurd (List.eq_nil_of_length_eq_zero h) hn
  | succ n ih =>
    intro l hl hd hne hh
    obtain ⟨l', c, rfl⟩ : ∃ l' c, l = l' ++ [c] := ⟨l.dropLast, l.getLast hne, (List.dropLast_concat_getLast hne).symm⟩
    have hc := hd c (by simp)
    have hc' := hc
    simp only [isD, decide_eq_true_eq] at hc'
    have ev : decV (l' ++ [c]) = decV l' * 10 + (c.toNat - 48) := decA_snoc l' c 0
    have hlen : l'.length = n := by simpa using hl
    by_cases h0 : l' = []
    · subst h0
      rw [ev]
      show Lib.decDigits (0 * 10 + (c.toNat - 48)) = _
      rw [Nat.zero_mul, Nat.zero_add, Lib.decDigits_one (by omega), digit_of c hc]
      rfl
    · have hhead : l'.head? ≠ some 48 := by
        rcases hh with hh | hh
        · exfalso
          have : l'.length ≠ 0 := fun e => h0 (List.eq_nil_of_length_eq_zero e)
          rw [List.length_append, List.length_singleton] at hh
          omega
        · cases l' with
          | nil => exact absurd rfl h0
          | cons d r => simpa using hh
      have hd1 : ∀ x ∈ l', isD x = true := fun x hx => hd x (by simp [hx])
      have h1 : 1 ≤ decV l' := by
        cases l' with
        | nil => exact absurd rfl h0
        | cons d r =>
          have hdd := hd1 d (by simp)
          simp only [isD, decide_eq_true_eq] at hdd
          have hne48 : d.toNat ≠ 48 := by
            intro e
            apply hhead
            simp only [List.head?_cons, Option.some.injEq]
            exact UInt8.toNat_inj.1 e
          have := decA_ge r (0 * 10 + (d.toNat - 48))
          show 1 ≤ decA (0 * 10 + (d.toNat - 48)) r
          omega
      rw [ev, Lib.decDigits, dif_neg (by omega), show (decV l' * 10 + (c.toNat - 48)) / 10 = decV l' by omega, show (decV l' * 10 + (c.toNat - 48)) % 10 = c.toNat - 48 by omega, digit_of c hc, ih l' hlen hd1 h0 (Or.inr hhead)]

theorem decDigits_head (u : Nat) : (Lib.decDigits u) ≠ [] ∧ (1 ≤ u → (Lib.decDigits u).head? ≠ some 48) ∧ (u = 0 → Lib.decDigits u = [48]) := by
  induction u using Nat.strongRecOn with
  | _ u ih =>
    by_cases h : u < 10
    · rw [Lib.decDigits, dif_pos h]
      refine ⟨by simp, ?_, ?_⟩
      · intro h1 e
        simp only [List.head?_cons, Option.some.injEq] at e
        have := congrArg UInt8.toNat e
        rw [UInt8.toNat_ofNat'] at this
        simp at this
        omega
      · intro e; subst e; rfl
    · obtain ⟨i1, i2, _⟩ := ih (u / 10) (by omega)
      rw [Lib.decDigits, dif_neg h]
      refine ⟨by simp, fun _ => ?_, by omega⟩
      have i3 := i2 (by omega)
      generalize Lib.decDigits (u / 10) = q at i1 i3
      cases q with
      | nil => exact absurd rfl i1
      | cons x q => simpa using i3

/-- A number's text: a sign or none, and digits; what it stands for, if it may be so. -/
def numR (minus : Bool) (d : List UInt8) : Option Int :=
  if 19 < d.length ∨ (d.head? = some 48 ∧ (1 < d.length ∨ minus = true)) ∨ (minus = false ∧ 9223372036854775808 ≤ decV d) ∨ (minus = true ∧ 9223372036854775808 < decV d) then none
  else some (if minus = true then -(decV d : Int) else (decV d : Int))

def numText (minus : Bool) (d : List UInt8) : List UInt8 := if minus = true then 45 :: d else d

theorem big20 (d : List UInt8) (_hd : ∀ c ∈ d, isD c = true) (h : 19 < d.length) (hh : d.head? ≠ some 48) : 10000000000000000000 ≤ decV d := by
  cases d with
  | nil => simp at h
  | cons c r =>
    have hc := _hd c (by simp)
    simp only [isD, decide_eq_true_eq] at hc
    have hne48 : c.toNat ≠ 48 := by
      intro e
      apply hh
      simp only [List.head?_cons, Option.some.injEq]
      exact UInt8.toNat_inj.1 e
    have h1 := decA_pow r (0 * 10 + (c.toNat - 48))
    have h2 : 10 ^ 19 ≤ 10 ^ r.length := Nat.pow_le_pow_right (by omega) (by simp at h; omega)
    have h3 : 1 * 10 ^ r.length ≤ (0 * 10 + (c.toNat - 48)) * 10 ^ r.length := Nat.mul_le_mul_right _ (by omega)
    show 10000000000000000000 ≤ decA (0 * 10 + (c.toNat - 48)) r
    have h4 : (10 : Nat) ^ 19 = 10000000000000000000 := by decide
    omega

/-- What ParseInt tells of a number's text, and what FormatInt makes of it. -/
theorem num_parse (minus : Bool) (d : List UInt8) (hd : ∀ c ∈ d, isD c = true) (hne : d ≠ []) :
    (Lib.parseIntB 64 (numText minus d) = .range ∧ numR minus d = none) ∨
    (∃ v, Lib.parseIntB 64 (numText minus d) = .ok v ∧ -9223372036854775808 ≤ v ∧ v ≤ 9223372036854775807 ∧ ((Lib.itoa v = numText minus d ∧ numR minus d = some v) ∨ (Lib.itoa v ≠ numText minus d ∧ numR minus d = none))) := by
  have hpu : Lib.parseUintB 64 d = if decV d ≤ 18446744073709551615 then .ok (decV d) else .range := by
    unfold Lib.parseUintB
    rw [if_neg hne]
    exact parseM 18446744073709551615 (by omega) d hd 0 (by omega)
  have hback := decDigits_back d.length d rfl hd hne
  obtain ⟨k1, k2, k3⟩ := decDigits_head (decV d)
  cases minus
  · have ht : numText false d = d := rfl
    rw [ht]
    have hpi : Lib.parseIntB 64 d = Lib.signlessC (2 ^ 63) (Lib.parseUintB 64 d) := by
      cases d with
      | nil => exact absurd rfl hne
      | cons c r =>
        have hc := hd c (by simp)
        simp only [isD, decide_eq_true_eq] at hc
        exact Lib.parseIntB_plain 64 c r (by omega) (by omega)
    rw [hpi, hpu]
    by_cases hb : 9223372036854775808 ≤ decV d
    · left
      refine ⟨?_, by unfold numR; rw [if_pos (Or.inr (Or.inr (Or.inl ⟨rfl, hb⟩)))]⟩
      split
      · simp only [Lib.signlessC]
        rw [if_pos (by omega)]
      · rfl
    · right
      rw [if_pos (by omega)]
      refine ⟨(decV d : Int), ?_, by omega, by omega, ?_⟩
      · simp only [Lib.signlessC]
        rw [if_neg (by omega)]
      · rw [Lib.itoa_nonneg]
        by_cases hz : d.head? = some 48 ∧ 1 < d.length
        · right
          refine ⟨?_, by unfold numR; rw [if_pos (Or.inr (Or.inl ⟨hz.1, Or.inl hz.2⟩))]⟩
          intro e
          by_cases h0 : decV d = 0
          · have := k3 h0
            rw [this] at e
            have := congrArg List.length e
            simp at this
            omega
          · have := k2 (by omega)
            rw [e] at this
            exact this hz.1
        · left
          have hor : d.length = 1 ∨ d.head? ≠ some 48 := by
            by_cases h48 : d.head? = some 48
            · left
              have : d.length ≠ 0 := fun e => hne (List.eq_nil_of_length_eq_zero e)
              have : ¬ 1 < d.length := fun h => hz ⟨h48, h⟩
              omega
            · exact Or.inr h48
          refine ⟨hback hor, ?_⟩
          unfold numR
          rw [if_neg]
          · rfl
          · rintro (h | ⟨h, h' | h'⟩ | ⟨_, h⟩ | ⟨h, _⟩)
            · rcases hor with ho | ho
              · omega
              · have := big20 d hd h ho; omega
            · exact hz ⟨h, h'⟩
            · cases h'
            · exact hb h
            · cases h
  · have ht : numText true d = 45 :: d := rfl
    rw [ht, Lib.parseIntB_minus, hpu]
    by_cases hb : 9223372036854775808 < decV d
    · left
      refine ⟨?_, by unfold numR; rw [if_pos (Or.inr (Or.inr (Or.inr ⟨rfl, hb⟩)))]⟩
      split
      · simp only [Lib.signedC]
        rw [if_pos (by omega)]
      · rfl
    · right
      rw [if_pos (by omega)]
      refine ⟨-(decV d : Int), ?_, by omega, by omega, ?_⟩
      · simp only [Lib.signedC]
        rw [if_neg (by omega)]
      · by_cases h48 : d.head? = some 48
        · right
          refine ⟨?_, by unfold numR; rw [if_pos (Or.inr (Or.inl ⟨h48, Or.inr rfl⟩))]⟩
          by_cases h0 : decV d = 0
          · rw [h0]
            intro e
            have e0 : Lib.itoa (-((0 : Nat) : Int)) = [48] := by
              show Lib.decDigits 0 = [48]
              exact (decDigits_head 0).2.2 rfl
            rw [e0] at e
            injection e with e1 _
            exact absurd e1 (by decide)
          · rw [Lib.itoa_neg _ (by omega)]
            intro e
            have := k2 (by omega)
            injection e with _ e
            rw [e] at this
            exact this h48
        · left
          have h1 : 1 ≤ decV d := by
            by_cases h0 : decV d = 0
            · exfalso
              have e := hback (Or.inr h48)
              rw [k3 h0] at e
              rw [← e] at h48
              exact h48 rfl
            · omega
          refine ⟨by rw [Lib.itoa_neg _ h1, hback (Or.inr h48)], ?_⟩
          unfold numR
          rw [if_neg]
          · rfl
          · rintro (h | ⟨h, _⟩ | ⟨h, _⟩ | ⟨_, h⟩)
            · have := big20 d hd h h48; omega
            · exact h48 h
            · cases h
            · exact hb h
end Go.Proofs.YtagjemdoefldaaaDoor
