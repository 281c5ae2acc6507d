/- Plain facts on the order of values: the other way round; over a third one. -/
import Derived.Test.YticbcoklpgfkhaaK1
import Derived.Test.YticbcoklpgfkhaaCmp
namespace Go.Proofs.Yticbcoklpgfkhaa
open Go.RowKit

/-- Over a third one. -/
def T3 (x z y : Int) : Prop := (x ≤ 0 → z ≤ 0 → y ≤ 0) ∧ (x < 0 → z ≤ 0 → y < 0) ∧ (x ≤ 0 → z < 0 → y < 0) ∧ (x = 0 → z = 0 → y = 0)

theorem T3_int (a b c : Int) : T3 (Lib.compareInt a b) (Lib.compareInt b c) (Lib.compareInt a c) := by
  unfold Lib.compareInt
  refine ⟨?_, ?_, ?_, ?_⟩ <;> (intro h1 h2; repeat' split) <;> first | omega | (simp_all; omega)
theorem anti_int (a b : Int) : Lib.compareInt b a = - Lib.compareInt a b := by
  unfold Lib.compareInt
  repeat' split
  all_goals omega

theorem T3_str (a b c : ByteArray) : T3 (cmpS a b) (cmpS b c) (cmpS a c) := by
  have le : ∀ l m k : List UInt8, Lib.compareBytes l m ≤ 0 → Lib.compareBytes m k ≤ 0 → Lib.compareBytes l k = 0 → Lib.compareBytes l m = 0 ∧ Lib.compareBytes m k = 0 := by
    intro l m k h1 h2 h3
    have e := cmp_zero l k h3
    subst e
    have a1 := cmp_anti l m
    omega
  unfold cmpS
  have t := cmp_trans a.data.toList b.data.toList c.data.toList
  have l := le a.data.toList b.data.toList c.data.toList
  refine ⟨t, fun h1 h2 => ?_, fun h1 h2 => ?_, fun h1 h2 => ?_⟩
  · have h3 := t (by omega) h2
    rcases Int.lt_or_eq_of_le h3 with h | h
    · exact h
    · have := l (by omega) h2 h; omega
  · have h3 := t h1 (by omega)
    rcases Int.lt_or_eq_of_le h3 with h | h
    · exact h
    · have := l h1 (by omega) h; omega
  · have e1 := cmp_zero _ _ h1
    rw [e1]
    exact h2
theorem anti_str (a b : ByteArray) : cmpS b a = - cmpS a b := cmp_anti _ _

theorem T3_or {x1 z1 y1 x2 z2 y2 : Int} (h1 : T3 x1 z1 y1) (h2 : x1 = 0 → z1 = 0 → T3 x2 z2 y2) : T3 (orElse x1 x2) (orElse z1 z2) (orElse y1 y2) := by
  obtain ⟨a1, a2, a3, a4⟩ := h1
  by_cases hx : x1 = 0
  · by_cases hz : z1 = 0
    · have hy := a4 hx hz
      simp only [orElse, hx, hz, hy, if_true]
      exact h2 hx hz
    · simp only [orElse, hx, hz, if_true, if_false]
      refine ⟨fun _ h => ?_, fun _ h => ?_, fun _ h => ?_, fun _ h => absurd h hz⟩
      all_goals
        have := a3 (by omega) (by omega)
        rw [if_neg (by omega)]
        omega
  · simp only [orElse, hx, if_false]
    refine ⟨fun h1 h2 => ?_, fun h1 h2 => ?_, fun h1 h2 => ?_, fun h => absurd h hx⟩
    all_goals
      have hz : z1 ≤ 0 := by
        by_cases hz : z1 = 0
        · omega
        · rw [if_neg hz] at h2; omega
      have := a2 (by omega) hz
      rw [if_neg (by omega)]
      omega

/-- The first that differs, or none. -/
theorem lex_cases (c : Nat → Int) (n1 n2 : Nat) : (∃ i, i < n1 ∧ i < n2 ∧ (∀ j, j < i → c j = 0) ∧ c i ≠ 0 ∧ lex c n1 n2 = c i) ∨ ((∀ j, j < min n1 n2 → c j = 0) ∧ lex c n1 n2 = Lib.compareInt n1 n2) := by
  by_cases h : ∀ j, j < min n1 n2 → c j = 0
  · exact Or.inr ⟨h, lex_end h⟩
  · left
    have h' : ∃ j, j < min n1 n2 ∧ c j ≠ 0 := by
      refine Classical.byContradiction fun hn => h fun j hj => Classical.byContradiction fun hc => hn ⟨j, hj, hc⟩
    have hex : ∃ j, (j < min n1 n2 ∧ c j ≠ 0) ∧ ∀ i, i < j → ¬ (i < min n1 n2 ∧ c i ≠ 0) := by
      obtain ⟨j, hj⟩ := h'
      induction j using Nat.strongRecOn with
      | ind j ih =>
        by_cases hk : ∃ i, i < j ∧ i < min n1 n2 ∧ c i ≠ 0
        · obtain ⟨i, hi, hi2⟩ := hk
          exact ih i hi hi2
        · exact ⟨j, hj, fun i hi hc => hk ⟨i, hi, hc⟩⟩
    obtain ⟨j, ⟨hj, hc⟩, hmin⟩ := hex
    have hz : ∀ i, i < j → c i = 0 := fun i hi => Classical.byContradiction fun h0 => hmin i hi ⟨by omega, h0⟩
    exact ⟨j, by omega, by omega, hz, hc, lex_at hz hc (by omega) (by omega)⟩

theorem lex_anti {c c' : Nat → Int} {n1 n2 : Nat} (h : ∀ i, i < n1 → i < n2 → c' i = - c i) : lex c' n2 n1 = - lex c n1 n2 := by
  rcases lex_cases c n1 n2 with ⟨i, h1, h2, hz, hc, e⟩ | ⟨hz, e⟩
  · rw [e, lex_at (c := c') (j := i) (fun j hj => by rw [h j (by omega) (by omega), hz j hj]; rfl) (by rw [h i h1 h2]; omega) h2 h1, h i h1 h2]
  · rw [e, lex_end (c := c') (fun j hj => by rw [h j (by omega) (by omega), hz j (by omega)]; rfl), anti_int]

theorem compareInt_nat (a b : Nat) : (Lib.compareInt a b ≤ 0 ↔ a ≤ b) ∧ (Lib.compareInt a b < 0 ↔ a < b) ∧ (Lib.compareInt a b = 0 ↔ a = b) := by
  unfold Lib.compareInt
  refine ⟨?_, ?_, ?_⟩ <;> (repeat' split) <;> omega

theorem T3_lex {ca cb cc : Nat → Int} {n1 n2 n3 : Nat} (h : ∀ i, i < n1 → i < n2 → i < n3 → T3 (ca i) (cb i) (cc i)) : T3 (lex ca n1 n2) (lex cb n2 n3) (lex cc n1 n3) := by
  have key : lex ca n1 n2 ≤ 0 → lex cb n2 n3 ≤ 0 → lex cc n1 n3 ≤ 0 ∧ (lex ca n1 n2 < 0 ∨ lex cb n2 n3 < 0 → lex cc n1 n3 < 0) ∧ (lex ca n1 n2 = 0 → lex cb n2 n3 = 0 → lex cc n1 n3 = 0) := by
    intro hX hZ
    rcases lex_cases ca n1 n2 with ⟨p, p1, p2, pz, pc, pe⟩ | ⟨pz, pe⟩ <;> rcases lex_cases cb n2 n3 with ⟨q, q1, q2, qz, qc, qe⟩ | ⟨qz, qe⟩
    · rw [pe] at hX ⊢
      rw [qe] at hZ ⊢
      have hm : lex cc n1 n3 < 0 := by
        rcases Nat.lt_trichotomy p q with h1 | h1 | h1
        · have t := h p p1 p2 (by omega)
          have := t.2.1 (by omega) (by rw [qz p h1]; omega)
          rw [lex_at (c := cc) (j := p) (fun j hj => (h j (by omega) (by omega) (by omega)).2.2.2 (pz j hj) (qz j (by omega))) (by omega) p1 (by omega)]
          exact this
        · subst h1
          have t := h p p1 p2 q2
          have := t.2.1 (by omega) hZ
          rw [lex_at (c := cc) (j := p) (fun j hj => (h j (by omega) (by omega) (by omega)).2.2.2 (pz j hj) (qz j hj)) (by omega) p1 q2]
          exact this
        · have t := h q (by omega) q1 q2
          have := t.2.2.1 (by rw [pz q h1]; omega) (by omega)
          rw [lex_at (c := cc) (j := q) (fun j hj => (h j (by omega) (by omega) (by omega)).2.2.2 (pz j (by omega)) (qz j hj)) (by omega) (by omega) q2]
          exact this
      exact ⟨by omega, fun _ => hm, fun h0 => absurd h0 pc⟩
    · rw [pe] at hX ⊢
      rw [qe] at hZ ⊢
      have h23 := (compareInt_nat n2 n3).1.1 hZ
      have hm : lex cc n1 n3 < 0 := by
        have t := h p p1 p2 (by omega)
        have := t.2.1 (by omega) (by rw [qz p (by omega)]; omega)
        rw [lex_at (c := cc) (j := p) (fun j hj => (h j (by omega) (by omega) (by omega)).2.2.2 (pz j hj) (qz j (by omega))) (by omega) p1 (by omega)]
        exact this
      exact ⟨by omega, fun _ => hm, fun h0 => absurd h0 pc⟩
    · rw [pe] at hX ⊢
      rw [qe] at hZ ⊢
      have h12 := (compareInt_nat n1 n2).1.1 hX
      have hm : lex cc n1 n3 < 0 := by
        by_cases hq : q < n1
        · have t := h q hq q1 q2
          have := t.2.2.1 (by rw [pz q (by omega)]; omega) (by omega)
          rw [lex_at (c := cc) (j := q) (fun j hj => (h j (by omega) (by omega) (by omega)).2.2.2 (pz j (by omega)) (qz j hj)) (by omega) hq q2]
          exact this
        · rw [lex_end (c := cc) (fun j hj => (h j (by omega) (by omega) (by omega)).2.2.2 (pz j (by omega)) (qz j (by omega)))]
          exact (compareInt_nat n1 n3).2.1.2 (by omega)
      exact ⟨by omega, fun _ => hm, fun _ h0 => absurd h0 qc⟩
    · rw [pe] at hX ⊢
      rw [qe] at hZ ⊢
      have h12 := (compareInt_nat n1 n2).1.1 hX
      have h23 := (compareInt_nat n2 n3).1.1 hZ
      rw [lex_end (c := cc) (fun j hj => (h j (by omega) (by omega) (by omega)).2.2.2 (pz j (by omega)) (qz j (by omega)))]
      refine ⟨(compareInt_nat n1 n3).1.2 (by omega), fun hh => (compareInt_nat n1 n3).2.1.2 ?_, fun h0 h1 => (compareInt_nat n1 n3).2.2.2 ?_⟩
      · rcases hh with hh | hh
        · have := (compareInt_nat n1 n2).2.1.1 hh; omega
        · have := (compareInt_nat n2 n3).2.1.1 hh; omega
      · have := (compareInt_nat n1 n2).2.2.1 h0
        have := (compareInt_nat n2 n3).2.2.1 h1
        omega
  refine ⟨fun h1 h2 => (key h1 h2).1, fun h1 h2 => (key (by omega) h2).2.1 (Or.inl h1), fun h1 h2 => (key h1 (by omega)).2.1 (Or.inr h2), fun h1 h2 => (key (by omega) (by omega)).2.2 h1 h2⟩
end Go.Proofs.Yticbcoklpgfkhaa
