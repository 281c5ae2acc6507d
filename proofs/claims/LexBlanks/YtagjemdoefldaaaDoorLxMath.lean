/- What follows from what Lex tells: tokens from a place on, tokens of two texts. No program. -/
import Derived.Test.YtagjemdoefldaaaDoorLxMem
namespace Go.Proofs.YtagjemdoefldaaaDoor
open Go.RowKit

/-- The tokens of a text from a place on. -/
def lxs (l : List UInt8) (p : Nat) (m : Bool) : List Tok × Nat × Int := lx l p m []

/-- What was read ahead, put ahead. -/
def joinR (acc : List Tok) (r : List Tok × Nat × Int) : List Tok × Nat × Int := if r.2.2 = 0 then (acc ++ r.1, r.2) else r

theorem tok_bad_ne (l : List UInt8) (m : Bool) (E : Int) (h : tokR l m = .bad E) : E ≠ 0 := by
  rcases tok_bad l m E h with rfl | rfl | rfl <;> decide

theorem lx_acc : ∀ (n : Nat) (l : List UInt8) (p : Nat) (m : Bool) (acc : List Tok), l.length ≤ n → lx l p m acc = joinR acc (lxs l p m) := by
  intro n
  induction n with
  | zero =>
    intro l p m acc h
    have : l = [] := List.eq_nil_of_length_eq_zero (by omega)
    subst this
    simp [lxs, lx_nil, joinR]
  | succ n ih =>
    intro l p m acc h
    cases l with
    | nil => simp [lxs, lx_nil, joinR]
    | cons c t =>
      simp only [List.length_cons] at h
      unfold lxs
      cases hb : isB c
      · cases ht : tokR (c :: t) m with
        | bad e =>
          rw [lx_bad _ _ _ _ _ _ hb ht, lx_bad _ _ _ _ _ _ hb ht, joinR, if_neg (tok_bad_ne _ _ _ ht)]
        | tok x k =>
          obtain ⟨h1, h2, _⟩ := tok_n _ _ _ _ ht
          simp only [List.length_cons] at h2
          have hl : ((c :: t).drop k).length ≤ n := by rw [List.length_drop, List.length_cons]; omega
          have e1 := ih ((c :: t).drop k) (p + k) (decide (x.k = 1 ∨ x.k = 2)) (acc ++ [⟨x.k, x.s, x.n, p⟩]) hl
          have e2 := ih ((c :: t).drop k) (p + k) (decide (x.k = 1 ∨ x.k = 2)) ([] ++ [⟨x.k, x.s, x.n, p⟩]) hl
          rw [lx_tok _ _ _ _ _ _ _ hb ht, lx_tok _ _ _ _ _ _ _ hb ht, e1, e2]
          unfold joinR
          by_cases he : (lxs ((c :: t).drop k) (p + k) (decide (x.k = 1 ∨ x.k = 2))).2.2 = 0
          · rw [if_pos he, if_pos he, if_pos he]
            simp
          · rw [if_neg he, if_neg he, if_neg he]
      · rw [lx_blank _ _ _ _ _ hb, lx_blank _ _ _ _ _ hb]
        exact ih t _ _ _ (by omega)

theorem lxs_nil (p : Nat) (m : Bool) : lxs [] p m = ([⟨0, [], 0, p⟩], 0, 0) := rfl
theorem lxs_blank (c : UInt8) (t : List UInt8) (p : Nat) (m : Bool) (h : isB c = true) : lxs (c :: t) p m = lxs t (p + 1) false := lx_blank _ _ _ _ _ h
theorem lxs_bad (c : UInt8) (t : List UInt8) (p : Nat) (m : Bool) (e : Int) (h : isB c = false) (ht : tokR (c :: t) m = .bad e) : lxs (c :: t) p m = ([], p, e) := lx_bad _ _ _ _ _ _ h ht
theorem lxs_tok (c : UInt8) (t : List UInt8) (p : Nat) (m : Bool) (x : Tok) (n : Nat) (h : isB c = false) (ht : tokR (c :: t) m = .tok x n) : lxs (c :: t) p m = joinR [⟨x.k, x.s, x.n, p⟩] (lxs ((c :: t).drop n) (p + n) (decide (x.k = 1 ∨ x.k = 2))) := by
  unfold lxs
  rw [lx_tok _ _ _ _ _ _ _ h ht, List.nil_append]
  exact lx_acc _ _ _ _ _ (Nat.le_refl _)

def shiftT (d : Nat) (x : Tok) : Tok := ⟨x.k, x.s, x.n, x.p + d⟩
def shiftR (d : Nat) (r : List Tok × Nat × Int) : List Tok × Nat × Int := if r.2.2 = 0 then (r.1.map (shiftT d), r.2) else (r.1.map (shiftT d), r.2.1 + d, r.2.2)

theorem lxs_ok_at : ∀ (n : Nat) (l : List UInt8) (p : Nat) (m : Bool), l.length ≤ n → (lxs l p m).2.2 = 0 → (lxs l p m).2.1 = 0 := by
  intro n
  induction n with
  | zero =>
    intro l p m h _
    have : l = [] := List.eq_nil_of_length_eq_zero (by omega)
    subst this
    rfl
  | succ n ih =>
    intro l p m h he
    cases l with
    | nil => rfl
    | cons c t =>
      simp only [List.length_cons] at h
      cases hb : isB c
      · cases ht : tokR (c :: t) m with
        | bad e =>
          rw [lxs_bad _ _ _ _ _ hb ht] at he
          exact absurd he (tok_bad_ne _ _ _ ht)
        | tok x k =>
          obtain ⟨h1, h2, _⟩ := tok_n _ _ _ _ ht
          simp only [List.length_cons] at h2
          rw [lxs_tok _ _ _ _ _ _ hb ht] at he ⊢
          unfold joinR at he ⊢
          by_cases he2 : (lxs ((c :: t).drop k) (p + k) (decide (x.k = 1 ∨ x.k = 2))).2.2 = 0
          · rw [if_pos he2] at he ⊢
            exact ih _ _ _ (by rw [List.length_drop, List.length_cons]; omega) he2
          · rw [if_neg he2] at he
            exact absurd he he2
      · rw [lxs_blank _ _ _ _ hb] at he ⊢
        exact ih t _ _ (by omega) he

theorem lxs_shift : ∀ (n : Nat) (l : List UInt8) (p d : Nat) (m : Bool), l.length ≤ n → lxs l (p + d) m = shiftR d (lxs l p m) := by
  intro n
  induction n with
  | zero =>
    intro l p d m h
    have : l = [] := List.eq_nil_of_length_eq_zero (by omega)
    subst this
    rfl
  | succ n ih =>
    intro l p d m h
    cases l with
    | nil => rfl
    | cons c t =>
      simp only [List.length_cons] at h
      cases hb : isB c
      · cases ht : tokR (c :: t) m with
        | bad e =>
          rw [lxs_bad _ _ _ _ _ hb ht, lxs_bad _ _ _ _ _ hb ht, shiftR, if_neg (tok_bad_ne _ _ _ ht)]
          rfl
        | tok x k =>
          obtain ⟨h1, h2, _⟩ := tok_n _ _ _ _ ht
          simp only [List.length_cons] at h2
          rw [lxs_tok _ _ _ _ _ _ hb ht, lxs_tok _ _ _ _ _ _ hb ht, show p + d + k = p + k + d by omega, ih _ (p + k) d _ (by rw [List.length_drop, List.length_cons]; omega)]
          unfold joinR shiftR
          by_cases he : (lxs ((c :: t).drop k) (p + k) (decide (x.k = 1 ∨ x.k = 2))).2.2 = 0
          · simp only [he, if_true]
            simp [shiftT]
          · simp only [he, if_false]
      · rw [lxs_blank _ _ _ _ hb, lxs_blank _ _ _ _ hb, show p + d + 1 = p + 1 + d by omega]
        exact ih t _ _ _ (by omega)

/-- A token that is told behind a word is told by itself, too. -/
theorem tok_free (l : List UInt8) (m : Bool) (x : Tok) (n : Nat) (h : tokR l m = .tok x n) : tokR l false = .tok x n := by
  cases m
  · exact h
  · cases l with
    | nil => cases h
    | cons c t =>
      rw [tokR_cons] at h ⊢
      split at h
      · rw [if_pos rfl] at h; cases h
      · rename_i hL
        rw [if_neg hL]
        split at h
        · split at h
          · cases h
          · rw [if_pos rfl] at h; cases h
        · rename_i hD
          rw [if_neg hD]
          exact h

/-- Each token stands where it is said to. -/
theorem parts_at : ∀ (n : Nat) (l : List UInt8) (p : Nat) (m : Bool) (T : List Tok), l.length ≤ n → lxs l p m = (T, 0, 0) →
    T ≠ [] ∧ (∀ (i : Nat) (h : i < T.length), ∃ q, (T[i]'h).p = p + q ∧ q ≤ l.length ∧ lxs (l.drop q) (p + q) false = (T.drop i, 0, 0)) ∧ (∀ (i : Nat) (h : i + 1 < T.length), (T[i]'(by omega)).p < (T[i + 1]'h).p) ∧ (∀ h : T ≠ [], (T.getLast h).p = p + l.length) := by
  intro n
  induction n with
  | zero =>
    intro l p m T h hT
    have : l = [] := List.eq_nil_of_length_eq_zero (by omega)
    subst this
    rw [lxs_nil] at hT
    injection hT with hT _
    subst hT
    refine ⟨by simp, ?_, ?_, ?_⟩
    · intro i hi
      have : i = 0 := by simpa using hi
      subst this
      exact ⟨0, rfl, Nat.le_refl _, rfl⟩
    · intro i hi; simp at hi
    · intro _; rfl
  | succ n ih =>
    intro l p m T h hT
    cases l with
    | nil =>
      rw [lxs_nil] at hT
      injection hT with hT _
      subst hT
      refine ⟨by simp, ?_, ?_, ?_⟩
      · intro i hi
        have : i = 0 := by simpa using hi
        subst this
        exact ⟨0, rfl, Nat.le_refl _, rfl⟩
      · intro i hi; simp at hi
      · intro _; rfl
    | cons c t =>
      simp only [List.length_cons] at h
      cases hb : isB c
      · cases ht : tokR (c :: t) m with
        | bad e =>
          rw [lxs_bad _ _ _ _ _ hb ht] at hT
          injection hT with _ hT
          injection hT with _ hT
          exact absurd hT (tok_bad_ne _ _ _ ht)
        | tok x k =>
          obtain ⟨h1, h2, _⟩ := tok_n _ _ _ _ ht
          simp only [List.length_cons] at h2
          have hfree := tok_free _ _ _ _ ht
          have hT0 := hT
          rw [lxs_tok _ _ _ _ _ _ hb ht] at hT
          unfold joinR at hT
          have hl : ((c :: t).drop k).length ≤ n := by rw [List.length_drop, List.length_cons]; omega
          by_cases he : (lxs ((c :: t).drop k) (p + k) (decide (x.k = 1 ∨ x.k = 2))).2.2 = 0
          · rw [if_pos he] at hT
            have hat := lxs_ok_at _ _ _ _ (Nat.le_refl _) he
            generalize hr : lxs ((c :: t).drop k) (p + k) (decide (x.k = 1 ∨ x.k = 2)) = r at hT he hat
            obtain ⟨T', q0, e0⟩ := r
            simp only at he hat
            subst he hat
            injection hT with hT _
            subst hT
            obtain ⟨i0, i1, i2, i3⟩ := ih _ _ _ _ hl hr
            refine ⟨by simp, ?_, ?_, ?_⟩
            · intro i hi
              cases i with
              | zero =>
                refine ⟨0, rfl, by omega, ?_⟩
                rw [List.drop_zero, Nat.add_zero, lxs_tok _ _ _ _ _ _ hb hfree, hr]
                rfl
              | succ i =>
                obtain ⟨q, a1, a2, a3⟩ := i1 i (by simpa using hi)
                rw [List.length_drop, List.length_cons] at a2
                refine ⟨k + q, ?_, ?_, ?_⟩
                · show (T'[i]'_).p = _
                  rw [a1]; omega
                · rw [List.length_cons]; omega
                · rw [← List.drop_drop, show p + (k + q) = p + k + q by omega]
                  exact a3
            · intro i hi
              cases i with
              | zero =>
                show p < (T'[0]'_).p
                obtain ⟨q, a1, _⟩ := i1 0 (by simpa using hi)
                rw [a1]; omega
              | succ i => exact i2 i (by simpa using hi)
            · intro hne
              show (List.getLast (_ :: T') _).p = _
              rw [List.getLast_cons i0, i3 i0, List.length_drop, List.length_cons]
              omega
          · rw [if_neg he] at hT
            rw [hT] at he
            exact absurd rfl he
      · rw [lxs_blank _ _ _ _ hb] at hT
        obtain ⟨i0, i1, i2, i3⟩ := ih t (p + 1) false T (by omega) hT
        refine ⟨i0, ?_, i2, ?_⟩
        · intro i hi
          obtain ⟨q, a1, a2, a3⟩ := i1 i hi
          refine ⟨q + 1, by rw [a1]; omega, by rw [List.length_cons]; omega, ?_⟩
          rw [show p + (q + 1) = p + 1 + q by omega]
          exact a3
        · intro hne
          rw [i3 hne, List.length_cons]
          omega

theorem lexR_lxs (l : List UInt8) (h : l.length ≤ 8192) : lexR l = lxs l 0 false := by
  unfold lexR
  rw [if_neg (by omega)]
  rfl
theorem lx_len : ∀ (f : Nat) (l : List UInt8) (p : Nat) (m : Bool) (acc : List Tok), l.length ≤ f → (lexF f l p m acc).1.length ≤ acc.length + l.length + 1 := by
  intro f
  induction f with
  | zero => intro l p m acc h; simp only [lexF, List.length_append, List.length_singleton]; omega
  | succ f ih =>
    intro l p m acc h
    cases l with
    | nil => simp only [lexF, List.length_append, List.length_singleton, List.length_nil]; omega
    | cons c t =>
      simp only [List.length_cons] at h
      unfold lexF
      split
      · have := ih t (p + 1) false acc (by omega)
        simp only [List.length_cons]
        omega
      · cases htk : tokR (c :: t) m with
        | bad e => simp
        | tok x n =>
          obtain ⟨h1, h2, _⟩ := tok_n _ _ _ _ htk
          simp only [List.length_cons] at h2
          have := ih ((c :: t).drop n) (p + n) (decide (x.k = 1 ∨ x.k = 2)) (acc ++ [⟨x.k, x.s, x.n, p⟩]) (by rw [List.length_drop, List.length_cons]; omega)
          rw [List.length_drop, List.length_append, List.length_singleton, List.length_cons] at this
          simp only [List.length_cons]
          omega

theorem lexR_len (l : List UInt8) : (lexR l).1.length ≤ 8193 := by
  unfold lexR
  split
  · simp
  · have := lx_len l.length l 0 false [] (Nat.le_refl _)
    unfold lx
    simp only [List.length_nil] at this
    omega
end Go.Proofs.YtagjemdoefldaaaDoor
