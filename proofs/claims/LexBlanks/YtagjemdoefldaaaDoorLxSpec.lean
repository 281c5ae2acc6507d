/- What Lex tells of a text: its tokens, or the first fault and where. Plain functions. No program. -/
import Derived.Test.YtagjemdoefldaaaDoorLxNum
namespace Go.Proofs.YtagjemdoefldaaaDoor
open Go.RowKit

/-- A token: its kind, its text, its number, its place. -/
structure Tok where
  k : Int
  s : List UInt8
  n : Int
  p : Nat

def Tok.cells (t : Tok) : List Value := [.int .i64 t.k, .string ⟨t.s.toArray⟩, .int .i64 t.n, .int .i64 t.p]

/-- How many bytes the longest sign has with which a text begins. -/
def signN : List UInt8 → Nat
  | [] => 0
  | c :: t => if (c = 33 ∨ c = 60 ∨ c = 62) ∧ t.head? = some 61 then 2 else if c = 123 ∨ c = 125 ∨ c = 91 ∨ c = 93 ∨ c = 40 ∨ c = 41 ∨ c = 44 ∨ c = 58 ∨ c = 46 ∨ c = 61 ∨ c = 60 ∨ c = 62 then 1 else 0

/-- What stands behind a quote: the text that it stands for, and the error. -/
def quotR (t : List UInt8) : List UInt8 × Int := uq ⟨(t.take (sizeQ t)).toArray⟩ []

def lenW (l : List UInt8) : Nat := (l.takeWhile isW).length
def lenD (l : List UInt8) : Nat := (l.takeWhile isD).length

inductive TokR where
  | bad (e : Int)
  | tok (t : Tok) (n : Nat)

/-- The token with which a text begins, whose first byte is no blank. -/
def tokR (l : List UInt8) (miss : Bool) : TokR :=
  match l with
  | [] => .bad 14
  | c :: t =>
    if isL c = true then (if miss = true then .bad 14 else .tok ⟨1, (c :: t).take (lenW (c :: t)), 0, 0⟩ (lenW (c :: t)))
    else if isD c = true ∨ c = 45 then
      if c = 45 ∧ lenD t = 0 then .bad 14
      else if miss = true then .bad 14
      else match numR (decide (c = 45)) (if c = 45 then t.take (lenD t) else c :: t.take (lenD t)) with
        | none => .bad 12
        | some v => .tok ⟨2, [], v, 0⟩ (1 + lenD t)
    else if c = 34 then
      if (quotR t).2 = 0 then .tok ⟨3, (quotR t).1, 0, 0⟩ (1 + sizeQ t) else if (quotR t).2 = 4 then .bad 14 else .bad (quotR t).2
    else if signN (c :: t) = 0 then .bad 14 else .tok ⟨4, (c :: t).take (signN (c :: t)), 0, 0⟩ (signN (c :: t))

def lexF : Nat → List UInt8 → Nat → Bool → List Tok → List Tok × Nat × Int
  | 0, _, p, _, acc => (acc ++ [⟨0, [], 0, p⟩], 0, 0)
  | _ + 1, [], p, _, acc => (acc ++ [⟨0, [], 0, p⟩], 0, 0)
  | f + 1, c :: t, p, m, acc =>
    if isB c = true then lexF f t (p + 1) false acc
    else match tokR (c :: t) m with
      | .bad e => ([], p, e)
      | .tok x n => lexF f ((c :: t).drop n) (p + n) (decide (x.k = 1 ∨ x.k = 2)) (acc ++ [⟨x.k, x.s, x.n, p⟩])

def lx (l : List UInt8) (p : Nat) (m : Bool) (acc : List Tok) : List Tok × Nat × Int := lexF l.length l p m acc

/-- Lex. -/
def lexR (s : List UInt8) : List Tok × Nat × Int := if 8192 < s.length then ([], 0, 2) else lx s 0 false []

theorem tw_len (f : UInt8 → Bool) (l : List UInt8) : (l.takeWhile f).length ≤ l.length ∧ l.take (l.takeWhile f).length = l.takeWhile f := by
  induction l with
  | nil => simp
  | cons c l ih =>
    rw [List.takeWhile_cons]
    split
    · simp only [List.length_cons, List.take_succ_cons, ih.2, and_true]
      omega
    · simp

theorem signN_cons (c : UInt8) (t : List UInt8) : signN (c :: t) = if (c = 33 ∨ c = 60 ∨ c = 62) ∧ t.head? = some 61 then 2 else if c = 123 ∨ c = 125 ∨ c = 91 ∨ c = 93 ∨ c = 40 ∨ c = 41 ∨ c = 44 ∨ c = 58 ∨ c = 46 ∨ c = 61 ∨ c = 60 ∨ c = 62 then 1 else 0 := rfl

theorem signN_le (l : List UInt8) : signN l ≤ l.length := by
  cases l with
  | nil => simp [signN]
  | cons c t =>
    rw [signN_cons]
    split
    · rename_i h
      cases t with
      | nil => simp at h
      | cons d t => simp
    · split
      · simp
      · simp

theorem tok_n (l : List UInt8) (m : Bool) (x : Tok) (n : Nat) (h : tokR l m = .tok x n) : 1 ≤ n ∧ n ≤ l.length ∧ (x.k = 1 ∨ x.k = 2 ∨ x.k = 3 ∨ x.k = 4) := by
  cases l with
  | nil => simp [tokR] at h
  | cons c t =>
    simp only [tokR] at h
    split at h
    · rename_i hc
      split at h
      · simp at h
      · injection h with h1 h2
        subst h1 h2
        have := (tw_len isW (c :: t)).1
        refine ⟨?_, this, Or.inl rfl⟩
        unfold lenW
        rw [List.takeWhile_cons, if_pos (by unfold isW; rw [hc]; rfl)]
        simp
    · split at h
      · split at h
        · simp at h
        · split at h
          · simp at h
          · split at h
            · simp at h
            · injection h with h1 h2
              subst h1 h2
              have := (tw_len isD t).1
              refine ⟨by omega, ?_, Or.inr (Or.inl rfl)⟩
              unfold lenD
              simp only [List.length_cons]
              omega
      · split at h
        · split at h
          · injection h with h1 h2
            subst h1 h2
            have := sizeQ_le t
            exact ⟨by omega, by simp only [List.length_cons]; omega, Or.inr (Or.inr (Or.inl rfl))⟩
          · split at h
            · simp at h
            · simp at h
        · split at h
          · simp at h
          · injection h with h1 h2
            subst h1 h2
            exact ⟨by omega, signN_le _, Or.inr (Or.inr (Or.inr rfl))⟩

theorem lexF_fuel : ∀ (f g : Nat) (l : List UInt8) (p : Nat) (m : Bool) (acc : List Tok), l.length ≤ f → l.length ≤ g → lexF f l p m acc = lexF g l p m acc := by
  intro f
  induction f with
  | zero =>
    intro g l p m acc hf _
    have : l = [] := List.eq_nil_of_length_eq_zero (by omega)
    subst this
    cases g <;> rfl
  | succ f ih =>
    intro g l p m acc hf hg
    cases l with
    | nil => cases g <;> rfl
    | cons c t =>
      cases g with
      | zero => simp at hg
      | succ g =>
        simp only [List.length_cons] at hf hg
        unfold lexF
        split
        · exact ih g t _ _ _ (by omega) (by omega)
        · cases h : tokR (c :: t) m with
          | bad e => rfl
          | tok x n =>
            obtain ⟨h1, h2, _⟩ := tok_n _ _ _ _ h
            exact ih g _ _ _ _ (by rw [List.length_drop, List.length_cons]; omega) (by rw [List.length_drop, List.length_cons]; omega)

theorem lx_nil (p : Nat) (m : Bool) (acc : List Tok) : lx [] p m acc = (acc ++ [⟨0, [], 0, p⟩], 0, 0) := rfl

theorem lx_blank (c : UInt8) (t : List UInt8) (p : Nat) (m : Bool) (acc : List Tok) (h : isB c = true) : lx (c :: t) p m acc = lx t (p + 1) false acc := by
  show lexF (t.length + 1) (c :: t) p m acc = _
  unfold lexF
  rw [if_pos h]
  rfl

theorem lx_bad (c : UInt8) (t : List UInt8) (p : Nat) (m : Bool) (acc : List Tok) (e : Int) (h : isB c = false) (ht : tokR (c :: t) m = .bad e) : lx (c :: t) p m acc = ([], p, e) := by
  show lexF (t.length + 1) (c :: t) p m acc = _
  unfold lexF
  rw [if_neg (by rw [h]; decide), ht]

theorem lx_tok (c : UInt8) (t : List UInt8) (p : Nat) (m : Bool) (acc : List Tok) (x : Tok) (n : Nat) (h : isB c = false) (ht : tokR (c :: t) m = .tok x n) : lx (c :: t) p m acc = lx ((c :: t).drop n) (p + n) (decide (x.k = 1 ∨ x.k = 2)) (acc ++ [⟨x.k, x.s, x.n, p⟩]) := by
  obtain ⟨h1, h2, _⟩ := tok_n _ _ _ _ ht
  show lexF (t.length + 1) (c :: t) p m acc = _
  unfold lexF
  rw [if_neg (by rw [h]; decide), ht]
  exact lexF_fuel _ _ _ _ _ _ (by rw [List.length_drop, List.length_cons]; omega) (Nat.le_refl _)

/-- What is told of a quoted text: no error, or one of two. -/
theorem uBody_err (R : ByteArray → List UInt8 → List UInt8 × Int) (hR : ∀ v a, (R v a).2 = 0 ∨ R v a = ([], 4) ∨ R v a = ([], 11)) (u : ByteArray) (acc : List UInt8) : (uBody R u acc).2 = 0 ∨ uBody R u acc = ([], 4) ∨ uBody R u acc = ([], 11) := by
  unfold uBody
  split
  · exact Or.inl rfl
  · split
    · split
      · split
        · exact hR _ _
        · split
          · exact Or.inr (Or.inr rfl)
          · exact hR _ _
      · split
        · exact hR _ _
        · exact Or.inr (Or.inl rfl)
    · split
      · exact Or.inr (Or.inr rfl)
      · exact Or.inr (Or.inl rfl)

theorem unq_err : ∀ (f : Nat) (t : ByteArray) (acc : List UInt8), (unqFrom uRC uOkC f t acc).2 = 0 ∨ unqFrom uRC uOkC f t acc = ([], 4) ∨ unqFrom uRC uOkC f t acc = ([], 11) := by
  intro f
  induction f with
  | zero => intro t acc; exact Or.inr (Or.inl rfl)
  | succ f ih => intro t acc; rw [unqFrom_succ]; exact uBody_err _ ih _ _

theorem quotR_err (t : List UInt8) : (quotR t).2 = 0 ∨ quotR t = ([], 4) ∨ quotR t = ([], 11) := unq_err _ _ _

theorem drop_last (l : List UInt8) (k : Nat) (c : UInt8) (h : (l.drop k).getLast? = some c) : l.getLast? = some c := by
  by_cases hk : k < l.length
  · rw [List.getLast?_drop, if_neg (by omega)] at h
    exact h
  · rw [List.drop_eq_nil_of_le (by omega)] at h
    simp at h

theorem ext_last (u : ByteArray) (k : Nat) (c : UInt8) (h : (u.extract k u.size).data.toList.getLast? = some c) : u.data.toList.getLast? = some c := by
  rw [extract_tail] at h
  exact drop_last _ k c h

/-- What is read without an error ends with a quote. -/
theorem uBody_last (R : ByteArray → List UInt8 → List UInt8 × Int) (hR : ∀ v a, (R v a).2 = 0 → v.data.toList.getLast? = some 34) (u : ByteArray) (acc : List UInt8) (h : (uBody R u acc).2 = 0) : u.data.toList.getLast? = some 34 := by
  unfold uBody at h
  split at h
  · rename_i hE
    unfold endB at hE
    rw [ByteArray.toList_eq] at hE
    rw [eq_of_beq hE]
    rfl
  · split at h
    · split at h
      · split at h
        · exact ext_last _ _ _ (hR _ _ h)
        · split at h
          · cases h
          · exact ext_last _ _ _ (ext_last _ _ _ (hR _ _ h))
      · split at h
        · exact ext_last _ _ _ (hR _ _ h)
        · cases h
    · split at h
      · cases h
      · cases h

theorem unq_last : ∀ (f : Nat) (t : ByteArray) (acc : List UInt8), (unqFrom uRC uOkC f t acc).2 = 0 → t.data.toList.getLast? = some 34 := by
  intro f
  induction f with
  | zero => intro t acc h; cases h
  | succ f ih =>
    intro t acc h
    rw [unqFrom_succ] at h
    exact ext_last _ _ _ (uBody_last _ ih _ _ h)

theorem quotR_last (t : List UInt8) (h : (quotR t).2 = 0) : (t.take (sizeQ t)).getLast? = some 34 := unq_last _ _ _ h

theorem last_get (l : List UInt8) (n : Nat) (c : UInt8) (hn : n ≤ l.length) (h : (l.take n).getLast? = some c) : 1 ≤ n ∧ l.getD (n - 1) 0 = c := by
  have hl : (l.take n).length = n := by rw [List.length_take]; omega
  rw [List.getLast?_eq_getElem?, hl] at h
  by_cases h0 : n = 0
  · subst h0; simp at h
  · refine ⟨by omega, ?_⟩
    rw [List.getElem?_take_of_lt (by omega)] at h
    rw [List.getD_eq_getElem?_getD, h]
    rfl

theorem tw_all (f : UInt8 → Bool) (l : List UInt8) : ∀ j, j < (l.takeWhile f).length → f (l.getD j 0) = true := by
  induction l with
  | nil => intro j h; simp at h
  | cons c l ih =>
    intro j h
    rw [List.takeWhile_cons] at h
    split at h
    · rename_i hc
      cases j with
      | zero => exact hc
      | succ j => exact ih j (by simpa using h)
    · simp at h

theorem isW_lt (c : UInt8) (h : isW c = true) : c.toNat < 128 := by
  simp only [isW, isL, isD, Bool.or_eq_true, decide_eq_true_eq] at h
  omega
theorem isD_lt (c : UInt8) (h : isD c = true) : c.toNat < 128 := by
  simp only [isD, decide_eq_true_eq] at h
  omega

/-- A token's last byte is below 128. -/
theorem tok_last (l : List UInt8) (m : Bool) (x : Tok) (n : Nat) (h : tokR l m = .tok x n) : (l.getD (n - 1) 0).toNat < 128 := by
  have hn := (tok_n l m x n h)
  cases l with
  | nil => simp [tokR] at h
  | cons c t =>
    simp only [tokR] at h
    split at h
    · split at h
      · simp at h
      · injection h with h1 h2
        subst h1
        subst h2
        exact isW_lt _ (tw_all isW (c :: t) _ (by unfold lenW at hn ⊢; omega))
    · split at h
      · rename_i hcd
        split at h
        · simp at h
        · split at h
          · simp at h
          · split at h
            · simp at h
            · injection h with h1 h2
              subst h1
              subst h2
              rw [show 1 + lenD t - 1 = lenD t by omega]
              by_cases h0 : lenD t = 0
              · rw [h0]
                rcases hcd with hd | hd
                · exact isD_lt _ hd
                · subst hd; show (45 : UInt8).toNat < 128; decide
              · obtain ⟨k, hk⟩ : ∃ k, lenD t = k + 1 := ⟨lenD t - 1, by omega⟩
                rw [hk]
                exact isD_lt _ (tw_all isD t k (by unfold lenD at hk; omega))
      · split at h
        · split at h
          · rename_i hq
            injection h with h1 h2
            subst h1
            subst h2
            obtain ⟨q1, q2⟩ := last_get t (sizeQ t) 34 (sizeQ_le t) (quotR_last t hq)
            obtain ⟨k, hk⟩ : ∃ k, sizeQ t = k + 1 := ⟨sizeQ t - 1, by omega⟩
            rw [hk] at q2 ⊢
            rw [show 1 + (k + 1) - 1 = k + 1 by omega]
            show (t.getD k 0).toNat < 128
            rw [show k + 1 - 1 = k by omega] at q2
            rw [q2]
            decide
          · split at h
            · simp at h
            · simp at h
        · split at h
          · simp at h
          · injection h with h1 h2
            subst h1
            subst h2
            rename_i hs
            rw [signN_cons] at hs ⊢
            split
            · rename_i h2
              cases t with
              | nil => simp at h2
              | cons d t =>
                obtain ⟨_, h2⟩ := h2
                simp only [List.head?_cons, Option.some.injEq] at h2
                show d.toNat < 128
                rw [h2]
                decide
            · split
              · rename_i h3
                show c.toNat < 128
                clear hn hs
                rcases h3 with rfl | rfl | rfl | rfl | rfl | rfl | rfl | rfl | rfl | rfl | rfl | rfl <;> decide
              · rename_i h2 h3
                exfalso
                apply hs
                rw [if_neg h2, if_neg h3]
end Go.Proofs.YtagjemdoefldaaaDoor
