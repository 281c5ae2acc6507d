/- Two texts with blanks between them have the tokens of both. No program. -/
import Derived.Test.YtagjemdoefldaaaDoorLxBack0
namespace Go.Proofs.YtagjemdoefldaaaDoor
open Go.RowKit

theorem isB_not (d : UInt8) (h : isB d = true) : isW d = false ∧ isD d = false ∧ d ≠ 61 := by
  simp only [isB, decide_eq_true_eq] at h
  refine ⟨?_, ?_, ?_⟩
  · simp only [isW, isL, isD, Bool.or_eq_false_iff, decide_eq_false_iff_not]
    omega
  · simp only [isD, decide_eq_false_iff_not]
    omega
  · intro e
    rw [e] at h
    revert h
    decide

theorem tw_ahead (f : UInt8 → Bool) (d : UInt8) (r : List UInt8) (hd : f d = false) : ∀ l : List UInt8, (l ++ d :: r).takeWhile f = l.takeWhile f := by
  intro l
  induction l with
  | nil => rw [List.nil_append, List.takeWhile_cons, if_neg (by rw [hd]; decide), List.takeWhile_nil]
  | cons c l ih => rw [List.cons_append, List.takeWhile_cons, List.takeWhile_cons, ih]

theorem lenW_end (d : UInt8) (r l : List UInt8) (h : isB d = true) : lenW (l ++ d :: r) = lenW l := by
  unfold lenW
  rw [tw_ahead _ _ _ (isB_not d h).1]
theorem lenD_end (d : UInt8) (r l : List UInt8) (h : isB d = true) : lenD (l ++ d :: r) = lenD l := by
  unfold lenD
  rw [tw_ahead _ _ _ (isB_not d h).2.1]
theorem signN_end (d : UInt8) (r t : List UInt8) (c : UInt8) (h : isB d = true) : signN (c :: (t ++ d :: r)) = signN (c :: t) := by
  rw [signN_cons, signN_cons]
  cases t with
  | nil =>
    rw [List.nil_append, List.head?_cons, List.head?_nil]
    have h1 : ¬ ((c = 33 ∨ c = 60 ∨ c = 62) ∧ some d = some (61 : UInt8)) := by
      rintro ⟨_, e⟩
      injection e with e
      exact (isB_not d h).2.2 e
    have h2 : ¬ ((c = 33 ∨ c = 60 ∨ c = 62) ∧ (none : Option UInt8) = some 61) := by
      rintro ⟨_, e⟩
      cases e
    rw [if_neg h1, if_neg h2]
  | cons a t => rfl

theorem quot_end (t X : List UInt8) (h : (quotR t).2 = 0) : quotR (t ++ X) = quotR t ∧ sizeQ (t ++ X) = sizeQ t := by
  have e : t ++ X = t.take (sizeQ t) ++ (t.drop (sizeQ t) ++ X) := by
    rw [← List.append_assoc, List.take_append_drop]
  have hu : uq ⟨(t.take (sizeQ t)).toArray⟩ [] = ((quotR t).1, 0) := Prod.ext rfl h
  obtain ⟨a, b⟩ := quotR_of (t.take (sizeQ t)) (t.drop (sizeQ t) ++ X) _ hu
  rw [e, a, b, List.length_take, Nat.min_eq_left (sizeQ_le t)]
  exact ⟨Prod.ext rfl h.symm, rfl⟩

def keeps : TokR → Prop
  | .bad e => e = 12
  | .tok _ _ => True

/-- A token is not changed by a blank behind the text, nor is a number that is too great. -/
theorem tok_join (c : UInt8) (t : List UInt8) (m : Bool) (d : UInt8) (r : List UInt8) (hd : isB d = true) (hk : keeps (tokR (c :: t) m)) : tokR (c :: (t ++ d :: r)) m = tokR (c :: t) m := by
  rw [tokR_cons] at hk
  rw [tokR_cons, tokR_cons]
  have eW : lenW (c :: (t ++ d :: r)) = lenW (c :: t) := lenW_end d r (c :: t) hd
  have eT : ∀ k, k ≤ (c :: t).length → (c :: (t ++ d :: r)).take k = (c :: t).take k := fun k hk => by
    rw [← List.cons_append, List.take_append_of_le_length hk]
  have eD := lenD_end d r t hd
  have eS := signN_end d r t c hd
  have eTD : (t ++ d :: r).take (lenD t) = t.take (lenD t) := List.take_append_of_le_length (tw_len isD t).1
  rw [eW, eD, eS, eTD, eT (lenW (c :: t)) (tw_len isW (c :: t)).1, eT (signN (c :: t)) (signN_le (c :: t))]
  by_cases hL : isL c = true
  · rw [if_pos hL, if_pos hL]
  · rw [if_neg hL, if_neg hL]
    rw [if_neg hL] at hk
    by_cases hD : isD c = true ∨ c = 45
    · rw [if_pos hD, if_pos hD]
    · rw [if_neg hD, if_neg hD]
      rw [if_neg hD] at hk
      by_cases h34 : c = 34
      · rw [if_pos h34, if_pos h34]
        rw [if_pos h34] at hk
        have h0 : (quotR t).2 = 0 := by
          rcases quotR_err t with q | q | q
          · exact q
          · rw [q] at hk
            exact absurd hk (by simp [keeps])
          · rw [q] at hk
            exact absurd hk (by simp [keeps])
        obtain ⟨a, b⟩ := quot_end t (d :: r) h0
        rw [a, b]
      · rw [if_neg h34, if_neg h34]

theorem joinR_nil (r : List Tok × Nat × Int) : joinR [] r = r := by
  unfold joinR
  split <;> simp
theorem joinR_two (a b : List Tok) (r : List Tok × Nat × Int) : joinR a (joinR b r) = joinR (a ++ b) r := by
  unfold joinR
  by_cases h : r.2.2 = 0
  · simp [h]
  · simp [h]

theorem lxs_join (d : UInt8) (r : List UInt8) (hd : isB d = true) : ∀ (n : Nat) (l : List UInt8) (p : Nat) (m : Bool) (T : List Tok), l.length ≤ n → lxs l p m = (T, 0, 0) → lxs (l ++ d :: r) p m = joinR T.dropLast (lxs r (p + l.length + 1) false) := by
  intro n
  induction n with
  | zero =>
    intro l p m T h hT
    have : l = [] := List.eq_nil_of_length_eq_zero (by omega)
    subst this
    rw [lxs_nil] at hT
    injection hT with hT _
    subst hT
    rw [List.nil_append, lxs_blank _ _ _ _ hd]
    exact (joinR_nil _).symm
  | succ n ih =>
    intro l p m T h hT
    cases l with
    | nil =>
      rw [lxs_nil] at hT
      injection hT with hT _
      subst hT
      rw [List.nil_append, lxs_blank _ _ _ _ hd]
      exact (joinR_nil _).symm
    | cons c t =>
      simp only [List.length_cons] at h
      cases hb : isB c
      · cases ht : tokR (c :: t) m with
        | bad e =>
          rw [lxs_bad _ _ _ _ _ hb ht] at hT
          injection hT with _ hT
          injection hT with _ hT
          exact absurd hT (tok_bad_ne _ _ _ ht)
        | tok x k =>
          obtain ⟨h1, h2, _⟩ := tok_n _ _ _ _ ht
          have hl : ((c :: t).drop k).length ≤ n := by rw [List.length_drop, List.length_cons]; omega
          have htj := (tok_join c t m d r hd (by rw [ht]; trivial)).trans ht
          rw [lxs_tok _ _ _ _ _ _ hb ht] at hT
          unfold joinR at hT
          by_cases he : (lxs ((c :: t).drop k) (p + k) (decide (x.k = 1 ∨ x.k = 2))).2.2 = 0
          · rw [if_pos he] at hT
            have hat := lxs_ok_at _ _ _ _ (Nat.le_refl _) he
            generalize hr : lxs ((c :: t).drop k) (p + k) (decide (x.k = 1 ∨ x.k = 2)) = R at hT he hat
            obtain ⟨T', q0, e0⟩ := R
            simp only at he hat
            subst he hat
            injection hT with hT _
            subst hT
            have i0 := (parts_at _ _ _ _ _ (Nat.le_refl _) hr).1
            rw [List.cons_append, lxs_tok _ _ _ _ _ _ hb htj, ← List.cons_append, List.drop_append_of_le_length h2, ih _ _ _ _ hl hr, joinR_two, List.length_drop, List.singleton_append, ← List.dropLast_cons_of_ne_nil i0, show p + k + ((c :: t).length - k) + 1 = p + (c :: t).length + 1 by omega]
            rfl
          · rw [if_neg he] at hT
            rw [hT] at he
            exact absurd rfl he
      · rw [lxs_blank _ _ _ _ hb] at hT
        rw [List.cons_append, lxs_blank _ _ _ _ hb, ih t _ _ _ (by omega) hT, List.length_cons, show p + 1 + t.length + 1 = p + (t.length + 1) + 1 by omega]

theorem lxs_join12 (d : UInt8) (r : List UInt8) (hd : isB d = true) : ∀ (n : Nat) (l : List UInt8) (p : Nat) (m : Bool) (T : List Tok) (q : Nat), l.length ≤ n → lxs l p m = (T, q, 12) → lxs (l ++ d :: r) p m = ([], q, 12) ∧ q < p + l.length := by
  intro n
  induction n with
  | zero =>
    intro l p m T q h hT
    have : l = [] := List.eq_nil_of_length_eq_zero (by omega)
    subst this
    rw [lxs_nil] at hT
    injection hT with _ hT
    injection hT with _ hT
    exact absurd hT (by decide)
  | succ n ih =>
    intro l p m T q h hT
    cases l with
    | nil =>
      rw [lxs_nil] at hT
      injection hT with _ hT
      injection hT with _ hT
      exact absurd hT (by decide)
    | cons c t =>
      simp only [List.length_cons] at h
      cases hb : isB c
      · cases ht : tokR (c :: t) m with
        | bad e =>
          rw [lxs_bad _ _ _ _ _ hb ht] at hT
          injection hT with _ hT
          injection hT with hq hT
          subst hT hq
          have htj := (tok_join c t m d r hd (by rw [ht]; rfl)).trans ht
          rw [List.cons_append, lxs_bad _ _ _ _ _ hb htj, List.length_cons]
          exact ⟨rfl, by omega⟩
        | tok x k =>
          obtain ⟨h1, h2, _⟩ := tok_n _ _ _ _ ht
          have hl : ((c :: t).drop k).length ≤ n := by rw [List.length_drop, List.length_cons]; omega
          have htj := (tok_join c t m d r hd (by rw [ht]; trivial)).trans ht
          rw [lxs_tok _ _ _ _ _ _ hb ht] at hT
          unfold joinR at hT
          by_cases he : (lxs ((c :: t).drop k) (p + k) (decide (x.k = 1 ∨ x.k = 2))).2.2 = 0
          · rw [if_pos he] at hT
            injection hT with _ hT
            rw [hT] at he
            exact absurd he (by show ¬ (12 : Int) = 0; decide)
          · rw [if_neg he] at hT
            obtain ⟨a, b⟩ := ih _ _ _ _ _ hl hT
            rw [List.cons_append, lxs_tok _ _ _ _ _ _ hb htj, ← List.cons_append, List.drop_append_of_le_length h2, a]
            refine ⟨rfl, ?_⟩
            rw [List.length_drop] at b
            omega
      · rw [lxs_blank _ _ _ _ hb] at hT
        obtain ⟨a, b⟩ := ih t _ _ _ _ (by omega) hT
        rw [List.cons_append, lxs_blank _ _ _ _ hb, List.length_cons]
        exact ⟨a, by omega⟩

theorem lxs_blanks : ∀ (B r : List UInt8) (p : Nat), (∀ c ∈ B, isB c = true) → lxs (B ++ r) p false = lxs r (p + B.length) false := by
  intro B
  induction B with
  | nil => intro r p _; rfl
  | cons c B ih =>
    intro r p h
    rw [List.cons_append, lxs_blank _ _ _ _ (h c (by simp)), ih r (p + 1) (fun x hx => h x (by simp [hx])), List.length_cons, show p + 1 + B.length = p + (B.length + 1) by omega]

/-- A token without its place. -/
def bare (x : Tok) : Int × List UInt8 × Int := (x.k, x.s, x.n)
theorem bare_at {l m : List Tok} (h : m.map bare = l.map bare) (i : Nat) (hi : i < l.length) (hj : i < m.length) : (l[i]'hi).k = (m[i]'hj).k ∧ (l[i]'hi).s = (m[i]'hj).s ∧ (l[i]'hi).n = (m[i]'hj).n := by
  have e : (m.map bare)[i]? = (l.map bare)[i]? := by rw [h]
  rw [List.getElem?_map, List.getElem?_map, List.getElem?_eq_getElem hi, List.getElem?_eq_getElem hj] at e
  simp only [Option.map_some, Option.some.injEq, bare, Prod.mk.injEq] at e
  exact ⟨e.1.symm, e.2.1.symm, e.2.2.symm⟩

theorem shift_strip (d : Nat) (T : List Tok) : (T.map (shiftT d)).map bare = T.map bare := by
  rw [List.map_map]
  rfl

/-- Two texts that Lex takes, with blanks between. -/
theorem join_ok (a b B : List UInt8) (T U : List Tok) (hB : ∀ c ∈ B, isB c = true) (hlen : (a ++ 32 :: B ++ b).length ≤ 8192) (ha : lexR a = (T, 0, 0)) (hb : lexR b = (U, 0, 0)) :
    ∃ Z, lexR (a ++ 32 :: B ++ b) = (Z, 0, 0) ∧ Z.map bare = (T.dropLast ++ U).map bare := by
  rw [List.length_append, List.length_append] at hlen
  rw [lexR_lxs a (by omega)] at ha
  rw [lexR_lxs b (by omega)] at hb
  rw [lexR_lxs _ (by rw [List.length_append, List.length_append]; exact hlen), List.append_assoc, List.cons_append, lxs_join 32 (B ++ b) (by decide) _ _ _ _ _ (Nat.le_refl _) ha, lxs_blanks _ _ _ hB, show 0 + a.length + 1 + B.length = 0 + (a.length + 1 + B.length) by omega, lxs_shift _ b 0 (a.length + 1 + B.length) false (Nat.le_refl _), hb]
  refine ⟨T.dropLast ++ U.map (shiftT (a.length + 1 + B.length)), rfl, ?_⟩
  rw [List.map_append, List.map_append, shift_strip]

/-- The second has a fault. -/
theorem join_bad (a b B : List UInt8) (T U : List Tok) (q : Nat) (E : Int) (hE : E ≠ 0) (hB : ∀ c ∈ B, isB c = true) (hlen : (a ++ 32 :: B ++ b).length ≤ 8192) (ha : lexR a = (T, 0, 0)) (hb : lexR b = (U, q, E)) :
    ∃ Z q', lexR (a ++ 32 :: B ++ b) = (Z, q', E) ∧ a.length ≤ q' := by
  rw [List.length_append, List.length_append] at hlen
  rw [lexR_lxs a (by omega)] at ha
  rw [lexR_lxs b (by omega)] at hb
  rw [lexR_lxs _ (by rw [List.length_append, List.length_append]; exact hlen), List.append_assoc, List.cons_append, lxs_join 32 (B ++ b) (by decide) _ _ _ _ _ (Nat.le_refl _) ha, lxs_blanks _ _ _ hB, show 0 + a.length + 1 + B.length = 0 + (a.length + 1 + B.length) by omega, lxs_shift _ b 0 (a.length + 1 + B.length) false (Nat.le_refl _), hb]
  unfold shiftR
  rw [if_neg hE]
  unfold joinR
  rw [if_neg hE]
  exact ⟨_, _, rfl, by omega⟩

/-- The first has a number that is too great. -/
theorem join_12 (a b B : List UInt8) (T : List Tok) (q : Nat) (hlen : (a ++ 32 :: B ++ b).length ≤ 8192) (ha : lexR a = (T, q, 12)) :
    lexR (a ++ 32 :: B ++ b) = ([], q, 12) ∧ q < a.length := by
  rw [List.length_append, List.length_append] at hlen
  rw [lexR_lxs a (by omega)] at ha
  rw [lexR_lxs _ (by rw [List.length_append, List.length_append]; exact hlen), List.append_assoc, List.cons_append]
  have := lxs_join12 32 (B ++ b) (by decide) _ _ _ _ _ _ (Nat.le_refl _) ha
  rw [Nat.zero_add] at this
  exact this
end Go.Proofs.YtagjemdoefldaaaDoor
