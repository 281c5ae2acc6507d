/- What is printed of a text's tokens has the same tokens. No program. -/
import Derived.Test.YtagjemdoefldaaaDoorLxBack0
namespace Go.Proofs.YtagjemdoefldaaaDoor
open Go.RowKit

def tx (x : Tok) : List UInt8 := (textR x.k x.s x.n).1
def Sep (r : List UInt8) : Prop := r = [] ∨ ∃ r', r = 32 :: r'

/-- A token that is printed, and is read again, whatever stands behind a blank. -/
structure GoodT (x : Tok) : Prop where
  ok : (textR x.k x.s x.n).2 = 0
  kind : x.k ≠ 0
  len : x.s.length ≤ 16384
  num : -9223372036854775808 ≤ x.n ∧ x.n ≤ 9223372036854775807
  again : ∀ r, Sep r → ∃ c t, tx x ++ r = c :: t ∧ isB c = false ∧ tokR (c :: t) false = .tok ⟨x.k, x.s, x.n, 0⟩ (tx x).length

theorem tw_app (f : UInt8 → Bool) (W r : List UInt8) (hW : ∀ c ∈ W, f c = true) (h32 : f 32 = false) (hr : Sep r) : (W ++ r).takeWhile f = W := by
  induction W with
  | nil =>
    rcases hr with rfl | ⟨r', rfl⟩
    · rfl
    · rw [List.nil_append, List.takeWhile_cons, if_neg (by rw [h32]; decide)]
  | cons c W ih =>
    rw [List.cons_append, List.takeWhile_cons, if_pos (hW c (by simp)), ih (fun x hx => hW x (by simp [hx]))]

theorem tw_mem (f : UInt8 → Bool) (l : List UInt8) : ∀ c ∈ l.takeWhile f, f c = true := fun c hc => List.all_eq_true.1 List.all_takeWhile c hc

theorem isL_not (c : UInt8) (h : isL c = true) : isB c = false ∧ isD c = false ∧ c ≠ 45 ∧ c ≠ 34 := by
  simp only [isL, decide_eq_true_eq] at h
  refine ⟨?_, ?_, ?_, ?_⟩
  · simp only [isB, decide_eq_false_iff_not]; omega
  · simp only [isD, decide_eq_false_iff_not]; omega
  · intro e; subst e; simp at h
  · intro e; subst e; simp at h
theorem isD_not (c : UInt8) (h : isD c = true) : isB c = false ∧ isL c = false ∧ c ≠ 45 ∧ c ≠ 34 := by
  simp only [isD, decide_eq_true_eq] at h
  refine ⟨?_, ?_, ?_, ?_⟩
  · simp only [isB, decide_eq_false_iff_not]; omega
  · simp only [isL, decide_eq_false_iff_not]; omega
  · intro e; subst e; simp at h
  · intro e; subst e; simp at h

theorem good_word (c : UInt8) (W : List UInt8) (p : Nat) (hL : isL c = true) (hW : ∀ x ∈ W, isW x = true) (hlen : W.length ≤ 8192) : GoodT ⟨1, c :: W, 0, p⟩ := by
  have ht : textR 1 (c :: W) 0 = (c :: W, 0) := by
    unfold textR
    rw [if_neg (fun h => absurd h.1 (by decide)), if_neg (by simp), if_pos rfl, if_pos]
    show (isL c && W.all isW) = true
    rw [hL, Bool.true_and]
    exact List.all_eq_true.2 hW
  have htx : tx ⟨1, c :: W, 0, p⟩ = c :: W := by unfold tx; rw [ht]
  refine ⟨by rw [ht], by simp, by simp only [List.length_cons]; omega, by constructor <;> simp, ?_⟩
  intro r hr
  rw [htx]
  refine ⟨c, W ++ r, rfl, (isL_not c hL).1, ?_⟩
  have hw : lenW (c :: (W ++ r)) = (c :: W).length := by
    unfold lenW
    rw [show c :: (W ++ r) = (c :: W) ++ r from rfl, tw_app isW (c :: W) r (by
      intro x hx
      rcases List.mem_cons.1 hx with rfl | hx
      · unfold isW; rw [hL]; rfl
      · exact hW x hx) (by decide) hr]
  rw [tokR_cons, if_pos hL, if_neg (by decide), hw, show c :: (W ++ r) = (c :: W) ++ r from rfl, List.take_left]

theorem num_text (minus : Bool) (d : List UInt8) (v : Int) (hd : ∀ c ∈ d, isD c = true) (hne : d ≠ []) (h : numR minus d = some v) : Lib.itoa v = numText minus d ∧ -9223372036854775808 ≤ v ∧ v ≤ 9223372036854775807 := by
  rcases num_parse minus d hd hne with ⟨_, h1⟩ | ⟨v', _, a, b, ⟨h1, h2⟩ | ⟨_, h2⟩⟩
  · rw [h] at h1; cases h1
  · rw [h] at h2
    injection h2 with h2
    subst h2
    exact ⟨h1, a, b⟩
  · rw [h] at h2; cases h2

theorem good_num (minus : Bool) (d : List UInt8) (v : Int) (p : Nat) (hd : ∀ c ∈ d, isD c = true) (hne : d ≠ []) (h : numR minus d = some v) : GoodT ⟨2, [], v, p⟩ := by
  obtain ⟨h1, h2, h3⟩ := num_text minus d v hd hne h
  have ht : textR 2 [] v = (numText minus d, 0) := by
    unfold textR
    rw [if_pos ⟨rfl, rfl⟩, h1]
  have htx : tx ⟨2, [], v, p⟩ = numText minus d := by unfold tx; rw [ht]
  refine ⟨by rw [ht], by simp, by simp, ⟨h2, h3⟩, ?_⟩
  intro r hr
  rw [htx]
  cases minus
  · cases d with
    | nil => exact absurd rfl hne
    | cons c e =>
      have hc := hd c (by simp)
      obtain ⟨n1, n2, n3, n4⟩ := isD_not c hc
      refine ⟨c, e ++ r, rfl, n1, ?_⟩
      have hw : (e ++ r).takeWhile isD = e := tw_app isD e r (fun x hx => hd x (by simp [hx])) (by decide) hr
      have hl : lenD (e ++ r) = e.length := by unfold lenD; rw [hw]
      rw [tokR_cons, if_neg (by rw [n2]; decide), if_pos (Or.inl hc), if_neg (fun h => n3 h.1), if_neg (by decide), hl, if_neg n3, List.take_left, decide_eq_false n3, h]
      show TokR.tok _ _ = TokR.tok _ _
      rw [Nat.add_comm]
      rfl
  · refine ⟨45, d ++ r, rfl, by decide, ?_⟩
    have hw : (d ++ r).takeWhile isD = d := tw_app isD d r hd (by decide) hr
    have hl : lenD (d ++ r) = d.length := by unfold lenD; rw [hw]
    have hd0 : d.length ≠ 0 := fun e => hne (List.eq_nil_of_length_eq_zero e)
    rw [tokR_cons, if_neg (by decide), if_pos (Or.inr rfl), hl, if_neg (fun h => hd0 h.2), if_neg (by decide), if_pos rfl, List.take_left, decide_eq_true rfl, h]
    show TokR.tok _ _ = TokR.tok _ _
    rw [Nat.add_comm]
    rfl

theorem good_quot (s : List UInt8) (p : Nat) (hv : validB ⟨s.toArray⟩ = true) (hlen : s.length ≤ 16384) : GoodT ⟨3, s, 0, p⟩ := by
  obtain ⟨rs, ho, he⟩ := valid_runes ⟨s.toArray⟩ hv
  have hq := quoteOf_runes ⟨s.toArray⟩ rs ho he
  have ht : textR 3 s 0 = (quoteOf ⟨s.toArray⟩, 0) := by
    unfold textR
    rw [if_neg (fun h => absurd h.1 (by decide)), if_neg (by simp), if_neg (by decide), if_pos rfl, if_pos hv]
  have htx : tx ⟨3, s, 0, p⟩ = 34 :: (partsOf rs ++ [34]) := by unfold tx; rw [ht, ← hq]
  refine ⟨by rw [ht], by simp, hlen, by constructor <;> simp, ?_⟩
  intro r hr
  rw [htx]
  refine ⟨34, (partsOf rs ++ [34]) ++ r, rfl, by decide, ?_⟩
  have hu : uq ⟨(partsOf rs ++ [34]).toArray⟩ [] = (bytesOf rs, 0) := by
    unfold uq
    rw [unq_parts _ rs _ [] ho rfl (Nat.lt_succ_self _)]
    rfl
  obtain ⟨q1, q2⟩ := quotR_of _ r _ hu
  rw [tokR_cons, if_neg (by decide), if_neg (by decide), if_pos rfl, q1, q2, if_pos rfl]
  have e : s = bytesOf rs := he
  rw [← e]
  show TokR.tok _ _ = TokR.tok _ _
  rw [Nat.add_comm]
  rfl

theorem good_sign (c : UInt8) (t : List UInt8) (p : Nat) (hL : isL c = false) (hD : ¬ (isD c = true ∨ c = 45)) (h34 : c ≠ 34) (hs : signN (c :: t) ≠ 0) : GoodT ⟨4, (c :: t).take (signN (c :: t)), 0, p⟩ := by
  have key : ∃ T, (c :: t).take (signN (c :: t)) = c :: T ∧ T.length ≤ 1 ∧ ∀ r, Sep r → signN (c :: (T ++ r)) = (c :: T).length := by
    rw [signN_cons] at hs ⊢
    by_cases h1 : (c = 33 ∨ c = 60 ∨ c = 62) ∧ t.head? = some 61
    · rw [if_pos h1]
      cases t with
      | nil => simp at h1
      | cons d t =>
        refine ⟨[d], rfl, by simp, ?_⟩
        intro r hr
        rw [signN_cons, if_pos ⟨h1.1, by simpa using h1.2⟩]
        rfl
    · rw [if_neg h1] at hs ⊢
      split at hs
      · rename_i h2
        rw [if_pos h2]
        refine ⟨[], rfl, by simp, ?_⟩
        intro r hr
        rw [List.nil_append, signN_cons, if_neg, if_pos h2]
        · rfl
        · rintro ⟨_, h⟩
          rcases hr with rfl | ⟨r', rfl⟩
          · simp at h
          · simp at h
      · exact absurd rfl hs
  obtain ⟨T, hT, hT1, hT2⟩ := key
  rw [hT]
  have hb : isB c = false := by
    cases h : isB c
    · rfl
    · exfalso
      apply hs
      simp only [isB, decide_eq_true_eq] at h
      have hc : c = 32 ∨ c = 9 ∨ c = 10 ∨ c = 13 := by
        rcases h with h | h | h | h
        · exact Or.inl (UInt8.toNat_inj.1 h)
        · exact Or.inr (Or.inl (UInt8.toNat_inj.1 h))
        · exact Or.inr (Or.inr (Or.inl (UInt8.toNat_inj.1 h)))
        · exact Or.inr (Or.inr (Or.inr (UInt8.toNat_inj.1 h)))
      rw [signN_cons]
      rcases hc with rfl | rfl | rfl | rfl <;> simp
  have hn := hT2 [] (Or.inl rfl)
  rw [List.append_nil] at hn
  have ht : textR 4 (c :: T) 0 = (c :: T, 0) := by
    unfold textR
    rw [if_neg (fun h => absurd h.1 (by decide)), if_neg (by simp), if_neg (by decide), if_neg (by decide), if_pos rfl, if_pos ⟨by rw [hn]; simp, hn⟩]
  have htx : tx ⟨4, c :: T, 0, p⟩ = c :: T := by unfold tx; rw [ht]
  refine ⟨by rw [ht], by simp, by simp only [List.length_cons]; omega, by constructor <;> simp, ?_⟩
  intro r hr
  rw [htx]
  refine ⟨c, T ++ r, rfl, hb, ?_⟩
  have h2 := hT2 r hr
  rw [tokR_cons, if_neg (by rw [hL]; decide), if_neg hD, if_neg h34, h2, if_neg (by simp), show c :: (T ++ r) = (c :: T) ++ r from rfl, List.take_left]

theorem tok_good (l : List UInt8) (m : Bool) (x : Tok) (n p : Nat) (hl : l.length ≤ 8192) (h : tokR l m = .tok x n) : GoodT ⟨x.k, x.s, x.n, p⟩ := by
  cases l with
  | nil => cases h
  | cons c t =>
    simp only [List.length_cons] at hl
    rw [tokR_cons] at h
    by_cases hL : isL c = true
    · rw [if_pos hL] at h
      split at h
      · cases h
      · injection h with h _
        subst h
        have e : (c :: t).take (lenW (c :: t)) = c :: t.takeWhile isW := by
          unfold lenW
          rw [(tw_len isW (c :: t)).2, List.takeWhile_cons, if_pos (by unfold isW; rw [hL]; rfl)]
        show GoodT ⟨1, (c :: t).take (lenW (c :: t)), 0, p⟩
        rw [e]
        have := (tw_len isW t).1
        exact good_word c _ p hL (tw_mem isW t) (by omega)
    · rw [if_neg hL] at h
      by_cases hD : isD c = true ∨ c = 45
      · rw [if_pos hD] at h
        split at h
        · cases h
        · rename_i hz
          split at h
          · cases h
          · unfold numTok at h
            split at h
            · cases h
            · rename_i v hv
              injection h with h _
              subst h
              have et : t.take (lenD t) = t.takeWhile isD := (tw_len isD t).2
              rw [et] at hv
              by_cases h45 : c = 45
              · rw [if_pos h45, decide_eq_true h45] at hv
                refine good_num true _ v p (tw_mem isD t) ?_ hv
                intro e
                apply hz
                refine ⟨h45, ?_⟩
                unfold lenD
                rw [e]
                rfl
              · rw [if_neg h45, decide_eq_false h45] at hv
                have hc : isD c = true := by
                  rcases hD with h | h
                  · exact h
                  · exact absurd h h45
                refine good_num false _ v p ?_ (by simp) hv
                intro y hy
                rcases List.mem_cons.1 hy with rfl | hy
                · exact hc
                · exact tw_mem isD t y hy
      · rw [if_neg hD] at h
        by_cases h34 : c = 34
        · rw [if_pos h34] at h
          by_cases hq : (quotR t).2 = 0
          · rw [if_pos hq] at h
            injection h with h _
            subst h
            obtain ⟨q1, q2⟩ := quotR_good t hq
            exact good_quot _ p q1 (by show (quotR t).1.length ≤ 16384; omega)
          · rw [if_neg hq] at h
            split at h <;> cases h
        · rw [if_neg h34] at h
          split at h
          · cases h
          · rename_i hs
            injection h with h _
            subst h
            exact good_sign c t p (by cases hh : isL c; rfl; exact absurd hh hL) hD h34 hs

theorem good_all : ∀ (n : Nat) (l : List UInt8) (p : Nat) (m : Bool) (T0 : List Tok), l.length ≤ n → l.length ≤ 8192 → lxs l p m = (T0, 0, 0) → ∃ T E, T0 = T ++ [E] ∧ E.k = 0 ∧ E.s = [] ∧ E.n = 0 ∧ ∀ x ∈ T, GoodT x := by
  intro n
  induction n with
  | zero =>
    intro l p m T0 h _ hT
    have : l = [] := List.eq_nil_of_length_eq_zero (by omega)
    subst this
    rw [lxs_nil] at hT
    injection hT with hT _
    subst hT
    exact ⟨[], _, rfl, rfl, rfl, rfl, by simp⟩
  | succ n ih =>
    intro l p m T0 h h8 hT
    cases l with
    | nil =>
      rw [lxs_nil] at hT
      injection hT with hT _
      subst hT
      exact ⟨[], _, rfl, rfl, rfl, rfl, by simp⟩
    | cons c t =>
      simp only [List.length_cons] at h h8
      cases hb : isB c
      · cases ht : tokR (c :: t) m with
        | bad e =>
          rw [lxs_bad _ _ _ _ _ hb ht] at hT
          injection hT with _ hT
          injection hT with _ hT
          exact absurd hT (tok_bad_ne _ _ _ ht)
        | tok x k =>
          obtain ⟨h1, h2, _⟩ := tok_n _ _ _ _ ht
          have hg := tok_good (c :: t) m x k p (by simp only [List.length_cons]; omega) ht
          simp only [List.length_cons] at h2
          rw [lxs_tok _ _ _ _ _ _ hb ht] at hT
          unfold joinR at hT
          have hl : ((c :: t).drop k).length ≤ n := by rw [List.length_drop, List.length_cons]; omega
          by_cases he : (lxs ((c :: t).drop k) (p + k) (decide (x.k = 1 ∨ x.k = 2))).2.2 = 0
          · rw [if_pos he] at hT
            have hat := lxs_ok_at _ _ _ _ (Nat.le_refl _) he
            generalize hr : lxs ((c :: t).drop k) (p + k) (decide (x.k = 1 ∨ x.k = 2)) = r at hT he hat
            obtain ⟨T', q0, e0⟩ := r
            simp only at he hat
            subst he hat
            injection hT with hT _
            subst hT
            obtain ⟨T, E, e1, e2, e3, e4, e5⟩ := ih _ _ _ _ hl (by rw [List.length_drop, List.length_cons]; omega) hr
            subst e1
            refine ⟨⟨x.k, x.s, x.n, p⟩ :: T, E, rfl, e2, e3, e4, ?_⟩
            intro y hy
            rcases List.mem_cons.1 hy with rfl | hy
            · exact hg
            · exact e5 y hy
          · rw [if_neg he] at hT
            rw [hT] at he
            exact absurd rfl he
      · rw [lxs_blank _ _ _ _ hb] at hT
        exact ih t _ _ T0 (by omega) (by omega) hT

/-- The text of tokens, a blank between. -/
def txs : List Tok → List UInt8
  | [] => []
  | x :: r => tx x ++ (if r.isEmpty then [] else 32 :: txs r)

theorem pr_all : ∀ (T : List Tok) (E : Tok) (i : Nat) (acc : List UInt8), (∀ x ∈ T, GoodT x) → E.k = 0 → prF i (T ++ [E]) acc = (acc ++ (if i = 0 ∨ T = [] then [] else [32]) ++ txs T, 0)
  | [], E, i, acc, _, hE => by
    rw [List.nil_append, prF, if_pos hE]
    simp [txs]
  | x :: r, E, i, acc, hg, hE => by
    have hx := hg x (by simp)
    rw [List.cons_append, prF, if_neg hx.kind, if_pos hx.ok, pr_all r E (i + 1) _ (fun y hy => hg y (by simp [hy])) hE]
    congr 1
    rw [txs]
    show _ ++ tx x ++ _ ++ txs r = _
    by_cases hi : i = 0
    · subst hi
      cases r with
      | nil => simp [txs]
      | cons y r => simp
    · cases r with
      | nil => simp [txs, hi]
      | cons y r => simp [hi]

def strip (x : Tok) : Int × List UInt8 × Int := (x.k, x.s, x.n)

theorem re_all : ∀ (T : List Tok) (E : Tok) (p : Nat), (∀ x ∈ T, GoodT x) → E.k = 0 → E.s = [] → E.n = 0 → ∃ T2, lxs (txs T) p false = (T2, 0, 0) ∧ T2.map strip = (T ++ [E]).map strip
  | [], E, p, _, h1, h2, h3 => ⟨_, lxs_nil p false, by simp [strip, h1, h2, h3]⟩
  | x :: r, E, p, hg, h1, h2, h3 => by
    have hx := hg x (by simp)
    obtain ⟨T2, e1, e2⟩ := re_all r E (p + (tx x).length + 1) (fun y hy => hg y (by simp [hy])) h1 h2 h3
    obtain ⟨c, t, a1, a2, a3⟩ := hx.again (if r.isEmpty then [] else 32 :: txs r) (by
      split
      · exact Or.inl rfl
      · exact Or.inr ⟨_, rfl⟩)
    rw [txs, a1, lxs_tok _ _ _ _ _ _ a2 a3, ← a1, List.drop_left]
    cases r with
    | nil =>
      refine ⟨[⟨x.k, x.s, x.n, p⟩, ⟨0, [], 0, p + (tx x).length⟩], rfl, ?_⟩
      simp [strip, h1, h2, h3]
    | cons y r =>
      simp only [List.isEmpty_cons, Bool.false_eq_true, if_false]
      rw [lxs_blank _ _ _ _ (by decide), e1]
      refine ⟨_, rfl, ?_⟩
      simp only [List.cons_append, List.nil_append, List.map_cons, e2]
      rfl

theorem prF_strip : ∀ (l m : List Tok) (i : Nat) (acc : List UInt8), l.map strip = m.map strip → prF i l acc = prF i m acc
  | [], [], _, _, _ => rfl
  | [], _ :: _, _, _, h => by simp at h
  | _ :: _, [], _, _, h => by simp at h
  | x :: l, y :: m, i, acc, h => by
    simp only [List.map_cons, List.cons.injEq] at h
    obtain ⟨h1, h2⟩ := h
    simp only [strip, Prod.mk.injEq] at h1
    obtain ⟨a, b, c⟩ := h1
    rw [prF, prF, a, b, c]
    split
    · rfl
    · split
      · exact prF_strip l m _ _ h2
      · rfl
end Go.Proofs.YtagjemdoefldaaaDoor
