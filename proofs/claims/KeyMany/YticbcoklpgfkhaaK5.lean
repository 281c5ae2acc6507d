/- Some texts in one: each opens with its own remark. -/
import Derived.Test.YticbcoklpgfkhaaK4
import Derived.Test.YticbcoklpgfkhaaCmp
import Derived.Test.YticbcoklpgfkhaaK2
import Derived.Test.YticbcoklpgfkhaaK1
/- Plain facts on the order of values: the other way round; over a third one. -/
namespace Go.Proofs.Yticbcoklpgfkhaa
open Go.RowKit

/-- Over a third one. -/
def T3 (x z y : Int) : Prop := (x ≤ 0 → z ≤ 0 → y ≤ 0) ∧ (x < 0 → z ≤ 0 → y < 0) ∧ (x ≤ 0 → z < 0 → y < 0) ∧ (x = 0 → z = 0 → y = 0)

theorem T3_int (a b c : Int) : T3 (Lib.compareInt a b) (Lib.compareInt b c) (Lib.compareInt a c) := by
  unfold Lib.compareInt
  refine ⟨?_, ?_, ?_, ?_⟩ <;> (intro h1 h2; repeat' split) <;> first | omega | (simp_all; omega)
theorem anti_int (a b : Int) : Lib.compareInt b a = - Lib.compareInt a b := by
  unfold Lib.compareInt
  repeat' split
  all_goals omega

theorem T3_str (a b c : ByteArray) : T3 (cmpS a b) (cmpS b c) (cmpS a c) := by
  have le : ∀ l m k : List UInt8, Lib.compareBytes l m ≤ 0 → Lib.compareBytes m k ≤ 0 → Lib.compareBytes l k = 0 → Lib.compareBytes l m = 0 ∧ Lib.compareBytes m k = 0 := by
    intro l m k h1 h2 h3
    have e := cmp_zero l k h3
    subst e
    have a1 := cmp_anti l m
    omega
  unfold cmpS
  have t := cmp_trans a.data.toList b.data.toList c.data.toList
  have l := le a.data.toList b.data.toList c.data.toList
  refine ⟨t, fun h1 h2 => ?_, fun h1 h2 => ?_, fun h1 h2 => ?_⟩
  · have h3 := t (by omega) h2
    rcases Int.lt_or_eq_of_le h3 with h | h
    · exact h
    · have := l (by omega) h2 h; omega
  · have h3 := t h1 (by omega)
    rcases Int.lt_or_eq_of_le h3 with h | h
    · exact h
    · have := l h1 (by omega) h; omega
  · have e1 := cmp_zero _ _ h1
    rw [e1]
    exact h2
theorem anti_str (a b : ByteArray) : cmpS b a = - cmpS a b := cmp_anti _ _

theorem T3_or {x1 z1 y1 x2 z2 y2 : Int} (h1 : T3 x1 z1 y1) (h2 : x1 = 0 → z1 = 0 → T3 x2 z2 y2) : T3 (orElse x1 x2) (orElse z1 z2) (orElse y1 y2) := by
  obtain ⟨a1, a2, a3, a4⟩ := h1
  by_cases hx : x1 = 0
  · by_cases hz : z1 = 0
    · have hy := a4 hx hz
      simp only [orElse, hx, hz, hy, if_true]
      exact h2 hx hz
    · simp only [orElse, hx, hz, if_true, if_false]
      refine ⟨fun _ h => ?_, fun _ h => ?_, fun _ h => ?_, fun _ h => absurd h hz⟩
      all_goals
        have := a3 (by omega) (by omega)
        rw [if_neg (by omega)]
        omega
  · simp only [orElse, hx, if_false]
    refine ⟨fun h1 h2 => ?_, fun h1 h2 => ?_, fun h1 h2 => ?_, fun h => absurd h hx⟩
    all_goals
      have hz : z1 ≤ 0 := by
        by_cases hz : z1 = 0
        · omega
        · rw [if_neg hz] at h2; omega
      have := a2 (by omega) hz
      rw [if_neg (by omega)]
      omega

/-- The first that differs, or none. -/
theorem lex_cases (c : Nat → Int) (n1 n2 : Nat) : (∃ i, i < n1 ∧ i < n2 ∧ (∀ j, j < i → c j = 0) ∧ c i ≠ 0 ∧ lex c n1 n2 = c i) ∨ ((∀ j, j < min n1 n2 → c j = 0) ∧ lex c n1 n2 = Lib.compareInt n1 n2) := by
  by_cases h : ∀ j, j < min n1 n2 → c j = 0
  · exact Or.inr ⟨h, lex_end h⟩
  · left
    have h' : ∃ j, j < min n1 n2 ∧ c j ≠ 0 := by
      refine Classical.byContradiction fun hn => h fun j hj => Classical.byContradiction fun hc => hn ⟨j, hj, hc⟩
    have hex : ∃ j, (j < min n1 n2 ∧ c j ≠ 0) ∧ ∀ i, i < j → ¬ (i < min n1 n2 ∧ c i ≠ 0) := by
      obtain ⟨j, hj⟩ := h'
      induction j using Nat.strongRecOn with
      | ind j ih =>
        by_cases hk : ∃ i, i < j ∧ i < min n1 n2 ∧ c i ≠ 0
        · obtain ⟨i, hi, hi2⟩ := hk
          exact ih i hi hi2
        · exact ⟨j, hj, fun i hi hc => hk ⟨i, hi, hc⟩⟩
    obtain ⟨j, ⟨hj, hc⟩, hmin⟩ := hex
    have hz : ∀ i, i < j → c i = 0 := fun i hi => Classical.byContradiction fun h0 => hmin i hi ⟨by omega, h0⟩
    exact ⟨j, by omega, by omega, hz, hc, lex_at hz hc (by omega) (by omega)⟩

theorem lex_anti {c c' : Nat → Int} {n1 n2 : Nat} (h : ∀ i, i < n1 → i < n2 → c' i = - c i) : lex c' n2 n1 = - lex c n1 n2 := by
  rcases lex_cases c n1 n2 with ⟨i, h1, h2, hz, hc, e⟩ | ⟨hz, e⟩
  · rw [e, lex_at (c := c') (j := i) (fun j hj => by rw [h j (by omega) (by omega), hz j hj]; rfl) (by rw [h i h1 h2]; omega) h2 h1, h i h1 h2]
  · rw [e, lex_end (c := c') (fun j hj => by rw [h j (by omega) (by omega), hz j (by omega)]; rfl), anti_int]

theorem compareInt_nat (a b : Nat) : (Lib.compareInt a b ≤ 0 ↔ a ≤ b) ∧ (Lib.compareInt a b < 0 ↔ a < b) ∧ (Lib.compareInt a b = 0 ↔ a = b) := by
  unfold Lib.compareInt
  refine ⟨?_, ?_, ?_⟩ <;> (repeat' split) <;> omega

theorem T3_lex {ca cb cc : Nat → Int} {n1 n2 n3 : Nat} (h : ∀ i, i < n1 → i < n2 → i < n3 → T3 (ca i) (cb i) (cc i)) : T3 (lex ca n1 n2) (lex cb n2 n3) (lex cc n1 n3) := by
  have key : lex ca n1 n2 ≤ 0 → lex cb n2 n3 ≤ 0 → lex cc n1 n3 ≤ 0 ∧ (lex ca n1 n2 < 0 ∨ lex cb n2 n3 < 0 → lex cc n1 n3 < 0) ∧ (lex ca n1 n2 = 0 → lex cb n2 n3 = 0 → lex cc n1 n3 = 0) := by
    intro hX hZ
    rcases lex_cases ca n1 n2 with ⟨p, p1, p2, pz, pc, pe⟩ | ⟨pz, pe⟩ <;> rcases lex_cases cb n2 n3 with ⟨q, q1, q2, qz, qc, qe⟩ | ⟨qz, qe⟩
    · rw [pe] at hX ⊢
      rw [qe] at hZ ⊢
      have hm : lex cc n1 n3 < 0 := by
        rcases Nat.lt_trichotomy p q with h1 | h1 | h1
        · have t := h p p1 p2 (by omega)
          have := t.2.1 (by omega) (by rw [qz p h1]; omega)
          rw [lex_at (c := cc) (j := p) (fun j hj => (h j (by omega) (by omega) (by omega)).2.2.2 (pz j hj) (qz j (by omega))) (by omega) p1 (by omega)]
          exact this
        · subst h1
          have t := h p p1 p2 q2
          have := t.2.1 (by omega) hZ
          rw [lex_at (c := cc) (j := p) (fun j hj => (h j (by omega) (by omega) (by omega)).2.2.2 (pz j hj) (qz j hj)) (by omega) p1 q2]
          exact this
        · have t := h q (by omega) q1 q2
          have := t.2.2.1 (by rw [pz q h1]; omega) (by omega)
          rw [lex_at (c := cc) (j := q) (fun j hj => (h j (by omega) (by omega) (by omega)).2.2.2 (pz j (by omega)) (qz j hj)) (by omega) (by omega) q2]
          exact this
      exact ⟨by omega, fun _ => hm, fun h0 => absurd h0 pc⟩
    · rw [pe] at hX ⊢
      rw [qe] at hZ ⊢
      have h23 := (compareInt_nat n2 n3).1.1 hZ
      have hm : lex cc n1 n3 < 0 := by
        have t := h p p1 p2 (by omega)
        have := t.2.1 (by omega) (by rw [qz p (by omega)]; omega)
        rw [lex_at (c := cc) (j := p) (fun j hj => (h j (by omega) (by omega) (by omega)).2.2.2 (pz j hj) (qz j (by omega))) (by omega) p1 (by omega)]
        exact this
      exact ⟨by omega, fun _ => hm, fun h0 => absurd h0 pc⟩
    · rw [pe] at hX ⊢
      rw [qe] at hZ ⊢
      have h12 := (compareInt_nat n1 n2).1.1 hX
      have hm : lex cc n1 n3 < 0 := by
        by_cases hq : q < n1
        · have t := h q hq q1 q2
          have := t.2.2.1 (by rw [pz q (by omega)]; omega) (by omega)
          rw [lex_at (c := cc) (j := q) (fun j hj => (h j (by omega) (by omega) (by omega)).2.2.2 (pz j (by omega)) (qz j hj)) (by omega) hq q2]
          exact this
        · rw [lex_end (c := cc) (fun j hj => (h j (by omega) (by omega) (by omega)).2.2.2 (pz j (by omega)) (qz j (by omega)))]
          exact (compareInt_nat n1 n3).2.1.2 (by omega)
      exact ⟨by omega, fun _ => hm, fun _ h0 => absurd h0 qc⟩
    · rw [pe] at hX ⊢
      rw [qe] at hZ ⊢
      have h12 := (compareInt_nat n1 n2).1.1 hX
      have h23 := (compareInt_nat n2 n3).1.1 hZ
      rw [lex_end (c := cc) (fun j hj => (h j (by omega) (by omega) (by omega)).2.2.2 (pz j (by omega)) (qz j (by omega)))]
      refine ⟨(compareInt_nat n1 n3).1.2 (by omega), fun hh => (compareInt_nat n1 n3).2.1.2 ?_, fun h0 h1 => (compareInt_nat n1 n3).2.2.2 ?_⟩
      · rcases hh with hh | hh
        · have := (compareInt_nat n1 n2).2.1.1 hh; omega
        · have := (compareInt_nat n2 n3).2.1.1 hh; omega
      · have := (compareInt_nat n1 n2).2.2.1 h0
        have := (compareInt_nat n2 n3).2.2.1 h1
        omega
  refine ⟨fun h1 h2 => (key h1 h2).1, fun h1 h2 => (key (by omega) h2).2.1 (Or.inl h1), fun h1 h2 => (key h1 (by omega)).2.1 (Or.inr h2), fun h1 h2 => (key (by omega) (by omega)).2.2 h1 h2⟩
end Go.Proofs.Yticbcoklpgfkhaa

/- Keys are ordered as their values. (No walk.) -/
namespace Go.Proofs.Yticbcoklpgfkhaa
open Go.RowKit

theorem thenC_assoc (a b c : Int) : thenC (thenC a b) c = thenC a (thenC b c) := by
  unfold thenC
  by_cases h : a = 0
  · simp [h]
  · simp [h]
theorem thenC_zero (c : Int) : thenC 0 c = c := rfl
theorem thenC_ne {a : Int} (h : a ≠ 0) (c : Int) : thenC a c = a := by unfold thenC; rw [if_neg h]
theorem or_then (a b : Int) : orElse a b = thenC a b := rfl
/-- The order of rows, from a place on. -/
def lexR (c : Nat → Int) : Nat → Nat → Nat → Int
  | _, 0, 0 => 0
  | _, 0, _ + 1 => -1
  | _, _ + 1, 0 => 1
  | j, a + 1, b + 1 => thenC (c j) (lexR c (j + 1) a b)
theorem lexR_at (c : Nat → Int) : ∀ (i j d1 d2 : Nat), i < d1 → i < d2 → (∀ t, t < i → c (j + t) = 0) → c (j + i) ≠ 0 → lexR c j d1 d2 = c (j + i)
  | _, _, 0, _, h, _, _, _ => absurd h (Nat.not_lt_zero _)
  | _, _, _ + 1, 0, _, h, _, _ => absurd h (Nat.not_lt_zero _)
  | 0, j, a + 1, b + 1, _, _, _, hc => thenC_ne hc _
  | i + 1, j, a + 1, b + 1, h1, h2, hz, hc => by
    have h0 : c j = 0 := hz 0 (by omega)
    rw [lexR, h0, thenC_zero, lexR_at c i (j + 1) a b (by omega) (by omega) (fun t ht => by have := hz (t + 1) (by omega); rwa [show j + 1 + t = j + (t + 1) by omega]) (by rwa [show j + 1 + i = j + (i + 1) by omega]), show j + 1 + i = j + (i + 1) by omega]
theorem lexR_end (c : Nat → Int) : ∀ (j d1 d2 : Nat), (∀ t, t < min d1 d2 → c (j + t) = 0) → lexR c j d1 d2 = Lib.compareInt (d1 : Int) (d2 : Int)
  | _, 0, 0, _ => rfl
  | _, 0, b + 1, _ => by
    unfold lexR Lib.compareInt
    rw [if_pos (by omega)]
  | _, a + 1, 0, _ => by
    unfold lexR Lib.compareInt
    rw [if_neg (by omega), if_pos (by omega)]
  | j, a + 1, b + 1, h => by
    have h0 : c j = 0 := h 0 (by omega)
    rw [lexR, h0, thenC_zero, lexR_end c (j + 1) a b (fun t ht => by have := h (t + 1) (by omega); rwa [show j + 1 + t = j + (t + 1) by omega])]
    unfold Lib.compareInt
    repeat' split
    all_goals omega
theorem lexR_lex (c : Nat → Int) (n1 n2 : Nat) : lexR c 0 n1 n2 = lex c n1 n2 := by
  rcases lex_cases c n1 n2 with ⟨i, h1, h2, hz, hc, e⟩ | ⟨hz, e⟩
  · rw [e, lexR_at c i 0 n1 n2 h1 h2 (fun t ht => by rw [Nat.zero_add]; exact hz t ht) (by rw [Nat.zero_add]; exact hc), Nat.zero_add]
  · rw [e, lexR_end c 0 n1 n2 (fun t ht => by rw [Nat.zero_add]; exact hz t ht)]
/-- Parts one behind the other, each with a byte 1 ahead, and a byte 0 at the end. -/
theorem cb_parts (P Q : Nat → List UInt8) (c : Nat → Int) (n1 n2 : Nat) (h : ∀ i, i < n1 → i < n2 → ∀ r r', Lib.compareBytes (P i ++ r) (Q i ++ r') = thenC (c i) (Lib.compareBytes r r')) (r r' : List UInt8) :
    ∀ (d1 d2 j : Nat), j + d1 = n1 → j + d2 = n2 → Lib.compareBytes ((List.range' j d1).flatMap (fun i => 1 :: P i) ++ 0 :: r) ((List.range' j d2).flatMap (fun i => 1 :: Q i) ++ 0 :: r') = thenC (lexR c j d1 d2) (Lib.compareBytes r r')
  | 0, 0, _, _, _ => by
    show Lib.compareBytes (0 :: r) (0 :: r') = _
    rw [cb_eq]
    rfl
  | 0, b + 1, j, _, _ => by
    rw [List.range'_succ, List.flatMap_cons]
    show Lib.compareBytes (0 :: r) (1 :: _) = -1
    exact cb_lt (by decide) _ _
  | a + 1, 0, j, _, _ => by
    rw [List.range'_succ, List.flatMap_cons]
    show Lib.compareBytes (1 :: _) (0 :: r') = 1
    exact cb_gt (by decide) _ _
  | a + 1, b + 1, j, h1, h2 => by
    rw [List.range'_succ, List.range'_succ, List.flatMap_cons, List.flatMap_cons, List.cons_append, List.cons_append, List.cons_append, List.cons_append, cb_eq, List.append_assoc, List.append_assoc, h j (by omega) (by omega), cb_parts P Q c n1 n2 h r r' a b (j + 1) (by omega) (by omega), lexR, thenC_assoc]
theorem byteK_lt {k k' : Int} (h : 1 ≤ k ∧ k ≤ 6) (h' : 1 ≤ k' ∧ k' ≤ 6) (hlt : k < k') : byteOf (10 * k) < byteOf (10 * k') := by
  rw [UInt8.lt_iff_toNat_lt, byteK ⟨by omega, by omega⟩, byteK ⟨by omega, by omega⟩]
  omega
theorem kind_range {k n s ln l fn nm f} (h : (GV.mk k n s ln l fn nm f).formed = true) : 1 ≤ k ∧ k ≤ 6 := by
  rcases kind_of h with rfl | rfl | rfl | rfl | rfl | rfl <;> omega

/-- Keys are ordered as their values. -/
theorem key_cmp : ∀ a b : GV, a.every GV.formed = true → b.every GV.formed = true → a.every GV.nOk = true → b.every GV.nOk = true → ∀ r r', Lib.compareBytes (a.key ++ r) (b.key ++ r') = thenC (a.cmp b) (Lib.compareBytes r r') := by
  intro a
  induction a with
  | nil => intro b h; simp [GV.every, GV.formed] at h
  | mk k n s ln l fn nm f ihl ihf =>
    intro b ha hb na nb r r'
    cases b with
    | nil => simp [GV.every, GV.formed] at hb
    | mk k' n' s' ln' l' fn' nm' f' =>
      have ka := kind_range (every_top ha)
      have kb := kind_range (every_top hb)
      by_cases hk : k = k'
      · subst hk
        have hc0 : ¬ (Lib.compareInt k k ≠ 0) := by simp [Lib.compareInt]
        rw [GV.cmp, if_neg hc0]
        rcases kind_of (every_top ha) with rfl | rfl | rfl | rfl | rfl | rfl
        · simp only [GV.key]
          rw [if_neg (by omega), if_neg (by omega), if_neg (by omega), if_neg (by omega), if_neg (by omega), if_neg (by omega), if_neg (by omega), if_neg (by omega), if_neg (by omega)]
          rw [List.cons_append, List.cons_append, cb_eq]
          rfl
        · have e1 : (GV.mk 2 n s ln l fn nm f).key = byteOf (10 * 2) :: [byteOf n] := by simp [GV.key]
          have e2 : (GV.mk 2 n' s' ln' l' fn' nm' f').key = byteOf (10 * 2) :: [byteOf n'] := by simp [GV.key]
          have fa := every_top ha
          have fb := every_top hb
          simp [GV.formed] at fa fb
          rw [e1, e2, if_pos (by omega)]
          show Lib.compareBytes (byteOf (10 * 2) :: (byteOf n :: r)) (byteOf (10 * 2) :: (byteOf n' :: r')) = _
          rw [cb_eq]
          rcases fa.1.1.1 with rfl | rfl <;> rcases fb.1.1.1 with rfl | rfl
          · rw [cb_eq]; rfl
          · show Lib.compareBytes (byteOf 0 :: r) (byteOf 1 :: r') = _
            rw [cb_lt (by decide)]; rfl
          · show Lib.compareBytes (byteOf 1 :: r) (byteOf 0 :: r') = _
            rw [cb_gt (by decide)]; rfl
          · rw [cb_eq]; rfl
        · have e1 : (GV.mk 3 n s ln l fn nm f).key = byteOf (10 * 3) :: numK n := by simp [GV.key]
          have e2 : (GV.mk 3 n' s' ln' l' fn' nm' f').key = byteOf (10 * 3) :: numK n' := by simp [GV.key]
          have ia : Int64 n := by have := every_top na; simp [GV.nOk] at this; exact this
          have ib : Int64 n' := by have := every_top nb; simp [GV.nOk] at this; exact this
          have q1 := numK_back ia
          have q2 := numK_back ib
          rw [e1, e2, if_pos (by omega), List.cons_append, List.cons_append, cb_eq, cb_num (numK n) (numK n') r r' (by rw [numK_len, numK_len])]
          congr 1
          unfold Lib.compareInt
          repeat' split
          all_goals omega
        · have e1 : (GV.mk 4 n s ln l fn nm f).key = byteOf (10 * 4) :: lettersK s.data.toList := by simp [GV.key]
          have e2 : (GV.mk 4 n' s' ln' l' fn' nm' f').key = byteOf (10 * 4) :: lettersK s'.data.toList := by simp [GV.key]
          rw [e1, e2, if_neg (by omega), if_pos rfl, List.cons_append, List.cons_append, cb_eq, cb_letters]
          rfl
        · have e1 : (GV.mk 5 n s ln l fn nm f).key ++ r = byteOf (10 * 5) :: ((List.range' 0 ln).flatMap (fun i => 1 :: (l i).key) ++ 0 :: r) := by simp [GV.key, List.range_eq_range']
          have e2 : (GV.mk 5 n' s' ln' l' fn' nm' f').key ++ r' = byteOf (10 * 5) :: ((List.range' 0 ln').flatMap (fun i => 1 :: (l' i).key) ++ 0 :: r') := by simp [GV.key, List.range_eq_range']
          rw [e1, e2, if_neg (by omega), if_neg (by omega), if_pos rfl, cb_eq, cb_parts (fun i => (l i).key) (fun i => (l' i).key) (fun i => (l i).cmp (l' i)) ln ln' (fun i h1 h2 r r' => ihl i (l' i) (every_l ha i h1) (every_l hb i h2) (every_l na i h1) (every_l nb i h2) r r') r r' ln ln' 0 (by omega) (by omega), lexR_lex]
        · have e1 : (GV.mk 6 n s ln l fn nm f).key ++ r = byteOf (10 * 6) :: ((List.range' 0 fn).flatMap (fun i => 1 :: (lettersK (nm i).data.toList ++ (f i).key)) ++ 0 :: r) := by simp [GV.key, List.range_eq_range']
          have e2 : (GV.mk 6 n' s' ln' l' fn' nm' f').key ++ r' = byteOf (10 * 6) :: ((List.range' 0 fn').flatMap (fun i => 1 :: (lettersK (nm' i).data.toList ++ (f' i).key)) ++ 0 :: r') := by simp [GV.key, List.range_eq_range']
          rw [e1, e2, if_neg (by omega), if_neg (by omega), if_neg (by omega), if_pos rfl, cb_eq, cb_parts (fun i => lettersK (nm i).data.toList ++ (f i).key) (fun i => lettersK (nm' i).data.toList ++ (f' i).key) (fun i => orElse (cmpS (nm i) (nm' i)) ((f i).cmp (f' i))) fn fn' (fun i h1 h2 r r' => by
            rw [List.append_assoc, List.append_assoc, cb_letters, ihf i (f' i) (every_f ha i h1) (every_f hb i h2) (every_f na i h1) (every_f nb i h2) r r', or_then, thenC_assoc]
            rfl) r r' fn fn' 0 (by omega) (by omega), lexR_lex]
      · have e1 : ∃ t, (GV.mk k n s ln l fn nm f).key = byteOf (10 * k) :: t := ⟨_, rfl⟩
        have e2 : ∃ t, (GV.mk k' n' s' ln' l' fn' nm' f').key = byteOf (10 * k') :: t := ⟨_, rfl⟩
        obtain ⟨t, e1⟩ := e1
        obtain ⟨t', e2⟩ := e2
        rw [e1, e2, List.cons_append, List.cons_append, GV.cmp]
        rcases Int.lt_or_gt_of_ne hk with h | h
        · have hc : Lib.compareInt k k' = -1 := by unfold Lib.compareInt; rw [if_pos h]
          rw [cb_lt (byteK_lt ka kb h), hc, if_pos (by decide)]
          rfl
        · have hc : Lib.compareInt k k' = 1 := by unfold Lib.compareInt; rw [if_neg (by omega), if_pos h]
          rw [cb_gt (byteK_lt kb ka h), hc, if_pos (by decide)]
          rfl
/-- The keys of two good values, byte by byte. -/
theorem keys_order {a b : GV} (ha : a.err = 0) (hb : b.err = 0) (na : a.every GV.nOk = true) (nb : b.every GV.nOk = true) : Lib.compareBytes a.key b.key = a.cmp b := by
  have h := key_cmp a b (err_zeroM ha).1 (err_zeroM hb).1 na nb [] []
  rw [List.append_nil, List.append_nil] at h
  rw [h]
  unfold thenC
  split
  · rename_i h0
    rw [h0]
    rfl
  · rfl
end Go.Proofs.Yticbcoklpgfkhaa

/- Joint keys: they go by the first values that differ, and tell their values. (No walk.) -/
namespace Go.Proofs.Yticbcoklpgfkhaa
open Go.RowKit

/-- The first of so many numbers that is not 0. -/
def firstC (c : Nat → Int) : Nat → Int
  | 0 => 0
  | j + 1 => thenC (firstC c j) (c j)
theorem thenC_right (a : Int) : thenC a 0 = a := by
  unfold thenC
  split
  · rename_i h; exact h.symm
  · rfl
theorem firstC_stay (c : Nat → Int) {i : Nat} (h : firstC c i ≠ 0) : ∀ {n : Nat}, i ≤ n → firstC c n = firstC c i
  | 0, hn => by obtain rfl : i = 0 := by omega
                rfl
  | n + 1, hn => by
    by_cases e : i = n + 1
    · rw [e]
    · rw [firstC, firstC_stay c h (n := n) (by omega), thenC_ne h]
theorem keysN_succ (l : Nat → GV) (j : Nat) : keysN l (j + 1) = keysN l j ++ (l j).key := by unfold keysN; rw [flat_snoc]
/-- Joint keys of as many values go by the first that differ. -/
theorem joint_cmp (a b : Nat → GV) : ∀ (n : Nat), (∀ i, i < n → (a i).err = 0 ∧ (b i).err = 0 ∧ (a i).every GV.nOk = true ∧ (b i).every GV.nOk = true) → ∀ r r', Lib.compareBytes (keysN a n ++ r) (keysN b n ++ r') = thenC (firstC (fun i => (a i).cmp (b i)) n) (Lib.compareBytes r r')
  | 0, _, r, r' => rfl
  | n + 1, h, r, r' => by
    obtain ⟨h1, h2, h3, h4⟩ := h n (by omega)
    rw [keysN_succ, keysN_succ, List.append_assoc, List.append_assoc, joint_cmp a b n (fun i hi => h i (by omega)), key_cmp (a n) (b n) (err_zeroM h1).1 (err_zeroM h2).1 h3 h4, firstC, thenC_assoc]
/-- Values of one joint key are the same. -/
theorem joint_same (l : Nat → GV) : ∀ (fs : List Fl) (i n : Nat), fs.length = n → (∀ f ∈ fs, f.g.err = 0 ∧ f.g.every GV.nOk = true) → (∀ j, j < n → (l (i + j)).err = 0 ∧ (l (i + j)).every GV.nOk = true) → keysF fs = (List.range' i n).flatMap (fun j => (l j).key) → ∀ j (hj : j < fs.length), ((fs[j]'hj).g).same (l (i + j)) = true
  | [], _, _, _, _, _, _, j, hj => absurd hj (Nat.not_lt_zero _)
  | f :: fs, i, n, hn, hf, hl, hk, j, hj => by
    obtain ⟨m, rfl⟩ : ∃ m, n = m + 1 := ⟨n - 1, by simp at hn; omega⟩
    obtain ⟨e1, e2⟩ := hf f (by simp)
    obtain ⟨e3, e4⟩ := hl 0 (by omega)
    rw [Nat.add_zero] at e3 e4
    have hk2 : f.g.key ++ keysF fs = (l i).key ++ (List.range' (i + 1) m).flatMap (fun j => (l j).key) := by
      rw [List.range'_succ, List.flatMap_cons] at hk
      exact hk
    obtain ⟨q1, q2, _⟩ := begins_same (l := f.g.key ++ keysF fs) (rest := keysF fs) (rest' := (List.range' (i + 1) m).flatMap (fun j => (l j).key)) ⟨e1, rfl⟩ ⟨e3, hk2⟩ e2 e4
    cases j with
    | zero => exact key_same e1 e3 e2 e4 q2
    | succ j =>
      have h := joint_same l fs (i + 1) m (by simpa using hn) (fun x hx => hf x (by simp [hx])) (fun j hj => by have := hl (j + 1) (by omega); rwa [show i + 1 + j = i + (j + 1) by omega]) q1 j (by simpa using hj)
      rw [show i + 1 + j = i + (j + 1) by omega] at h
      exact h
theorem err_formJ {g : GV} (h : g.err ≠ 0) : ∃ j : Nat, g.err = Int.ofNat (j + 1) := by
  unfold GV.err at h ⊢
  split
  · exact ⟨3, rfl⟩
  · split
    · exact ⟨10, rfl⟩
    · split
      · exact ⟨14, rfl⟩
      · split
        · exact ⟨2, rfl⟩
        · split
          · exact ⟨1, rfl⟩
          · rename_i h1 h2 h3 h4 h5
            simp [h1, h2, h3, h4, h5] at h
end Go.Proofs.Yticbcoklpgfkhaa

/- Chapter 5's examples. -/
namespace Go.Proofs.Yticbcoklpgfkhaa
open Go.RowKit

def gLst (n : Nat) (l : Nat → GV) : GV := .mk 0 0 ⟨#[]⟩ n l 0 (fun _ => ⟨#[]⟩) (fun _ => .nil)
theorem lies_lst {w : World} {a : Option Addr} {n c : Nat} {l : Nat → GV} (h : Vals w a n l) (h1 : n ≤ c) (h2 : c ≤ maxLen) : Lies w (gLst n l) (.agg #[.int .i64 0, .int .i64 0, .string ⟨#[]⟩, .slice a n c, .slice none 0 0]) :=
  ⟨a, c, none, 0, rfl, small64 (by omega), small64 (by omega), by decide, h1, h2, by omega, by unfold maxLen; omega, h, fun i hi => absurd hi (Nat.not_lt_zero _)⟩
theorem same_lst {n : Nat} {l l' : Nat → GV} (h : ∀ i, i < n → (l i).same (l' i) = true) : (gLst n l).same (gLst n l') = true := by
  simp [gLst, GV.same]
  exact h

set_option maxHeartbeats 1000000 in
set_option maxRecDepth 1000000 in
theorem list_any (a a' : Option Addr) (n c c' : Nat) (l l' : Nat → GV) (w : World) (h : Vals w a n l) (h' : Vals w a' n l') (h1 : n ≤ c) (h2 : c ≤ maxLen) (h3 : n ≤ c') (h4 : c' ≤ maxLen) (hs : ∀ i, i < n → (l i).same (l' i) = true) :
    Calls Try.prog 18 #[.slice a n c, .slice a' n c'] w fun e w' => e = .returned (.bool true) ∧ RowKit.Below w.heap.size w w' := by
  have HC : Hid (Calls Try.prog 25 #[.agg #[.int .i64 0, .int .i64 0, .string ⟨#[]⟩, .slice a n c, .slice none 0 0], .agg #[.int .i64 0, .int .i64 0, .string ⟨#[]⟩, .slice a' n c', .slice none 0 0]] w fun e w' => e = .returned (.bool true) ∧ RowKit.Below w.heap.size w w') := by
    have h := Same_any _ _ _ _ w (lies_lst h h1 h2) (lies_lst h' h3 h4)
    rw [same_lst hs] at h
    exact h
  clear h h'
  go_enter Try.func18, Try.ntmps18
  go_wp2_with fail
  refine HC.out.mono ?_
  rintro e w1 ⟨rfl, b1⟩
  have B1 := mkHid b1
  clear b1
  go_wp2_with fail
  go_ret
  exact ⟨rfl, B1.out⟩


/-- 'is' of bytes in a new block. -/
theorem is_new (g : GV) (v : Value) (bs : List UInt8) (cs : Array Value) (u : World) (hcs : cs = (Lib.byteCells bs).toArray) (hL : Lies u g v) (hN : g.nodes ≤ 16384) (he : g.err = 0) (hk : g.key = bs) :
    Calls Try.prog 13 #[v, .slice (some ⟨u.heap.size, 0, none⟩) bs.length bs.length] (u.alloc (.cells cs 5)) fun e w' => e = .returned (.bool true) ∧ RowKit.Below u.heap.size u w' := by
  have hb := (RowKit.Below.refl u.heap.size u).alloc (Nat.le_refl _) (.cells cs 5)
  have hB : Byts (u.alloc (.cells cs 5)) (some ⟨u.heap.size, 0, none⟩) g.key := by
    intro i hi
    refine ⟨u.heap.size, 0, rfl, ?_⟩
    rw [cell_of_row _ u.heap.size _ cs 5 (0, 0) (heap_alloc_new u _), hcs]
    rw [hk] at hi
    simp [Lib.byteCells, hk, hi]
  have h := is_yes g v (some ⟨u.heap.size, 0, none⟩) bs.length (u.alloc (.cells cs 5)) (hL.below hb) hN he hB
  rw [hk] at h
  refine h.mono ?_
  rintro e w' ⟨rfl, b⟩
  exact ⟨rfl, hb.trans (b.mono hb.size)⟩
theorem gN_key : gN.key = [10] ∧ gN.err = 0 ∧ gN.every GV.nOk = true := by decide +kernel
theorem two_no (g : GV) (h1 : g.err = 0) (h2 : g.every GV.nOk = true) : ([10, 10] : List UInt8) ≠ g.key := by
  intro e
  obtain ⟨k1, k2, k3⟩ := gN_key
  obtain ⟨h, _⟩ := begins_same (l := [10, 10]) (g := g) (g' := gN) (rest := []) (rest' := [10]) ⟨h1, by simpa using e⟩ ⟨k2, by rw [k1]; rfl⟩ h2 k3
  exact absurd h (by simp)
/-- Back of 10, 10: refused. -/
theorem back_two (u : World) : Calls Try.prog 9 #[.slice (some ⟨u.heap.size, 0, none⟩) 2 2] (u.alloc (.cells #[.int .u8 10, .int .u8 10] 5)) fun e w' => e = .returned (.tuple #[.agg #[.int .i64 0, .int .i64 0, .string ⟨#[]⟩, .slice none 0 0, .slice none 0 0], .int .i64 4]) ∧ RowKit.Below u.heap.size u w' := by
  have hb := (RowKit.Below.refl u.heap.size u).alloc (Nat.le_refl _) (.cells #[.int .u8 10, .int .u8 10] 5)
  refine (Back_any (some ⟨u.heap.size, 0, none⟩) 2 [10, 10] _ (byts_new u [10, 10] _ rfl) (by simp) (by unfold maxLen; omega) (by simp)).mono ?_
  rintro e w' ⟨b, ⟨f, h1, h2, _, h4⟩ | ⟨_, rfl⟩⟩
  · exact absurd h2 (two_no f.g h1 (nOk_lies h4.lies))
  · exact ⟨rfl, hb.trans (b.mono hb.size)⟩
/-- Split of 10, 10 into two: Null, Null. -/
theorem split_two (u : World) : Calls Try.prog 10 #[.slice (some ⟨u.heap.size, 0, none⟩) 2 2, .int .i64 2] (u.alloc (.cells #[.int .u8 10, .int .u8 10] 5)) fun e w' => (∃ a c l, e = .returned (.tuple #[.slice a 2 c, .int .i64 0]) ∧ 2 ≤ c ∧ c ≤ maxLen ∧ Vals w' a 2 l ∧ ∀ i, i < 2 → (l i).same gN = true) ∧ RowKit.Below u.heap.size u w' := by
  have hb := (RowKit.Below.refl u.heap.size u).alloc (Nat.le_refl _) (.cells #[.int .u8 10, .int .u8 10] 5)
  obtain ⟨k1, k2, k3⟩ := gN_key
  refine (Split_any (some ⟨u.heap.size, 0, none⟩) 2 [10, 10] 2 _ (byts_new u [10, 10] _ rfl) (by simp) (by unfold maxLen; omega) (by omega) (by simp)).mono ?_
  rintro e w' ⟨b, ⟨v, fs, h1, h2, h3, rfl⟩ | ⟨h, _⟩⟩
  · refine ⟨?_, hb.trans (b.mono hb.size)⟩
    match fs, h1 with
    | [f, f'], _ =>
      have hf := h3.trees f (by simp)
      have hf' := h3.trees f' (by simp)
      have hkk : ([10, 10] : List UInt8) = f.g.key ++ f'.g.key := by rw [h2]; simp [keysF]
      obtain ⟨e1, e2, _⟩ := begins_same (l := [10, 10]) (g := f.g) (g' := gN) (rest := f'.g.key) (rest' := [10]) ⟨hf.2, hkk⟩ ⟨k2, by rw [k1]; rfl⟩ (nOk_lies hf.1.lies) k3
      have s1 := key_same hf.2 k2 (nOk_lies hf.1.lies) k3 e2
      have s2 := key_same hf'.2 k2 (nOk_lies hf'.1.lies) k3 (by rw [e1, k1])
      obtain ⟨a, c, rfl, q1, q2, hV⟩ := vals_own (l := fun i => if i = 0 then f.g else f'.g) h3.own (by simp) (fun i hi => by
        have hi2 : i < 2 := by simpa using hi
        obtain rfl | rfl : i = 0 ∨ i = 1 := by omega
        · exact hf.1.lies
        · exact hf'.1.lies)
      refine ⟨a, c, _, rfl, q1, q2, hV, fun i hi => ?_⟩
      obtain rfl | rfl : i = 0 ∨ i = 1 := by omega
      · exact s1
      · exact s2
  · refine absurd ⟨rfl, ?_, ?_⟩ (h [gN, gN])
    · intro g hg
      simp at hg
      rw [hg]
      exact ⟨k2, k3⟩
    · simp [k1]
theorem after_yes (u : World) : Calls Try.prog 11 #[.slice (some ⟨u.heap.size, 0, none⟩) 2 2] (u.alloc (.cells #[.int .u8 1, .int .u8 255] 5)) fun e w' => (∃ v, e = .returned (.tuple #[v, .bool true]) ∧ w'.ownsRow u.heap.size 5 1 v 1 (Lib.byteCells [2])) ∧ RowKit.Below u.heap.size u w' := by
  have hb := (RowKit.Below.refl u.heap.size u).alloc (Nat.le_refl _) (.cells #[.int .u8 1, .int .u8 255] 5)
  refine (After_any (some ⟨u.heap.size, 0, none⟩) 2 [1, 255] _ (byts_new u [1, 255] _ rfl) (by simp) (by unfold maxLen; omega) (by simp)).mono ?_
  rintro e w' ⟨b, ⟨h, _⟩ | ⟨_, v, rfl, ho⟩⟩
  · exact absurd h (by decide)
  · refine ⟨⟨v, rfl, ?_⟩, hb.trans (b.mono hb.size)⟩
    have e : riseR [1, 255] = [2] := by decide
    rw [e] at ho
    exact own_more ho hb.size
theorem after_no (u : World) : Calls Try.prog 11 #[.slice (some ⟨u.heap.size, 0, none⟩) 1 1] (u.alloc (.cells #[.int .u8 255] 5)) fun e w' => e = .returned (.tuple #[.slice none 0 0, .bool false]) ∧ RowKit.Below u.heap.size u w' := by
  have hb := (RowKit.Below.refl u.heap.size u).alloc (Nat.le_refl _) (.cells #[.int .u8 255] 5)
  refine (After_any (some ⟨u.heap.size, 0, none⟩) 1 [255] _ (byts_new u [255] _ rfl) (by simp) (by unfold maxLen; omega) (by simp)).mono ?_
  rintro e w' ⟨b, ⟨_, rfl⟩ | ⟨h, _⟩⟩
  · exact ⟨rfl, hb.trans (b.mono hb.size)⟩
  · exact absurd (by decide) h
end Go.Proofs.Yticbcoklpgfkhaa
