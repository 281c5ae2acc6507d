/- Some texts in one: each opens with its own remark. -/
import Derived.Test.YticbcoklpgfkhaaR8
import Derived.Test.YticbcoklpgfkhaaCmp
import Derived.Test.YticbcoklpgfkhaaR4
import Derived.Test.YticbcoklpgfkhaaR3
import Derived.Test.YticbcoklpgfkhaaVF
import Derived.Deep.RegionWith
import Derived.Test.YticbcoklpgfkhaaUKyRSplit
import Derived.Test.YticbcoklpgfkhaaRows
import Derived.WalkKit
import Derived.ProofKit
import Derived.OpenShut
import Derived.ChangeSlices
import Derived.Test.YticbcoklpgfkhaaKyMem
import Derived.Test.YticbcoklpgfkhaaR1
/- Plain facts on the order of values: the other way round; over a third one. -/
namespace Go.Proofs.Yticbcoklpgfkhaa
open Go.RowKit

/-- Over a third one. -/
def T3 (x z y : Int) : Prop := (x ≤ 0 → z ≤ 0 → y ≤ 0) ∧ (x < 0 → z ≤ 0 → y < 0) ∧ (x ≤ 0 → z < 0 → y < 0) ∧ (x = 0 → z = 0 → y = 0)

theorem T3_int (a b c : Int) : T3 (Lib.compareInt a b) (Lib.compareInt b c) (Lib.compareInt a c) := by
  unfold Lib.compareInt
  refine ⟨?_, ?_, ?_, ?_⟩ <;> (intro h1 h2; repeat' split) <;> first | omega | (simp_all; omega)
theorem anti_int (a b : Int) : Lib.compareInt b a = - Lib.compareInt a b := by
  unfold Lib.compareInt
  repeat' split
  all_goals omega

theorem T3_str (a b c : ByteArray) : T3 (cmpS a b) (cmpS b c) (cmpS a c) := by
  have le : ∀ l m k : List UInt8, Lib.compareBytes l m ≤ 0 → Lib.compareBytes m k ≤ 0 → Lib.compareBytes l k = 0 → Lib.compareBytes l m = 0 ∧ Lib.compareBytes m k = 0 := by
    intro l m k h1 h2 h3
    have e := cmp_zero l k h3
    subst e
    have a1 := cmp_anti l m
    omega
  unfold cmpS
  have t := cmp_trans a.data.toList b.data.toList c.data.toList
  have l := le a.data.toList b.data.toList c.data.toList
  refine ⟨t, fun h1 h2 => ?_, fun h1 h2 => ?_, fun h1 h2 => ?_⟩
  · have h3 := t (by omega) h2
    rcases Int.lt_or_eq_of_le h3 with h | h
    · exact h
    · have := l (by omega) h2 h; omega
  · have h3 := t h1 (by omega)
    rcases Int.lt_or_eq_of_le h3 with h | h
    · exact h
    · have := l h1 (by omega) h; omega
  · have e1 := cmp_zero _ _ h1
    rw [e1]
    exact h2
theorem anti_str (a b : ByteArray) : cmpS b a = - cmpS a b := cmp_anti _ _

theorem T3_or {x1 z1 y1 x2 z2 y2 : Int} (h1 : T3 x1 z1 y1) (h2 : x1 = 0 → z1 = 0 → T3 x2 z2 y2) : T3 (orElse x1 x2) (orElse z1 z2) (orElse y1 y2) := by
  obtain ⟨a1, a2, a3, a4⟩ := h1
  by_cases hx : x1 = 0
  · by_cases hz : z1 = 0
    · have hy := a4 hx hz
      simp only [orElse, hx, hz, hy, if_true]
      exact h2 hx hz
    · simp only [orElse, hx, hz, if_true, if_false]
      refine ⟨fun _ h => ?_, fun _ h => ?_, fun _ h => ?_, fun _ h => absurd h hz⟩
      all_goals
        have := a3 (by omega) (by omega)
        rw [if_neg (by omega)]
        omega
  · simp only [orElse, hx, if_false]
    refine ⟨fun h1 h2 => ?_, fun h1 h2 => ?_, fun h1 h2 => ?_, fun h => absurd h hx⟩
    all_goals
      have hz : z1 ≤ 0 := by
        by_cases hz : z1 = 0
        · omega
        · rw [if_neg hz] at h2; omega
      have := a2 (by omega) hz
      rw [if_neg (by omega)]
      omega

/-- The first that differs, or none. -/
theorem lex_cases (c : Nat → Int) (n1 n2 : Nat) : (∃ i, i < n1 ∧ i < n2 ∧ (∀ j, j < i → c j = 0) ∧ c i ≠ 0 ∧ lex c n1 n2 = c i) ∨ ((∀ j, j < min n1 n2 → c j = 0) ∧ lex c n1 n2 = Lib.compareInt n1 n2) := by
  by_cases h : ∀ j, j < min n1 n2 → c j = 0
  · exact Or.inr ⟨h, lex_end h⟩
  · left
    have h' : ∃ j, j < min n1 n2 ∧ c j ≠ 0 := by
      refine Classical.byContradiction fun hn => h fun j hj => Classical.byContradiction fun hc => hn ⟨j, hj, hc⟩
    have hex : ∃ j, (j < min n1 n2 ∧ c j ≠ 0) ∧ ∀ i, i < j → ¬ (i < min n1 n2 ∧ c i ≠ 0) := by
      obtain ⟨j, hj⟩ := h'
      induction j using Nat.strongRecOn with
      | ind j ih =>
        by_cases hk : ∃ i, i < j ∧ i < min n1 n2 ∧ c i ≠ 0
        · obtain ⟨i, hi, hi2⟩ := hk
          exact ih i hi hi2
        · exact ⟨j, hj, fun i hi hc => hk ⟨i, hi, hc⟩⟩
    obtain ⟨j, ⟨hj, hc⟩, hmin⟩ := hex
    have hz : ∀ i, i < j → c i = 0 := fun i hi => Classical.byContradiction fun h0 => hmin i hi ⟨by omega, h0⟩
    exact ⟨j, by omega, by omega, hz, hc, lex_at hz hc (by omega) (by omega)⟩

theorem lex_anti {c c' : Nat → Int} {n1 n2 : Nat} (h : ∀ i, i < n1 → i < n2 → c' i = - c i) : lex c' n2 n1 = - lex c n1 n2 := by
  rcases lex_cases c n1 n2 with ⟨i, h1, h2, hz, hc, e⟩ | ⟨hz, e⟩
  · rw [e, lex_at (c := c') (j := i) (fun j hj => by rw [h j (by omega) (by omega), hz j hj]; rfl) (by rw [h i h1 h2]; omega) h2 h1, h i h1 h2]
  · rw [e, lex_end (c := c') (fun j hj => by rw [h j (by omega) (by omega), hz j (by omega)]; rfl), anti_int]

theorem compareInt_nat (a b : Nat) : (Lib.compareInt a b ≤ 0 ↔ a ≤ b) ∧ (Lib.compareInt a b < 0 ↔ a < b) ∧ (Lib.compareInt a b = 0 ↔ a = b) := by
  unfold Lib.compareInt
  refine ⟨?_, ?_, ?_⟩ <;> (repeat' split) <;> omega

theorem T3_lex {ca cb cc : Nat → Int} {n1 n2 n3 : Nat} (h : ∀ i, i < n1 → i < n2 → i < n3 → T3 (ca i) (cb i) (cc i)) : T3 (lex ca n1 n2) (lex cb n2 n3) (lex cc n1 n3) := by
  have key : lex ca n1 n2 ≤ 0 → lex cb n2 n3 ≤ 0 → lex cc n1 n3 ≤ 0 ∧ (lex ca n1 n2 < 0 ∨ lex cb n2 n3 < 0 → lex cc n1 n3 < 0) ∧ (lex ca n1 n2 = 0 → lex cb n2 n3 = 0 → lex cc n1 n3 = 0) := by
    intro hX hZ
    rcases lex_cases ca n1 n2 with ⟨p, p1, p2, pz, pc, pe⟩ | ⟨pz, pe⟩ <;> rcases lex_cases cb n2 n3 with ⟨q, q1, q2, qz, qc, qe⟩ | ⟨qz, qe⟩
    · rw [pe] at hX ⊢
      rw [qe] at hZ ⊢
      have hm : lex cc n1 n3 < 0 := by
        rcases Nat.lt_trichotomy p q with h1 | h1 | h1
        · have t := h p p1 p2 (by omega)
          have := t.2.1 (by omega) (by rw [qz p h1]; omega)
          rw [lex_at (c := cc) (j := p) (fun j hj => (h j (by omega) (by omega) (by omega)).2.2.2 (pz j hj) (qz j (by omega))) (by omega) p1 (by omega)]
          exact this
        · subst h1
          have t := h p p1 p2 q2
          have := t.2.1 (by omega) hZ
          rw [lex_at (c := cc) (j := p) (fun j hj => (h j (by omega) (by omega) (by omega)).2.2.2 (pz j hj) (qz j hj)) (by omega) p1 q2]
          exact this
        · have t := h q (by omega) q1 q2
          have := t.2.2.1 (by rw [pz q h1]; omega) (by omega)
          rw [lex_at (c := cc) (j := q) (fun j hj => (h j (by omega) (by omega) (by omega)).2.2.2 (pz j (by omega)) (qz j hj)) (by omega) (by omega) q2]
          exact this
      exact ⟨by omega, fun _ => hm, fun h0 => absurd h0 pc⟩
    · rw [pe] at hX ⊢
      rw [qe] at hZ ⊢
      have h23 := (compareInt_nat n2 n3).1.1 hZ
      have hm : lex cc n1 n3 < 0 := by
        have t := h p p1 p2 (by omega)
        have := t.2.1 (by omega) (by rw [qz p (by omega)]; omega)
        rw [lex_at (c := cc) (j := p) (fun j hj => (h j (by omega) (by omega) (by omega)).2.2.2 (pz j hj) (qz j (by omega))) (by omega) p1 (by omega)]
        exact this
      exact ⟨by omega, fun _ => hm, fun h0 => absurd h0 pc⟩
    · rw [pe] at hX ⊢
      rw [qe] at hZ ⊢
      have h12 := (compareInt_nat n1 n2).1.1 hX
      have hm : lex cc n1 n3 < 0 := by
        by_cases hq : q < n1
        · have t := h q hq q1 q2
          have := t.2.2.1 (by rw [pz q (by omega)]; omega) (by omega)
          rw [lex_at (c := cc) (j := q) (fun j hj => (h j (by omega) (by omega) (by omega)).2.2.2 (pz j (by omega)) (qz j hj)) (by omega) hq q2]
          exact this
        · rw [lex_end (c := cc) (fun j hj => (h j (by omega) (by omega) (by omega)).2.2.2 (pz j (by omega)) (qz j (by omega)))]
          exact (compareInt_nat n1 n3).2.1.2 (by omega)
      exact ⟨by omega, fun _ => hm, fun _ h0 => absurd h0 qc⟩
    · rw [pe] at hX ⊢
      rw [qe] at hZ ⊢
      have h12 := (compareInt_nat n1 n2).1.1 hX
      have h23 := (compareInt_nat n2 n3).1.1 hZ
      rw [lex_end (c := cc) (fun j hj => (h j (by omega) (by omega) (by omega)).2.2.2 (pz j (by omega)) (qz j (by omega)))]
      refine ⟨(compareInt_nat n1 n3).1.2 (by omega), fun hh => (compareInt_nat n1 n3).2.1.2 ?_, fun h0 h1 => (compareInt_nat n1 n3).2.2.2 ?_⟩
      · rcases hh with hh | hh
        · have := (compareInt_nat n1 n2).2.1.1 hh; omega
        · have := (compareInt_nat n2 n3).2.1.1 hh; omega
      · have := (compareInt_nat n1 n2).2.2.1 h0
        have := (compareInt_nat n2 n3).2.2.1 h1
        omega
  refine ⟨fun h1 h2 => (key h1 h2).1, fun h1 h2 => (key (by omega) h2).2.1 (Or.inl h1), fun h1 h2 => (key h1 (by omega)).2.1 (Or.inr h2), fun h1 h2 => (key (by omega) (by omega)).2.2 h1 h2⟩
end Go.Proofs.Yticbcoklpgfkhaa

/- Keys are ordered as their values. (No walk.) -/
namespace Go.Proofs.Yticbcoklpgfkhaa
open Go.RowKit

theorem thenC_assoc (a b c : Int) : thenC (thenC a b) c = thenC a (thenC b c) := by
  unfold thenC
  by_cases h : a = 0
  · simp [h]
  · simp [h]
theorem thenC_zero (c : Int) : thenC 0 c = c := rfl
theorem thenC_ne {a : Int} (h : a ≠ 0) (c : Int) : thenC a c = a := by unfold thenC; rw [if_neg h]
theorem or_then (a b : Int) : orElse a b = thenC a b := rfl
/-- The order of rows, from a place on. -/
def lexR (c : Nat → Int) : Nat → Nat → Nat → Int
  | _, 0, 0 => 0
  | _, 0, _ + 1 => -1
  | _, _ + 1, 0 => 1
  | j, a + 1, b + 1 => thenC (c j) (lexR c (j + 1) a b)
theorem lexR_at (c : Nat → Int) : ∀ (i j d1 d2 : Nat), i < d1 → i < d2 → (∀ t, t < i → c (j + t) = 0) → c (j + i) ≠ 0 → lexR c j d1 d2 = c (j + i)
  | _, _, 0, _, h, _, _, _ => absurd h (Nat.not_lt_zero _)
  | _, _, _ + 1, 0, _, h, _, _ => absurd h (Nat.not_lt_zero _)
  | 0, j, a + 1, b + 1, _, _, _, hc => thenC_ne hc _
  | i + 1, j, a + 1, b + 1, h1, h2, hz, hc => by
    have h0 : c j = 0 := hz 0 (by omega)
    rw [lexR, h0, thenC_zero, lexR_at c i (j + 1) a b (by omega) (by omega) (fun t ht => by have := hz (t + 1) (by omega); rwa [show j + 1 + t = j + (t + 1) by omega]) (by rwa [show j + 1 + i = j + (i + 1) by omega]), show j + 1 + i = j + (i + 1) by omega]
theorem lexR_end (c : Nat → Int) : ∀ (j d1 d2 : Nat), (∀ t, t < min d1 d2 → c (j + t) = 0) → lexR c j d1 d2 = Lib.compareInt (d1 : Int) (d2 : Int)
  | _, 0, 0, _ => rfl
  | _, 0, b + 1, _ => by
    unfold lexR Lib.compareInt
    rw [if_pos (by omega)]
  | _, a + 1, 0, _ => by
    unfold lexR Lib.compareInt
    rw [if_neg (by omega), if_pos (by omega)]
  | j, a + 1, b + 1, h => by
    have h0 : c j = 0 := h 0 (by omega)
    rw [lexR, h0, thenC_zero, lexR_end c (j + 1) a b (fun t ht => by have := h (t + 1) (by omega); rwa [show j + 1 + t = j + (t + 1) by omega])]
    unfold Lib.compareInt
    repeat' split
    all_goals omega
theorem lexR_lex (c : Nat → Int) (n1 n2 : Nat) : lexR c 0 n1 n2 = lex c n1 n2 := by
  rcases lex_cases c n1 n2 with ⟨i, h1, h2, hz, hc, e⟩ | ⟨hz, e⟩
  · rw [e, lexR_at c i 0 n1 n2 h1 h2 (fun t ht => by rw [Nat.zero_add]; exact hz t ht) (by rw [Nat.zero_add]; exact hc), Nat.zero_add]
  · rw [e, lexR_end c 0 n1 n2 (fun t ht => by rw [Nat.zero_add]; exact hz t ht)]
/-- Parts one behind the other, each with a byte 1 ahead, and a byte 0 at the end. -/
theorem cb_parts (P Q : Nat → List UInt8) (c : Nat → Int) (n1 n2 : Nat) (h : ∀ i, i < n1 → i < n2 → ∀ r r', Lib.compareBytes (P i ++ r) (Q i ++ r') = thenC (c i) (Lib.compareBytes r r')) (r r' : List UInt8) :
    ∀ (d1 d2 j : Nat), j + d1 = n1 → j + d2 = n2 → Lib.compareBytes ((List.range' j d1).flatMap (fun i => 1 :: P i) ++ 0 :: r) ((List.range' j d2).flatMap (fun i => 1 :: Q i) ++ 0 :: r') = thenC (lexR c j d1 d2) (Lib.compareBytes r r')
  | 0, 0, _, _, _ => by
    show Lib.compareBytes (0 :: r) (0 :: r') = _
    rw [cb_eq]
    rfl
  | 0, b + 1, j, _, _ => by
    rw [List.range'_succ, List.flatMap_cons]
    show Lib.compareBytes (0 :: r) (1 :: _) = -1
    exact cb_lt (by decide) _ _
  | a + 1, 0, j, _, _ => by
    rw [List.range'_succ, List.flatMap_cons]
    show Lib.compareBytes (1 :: _) (0 :: r') = 1
    exact cb_gt (by decide) _ _
  | a + 1, b + 1, j, h1, h2 => by
    rw [List.range'_succ, List.range'_succ, List.flatMap_cons, List.flatMap_cons, List.cons_append, List.cons_append, List.cons_append, List.cons_append, cb_eq, List.append_assoc, List.append_assoc, h j (by omega) (by omega), cb_parts P Q c n1 n2 h r r' a b (j + 1) (by omega) (by omega), lexR, thenC_assoc]
theorem byteK_lt {k k' : Int} (h : 1 ≤ k ∧ k ≤ 6) (h' : 1 ≤ k' ∧ k' ≤ 6) (hlt : k < k') : byteOf (10 * k) < byteOf (10 * k') := by
  rw [UInt8.lt_iff_toNat_lt, byteK ⟨by omega, by omega⟩, byteK ⟨by omega, by omega⟩]
  omega
theorem kind_range {k n s ln l fn nm f} (h : (GV.mk k n s ln l fn nm f).formed = true) : 1 ≤ k ∧ k ≤ 6 := by
  rcases kind_of h with rfl | rfl | rfl | rfl | rfl | rfl <;> omega

/-- Keys are ordered as their values. -/
theorem key_cmp : ∀ a b : GV, a.every GV.formed = true → b.every GV.formed = true → a.every GV.nOk = true → b.every GV.nOk = true → ∀ r r', Lib.compareBytes (a.key ++ r) (b.key ++ r') = thenC (a.cmp b) (Lib.compareBytes r r') := by
  intro a
  induction a with
  | nil => intro b h; simp [GV.every, GV.formed] at h
  | mk k n s ln l fn nm f ihl ihf =>
    intro b ha hb na nb r r'
    cases b with
    | nil => simp [GV.every, GV.formed] at hb
    | mk k' n' s' ln' l' fn' nm' f' =>
      have ka := kind_range (every_top ha)
      have kb := kind_range (every_top hb)
      by_cases hk : k = k'
      · subst hk
        have hc0 : ¬ (Lib.compareInt k k ≠ 0) := by simp [Lib.compareInt]
        rw [GV.cmp, if_neg hc0]
        rcases kind_of (every_top ha) with rfl | rfl | rfl | rfl | rfl | rfl
        · simp only [GV.key]
          rw [if_neg (by omega), if_neg (by omega), if_neg (by omega), if_neg (by omega), if_neg (by omega), if_neg (by omega), if_neg (by omega), if_neg (by omega), if_neg (by omega)]
          rw [List.cons_append, List.cons_append, cb_eq]
          rfl
        · have e1 : (GV.mk 2 n s ln l fn nm f).key = byteOf (10 * 2) :: [byteOf n] := by simp [GV.key]
          have e2 : (GV.mk 2 n' s' ln' l' fn' nm' f').key = byteOf (10 * 2) :: [byteOf n'] := by simp [GV.key]
          have fa := every_top ha
          have fb := every_top hb
          simp [GV.formed] at fa fb
          rw [e1, e2, if_pos (by omega)]
          show Lib.compareBytes (byteOf (10 * 2) :: (byteOf n :: r)) (byteOf (10 * 2) :: (byteOf n' :: r')) = _
          rw [cb_eq]
          rcases fa.1.1.1 with rfl | rfl <;> rcases fb.1.1.1 with rfl | rfl
          · rw [cb_eq]; rfl
          · show Lib.compareBytes (byteOf 0 :: r) (byteOf 1 :: r') = _
            rw [cb_lt (by decide)]; rfl
          · show Lib.compareBytes (byteOf 1 :: r) (byteOf 0 :: r') = _
            rw [cb_gt (by decide)]; rfl
          · rw [cb_eq]; rfl
        · have e1 : (GV.mk 3 n s ln l fn nm f).key = byteOf (10 * 3) :: numK n := by simp [GV.key]
          have e2 : (GV.mk 3 n' s' ln' l' fn' nm' f').key = byteOf (10 * 3) :: numK n' := by simp [GV.key]
          have ia : Int64 n := by have := every_top na; simp [GV.nOk] at this; exact this
          have ib : Int64 n' := by have := every_top nb; simp [GV.nOk] at this; exact this
          have q1 := numK_back ia
          have q2 := numK_back ib
          rw [e1, e2, if_pos (by omega), List.cons_append, List.cons_append, cb_eq, cb_num (numK n) (numK n') r r' (by rw [numK_len, numK_len])]
          congr 1
          unfold Lib.compareInt
          repeat' split
          all_goals omega
        · have e1 : (GV.mk 4 n s ln l fn nm f).key = byteOf (10 * 4) :: lettersK s.data.toList := by simp [GV.key]
          have e2 : (GV.mk 4 n' s' ln' l' fn' nm' f').key = byteOf (10 * 4) :: lettersK s'.data.toList := by simp [GV.key]
          rw [e1, e2, if_neg (by omega), if_pos rfl, List.cons_append, List.cons_append, cb_eq, cb_letters]
          rfl
        · have e1 : (GV.mk 5 n s ln l fn nm f).key ++ r = byteOf (10 * 5) :: ((List.range' 0 ln).flatMap (fun i => 1 :: (l i).key) ++ 0 :: r) := by simp [GV.key, List.range_eq_range']
          have e2 : (GV.mk 5 n' s' ln' l' fn' nm' f').key ++ r' = byteOf (10 * 5) :: ((List.range' 0 ln').flatMap (fun i => 1 :: (l' i).key) ++ 0 :: r') := by simp [GV.key, List.range_eq_range']
          rw [e1, e2, if_neg (by omega), if_neg (by omega), if_pos rfl, cb_eq, cb_parts (fun i => (l i).key) (fun i => (l' i).key) (fun i => (l i).cmp (l' i)) ln ln' (fun i h1 h2 r r' => ihl i (l' i) (every_l ha i h1) (every_l hb i h2) (every_l na i h1) (every_l nb i h2) r r') r r' ln ln' 0 (by omega) (by omega), lexR_lex]
        · have e1 : (GV.mk 6 n s ln l fn nm f).key ++ r = byteOf (10 * 6) :: ((List.range' 0 fn).flatMap (fun i => 1 :: (lettersK (nm i).data.toList ++ (f i).key)) ++ 0 :: r) := by simp [GV.key, List.range_eq_range']
          have e2 : (GV.mk 6 n' s' ln' l' fn' nm' f').key ++ r' = byteOf (10 * 6) :: ((List.range' 0 fn').flatMap (fun i => 1 :: (lettersK (nm' i).data.toList ++ (f' i).key)) ++ 0 :: r') := by simp [GV.key, List.range_eq_range']
          rw [e1, e2, if_neg (by omega), if_neg (by omega), if_neg (by omega), if_pos rfl, cb_eq, cb_parts (fun i => lettersK (nm i).data.toList ++ (f i).key) (fun i => lettersK (nm' i).data.toList ++ (f' i).key) (fun i => orElse (cmpS (nm i) (nm' i)) ((f i).cmp (f' i))) fn fn' (fun i h1 h2 r r' => by
            rw [List.append_assoc, List.append_assoc, cb_letters, ihf i (f' i) (every_f ha i h1) (every_f hb i h2) (every_f na i h1) (every_f nb i h2) r r', or_then, thenC_assoc]
            rfl) r r' fn fn' 0 (by omega) (by omega), lexR_lex]
      · have e1 : ∃ t, (GV.mk k n s ln l fn nm f).key = byteOf (10 * k) :: t := ⟨_, rfl⟩
        have e2 : ∃ t, (GV.mk k' n' s' ln' l' fn' nm' f').key = byteOf (10 * k') :: t := ⟨_, rfl⟩
        obtain ⟨t, e1⟩ := e1
        obtain ⟨t', e2⟩ := e2
        rw [e1, e2, List.cons_append, List.cons_append, GV.cmp]
        rcases Int.lt_or_gt_of_ne hk with h | h
        · have hc : Lib.compareInt k k' = -1 := by unfold Lib.compareInt; rw [if_pos h]
          rw [cb_lt (byteK_lt ka kb h), hc, if_pos (by decide)]
          rfl
        · have hc : Lib.compareInt k k' = 1 := by unfold Lib.compareInt; rw [if_neg (by omega), if_pos h]
          rw [cb_gt (byteK_lt kb ka h), hc, if_pos (by decide)]
          rfl
/-- The keys of two good values, byte by byte. -/
theorem keys_order {a b : GV} (ha : a.err = 0) (hb : b.err = 0) (na : a.every GV.nOk = true) (nb : b.every GV.nOk = true) : Lib.compareBytes a.key b.key = a.cmp b := by
  have h := key_cmp a b (err_zeroM ha).1 (err_zeroM hb).1 na nb [] []
  rw [List.append_nil, List.append_nil] at h
  rw [h]
  unfold thenC
  split
  · rename_i h0
    rw [h0]
    rfl
  · rfl
end Go.Proofs.Yticbcoklpgfkhaa

/- Joint keys: they go by the first values that differ, and tell their values. (No walk.) -/
namespace Go.Proofs.Yticbcoklpgfkhaa
open Go.RowKit

/-- The first of so many numbers that is not 0. -/
def firstC (c : Nat → Int) : Nat → Int
  | 0 => 0
  | j + 1 => thenC (firstC c j) (c j)
theorem thenC_right (a : Int) : thenC a 0 = a := by
  unfold thenC
  split
  · rename_i h; exact h.symm
  · rfl
theorem firstC_stay (c : Nat → Int) {i : Nat} (h : firstC c i ≠ 0) : ∀ {n : Nat}, i ≤ n → firstC c n = firstC c i
  | 0, hn => by obtain rfl : i = 0 := by omega
                rfl
  | n + 1, hn => by
    by_cases e : i = n + 1
    · rw [e]
    · rw [firstC, firstC_stay c h (n := n) (by omega), thenC_ne h]
theorem keysN_succ (l : Nat → GV) (j : Nat) : keysN l (j + 1) = keysN l j ++ (l j).key := by unfold keysN; rw [flat_snoc]
/-- Joint keys of as many values go by the first that differ. -/
theorem joint_cmp (a b : Nat → GV) : ∀ (n : Nat), (∀ i, i < n → (a i).err = 0 ∧ (b i).err = 0 ∧ (a i).every GV.nOk = true ∧ (b i).every GV.nOk = true) → ∀ r r', Lib.compareBytes (keysN a n ++ r) (keysN b n ++ r') = thenC (firstC (fun i => (a i).cmp (b i)) n) (Lib.compareBytes r r')
  | 0, _, r, r' => rfl
  | n + 1, h, r, r' => by
    obtain ⟨h1, h2, h3, h4⟩ := h n (by omega)
    rw [keysN_succ, keysN_succ, List.append_assoc, List.append_assoc, joint_cmp a b n (fun i hi => h i (by omega)), key_cmp (a n) (b n) (err_zeroM h1).1 (err_zeroM h2).1 h3 h4, firstC, thenC_assoc]
/-- Values of one joint key are the same. -/
theorem joint_same (l : Nat → GV) : ∀ (fs : List Fl) (i n : Nat), fs.length = n → (∀ f ∈ fs, f.g.err = 0 ∧ f.g.every GV.nOk = true) → (∀ j, j < n → (l (i + j)).err = 0 ∧ (l (i + j)).every GV.nOk = true) → keysF fs = (List.range' i n).flatMap (fun j => (l j).key) → ∀ j (hj : j < fs.length), ((fs[j]'hj).g).same (l (i + j)) = true
  | [], _, _, _, _, _, _, j, hj => absurd hj (Nat.not_lt_zero _)
  | f :: fs, i, n, hn, hf, hl, hk, j, hj => by
    obtain ⟨m, rfl⟩ : ∃ m, n = m + 1 := ⟨n - 1, by simp at hn; omega⟩
    obtain ⟨e1, e2⟩ := hf f (by simp)
    obtain ⟨e3, e4⟩ := hl 0 (by omega)
    rw [Nat.add_zero] at e3 e4
    have hk2 : f.g.key ++ keysF fs = (l i).key ++ (List.range' (i + 1) m).flatMap (fun j => (l j).key) := by
      rw [List.range'_succ, List.flatMap_cons] at hk
      exact hk
    obtain ⟨q1, q2, _⟩ := begins_same (l := f.g.key ++ keysF fs) (rest := keysF fs) (rest' := (List.range' (i + 1) m).flatMap (fun j => (l j).key)) ⟨e1, rfl⟩ ⟨e3, hk2⟩ e2 e4
    cases j with
    | zero => exact key_same e1 e3 e2 e4 q2
    | succ j =>
      have h := joint_same l fs (i + 1) m (by simpa using hn) (fun x hx => hf x (by simp [hx])) (fun j hj => by have := hl (j + 1) (by omega); rwa [show i + 1 + j = i + (j + 1) by omega]) q1 j (by simpa using hj)
      rw [show i + 1 + j = i + (j + 1) by omega] at h
      exact h
theorem err_formJ {g : GV} (h : g.err ≠ 0) : ∃ j : Nat, g.err = Int.ofNat (j + 1) := by
  unfold GV.err at h ⊢
  split
  · exact ⟨3, rfl⟩
  · split
    · exact ⟨10, rfl⟩
    · split
      · exact ⟨14, rfl⟩
      · split
        · exact ⟨2, rfl⟩
        · split
          · exact ⟨1, rfl⟩
          · rename_i h1 h2 h3 h4 h5
            simp [h1, h2, h3, h4, h5] at h
end Go.Proofs.Yticbcoklpgfkhaa

/- Chapter 5's examples. -/
namespace Go.Proofs.Yticbcoklpgfkhaa
open Go.RowKit

def gLst (n : Nat) (l : Nat → GV) : GV := .mk 0 0 ⟨#[]⟩ n l 0 (fun _ => ⟨#[]⟩) (fun _ => .nil)
theorem lies_lst {w : World} {a : Option Addr} {n c : Nat} {l : Nat → GV} (h : Vals w a n l) (h1 : n ≤ c) (h2 : c ≤ maxLen) : Lies w (gLst n l) (.agg #[.int .i64 0, .int .i64 0, .string ⟨#[]⟩, .slice a n c, .slice none 0 0]) :=
  ⟨a, c, none, 0, rfl, small64 (by omega), small64 (by omega), by decide, h1, h2, by omega, by unfold maxLen; omega, h, fun i hi => absurd hi (Nat.not_lt_zero _)⟩
theorem same_lst {n : Nat} {l l' : Nat → GV} (h : ∀ i, i < n → (l i).same (l' i) = true) : (gLst n l).same (gLst n l') = true := by
  simp [gLst, GV.same]
  exact h

set_option maxHeartbeats 1000000 in
set_option maxRecDepth 1000000 in
theorem list_any (a a' : Option Addr) (n c c' : Nat) (l l' : Nat → GV) (w : World) (h : Vals w a n l) (h' : Vals w a' n l') (h1 : n ≤ c) (h2 : c ≤ maxLen) (h3 : n ≤ c') (h4 : c' ≤ maxLen) (hs : ∀ i, i < n → (l i).same (l' i) = true) :
    Calls Try.prog 18 #[.slice a n c, .slice a' n c'] w fun e w' => e = .returned (.bool true) ∧ RowKit.Below w.heap.size w w' := by
  have HC : Hid (Calls Try.prog 25 #[.agg #[.int .i64 0, .int .i64 0, .string ⟨#[]⟩, .slice a n c, .slice none 0 0], .agg #[.int .i64 0, .int .i64 0, .string ⟨#[]⟩, .slice a' n c', .slice none 0 0]] w fun e w' => e = .returned (.bool true) ∧ RowKit.Below w.heap.size w w') := by
    have h := Same_any _ _ _ _ w (lies_lst h h1 h2) (lies_lst h' h3 h4)
    rw [same_lst hs] at h
    exact h
  clear h h'
  go_enter Try.func18, Try.ntmps18
  go_wp2_with fail
  refine HC.out.mono ?_
  rintro e w1 ⟨rfl, b1⟩
  have B1 := mkHid b1
  clear b1
  go_wp2_with fail
  go_ret
  exact ⟨rfl, B1.out⟩


/-- 'is' of bytes in a new block. -/
theorem is_new (g : GV) (v : Value) (bs : List UInt8) (cs : Array Value) (u : World) (hcs : cs = (Lib.byteCells bs).toArray) (hL : Lies u g v) (hN : g.nodes ≤ 16384) (he : g.err = 0) (hk : g.key = bs) :
    Calls Try.prog 13 #[v, .slice (some ⟨u.heap.size, 0, none⟩) bs.length bs.length] (u.alloc (.cells cs 5)) fun e w' => e = .returned (.bool true) ∧ RowKit.Below u.heap.size u w' := by
  have hb := (RowKit.Below.refl u.heap.size u).alloc (Nat.le_refl _) (.cells cs 5)
  have hB : Byts (u.alloc (.cells cs 5)) (some ⟨u.heap.size, 0, none⟩) g.key := by
    intro i hi
    refine ⟨u.heap.size, 0, rfl, ?_⟩
    rw [cell_of_row _ u.heap.size _ cs 5 (0, 0) (heap_alloc_new u _), hcs]
    rw [hk] at hi
    simp [Lib.byteCells, hk, hi]
  have h := is_yes g v (some ⟨u.heap.size, 0, none⟩) bs.length (u.alloc (.cells cs 5)) (hL.below hb) hN he hB
  rw [hk] at h
  refine h.mono ?_
  rintro e w' ⟨rfl, b⟩
  exact ⟨rfl, hb.trans (b.mono hb.size)⟩
theorem gN_key : gN.key = [10] ∧ gN.err = 0 ∧ gN.every GV.nOk = true := by decide +kernel
theorem two_no (g : GV) (h1 : g.err = 0) (h2 : g.every GV.nOk = true) : ([10, 10] : List UInt8) ≠ g.key := by
  intro e
  obtain ⟨k1, k2, k3⟩ := gN_key
  obtain ⟨h, _⟩ := begins_same (l := [10, 10]) (g := g) (g' := gN) (rest := []) (rest' := [10]) ⟨h1, by simpa using e⟩ ⟨k2, by rw [k1]; rfl⟩ h2 k3
  exact absurd h (by simp)
/-- Back of 10, 10: refused. -/
theorem back_two (u : World) : Calls Try.prog 9 #[.slice (some ⟨u.heap.size, 0, none⟩) 2 2] (u.alloc (.cells #[.int .u8 10, .int .u8 10] 5)) fun e w' => e = .returned (.tuple #[.agg #[.int .i64 0, .int .i64 0, .string ⟨#[]⟩, .slice none 0 0, .slice none 0 0], .int .i64 4]) ∧ RowKit.Below u.heap.size u w' := by
  have hb := (RowKit.Below.refl u.heap.size u).alloc (Nat.le_refl _) (.cells #[.int .u8 10, .int .u8 10] 5)
  refine (Back_any (some ⟨u.heap.size, 0, none⟩) 2 [10, 10] _ (byts_new u [10, 10] _ rfl) (by simp) (by unfold maxLen; omega) (by simp)).mono ?_
  rintro e w' ⟨b, ⟨f, h1, h2, _, h4⟩ | ⟨_, rfl⟩⟩
  · exact absurd h2 (two_no f.g h1 (nOk_lies h4.lies))
  · exact ⟨rfl, hb.trans (b.mono hb.size)⟩
/-- Split of 10, 10 into two: Null, Null. -/
theorem split_two (u : World) : Calls Try.prog 10 #[.slice (some ⟨u.heap.size, 0, none⟩) 2 2, .int .i64 2] (u.alloc (.cells #[.int .u8 10, .int .u8 10] 5)) fun e w' => (∃ a c l, e = .returned (.tuple #[.slice a 2 c, .int .i64 0]) ∧ 2 ≤ c ∧ c ≤ maxLen ∧ Vals w' a 2 l ∧ ∀ i, i < 2 → (l i).same gN = true) ∧ RowKit.Below u.heap.size u w' := by
  have hb := (RowKit.Below.refl u.heap.size u).alloc (Nat.le_refl _) (.cells #[.int .u8 10, .int .u8 10] 5)
  obtain ⟨k1, k2, k3⟩ := gN_key
  refine (Split_any (some ⟨u.heap.size, 0, none⟩) 2 [10, 10] 2 _ (byts_new u [10, 10] _ rfl) (by simp) (by unfold maxLen; omega) (by omega) (by simp)).mono ?_
  rintro e w' ⟨b, ⟨v, fs, h1, h2, h3, rfl⟩ | ⟨h, _⟩⟩
  · refine ⟨?_, hb.trans (b.mono hb.size)⟩
    match fs, h1 with
    | [f, f'], _ =>
      have hf := h3.trees f (by simp)
      have hf' := h3.trees f' (by simp)
      have hkk : ([10, 10] : List UInt8) = f.g.key ++ f'.g.key := by rw [h2]; simp [keysF]
      obtain ⟨e1, e2, _⟩ := begins_same (l := [10, 10]) (g := f.g) (g' := gN) (rest := f'.g.key) (rest' := [10]) ⟨hf.2, hkk⟩ ⟨k2, by rw [k1]; rfl⟩ (nOk_lies hf.1.lies) k3
      have s1 := key_same hf.2 k2 (nOk_lies hf.1.lies) k3 e2
      have s2 := key_same hf'.2 k2 (nOk_lies hf'.1.lies) k3 (by rw [e1, k1])
      obtain ⟨a, c, rfl, q1, q2, hV⟩ := vals_own (l := fun i => if i = 0 then f.g else f'.g) h3.own (by simp) (fun i hi => by
        have hi2 : i < 2 := by simpa using hi
        obtain rfl | rfl : i = 0 ∨ i = 1 := by omega
        · exact hf.1.lies
        · exact hf'.1.lies)
      refine ⟨a, c, _, rfl, q1, q2, hV, fun i hi => ?_⟩
      obtain rfl | rfl : i = 0 ∨ i = 1 := by omega
      · exact s1
      · exact s2
  · refine absurd ⟨rfl, ?_, ?_⟩ (h [gN, gN])
    · intro g hg
      simp at hg
      rw [hg]
      exact ⟨k2, k3⟩
    · simp [k1]
theorem after_yes (u : World) : Calls Try.prog 11 #[.slice (some ⟨u.heap.size, 0, none⟩) 2 2] (u.alloc (.cells #[.int .u8 1, .int .u8 255] 5)) fun e w' => (∃ v, e = .returned (.tuple #[v, .bool true]) ∧ w'.ownsRow u.heap.size 5 1 v 1 (Lib.byteCells [2])) ∧ RowKit.Below u.heap.size u w' := by
  have hb := (RowKit.Below.refl u.heap.size u).alloc (Nat.le_refl _) (.cells #[.int .u8 1, .int .u8 255] 5)
  refine (After_any (some ⟨u.heap.size, 0, none⟩) 2 [1, 255] _ (byts_new u [1, 255] _ rfl) (by simp) (by unfold maxLen; omega) (by simp)).mono ?_
  rintro e w' ⟨b, ⟨h, _⟩ | ⟨_, v, rfl, ho⟩⟩
  · exact absurd h (by decide)
  · refine ⟨⟨v, rfl, ?_⟩, hb.trans (b.mono hb.size)⟩
    have e : riseR [1, 255] = [2] := by decide
    rw [e] at ho
    exact own_more ho hb.size
theorem after_no (u : World) : Calls Try.prog 11 #[.slice (some ⟨u.heap.size, 0, none⟩) 1 1] (u.alloc (.cells #[.int .u8 255] 5)) fun e w' => e = .returned (.tuple #[.slice none 0 0, .bool false]) ∧ RowKit.Below u.heap.size u w' := by
  have hb := (RowKit.Below.refl u.heap.size u).alloc (Nat.le_refl _) (.cells #[.int .u8 255] 5)
  refine (After_any (some ⟨u.heap.size, 0, none⟩) 1 [255] _ (byts_new u [255] _ rfl) (by simp) (by unfold maxLen; omega) (by simp)).mono ?_
  rintro e w' ⟨b, ⟨_, rfl⟩ | ⟨h, _⟩⟩
  · exact ⟨rfl, hb.trans (b.mono hb.size)⟩
  · exact absurd (by decide) h
end Go.Proofs.Yticbcoklpgfkhaa

/- The walks of the document's own 'walked' and 'Vast': have values together more parts than are looked at? -/
namespace Go.Proofs.Yticbcoklpgfkhaa
open Go.RowKit

def Q2 (left G SL SF R : Nat) : Prop := (R = 0 ∧ left ≤ G) ∨ R + 1 + SL + SF = left

def sumN (l : Nat → GV) (n : Nat) : Nat := ((List.range n).map fun i => (l i).nodes).sum
theorem sumN_succ (l : Nat → GV) (n : Nat) : sumN l (n + 1) = sumN l n + (l n).nodes := by
  unfold sumN
  rw [List.range_succ, List.map_append, List.sum_append]
  simp
theorem sumN_le {l : Nat → GV} {j n : Nat} (h : j ≤ n) : sumN l j ≤ sumN l n := sum_upto h
theorem nodes_mk {k n s ln l fn nm f} : (GV.mk k n s ln l fn nm f).nodes = 1 + sumN l ln + sumN f fn := rfl

set_option maxHeartbeats 8000000 in
set_option maxRecDepth 1000000 in
theorem walked_any : ∀ (g : GV) (v : Value) (w : World) (left : Nat), Lies w g v → 1 ≤ left → left ≤ 5000 →
    Calls Try.prog 35 #[v, .int .i64 left] w fun e w' => ∃ x : Nat, e = .returned (.tuple #[.int .i64 x, .bool (decide (g.nodes < left))]) ∧ (g.nodes < left → x + g.nodes = left) ∧ Below w.heap.size w w' := by
  intro g
  induction g with
  | nil => intro v w left hL; exact False.elim hL
  | mk k n s ln l fn nm f ihl ihf =>
    intro v w left hL h1 h5000
    obtain ⟨la, lc, fa, fc, rfl, hk, hn, hs, h4, h5, h6, h7, hl, hf⟩ := hL
    have hml : maxLen = 9223372036854775807 := rfl
    have HL : Hid (∀ i, i < ln → ∃ b o v', la = some ⟨b, o, none⟩ ∧ Lies w (l i) v' ∧ At5 w b (o + i * 5) v') := hl
    have HF : Hid (∀ i, i < fn → ∃ b o v', fa = some ⟨b, o, none⟩ ∧ (nm i).size ≤ 140737488355328 ∧ w.cell? ⟨b, o + i * 6, none⟩ = some (.string (nm i)) ∧ Lies w (f i) v' ∧ At5 w b (o + i * 6 + 1) v') := hf
    clear hl hf
    have hbx := (Below.refl w.heap.size w).alloc (Nat.le_refl _) (.cells #[.int .i64 k, .int .i64 n, .string s, .slice la ln lc, .slice fa fn fc] 25)
    have hx3 : (w.alloc (.cells #[.int .i64 k, .int .i64 n, .string s, .slice la ln lc, .slice fa fn fc] 25)).cell? ⟨w.heap.size, 3, none⟩ = some (.slice la ln lc) := by simp
    have hx4 : (w.alloc (.cells #[.int .i64 k, .int .i64 n, .string s, .slice la ln lc, .slice fa fn fc] 25)).cell? ⟨w.heap.size, 4, none⟩ = some (.slice fa fn fc) := by simp
    have NK : Hid ((GV.mk k n s ln l fn nm f).nodes = 1 + sumN l ln + sumN f fn) := nodes_mk
    generalize hG : (GV.mk k n s ln l fn nm f).nodes = G at NK
    clear hG
    go_enter Try.func35, Try.ntmps35
    go_wp2_with fail
    go_loopw [1, 6] (fun r i wr => ∃ (j R : Nat), i = .int .i64 j ∧ r = .int .i64 R ∧ j ≤ ln ∧ R < 5000 ∧ Hid (R + 1 + sumN l j = left) ∧ Below w.heap.size w wr ∧ w.heap.size < wr.heap.size ∧ wr.cell? ⟨w.heap.size, 3, none⟩ = some (.slice la ln lc) ∧ wr.cell? ⟨w.heap.size, 4, none⟩ = some (.slice fa fn fc)) (fun _ i _ => ln - (intOf i).toNat)
    case atStart =>
      exact ⟨0, left - 1, rfl, by congr 1; omega, by omega, by omega, by show _ = _; simp [sumN]; omega, hbx, by simp, hx3, hx4⟩
    case round =>
      obtain ⟨j, R, rfl, rfl, hj, hR, HD, hbw, hsz, q3, q4⟩ := hrel
      clear hx3 hx4 hbx
      have hbs := hbw.size
      by_cases hgo : j < ln ∧ 0 < R
      · obtain ⟨hlt, hR0⟩ := hgo
        obtain ⟨b, o, v', rfl, hLj, hA⟩ := HL.out j hlt
        have HLj : Hid (Lies w (l j) v') := hLj
        obtain ⟨k', n', s', la', ln', lc', fa', fn', fc', rfl⟩ := hLj.agg
        obtain ⟨c0, c1, c2, c3, c4⟩ := hA.five
        have e0 := below_keeps hbw _ _ _ c0
        have e1 := below_keeps hbw _ _ _ c1
        have e2 := below_keeps hbw _ _ _ c2
        have e3 := below_keeps hbw _ _ _ c3
        have e4 := below_keeps hbw _ _ _ c4
        clear hLj hA c0 c1 c2 c3 c4
        go_wp2_with fail
        refine (ihl j _ _ R (HLj.out.below hbw) hR0 (by omega)).mono ?_
        rintro e w1 ⟨x, rfl, hxx, hb1⟩
        have hb2 : Below w.heap.size w w1 := hbw.trans (hb1.mono hbs)
        have p3 := below_keeps hb1 _ _ _ q3
        have p4 := below_keeps hb1 _ _ _ q4
        have hs1 := hb1.size
        have HS : Hid (sumN l (j + 1) = sumN l j + (l j).nodes) := sumN_succ l j
        have HM : Hid (sumN l (j + 1) ≤ sumN l ln) := sumN_le hlt
        generalize (l j).nodes = M at hxx HS
        clear e0 e1 e2 e3 e4 hb1 q3 q4
        by_cases hok : M < R
        · have hx := hxx hok
          clear hxx
          rw [decide_eq_true hok]
          have HX : Hid (x + 1 + sumN l (j + 1) = left) := by show _ = _; have := HD.out; have := HS.out; omega
          clear HD HS HM
          go_wp2_with fail
          go_roundw
          case rel => exact ⟨j + 1, x, by go_num, rfl, by omega, by omega, HX.out, hb2, by omega, p3, p4⟩
          case measure => simp [intOf]; omega
        · rw [decide_eq_false hok]
          have HX : Hid (¬ G < left) := by
            show ¬ _
            have a1 := HD.out
            have a2 := HS.out
            have a3 := HM.out
            have a4 := NK.out
            omega
          clear HD HS HM
          go_wp2_with fail
          go_ret2
          exact ⟨0, by rw [decide_eq_false HX.out]; rfl, fun h => absurd h HX.out, hb2⟩
      · have HQ : Hid (Q2 left G (sumN l ln) (sumN f 0) R) := by
          show _ ∨ _
          have a1 := HD.out
          have a2 := NK.out
          have a3 := sumN_le (l := l) hj
          have a4 : sumN f 0 = 0 := rfl
          rcases Nat.lt_or_ge j ln with hlt | hge
          · left
            omega
          · right
            obtain rfl : j = ln := by omega
            omega
        clear HD
        by_cases hc1 : j < ln
        · have hd : decide ((0 : Int) < (R : Int)) = false := by rw [decide_eq_false_iff_not]; omega
          have hR9 : ¬ 0 < (R : Int) := by omega
          clear hgo
          go_wp2_with fail
          go_loopw [1, 9] (fun r i wr => ∃ (j R : Nat), i = .int .i64 j ∧ r = .int .i64 R ∧ j ≤ fn ∧ R < 5000 ∧ Hid (Q2 left G (sumN l ln) (sumN f j) R) ∧ Below w.heap.size w wr ∧ w.heap.size < wr.heap.size ∧ wr.cell? ⟨w.heap.size, 4, none⟩ = some (.slice fa fn fc)) (fun _ i _ => fn - (intOf i).toNat)
          case atStart => exact ⟨0, R, rfl, rfl, by omega, hR, HQ.out, hbw, hsz, q4⟩
          case round =>
            clear HQ q3 q4 hbw hsz hbs
            obtain ⟨j2, R2, rfl, rfl, hj2, hR2, HD, hbw, hsz, q4⟩ := hrel
            have hbs := hbw.size
            by_cases hgo2 : j2 < fn ∧ 0 < R2
            · obtain ⟨hlt, hR0⟩ := hgo2
              obtain ⟨b, o, v', rfl, hnm, cn, hLj, hA⟩ := HF.out j2 hlt
              have HLj : Hid (Lies w (f j2) v') := hLj
              obtain ⟨k', n', s', la', ln', lc', fa', fn', fc', rfl⟩ := hLj.agg
              obtain ⟨c0, c1, c2, c3, c4⟩ := hA.five
              have e0 := below_keeps hbw _ _ _ c0
              have e1 := below_keeps hbw _ _ _ c1
              have e2 := below_keeps hbw _ _ _ c2
              have e3 := below_keeps hbw _ _ _ c3
              have e4 := below_keeps hbw _ _ _ c4
              clear hLj hA cn c0 c1 c2 c3 c4
              go_wp2_with fail
              refine (ihf j2 _ _ R2 (HLj.out.below hbw) hR0 (by omega)).mono ?_
              rintro e w1 ⟨x, rfl, hxx, hb1⟩
              have hb2 : Below w.heap.size w w1 := hbw.trans (hb1.mono hbs)
              have p4 := below_keeps hb1 _ _ _ q4
              have hs1 := hb1.size
              have HS : Hid (sumN f (j2 + 1) = sumN f j2 + (f j2).nodes) := sumN_succ f j2
              have HM : Hid (sumN f (j2 + 1) ≤ sumN f fn) := sumN_le hlt
              generalize (f j2).nodes = M at hxx HS
              clear e0 e1 e2 e3 e4 hb1 q4
              by_cases hok : M < R2
              · have hx := hxx hok
                clear hxx
                rw [decide_eq_true hok]
                have HX : Hid (Q2 left G (sumN l ln) (sumN f (j2 + 1)) x) := by
                  show _ ∨ _
                  have a1 : (_ ∧ _) ∨ _ := HD.out
                  have a2 := HS.out
                  omega
                clear HD HS HM
                go_wp2_with fail
                go_roundw
                case rel => exact ⟨j2 + 1, x, by go_num, rfl, by omega, by omega, HX.out, hb2, by omega, p4⟩
                case measure => simp [intOf]; omega
              · rw [decide_eq_false hok]
                have HX : Hid (¬ G < left) := by
                  show ¬ _
                  have a1 : (_ ∧ _) ∨ _ := HD.out
                  have a2 := HS.out
                  have a3 := HM.out
                  have a4 := NK.out
                  omega
                clear HD HS HM
                go_wp2_with fail
                go_ret2
                exact ⟨0, by rw [decide_eq_false HX.out]; rfl, fun h => absurd h HX.out, hb2⟩
            · have HX : Hid ((G < left ↔ 0 < R2) ∧ (G < left → R2 + G = left)) := by
                have a1 : (_ ∧ _) ∨ _ := HD.out
                have a4 := NK.out
                have a5 := sumN_le (l := f) hj2
                have a6 : fn ≤ j2 → sumN f j2 = sumN f fn := fun h => by rw [show j2 = fn by omega]
                constructor
                · constructor
                  · intro hh
                    rcases Nat.lt_or_ge j2 fn with h | h
                    · omega
                    · have := a6 h; omega
                  · intro hh
                    have := a6 (by omega)
                    omega
                · intro hh
                  rcases Nat.lt_or_ge j2 fn with h | h
                  · omega
                  · have := a6 h; omega
              clear HD
              by_cases hc2 : j2 < fn
              · obtain rfl : R2 = 0 := by omega
                go_wp2_with fail
                go_ret2
                exact ⟨0, by rw [decide_eq_false (fun h => absurd (HX.out.1.1 h) (by omega))]; rfl, HX.out.2, hbw⟩
              · by_cases hR3 : 0 < R2
                · go_wp2_with fail
                  go_ret2
                  exact ⟨R2, by rw [decide_eq_true (HX.out.1.2 hR3)]; rfl, HX.out.2, hbw⟩
                · obtain rfl : R2 = 0 := by omega
                  go_wp2_with fail
                  go_ret2
                  exact ⟨0, by rw [decide_eq_false (fun h => absurd (HX.out.1.1 h) (by omega))]; rfl, HX.out.2, hbw⟩
        · clear hgo
          go_wp2_with fail
          go_loopw [1, 9] (fun r i wr => ∃ (j R : Nat), i = .int .i64 j ∧ r = .int .i64 R ∧ j ≤ fn ∧ R < 5000 ∧ Hid (Q2 left G (sumN l ln) (sumN f j) R) ∧ Below w.heap.size w wr ∧ w.heap.size < wr.heap.size ∧ wr.cell? ⟨w.heap.size, 4, none⟩ = some (.slice fa fn fc)) (fun _ i _ => fn - (intOf i).toNat)
          case atStart => exact ⟨0, R, rfl, rfl, by omega, hR, HQ.out, hbw, hsz, q4⟩
          case round =>
            clear HQ q3 q4 hbw hsz hbs
            obtain ⟨j2, R2, rfl, rfl, hj2, hR2, HD, hbw, hsz, q4⟩ := hrel
            have hbs := hbw.size
            by_cases hgo2 : j2 < fn ∧ 0 < R2
            · obtain ⟨hlt, hR0⟩ := hgo2
              obtain ⟨b, o, v', rfl, hnm, cn, hLj, hA⟩ := HF.out j2 hlt
              have HLj : Hid (Lies w (f j2) v') := hLj
              obtain ⟨k', n', s', la', ln', lc', fa', fn', fc', rfl⟩ := hLj.agg
              obtain ⟨c0, c1, c2, c3, c4⟩ := hA.five
              have e0 := below_keeps hbw _ _ _ c0
              have e1 := below_keeps hbw _ _ _ c1
              have e2 := below_keeps hbw _ _ _ c2
              have e3 := below_keeps hbw _ _ _ c3
              have e4 := below_keeps hbw _ _ _ c4
              clear hLj hA cn c0 c1 c2 c3 c4
              go_wp2_with fail
              refine (ihf j2 _ _ R2 (HLj.out.below hbw) hR0 (by omega)).mono ?_
              rintro e w1 ⟨x, rfl, hxx, hb1⟩
              have hb2 : Below w.heap.size w w1 := hbw.trans (hb1.mono hbs)
              have p4 := below_keeps hb1 _ _ _ q4
              have hs1 := hb1.size
              have HS : Hid (sumN f (j2 + 1) = sumN f j2 + (f j2).nodes) := sumN_succ f j2
              have HM : Hid (sumN f (j2 + 1) ≤ sumN f fn) := sumN_le hlt
              generalize (f j2).nodes = M at hxx HS
              clear e0 e1 e2 e3 e4 hb1 q4
              by_cases hok : M < R2
              · have hx := hxx hok
                clear hxx
                rw [decide_eq_true hok]
                have HX : Hid (Q2 left G (sumN l ln) (sumN f (j2 + 1)) x) := by
                  show _ ∨ _
                  have a1 : (_ ∧ _) ∨ _ := HD.out
                  have a2 := HS.out
                  omega
                clear HD HS HM
                go_wp2_with fail
                go_roundw
                case rel => exact ⟨j2 + 1, x, by go_num, rfl, by omega, by omega, HX.out, hb2, by omega, p4⟩
                case measure => simp [intOf]; omega
              · rw [decide_eq_false hok]
                have HX : Hid (¬ G < left) := by
                  show ¬ _
                  have a1 : (_ ∧ _) ∨ _ := HD.out
                  have a2 := HS.out
                  have a3 := HM.out
                  have a4 := NK.out
                  omega
                clear HD HS HM
                go_wp2_with fail
                go_ret2
                exact ⟨0, by rw [decide_eq_false HX.out]; rfl, fun h => absurd h HX.out, hb2⟩
            · have HX : Hid ((G < left ↔ 0 < R2) ∧ (G < left → R2 + G = left)) := by
                have a1 : (_ ∧ _) ∨ _ := HD.out
                have a4 := NK.out
                have a5 := sumN_le (l := f) hj2
                have a6 : fn ≤ j2 → sumN f j2 = sumN f fn := fun h => by rw [show j2 = fn by omega]
                constructor
                · constructor
                  · intro hh
                    rcases Nat.lt_or_ge j2 fn with h | h
                    · omega
                    · have := a6 h; omega
                  · intro hh
                    have := a6 (by omega)
                    omega
                · intro hh
                  rcases Nat.lt_or_ge j2 fn with h | h
                  · omega
                  · have := a6 h; omega
              clear HD
              by_cases hc2 : j2 < fn
              · obtain rfl : R2 = 0 := by omega
                go_wp2_with fail
                go_ret2
                exact ⟨0, by rw [decide_eq_false (fun h => absurd (HX.out.1.1 h) (by omega))]; rfl, HX.out.2, hbw⟩
              · by_cases hR3 : 0 < R2
                · go_wp2_with fail
                  go_ret2
                  exact ⟨R2, by rw [decide_eq_true (HX.out.1.2 hR3)]; rfl, HX.out.2, hbw⟩
                · obtain rfl : R2 = 0 := by omega
                  go_wp2_with fail
                  go_ret2
                  exact ⟨0, by rw [decide_eq_false (fun h => absurd (HX.out.1.1 h) (by omega))]; rfl, HX.out.2, hbw⟩

set_option maxHeartbeats 4000000 in
set_option maxRecDepth 1000000 in
theorem Vast_any (la : Option Addr) (n c : Nat) (l : Nat → GV) (w : World) (hn : n ≤ maxLen) (hl : Vals w la n l) :
    Calls Try.prog 19 #[.slice la n c] w fun e w' => e = .returned (.bool (decide (5000 ≤ sumN l n))) ∧ Below w.heap.size w w' := by
  have hml : maxLen = 9223372036854775807 := rfl
  have HL : Hid (Vals w la n l) := hl
  clear hl
  go_enter Try.func19, Try.ntmps19
  go_wp2_with fail
  go_loopw [3, 4] (fun r i wr => ∃ (j R : Nat), i = .int .i64 j ∧ r = .int .i64 R ∧ j ≤ n ∧ 0 < R ∧ R ≤ 5000 ∧ Hid (R + sumN l j = 5000) ∧ Below w.heap.size w wr) (fun _ i _ => n - (intOf i).toNat)
  case atStart => exact ⟨0, 5000, rfl, rfl, by omega, by omega, by omega, rfl, Below.refl _ _⟩
  case round =>
    obtain ⟨j, R, rfl, rfl, hj, hR0, hR, HD, hbw⟩ := hrel
    have hbs := hbw.size
    by_cases hlt : j < n
    · obtain ⟨b, o, v', rfl, hLj, hA⟩ := HL.out j hlt
      have HLj : Hid (Lies w (l j) v') := hLj
      obtain ⟨k', n', s', la', ln', lc', fa', fn', fc', rfl⟩ := hLj.agg
      obtain ⟨c0, c1, c2, c3, c4⟩ := hA.five
      have e0 := below_keeps hbw _ _ _ c0
      have e1 := below_keeps hbw _ _ _ c1
      have e2 := below_keeps hbw _ _ _ c2
      have e3 := below_keeps hbw _ _ _ c3
      have e4 := below_keeps hbw _ _ _ c4
      clear hLj hA c0 c1 c2 c3 c4
      go_wp2_with fail
      refine (walked_any (l j) _ _ R (HLj.out.below hbw) hR0 hR).mono ?_
      rintro e w1 ⟨x, rfl, hxx, hb1⟩
      have hb2 : Below w.heap.size w w1 := hbw.trans (hb1.mono hbs)
      have HS : Hid (sumN l (j + 1) = sumN l j + (l j).nodes) := sumN_succ l j
      have HM : Hid (sumN l (j + 1) ≤ sumN l n) := sumN_le hlt
      generalize (l j).nodes = M at hxx HS
      clear e0 e1 e2 e3 e4 hb1
      by_cases hok : M < R
      · have hx := hxx hok
        clear hxx
        rw [decide_eq_true hok]
        have HX : Hid (x + sumN l (j + 1) = 5000) := by show _ = _; have := HD.out; have := HS.out; omega
        clear HD HS HM
        go_wp2_with fail
        go_roundw
        case rel => exact ⟨j + 1, x, by go_num, rfl, by omega, by omega, by omega, HX.out, hb2⟩
        case measure => simp [intOf]; omega
      · rw [decide_eq_false hok]
        have HX : Hid (5000 ≤ sumN l n) := by
          show _ ≤ _
          have a1 := HD.out
          have a2 := HS.out
          have a3 := HM.out
          omega
        clear HD HS HM
        go_wp2_with fail
        go_ret
        exact ⟨by rw [decide_eq_true HX.out]; rfl, hb2⟩
    · have HX : Hid (¬ 5000 ≤ sumN l n) := by
        show ¬ _
        have a1 := HD.out
        obtain rfl : j = n := by omega
        omega
      clear HD
      go_wp2_with fail
      go_ret
      exact ⟨by rw [decide_eq_false HX.out]; rfl, hbw⟩
end Go.Proofs.Yticbcoklpgfkhaa

/- The walk of the statement KeyMany. -/
namespace Go.Proofs.Yticbcoklpgfkhaa
open Go.RowKit

theorem nodes_posM {w : World} {g : GV} {v : Value} (h : Lies w g v) : 1 ≤ g.nodes := by
  cases g with
  | nil => exact False.elim h
  | mk k n s ln l fn nm f => rw [nodes_mk]; omega
theorem sumN_posM {w : World} {la : Option Addr} {n : Nat} {l : Nat → GV} (h : Vals w la n l) : ∀ j, j ≤ n → j ≤ sumN l j
  | 0, _ => Nat.zero_le _
  | j + 1, hj => by
    obtain ⟨_, _, _, _, hL, _⟩ := h j (by omega)
    have h1 := nodes_posM hL
    have h2 := sumN_posM h j (by omega)
    rw [sumN_succ]
    omega
theorem node_leM {l : Nat → GV} {n i : Nat} (h : i < n) : (l i).nodes ≤ sumN l n := by
  have h1 := sumN_succ l i
  have h2 := sumN_le (l := l) (j := i + 1) (n := n) (by omega)
  omega
/-- The first fault of a row of values. -/
def joinE (l : Nat → GV) : Nat → Int
  | 0 => 0
  | n + 1 => if joinE l n ≠ 0 then joinE l n else (l n).err
theorem joinE_ok (l : Nat → GV) : ∀ n, (∀ i, i < n → (l i).err = 0) → joinE l n = 0
  | 0, _ => rfl
  | n + 1, h => by rw [joinE, joinE_ok l n fun i hi => h i (by omega), if_neg (by simp)]; exact h n (by omega)
theorem joinE_at (l : Nat → GV) (j : Nat) (h : ∀ i, i < j → (l i).err = 0) (he : (l j).err ≠ 0) : ∀ n, j < n → joinE l n = (l j).err
  | 0, hj => absurd hj (Nat.not_lt_zero _)
  | n + 1, hj => by
    rw [joinE]
    rcases Nat.lt_or_ge j n with h1 | h1
    · rw [joinE_at l j h he n h1, if_pos he]
    · obtain rfl : j = n := by omega
      rw [joinE_ok l j h, if_neg (by simp)]
/-- What both Joins tell, as one. -/
theorem join_one {n : Nat} {l : Nat → GV} {w w' : World} {e : Ending} (h : JoinSay n l w e w') : ∃ kv, e = .returned (.tuple #[kv, .int .i64 (joinE l n)]) ∧ RowKit.Below w.heap.size w w' ∧ ∀ u, RowKit.Below w'.heap.size w' u → (convert 29 9 kv).run Try.prog u = .ok (.string ⟨(if joinE l n = 0 then keysN l n else []).toArray⟩) u := by
  obtain ⟨b, ⟨j, hj, h1, h2, rfl⟩ | ⟨h1, v, rfl, ho⟩⟩ := h
  · refine ⟨_, by rw [joinE_at l j h1 h2 n hj], b, fun u _ => ?_⟩
    rw [joinE_at l j h1 h2 n hj, if_neg h2]
    exact byts_text (a := none) (c := 0) (t := []) fun i hi => absurd hi (Nat.not_lt_zero _)
  · refine ⟨v, by rw [joinE_ok l n h1], b, fun u hu => ?_⟩
    rw [joinE_ok l n h1, if_pos rfl]
    exact own_string (own_below ho hu)
/-- What both Afters tell, as one. -/
theorem after_one {l : List UInt8} {w w' : World} {e : Ending} (h : AfterSay l w e w') : ∃ av, e = .returned (.tuple #[av, .bool (decide (cutR l ≠ []))]) ∧ RowKit.Below w.heap.size w w' ∧ ∀ u, RowKit.Below w'.heap.size w' u → (convert 29 9 av).run Try.prog u = .ok (.string ⟨(riseR l).toArray⟩) u := by
  obtain ⟨b, ⟨h1, rfl⟩ | ⟨h1, v, rfl, ho⟩⟩ := h
  · refine ⟨_, by rw [h1]; rfl, b, fun u _ => ?_⟩
    have e : riseR l = [] := by unfold riseR; rw [h1]
    rw [e]
    exact byts_text (a := none) (c := 0) (t := []) fun i hi => absurd hi (Nat.not_lt_zero _)
  · refine ⟨v, by rw [decide_eq_true h1], b, fun u hu => ?_⟩
    exact own_string (own_below ho hu)
theorem keysF_len : ∀ fs : List Fl, (∀ f ∈ fs, f.g.err = 0) → fs.length ≤ (keysF fs).length
  | [], _ => Nat.zero_le _
  | f :: fs, h => by
    have h1 := keysF_len fs fun x hx => h x (by simp [hx])
    have h2 := key_pos (h f (by simp))
    show _ ≤ (f.g.key ++ keysF fs).length
    rw [List.length_append, List.length_cons]
    omega
theorem gkeys_len : ∀ gs : List GV, (∀ g ∈ gs, g.err = 0) → gs.length ≤ (gs.flatMap GV.key).length
  | [], _ => Nat.zero_le _
  | g :: gs, h => by
    have h1 := gkeys_len gs fun x hx => h x (by simp [hx])
    have h2 := key_pos (h g (by simp))
    rw [List.flatMap_cons, List.length_append, List.length_cons]
    omega
def flG (fs : List Fl) (i : Nat) : GV := (fs[i]?.map Fl.g).getD .nil
theorem flG_at {fs : List Fl} {i : Nat} (h : i < fs.length) : flG fs i = fs[i].g := by simp [flG, h]
theorem keysF_flat : ∀ (fs : List Fl), keysF fs = (List.range' 0 fs.length).flatMap (fun j => (flG fs j).key) := by
  intro fs
  rw [← List.range_eq_range']
  induction fs with
  | nil => rfl
  | cons f fs ih =>
    rw [List.length_cons, List.range_succ_eq_map, List.flatMap_cons, List.flatMap_map]
    show f.g.key ++ keysF fs = _
    rw [ih]
    rfl
/-- Two rows that were read out of the same bytes. -/
theorem rows_same {fs fs' : List Fl} {n : Nat} (hn : fs.length = n) (hn' : fs'.length = n) (hk : keysF fs = keysF fs') (h : ∀ f ∈ fs, f.g.err = 0 ∧ f.g.every GV.nOk = true) (h' : ∀ f ∈ fs', f.g.err = 0 ∧ f.g.every GV.nOk = true) : ∀ i, i < n → (flG fs i).same (flG fs' i) = true := by
  intro i hi
  have h1 := joint_same (flG fs') fs 0 n hn h (fun j hj => by
    rw [Nat.zero_add, flG_at (by omega)]
    exact h' _ (List.getElem_mem _)) (by rw [hk, keysF_flat, hn']) i (by omega)
  rw [Nat.zero_add] at h1
  rw [flG_at (by omega)]
  exact h1
theorem sp_row {w w' : World} {v : Value} {fs : List Fl} {n : Nat} (h : Sp w w' v fs) (hn : fs.length = n) : ∃ a c, v = .slice a n c ∧ n ≤ c ∧ c ≤ maxLen ∧ Vals w' a n (flG fs) := by
  have ho := h.own
  rw [hn] at ho
  refine vals_own (l := flG fs) ho (by simp [hn]) (fun i hi => ?_)
  have hi2 : i < fs.length := by simpa using hi
  have hL := (h.trees _ (List.getElem_mem hi2)).1.lies
  rw [flG_at hi2]
  simpa using hL

set_option maxHeartbeats 1000000 in
set_option maxRecDepth 1000000 in
theorem split_neg (a : Option Addr) (N c : Nat) (n : Int) (w : World) (hn : n < 0) :
    Calls Try.prog 10 #[.slice a N c, .int .i64 n] w fun e w' => e = .returned (.tuple #[.slice none 0 0, .int .i64 1]) ∧ w' = w := by
  go_enter Try.func10, Try.ntmps10
  go_wp2_with fail
  go_ret2
  exact ⟨rfl, rfl⟩

set_option maxHeartbeats 8000000 in
set_option maxRecDepth 1000000 in
theorem many_any (lv : Nat → GV) (la : Option Addr) (m lc : Nat) (a : Option Addr) (c : Nat) (l : List UInt8) (n : Int) (w : World) (hV : Vals w la m lv) (hm1 : m ≤ lc) (hm2 : lc ≤ maxLen) (hM : ∀ i, i < m → (lv i).mass ≤ 4194304) (hBy : Byts w a l) (hlc : l.length ≤ c) (hcm : c ≤ maxLen) (hl : l.length ≤ 4194304) (hn : n ≤ 9223372036854775807) :
    Calls Try.prog 5 #[.slice la m lc, .slice a l.length c, .int .i64 n] w fun e w' => e = .returned (.bool true) ∧ RowKit.Below w.heap.size w w' := by
  have hml : maxLen = 9223372036854775807 := rfl
  obtain ⟨N, hN⟩ : ∃ N, N = l.length := ⟨_, rfl⟩
  have HN := mkHid hN
  have HV := mkHid hV
  have HM := mkHid hM
  have HB := mkHid hBy
  have HVA : Hid (Calls Try.prog 19 #[.slice la m lc] w fun e w' => e = .returned (.bool (decide (5000 ≤ sumN lv m))) ∧ RowKit.Below w.heap.size w w') := Vast_any la m lc lv w (by omega) hV
  have hpos := sumN_posM hV m (Nat.le_refl _)
  rw [← hN] at hlc hl ⊢
  clear hV hM hBy hN
  go_enter Try.func5, Try.ntmps5
  go_wp2_with fail
  by_cases hbig : 5000 ≤ sumN lv m
  · rw [decide_eq_true hbig] at HVA
    refine HVA.out.mono ?_
    rintro e w2 ⟨rfl, b2⟩
    have HE := mkHid b2
    clear b2
    go_wp2_with fail
    go_ret
    exact ⟨rfl, HE.out⟩
  rw [decide_eq_false hbig] at HVA
  have HNN : Hid (∀ i, i < m → (lv i).nodes ≤ 16384) := fun i hi => by have := node_leM (l := lv) (n := m) (i := i) hi; omega
  have hm5 : m ≤ 10000000 := by omega
  clear hbig hpos
  refine HVA.out.mono ?_
  rintro e w2 ⟨rfl, b2⟩
  have HB2 := mkHid b2
  have HJ1 := mkHid (Join_any m lc la lv w2 (HV.out.below b2) HNN.out hm1 hm2 hm5)
  clear b2
  go_wp2_with fail
  refine HJ1.out.mono ?_
  intro e w3 hj1
  obtain ⟨kv, rfl, b3, hk3⟩ := join_one hj1
  obtain ⟨er, her⟩ : ∃ er, er = joinE lv m := ⟨_, rfl⟩
  have HER := mkHid her
  rw [← her] at hk3 ⊢
  obtain ⟨T, hT⟩ : ∃ T, T = (if er = 0 then keysN lv m else []) := ⟨_, rfl⟩
  have HTT := mkHid hT
  rw [← hT] at hk3
  have HK3 := mkHid hk3
  have hb3 := HB2.out.trans (b3.mono HB2.out.size)
  have HB3 := mkHid hb3
  have HSX : Hid (Calls Try.prog 10 #[.slice a N c, .int .i64 n] w3 fun e w' => ∃ xv fe, e = .returned (.tuple #[xv, .int .i64 fe]) ∧ RowKit.Below w3.heap.size w3 w' ∧ ((n < 0 ∧ fe = 1 ∧ xv = .slice none 0 0) ∨ (¬ n < 0 ∧ (N : Int) < n ∧ fe = 4 ∧ xv = .slice none 0 0) ∨ (¬ n < 0 ∧ ¬ (N : Int) < n ∧ (((∀ gs, ¬ KeysAre gs n.toNat l) ∧ fe = 4 ∧ xv = .slice none 0 0) ∨ (fe = 0 ∧ ∃ fs, fs.length = n.toNat ∧ l = keysF fs ∧ Sp w3 w' xv fs))))) := by
    by_cases h0 : n < 0
    · refine (split_neg a N c n w3 h0).mono ?_
      rintro e w' ⟨rfl, rfl⟩
      exact ⟨_, _, rfl, RowKit.Below.refl _ _, Or.inl ⟨h0, rfl, rfl⟩⟩
    · have h := Split_any a c l n.toNat w3 (HB.out.below hb3) (by rw [← HN.out]; exact hlc) hcm (by omega) (by rw [← HN.out]; omega)
      rw [← HN.out, show ((n.toNat : Nat) : Int) = n by omega] at h
      refine h.mono ?_
      rintro e w' ⟨b, ⟨v, fs, h1, h2, h3, rfl⟩ | ⟨h1, rfl⟩⟩
      · refine ⟨_, _, rfl, b, Or.inr (Or.inr ⟨h0, fun hh => ?_, Or.inr ⟨rfl, fs, h1, h2, h3⟩⟩)⟩
        have hlen := keysF_len fs fun f hf => (h3.trees f hf).2
        rw [← h2, ← HN.out, h1] at hlen
        omega
      · refine ⟨_, _, rfl, b, ?_⟩
        by_cases hh : (N : Int) < n
        · exact Or.inr (Or.inl ⟨h0, hh, rfl, rfl⟩)
        · exact Or.inr (Or.inr ⟨h0, hh, Or.inl ⟨h1, rfl, rfl⟩⟩)
  clear hj1 her hT hk3 b3 hb3
  go_wp2_with fail
  refine HSX.out.mono ?_
  rintro e w4 ⟨xv, fe, rfl, b4, hx⟩
  have HX := mkHid hx
  have hb4 := HB3.out.trans (b4.mono HB3.out.size)
  have HB4 := mkHid hb4
  have HB34 := mkHid b4
  have HA1 : Hid (Calls Try.prog 11 #[.slice a N c] w4 fun e w' => AfterSay l w4 e w') := by
    have h := After_any a c l w4 (HB.out.below hb4) (by rw [← HN.out]; exact hlc) hcm (by rw [← HN.out]; omega)
    rw [← HN.out] at h
    exact h
  clear hx b4 hb4
  go_wp2_with fail
  refine HA1.out.mono ?_
  intro e w5 ha1
  obtain ⟨av, rfl, b5, hk5⟩ := after_one ha1
  obtain ⟨ab, hab⟩ : ∃ ab, ab = decide (cutR l ≠ []) := ⟨_, rfl⟩
  have HAB := mkHid hab
  obtain ⟨R, hR⟩ : ∃ R, R = riseR l := ⟨_, rfl⟩
  have HRR := mkHid hR
  rw [← hab]
  rw [← hR] at hk5
  have HK5 := mkHid hk5
  have hb5 := HB4.out.trans (b5.mono HB4.out.size)
  have HB5 := mkHid hb5
  have HB45 := mkHid b5
  have HJ2 := mkHid (rjoin_any m lc la lv w5 (HV.out.below hb5) HM.out hm1 hm2 hm5)
  clear ha1 hab hR hk5 b5 hb5
  go_wp2_with fail
  refine HJ2.out.mono ?_
  intro e w6 hj2
  obtain ⟨kv2, rfl, b6, hk6⟩ := join_one hj2
  rw [← HER.out] at hk6 ⊢
  rw [← HTT.out] at hk6
  have HK6 := mkHid hk6
  have hb6 := HB5.out.trans (b6.mono HB5.out.size)
  have HB6 := mkHid hb6
  have HB56 := mkHid b6
  have HA2 : Hid (Calls Try.prog 28 #[.slice a N c] w6 fun e w' => AfterSay l w6 e w') := by
    have h := rafter_any a c l w6 (HB.out.below hb6) (by rw [← HN.out]; exact hlc) hcm (by rw [← HN.out]; omega)
    rw [← HN.out] at h
    exact h
  clear hj2 hk6 b6 hb6
  go_wp2_with fail
  refine HA2.out.mono ?_
  intro e w7 ha2
  obtain ⟨av2, rfl, b7, hk7⟩ := after_one ha2
  rw [← HAB.out]
  rw [← HRR.out] at hk7
  have HK7 := mkHid hk7
  have HB7 := mkHid (HB6.out.trans (b7.mono HB6.out.size))
  have HB67 := mkHid b7
  clear ha2 hk7 b7
  go_wp2_with fail
  refine (awake5_any w7).mono ?_
  rintro e w8 ⟨rfl, b8⟩
  have b78 := b8
  have b68 := HB67.out.trans (b78.mono HB67.out.size)
  have b58 := HB56.out.trans (b68.mono HB56.out.size)
  have b48 := HB45.out.trans (b58.mono HB45.out.size)
  have b38 := HB34.out.trans (b48.mono HB34.out.size)
  have q1 := HK3.out w8 b38
  have q2 := HK6.out w8 b68
  have q3 := HK5.out w8 b58
  have q4 := HK7.out w8 b78
  have hb8 := HB7.out.trans (b8.mono HB7.out.size)
  have HB8 := mkHid hb8
  have HB48 := mkHid b48
  have HRS : Hid (¬ n < 0 → Calls Try.prog 22 #[.slice a N c, .int .i64 n] w8 fun e w' => RSplitSay l n.toNat w8 e w') := fun h0 => by
    have h := rsplit_any a c l n.toNat w8 (HB.out.below hb8) (by rw [← HN.out]; exact hlc) hcm (by omega) (by rw [← HN.out]; omega)
    rw [← HN.out, show ((n.toNat : Nat) : Int) = n by omega] at h
    exact h
  clear b8 b78 b68 b58 b48 b38 hb8
  rcases HX.out with ⟨h0, rfl, rfl⟩ | ⟨h0, h1, rfl, rfl⟩ | ⟨h0, h1, h2⟩
  · clear HX
    go_wp2_with fail
    go_ret
    exact ⟨rfl, HB8.out⟩
  · clear HX
    go_wp2_with fail
    go_ret
    exact ⟨rfl, HB8.out⟩
  · have HR2 := mkHid (HRS.out (by omega))
    rcases h2 with ⟨hno, rfl, rfl⟩ | ⟨rfl, fs, hfl, hfk, hsp⟩
    · have HNO := mkHid hno
      clear HX hno
      go_wp2_with fail
      refine HR2.out.mono ?_
      rintro e w9 ⟨b9, ⟨v, fs, g1, g2, g3, rfl⟩ | ⟨_, rfl⟩⟩
      · refine absurd ⟨?_, ?_, ?_⟩ (HNO.out (fs.map Fl.g))
        · simp [g1]
        · intro g hg
          obtain ⟨f, hf, rfl⟩ := List.mem_map.1 hg
          exact ⟨(g3.trees f hf).2, nOk_lies (g3.trees f hf).1.lies⟩
        · rw [g2]
          simp [keysF, List.flatMap_map]
      · have HE := mkHid (HB8.out.trans (b9.mono HB8.out.size))
        clear b9
        go_wp2_with fail
        go_ret
        exact ⟨rfl, HE.out⟩
    · obtain ⟨xa, xc, rfl, hx1, hx2, hxV⟩ := sp_row hsp hfl
      have HXV := mkHid (hxV.below HB48.out)
      have HFS : Hid (∀ f ∈ fs, f.g.err = 0 ∧ f.g.every GV.nOk = true) := fun f hf => ⟨(hsp.trees f hf).2, nOk_lies (hsp.trees f hf).1.lies⟩
      have HFL := mkHid hfl
      have HFK := mkHid hfk
      clear HX hsp hxV hfl hfk
      go_wp2_with fail
      refine HR2.out.mono ?_
      rintro e w9 ⟨b9, ⟨v, fs', g1, g2, g3, rfl⟩ | ⟨hno, _⟩⟩
      · obtain ⟨ya, yc, rfl, hy1, hy2, hyV⟩ := sp_row g3 g1
        have hsame := rows_same HFL.out g1 (by rw [← HFK.out, ← g2]) HFS.out (fun f hf => ⟨(g3.trees f hf).2, nOk_lies (g3.trees f hf).1.lies⟩)
        have HLI := mkHid (list_any xa ya n.toNat xc yc (flG fs) (flG fs') w9 (HXV.out.below b9) hyV hx1 hx2 hy1 hy2 hsame)
        have HB9 := mkHid (HB8.out.trans (b9.mono HB8.out.size))
        clear b9 g1 g2 g3 hyV hsame
        go_wp2_with fail
        refine HLI.out.mono ?_
        rintro e w10 ⟨rfl, b10⟩
        have HE := mkHid (HB9.out.trans (b10.mono HB9.out.size))
        clear b10
        go_wp2_with fail
        go_ret
        exact ⟨rfl, HE.out⟩
      · refine absurd ⟨?_, ?_, ?_⟩ (hno (fs.map Fl.g))
        · simp [HFL.out]
        · intro g hg
          obtain ⟨f, hf, rfl⟩ := List.mem_map.1 hg
          exact HFS.out f hf
        · rw [HFK.out]
          simp [keysF, List.flatMap_map]
end Go.Proofs.Yticbcoklpgfkhaa

/- Arguments that are rows of numbers. -/
namespace Go.Proofs.Yticbcoklpgfkhaa
open Go.ChangeShapes Go.WideShapes Go.ChangeAt Go.RowKit

theorem argLaidOut : laidOutB Try.prog = true := by kernel_rfl
theorem adr_spot {w : World} {a : Addr} {u : Value} (h : w.cell? a = some u) : ∃ b o, a = ⟨b, o, none⟩ ∧ b < w.heap.size := by
  obtain ⟨b, o, s⟩ := a
  cases s with
  | some s => unfold World.cell? at h; simp at h; split at h <;> cases h
  | none =>
    refine ⟨b, o, rfl, ?_⟩
    rcases Nat.lt_or_ge b w.heap.size with hlt | hge
    · exact hlt
    · simp [World.cell?, Array.getElem?_eq_none hge] at h
/-- A row of numbers of one kind. -/
def KRow (k : IntKind) (w : World) (a : Option Addr) (m : Nat) (z : Nat → Int) : Prop := m = 0 ∨ ∃ b o, a = some ⟨b, o, none⟩ ∧ b < w.heap.size ∧ ∀ i, i < m → w.cell? ⟨b, o + i, none⟩ = some (.int k (z i)) ∧ (Lit.int k (z i)).wf = true
set_option maxRecDepth 100000 in
theorem krow_of {H : Type} {enc : TypeId × Value → H} {W : World} {base : Nat} {t e : TypeId} {k : IntKind} {v : Value} {d : DataW H} {p : List MemPlace} (ht : Try.prog.underlying t = some (.slice e)) (he : Try.prog.underlying e = some (.int k)) (hc : Try.prog.cellsOf e = 1) (hv : Value.okWide Try.prog W .any base t v) (h : DataW.Trod enc Try.prog W 0 (fun _ => true) true t v d p) :
    ∃ a m c z, v = .slice a m c ∧ m ≤ 9223372036854775807 ∧ KRow k W a m z := by
  obtain ⟨a, len, cap, rfl⟩ := okWide_slice ht hv
  obtain ⟨fuel, hf⟩ := h
  rcases open_ints ht he hc (show DataW.trod enc Try.prog W 0 (fun _ => true) true fuel t [.slice a len cap] = some (d, p) by simpa [Value.cells] using hf) with ⟨hcs, _⟩ | ⟨ad, len', cap', zs, hcs, _, hl, hm, hzl, _, hcell, hwf⟩
  · simp at hcs
    exact ⟨a, len, cap, fun _ => 0, rfl, by omega, Or.inl hcs.2.1⟩
  · simp at hcs
    obtain ⟨rfl, rfl, rfl⟩ := hcs
    simp at hzl
    have hml : maxLen = 9223372036854775807 := rfl
    refine ⟨some ad, len, cap, fun i => zs.getD i 0, rfl, by omega, ?_⟩
    rcases Nat.eq_zero_or_pos len with h0 | h0
    · exact Or.inl h0
    · right
      obtain ⟨b, o, rfl, hb⟩ := adr_spot (by simpa [Addr.add] using hcell 0 (by omega))
      refine ⟨b, o, rfl, hb, fun i hi => ⟨?_, hwf _ ?_⟩⟩
      · have := hcell i (by omega)
        rwa [show (⟨b, o, none⟩ : Addr).add i = ⟨b, o + i, none⟩ by unfold Addr.add; split <;> simp_all] at this
      · show zs.getD i 0 ∈ zs
        rw [List.getD_eq_getElem?_getD, List.getElem?_eq_getElem (by omega)]
        exact List.getElem_mem _
/-- An argument shut again in any world behind. -/
theorem arg_shut {H : Type} {enc : TypeId × Value → H} {W : World} {t : TypeId} {v : Value} {d : DataW H} {p : List MemPlace} (hr : Try.prog.readableRec t = true) (ht : t < Try.prog.types.size) (h : DataW.Trod enc Try.prog W 0 (fun _ => true) true t v d p) :
    ∀ W', RowKit.Below W.heap.size W W' → DataW.Trod enc Try.prog W' 0 (fun b => decide (b < W.heap.size)) true t v d p := by
  have hlt : ∀ x ∈ p, x.block < W.heap.size := by obtain ⟨m, hm⟩ := h; exact DataW.trod_lt m _ _ _ hm
  exact fun W' hb => RowKit.Below.trod argLaidOut hr ht h hb hlt
end Go.Proofs.Yticbcoklpgfkhaa

/- A row of bytes as an argument. -/
namespace Go.Proofs.Yticbcoklpgfkhaa
open Go.RowKit Go.ChangeShapes Go.WideShapes Go.ChangeAt

theorem bulk_lenK {H : Type} : ∀ (l : List (DataW H)), l.length ≤ Rows.uptoBulkAll l
  | [] => by simp [Rows.uptoBulkAll]
  | d :: l => by
    have h1 := bulk_lenK l
    have h2 : 1 ≤ Rows.uptoBulk d := by
      cases d with
      | lit x => cases x <;> simp [Rows.uptoBulk]
      | _ => simp [Rows.uptoBulk]
    simp only [Rows.uptoBulkAll, List.length_cons]
    omega
set_option maxRecDepth 100000 in
theorem arg_bytes {H : Type} {enc : TypeId × Value → H} {W : World} {base : Nat} {t e : TypeId} {v : Value} {d : DataW H} {p : List MemPlace} (ht : Try.prog.underlying t = some (.slice e)) (he : Try.prog.underlying e = some (.int .u8)) (hc : Try.prog.cellsOf e = 1) (hv : Value.okWide Try.prog W .any base t v) (h : DataW.Trod enc Try.prog W 0 (fun _ => true) true t v d p) :
    ∃ (a : Option Addr) (l : List UInt8) (c : Nat), v = .slice a l.length c ∧ Byts W a l ∧ l.length ≤ c ∧ c ≤ maxLen ∧ (a = none → l = [] ∧ c = 0) ∧ l.length ≤ Rows.uptoBulk d := by
  obtain ⟨a, len, cap, rfl⟩ := okWide_slice ht hv
  obtain ⟨fuel, hf⟩ := h
  rcases open_ints ht he hc (show DataW.trod enc Try.prog W 0 (fun _ => true) true fuel t [.slice a len cap] = some (d, p) by simpa [Value.cells] using hf) with ⟨hcs, _⟩ | ⟨ad, len', cap', zs, hcs, _, hl, hm, hzl, hxd, hcell, hwf⟩
  · simp at hcs
    obtain ⟨rfl, rfl, rfl⟩ := hcs
    exact ⟨none, [], 0, rfl, fun i hi => absurd hi (Nat.not_lt_zero _), Nat.le_refl _, by unfold maxLen; omega, fun _ => ⟨rfl, rfl⟩, Nat.zero_le _⟩
  · simp at hcs
    obtain ⟨rfl, rfl, rfl⟩ := hcs
    simp at hzl
    have hml : maxLen = 9223372036854775807 := rfl
    have hll : ((zs.take len).map fun z => UInt8.ofNat z.toNat).length = len := by simp; omega
    refine ⟨some ad, (zs.take len).map fun z => UInt8.ofNat z.toNat, cap, by rw [hll], ?hy, by rw [hll]; exact hl, by omega, ?hn, ?hd⟩
    case hn => intro h; cases h
    case hd =>
      have e : d = .slice (lits .u8 (zs.take len)) (lits .u8 (zs.drop len)) := congrArg Prod.fst hxd
      rw [hll, e]
      simp only [Rows.uptoBulk]
      have h1 := bulk_lenK (H := H) (lits .u8 (zs.take len))
      have h2 : (lits (H := H) .u8 (zs.take len)).length = len := by simp [lits]; omega
      omega
    case hy =>
    intro i hi
    rw [hll] at hi
    obtain ⟨b, o, rfl, hb⟩ := adr_spot (by simpa [Addr.add] using hcell 0 (by omega))
    refine ⟨b, o, rfl, ?_⟩
    have h1 := hcell i (by omega)
    rw [show (⟨b, o, none⟩ : Addr).add i = ⟨b, o + i, none⟩ by unfold Addr.add; split <;> simp_all] at h1
    rw [h1]
    have h2 := hwf (zs.getD i 0) (by rw [List.getD_eq_getElem?_getD, List.getElem?_eq_getElem (by omega)]; exact List.getElem_mem _)
    have h3 : zs.getD i 0 = zs[i]'(by omega) := by simp [List.getD_eq_getElem?_getD, List.getElem?_eq_getElem (show i < zs.length by omega)]
    rw [h3] at h2 ⊢
    have h4 : IntKind.u8.min ≤ zs[i]'(by omega) ∧ zs[i]'(by omega) ≤ IntKind.u8.max := by simpa [Lit.wf] using h2
    have h5 : IntKind.u8.min = 0 ∧ IntKind.u8.max = 255 := by decide
    rw [h5.1, h5.2] at h4
    obtain ⟨x, hx⟩ : ∃ x, x = zs[i]'(by omega) := ⟨_, rfl⟩
    simp only [List.getElem_map, List.getElem_take, ← hx]
    rw [← hx] at h4
    have h6 : (UInt8.ofNat x.toNat).toNat = x.toNat := by
      rw [UInt8.toNat_ofNat']
      exact Nat.mod_eq_of_lt (by omega)
    rw [h6, Int.toNat_of_nonneg h4.1]
end Go.Proofs.Yticbcoklpgfkhaa

/- An argument of the type Val is a tree that lies in memory. -/
namespace Go.Proofs.Yticbcoklpgfkhaa
open Go.ChangeShapes Go.WideShapes Go.ChangeAt Go.RowKit

theorem argLaidOutV : laidOutB Try.prog = true := by kernel_rfl
theorem argRead : Try.prog.readableRec 25 = true := by kernel_rfl
theorem argType : 25 < Try.prog.types.size := of_decide_eq_true (by kernel_rfl)

set_option maxRecDepth 100000 in
/-- Opened: a tree; shut again in any world behind. -/
theorem arg_val {H : Type} {enc : TypeId × Value → H} {W : World} {base : Nat} {v : Value} {d : DataW H} {p : List MemPlace} (hv : Value.okWide Try.prog W .any base 25 v) (h : DataW.Trod enc Try.prog W 0 (fun _ => true) true 25 v d p)
    (hw : ∀ x ∈ d.weights Try.prog 25, x ≤ 140737488355328) :
    (∃ g, Lies W g v ∧ g.mass ≤ Rows.uptoBulk d) ∧ ∀ W', Below W.heap.size W W' → DataW.Trod enc Try.prog W' 0 (fun b => decide (b < W.heap.size)) true 25 v d p := by
  have hcs : ∃ cs, v = .agg cs := Exists.elim (okWide_struct Try.underlying25 hv) fun cs h => ⟨cs, h.1⟩
  obtain ⟨cs, rfl⟩ := hcs
  have hlt : ∀ x ∈ p, x.block < W.heap.size := by obtain ⟨m, hm⟩ := h; exact DataW.trod_lt m _ _ _ hm
  refine ⟨?_, fun W' hb => Below.trod argLaidOutV argRead argType h hb hlt⟩
  obtain ⟨fuel, hf⟩ := h
  obtain ⟨g, hg, hm⟩ := lies_of (Rows.uptoBulk d) d (Nat.le_refl _) fuel _ _ hf hw
  exact ⟨g, by simpa [Value.cells] using hg, hm⟩

theorem weights_arg {H : Type} {P : Program} {ts : List TypeId} {ds : List (DataW H)} {j : Nat} {t : TypeId} {d : DataW H} (h : (DataW.weightsEach P ts ds).all (· ≤ reachBytes) = true) (ht : ts[j]? = some t) (hd : ds[j]? = some d) :
    ∀ x ∈ d.weights P t, x ≤ 140737488355328 := by
  intro x hx
  have := List.all_eq_true.1 h _ (DataW.weights_mem_each ht hd x hx)
  have hr := reachBytes_lt
  simp at this
  omega
end Go.Proofs.Yticbcoklpgfkhaa

/- An argument that is a row of values: trees that lie in memory. -/
namespace Go.Proofs.Yticbcoklpgfkhaa
open Go.Deep Go.ChangeShapes Go.WideShapes Go.ChangeAt

section
variable {H : Type} {enc : TypeId × Value → H} {w : World} {base : Nat} {spare : Nat → Bool} {held : Bool}

set_option maxHeartbeats 1000000 in
theorem vals_of (N : Nat) (n : Nat) (v3 : Value) (x3 : DataW H × List MemPlace) (h3 : DataW.trod enc Try.prog w base spare held n 22 [v3] = some x3) (hNN : Rows.uptoBulk x3.1 ≤ N) (hw3 : ∀ x ∈ x3.1.weights Try.prog 22, x ≤ 140737488355328) :
    ∃ (la : Option Addr) (ln lc : Nat) (l : Nat → GV), v3 = .slice la ln lc ∧ ln ≤ lc ∧ lc ≤ maxLen ∧ (∀ i, i < ln → ∃ b o v', la = some ⟨b, o, none⟩ ∧ Lies w (l i) v' ∧ At5 w b (o + i * 5) v') ∧ ((List.range ln).map fun i => GV.mass (l i)).sum ≤ Rows.uptoBulk x3.1 := by
  have ih := lies_of (enc := enc) (w := w) (base := base) (spare := spare) (held := held) N
  rcases open_slice Try.underlying22 h3 with ⟨hc, hx⟩ | ⟨a, len, cap, mm, n', D, Pl, hc, _, hl, hm', hmm, hx, hel⟩
  · simp at hc
    exact ⟨none, 0, 0, fun _ => .nil, hc, by omega, by unfold maxLen; omega, fun i hi => absurd hi (Nat.not_lt_zero _), by simp⟩
  · simp at hc
    have hml : len ≤ mm := by rw [hmm]; split <;> omega
    rw [cellsVal] at hel
    rw [hx] at hw3 hNN ⊢
    dsimp only at hw3 hNN ⊢
    have hel2 : ∀ i, i < len → ∃ g, (∃ b o v', a = ⟨b, o, none⟩ ∧ Lies w g v' ∧ At5 w b (o + i * 5) v') ∧ g.mass ≤ Rows.uptoBulk (D i) := by
      intro i hi
      obtain ⟨cs0, hc0, _⟩ := hel 0 (by omega)
      obtain ⟨b, o, rfl⟩ := row_addr hc0 (by omega)
      obtain ⟨cs', hc', ht⟩ := hel i (by omega)
      obtain ⟨hlen', hcell⟩ := row_cell hc'
      have hmem : D i ∈ (List.range len).map D := List.mem_map.2 ⟨i, List.mem_range.2 hi, rfl⟩
      have hb1 : Rows.uptoBulk (D i) ≤ Rows.uptoBulkAll ((List.range len).map D) := by
        rw [bulkAll_map]
        exact sum_mem (f := fun i => Rows.uptoBulk (D i)) hi
      have hb2 : Rows.uptoBulkAll ((List.range len).map D) + 1 ≤ Rows.uptoBulk (DataW.slice ((List.range len).map D) ((List.range (mm - len)).map fun j => D (len + j))) := by
        simp only [Rows.uptoBulk]; omega
      obtain ⟨g, hg, hgm⟩ := ih (D i) (by omega) n' cs' (Pl i) ht (fun x hx => hw3 x (by
        rw [weights_slice Try.underlying22]
        exact List.mem_cons_of_mem _ (List.mem_append_left _ (weightsAll_mem hmem hx))))
      exact ⟨g, ⟨b, o, _, rfl, hg, fun j hj => by rw [hcell j hj]; simp [Value.cells]⟩, hgm⟩
    obtain ⟨l, hl2⟩ := choose_lt hel2
    refine ⟨some a, len, cap, l, hc, hl, hm', fun i hi => ?_, ?_⟩
    · obtain ⟨b, o, v', rfl, h1, h2⟩ := (hl2 i hi).1
      exact ⟨b, o, v', rfl, h1, h2⟩
    · refine Nat.le_trans (sum_le_sum fun i hi => (hl2 i hi).2) ?_
      rw [← bulkAll_map]
      simp only [Rows.uptoBulk]
      omega
end

theorem valsRead : Try.prog.readableRec 22 = true := by kernel_rfl
theorem valsType : 22 < Try.prog.types.size := of_decide_eq_true (by kernel_rfl)

set_option maxRecDepth 100000 in
/-- Opened: values; shut again in any world behind. -/
theorem arg_vals {H : Type} {enc : TypeId × Value → H} {W : World} {base : Nat} {v : Value} {dd : DataW H} {p : List MemPlace} (hv : Value.okWide Try.prog W .any base 22 v) (h : DataW.Trod enc Try.prog W 0 (fun _ => true) true 22 v dd p)
    (hw : ∀ x ∈ dd.weights Try.prog 22, x ≤ 140737488355328) :
    (∃ (la : Option Addr) (ln lc : Nat) (l : Nat → GV), v = .slice la ln lc ∧ ln ≤ lc ∧ lc ≤ maxLen ∧ Vals W la ln l ∧ ((List.range ln).map fun i => GV.mass (l i)).sum ≤ Rows.uptoBulk dd) ∧ ∀ W', RowKit.Below W.heap.size W W' → DataW.Trod enc Try.prog W' 0 (fun b => decide (b < W.heap.size)) true 22 v dd p := by
  obtain ⟨a, len, cap, rfl⟩ := okWide_slice Try.underlying22 hv
  have hlt : ∀ x ∈ p, x.block < W.heap.size := by obtain ⟨m, hm⟩ := h; exact DataW.trod_lt m _ _ _ hm
  refine ⟨?_, fun W' hb => RowKit.Below.trod argLaidOutV valsRead valsType h hb hlt⟩
  obtain ⟨fuel, hf⟩ := h
  obtain ⟨la, ln, lc, l, e, h1, h2, hF, hm⟩ := vals_of (Rows.uptoBulk dd) fuel (.slice a len cap) (dd, p) (by simpa [Value.cells] using hf) (Nat.le_refl _) hw
  exact ⟨la, ln, lc, l, e, h1, h2, hF, hm⟩
end Go.Proofs.Yticbcoklpgfkhaa
