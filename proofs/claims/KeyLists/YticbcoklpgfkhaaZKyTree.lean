/- Keys are ordered as their values. (No walk.) -/
import Derived.Test.YticbcoklpgfkhaaK1
import Derived.Test.YticbcoklpgfkhaaZChain
namespace Go.Proofs.Yticbcoklpgfkhaa
open Go.RowKit

theorem thenC_assoc (a b c : Int) : thenC (thenC a b) c = thenC a (thenC b c) := by
  unfold thenC
  by_cases h : a = 0
  · simp [h]
  · simp [h]
theorem thenC_zero (c : Int) : thenC 0 c = c := rfl
theorem thenC_ne {a : Int} (h : a ≠ 0) (c : Int) : thenC a c = a := by unfold thenC; rw [if_neg h]
theorem or_then (a b : Int) : orElse a b = thenC a b := rfl
/-- The order of rows, from a place on. -/
def lexR (c : Nat → Int) : Nat → Nat → Nat → Int
  | _, 0, 0 => 0
  | _, 0, _ + 1 => -1
  | _, _ + 1, 0 => 1
  | j, a + 1, b + 1 => thenC (c j) (lexR c (j + 1) a b)
theorem lexR_at (c : Nat → Int) : ∀ (i j d1 d2 : Nat), i < d1 → i < d2 → (∀ t, t < i → c (j + t) = 0) → c (j + i) ≠ 0 → lexR c j d1 d2 = c (j + i)
  | _, _, 0, _, h, _, _, _ => absurd h (Nat.not_lt_zero _)
  | _, _, _ + 1, 0, _, h, _, _ => absurd h (Nat.not_lt_zero _)
  | 0, j, a + 1, b + 1, _, _, _, hc => thenC_ne hc _
  | i + 1, j, a + 1, b + 1, h1, h2, hz, hc => by
    have h0 : c j = 0 := hz 0 (by omega)
    rw [lexR, h0, thenC_zero, lexR_at c i (j + 1) a b (by omega) (by omega) (fun t ht => by have := hz (t + 1) (by omega); rwa [show j + 1 + t = j + (t + 1) by omega]) (by rwa [show j + 1 + i = j + (i + 1) by omega]), show j + 1 + i = j + (i + 1) by omega]
theorem lexR_end (c : Nat → Int) : ∀ (j d1 d2 : Nat), (∀ t, t < min d1 d2 → c (j + t) = 0) → lexR c j d1 d2 = Lib.compareInt (d1 : Int) (d2 : Int)
  | _, 0, 0, _ => rfl
  | _, 0, b + 1, _ => by
    unfold lexR Lib.compareInt
    rw [if_pos (by omega)]
  | _, a + 1, 0, _ => by
    unfold lexR Lib.compareInt
    rw [if_neg (by omega), if_pos (by omega)]
  | j, a + 1, b + 1, h => by
    have h0 : c j = 0 := h 0 (by omega)
    rw [lexR, h0, thenC_zero, lexR_end c (j + 1) a b (fun t ht => by have := h (t + 1) (by omega); rwa [show j + 1 + t = j + (t + 1) by omega])]
    unfold Lib.compareInt
    repeat' split
    all_goals omega
theorem lexR_lex (c : Nat → Int) (n1 n2 : Nat) : lexR c 0 n1 n2 = lex c n1 n2 := by
  rcases lex_cases c n1 n2 with ⟨i, h1, h2, hz, hc, e⟩ | ⟨hz, e⟩
  · rw [e, lexR_at c i 0 n1 n2 h1 h2 (fun t ht => by rw [Nat.zero_add]; exact hz t ht) (by rw [Nat.zero_add]; exact hc), Nat.zero_add]
  · rw [e, lexR_end c 0 n1 n2 (fun t ht => by rw [Nat.zero_add]; exact hz t ht)]
/-- Parts one behind the other, each with a byte 1 ahead, and a byte 0 at the end. -/
theorem cb_parts (P Q : Nat → List UInt8) (c : Nat → Int) (n1 n2 : Nat) (h : ∀ i, i < n1 → i < n2 → ∀ r r', Lib.compareBytes (P i ++ r) (Q i ++ r') = thenC (c i) (Lib.compareBytes r r')) (r r' : List UInt8) :
    ∀ (d1 d2 j : Nat), j + d1 = n1 → j + d2 = n2 → Lib.compareBytes ((List.range' j d1).flatMap (fun i => 1 :: P i) ++ 0 :: r) ((List.range' j d2).flatMap (fun i => 1 :: Q i) ++ 0 :: r') = thenC (lexR c j d1 d2) (Lib.compareBytes r r')
  | 0, 0, _, _, _ => by
    show Lib.compareBytes (0 :: r) (0 :: r') = _
    rw [cb_eq]
    rfl
  | 0, b + 1, j, _, _ => by
    rw [List.range'_succ, List.flatMap_cons]
    show Lib.compareBytes (0 :: r) (1 :: _) = -1
    exact cb_lt (by decide) _ _
  | a + 1, 0, j, _, _ => by
    rw [List.range'_succ, List.flatMap_cons]
    show Lib.compareBytes (1 :: _) (0 :: r') = 1
    exact cb_gt (by decide) _ _
  | a + 1, b + 1, j, h1, h2 => by
    rw [List.range'_succ, List.range'_succ, List.flatMap_cons, List.flatMap_cons, List.cons_append, List.cons_append, List.cons_append, List.cons_append, cb_eq, List.append_assoc, List.append_assoc, h j (by omega) (by omega), cb_parts P Q c n1 n2 h r r' a b (j + 1) (by omega) (by omega), lexR, thenC_assoc]
theorem byteK_lt {k k' : Int} (h : 1 ≤ k ∧ k ≤ 6) (h' : 1 ≤ k' ∧ k' ≤ 6) (hlt : k < k') : byteOf (10 * k) < byteOf (10 * k') := by
  rw [UInt8.lt_iff_toNat_lt, byteK ⟨by omega, by omega⟩, byteK ⟨by omega, by omega⟩]
  omega
theorem kind_range {k n s ln l fn nm f} (h : (GV.mk k n s ln l fn nm f).formed = true) : 1 ≤ k ∧ k ≤ 6 := by
  rcases kind_of h with rfl | rfl | rfl | rfl | rfl | rfl <;> omega

/-- Keys are ordered as their values. -/
theorem key_cmp : ∀ a b : GV, a.every GV.formed = true → b.every GV.formed = true → a.every GV.nOk = true → b.every GV.nOk = true → ∀ r r', Lib.compareBytes (a.key ++ r) (b.key ++ r') = thenC (a.cmp b) (Lib.compareBytes r r') := by
  intro a
  induction a with
  | nil => intro b h; simp [GV.every, GV.formed] at h
  | mk k n s ln l fn nm f ihl ihf =>
    intro b ha hb na nb r r'
    cases b with
    | nil => simp [GV.every, GV.formed] at hb
    | mk k' n' s' ln' l' fn' nm' f' =>
      have ka := kind_range (every_top ha)
      have kb := kind_range (every_top hb)
      by_cases hk : k = k'
      · subst hk
        have hc0 : ¬ (Lib.compareInt k k ≠ 0) := by simp [Lib.compareInt]
        rw [GV.cmp, if_neg hc0]
        rcases kind_of (every_top ha) with rfl | rfl | rfl | rfl | rfl | rfl
        · simp only [GV.key]
          rw [if_neg (by omega), if_neg (by omega), if_neg (by omega), if_neg (by omega), if_neg (by omega), if_neg (by omega), if_neg (by omega), if_neg (by omega), if_neg (by omega)]
          rw [List.cons_append, List.cons_append, cb_eq]
          rfl
        · have e1 : (GV.mk 2 n s ln l fn nm f).key = byteOf (10 * 2) :: [byteOf n] := by simp [GV.key]
          have e2 : (GV.mk 2 n' s' ln' l' fn' nm' f').key = byteOf (10 * 2) :: [byteOf n'] := by simp [GV.key]
          have fa := every_top ha
          have fb := every_top hb
          simp [GV.formed] at fa fb
          rw [e1, e2, if_pos (by omega)]
          show Lib.compareBytes (byteOf (10 * 2) :: (byteOf n :: r)) (byteOf (10 * 2) :: (byteOf n' :: r')) = _
          rw [cb_eq]
          rcases fa.1.1.1 with rfl | rfl <;> rcases fb.1.1.1 with rfl | rfl
          · rw [cb_eq]; rfl
          · show Lib.compareBytes (byteOf 0 :: r) (byteOf 1 :: r') = _
            rw [cb_lt (by decide)]; rfl
          · show Lib.compareBytes (byteOf 1 :: r) (byteOf 0 :: r') = _
            rw [cb_gt (by decide)]; rfl
          · rw [cb_eq]; rfl
        · have e1 : (GV.mk 3 n s ln l fn nm f).key = byteOf (10 * 3) :: numK n := by simp [GV.key]
          have e2 : (GV.mk 3 n' s' ln' l' fn' nm' f').key = byteOf (10 * 3) :: numK n' := by simp [GV.key]
          have ia : Int64 n := by have := every_top na; simp [GV.nOk] at this; exact this
          have ib : Int64 n' := by have := every_top nb; simp [GV.nOk] at this; exact this
          have q1 := numK_back ia
          have q2 := numK_back ib
          rw [e1, e2, if_pos (by omega), List.cons_append, List.cons_append, cb_eq, cb_num (numK n) (numK n') r r' (by rw [numK_len, numK_len])]
          congr 1
          unfold Lib.compareInt
          repeat' split
          all_goals omega
        · have e1 : (GV.mk 4 n s ln l fn nm f).key = byteOf (10 * 4) :: lettersK s.data.toList := by simp [GV.key]
          have e2 : (GV.mk 4 n' s' ln' l' fn' nm' f').key = byteOf (10 * 4) :: lettersK s'.data.toList := by simp [GV.key]
          rw [e1, e2, if_neg (by omega), if_pos rfl, List.cons_append, List.cons_append, cb_eq, cb_letters]
          rfl
        · have e1 : (GV.mk 5 n s ln l fn nm f).key ++ r = byteOf (10 * 5) :: ((List.range' 0 ln).flatMap (fun i => 1 :: (l i).key) ++ 0 :: r) := by simp [GV.key, List.range_eq_range']
          have e2 : (GV.mk 5 n' s' ln' l' fn' nm' f').key ++ r' = byteOf (10 * 5) :: ((List.range' 0 ln').flatMap (fun i => 1 :: (l' i).key) ++ 0 :: r') := by simp [GV.key, List.range_eq_range']
          rw [e1, e2, if_neg (by omega), if_neg (by omega), if_pos rfl, cb_eq, cb_parts (fun i => (l i).key) (fun i => (l' i).key) (fun i => (l i).cmp (l' i)) ln ln' (fun i h1 h2 r r' => ihl i (l' i) (every_l ha i h1) (every_l hb i h2) (every_l na i h1) (every_l nb i h2) r r') r r' ln ln' 0 (by omega) (by omega), lexR_lex]
        · have e1 : (GV.mk 6 n s ln l fn nm f).key ++ r = byteOf (10 * 6) :: ((List.range' 0 fn).flatMap (fun i => 1 :: (lettersK (nm i).data.toList ++ (f i).key)) ++ 0 :: r) := by simp [GV.key, List.range_eq_range']
          have e2 : (GV.mk 6 n' s' ln' l' fn' nm' f').key ++ r' = byteOf (10 * 6) :: ((List.range' 0 fn').flatMap (fun i => 1 :: (lettersK (nm' i).data.toList ++ (f' i).key)) ++ 0 :: r') := by simp [GV.key, List.range_eq_range']
          rw [e1, e2, if_neg (by omega), if_neg (by omega), if_neg (by omega), if_pos rfl, cb_eq, cb_parts (fun i => lettersK (nm i).data.toList ++ (f i).key) (fun i => lettersK (nm' i).data.toList ++ (f' i).key) (fun i => orElse (cmpS (nm i) (nm' i)) ((f i).cmp (f' i))) fn fn' (fun i h1 h2 r r' => by
            rw [List.append_assoc, List.append_assoc, cb_letters, ihf i (f' i) (every_f ha i h1) (every_f hb i h2) (every_f na i h1) (every_f nb i h2) r r', or_then, thenC_assoc]
            rfl) r r' fn fn' 0 (by omega) (by omega), lexR_lex]
      · have e1 : ∃ t, (GV.mk k n s ln l fn nm f).key = byteOf (10 * k) :: t := ⟨_, rfl⟩
        have e2 : ∃ t, (GV.mk k' n' s' ln' l' fn' nm' f').key = byteOf (10 * k') :: t := ⟨_, rfl⟩
        obtain ⟨t, e1⟩ := e1
        obtain ⟨t', e2⟩ := e2
        rw [e1, e2, List.cons_append, List.cons_append, GV.cmp]
        rcases Int.lt_or_gt_of_ne hk with h | h
        · have hc : Lib.compareInt k k' = -1 := by unfold Lib.compareInt; rw [if_pos h]
          rw [cb_lt (byteK_lt ka kb h), hc, if_pos (by decide)]
          rfl
        · have hc : Lib.compareInt k k' = 1 := by unfold Lib.compareInt; rw [if_neg (by omega), if_pos h]
          rw [cb_gt (byteK_lt kb ka h), hc, if_pos (by decide)]
          rfl
/-- The keys of two good values, byte by byte. -/
theorem keys_order {a b : GV} (ha : a.err = 0) (hb : b.err = 0) (na : a.every GV.nOk = true) (nb : b.every GV.nOk = true) : Lib.compareBytes a.key b.key = a.cmp b := by
  have h := key_cmp a b (err_zeroM ha).1 (err_zeroM hb).1 na nb [] []
  rw [List.append_nil, List.append_nil] at h
  rw [h]
  unfold thenC
  split
  · rename_i h0
    rw [h0]
    rfl
  · rfl
end Go.Proofs.Yticbcoklpgfkhaa
