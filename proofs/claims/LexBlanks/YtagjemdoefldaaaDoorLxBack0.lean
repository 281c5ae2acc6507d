/- A quoted text that is read without an error: where it ends, that it is UTF-8, how long it is. No program. -/
import Derived.Test.YtagjemdoefldaaaDoorLxMath
import Derived.Test.YtagjemdoefldaaaDoorLxPrint
namespace Go.Proofs.YtagjemdoefldaaaDoor
open Go.RowKit

theorem plain_bytes (s : ByteArray) : ∀ (f pos : Nat), s.size ≤ pos + f → ∀ j, pos ≤ j → j < plainFrom s f pos → byteAt s j ≠ 34 ∧ byteAt s j ≠ 92 := by
  intro f
  induction f with
  | zero =>
    intro pos h j h1 h2
    have : plainFrom s 0 pos = s.size := rfl
    omega
  | succ f ih =>
    intro pos h j h1 h2
    unfold plainFrom at h2
    by_cases hp : pos < s.size
    · rw [if_pos hp] at h2
      cases hst : stopB s pos
      · rw [hst] at h2
        have hw := width_pos s pos hp
        have hr : (Utf8.decode s pos).1 ≠ 34 ∧ (Utf8.decode s pos).1 ≠ 92 := by
          unfold stopB at hst
          simp only [Bool.or_eq_false_iff, beq_eq_false_iff_ne, decide_eq_false_iff_not] at hst
          omega
        by_cases hj : j < pos + (Utf8.decode s pos).2
        · rcases rune_span s pos hp with ⟨_, hd⟩ | ⟨_, _, _, _, hl⟩
          · rw [hd] at hj hr
            have : j = pos := by
              have : j < pos + 1 := hj
              omega
            subst this
            exact hr
          · have := hl j h1 hj
            omega
        · exact ih (pos + (Utf8.decode s pos).2) (by omega) j (by omega) (by simpa using h2)
      · rw [hst, if_pos rfl] at h2
        omega
    · rw [if_neg hp] at h2
      omega

theorem plain_list (t : ByteArray) : ∀ c ∈ t.data.toList.take (plainLen t), c ≠ 34 ∧ c ≠ 92 := by
  intro c hc
  obtain ⟨j, hj, rfl⟩ := List.mem_iff_getElem.1 hc
  rw [List.length_take] at hj
  have hb := plain_bytes t t.size 0 (by omega) j (by omega) (show j < plainLen t by omega)
  have e : byteAt t j = ((t.data.toList.take (plainLen t))[j]'(by rw [List.length_take]; exact hj)).toNat := by
    unfold byteAt
    rw [List.getElem_take, List.getD_eq_getElem?_getD, List.getElem?_eq_getElem (by omega)]
    rfl
  rw [e] at hb
  constructor
  · intro h; exact hb.1 (by rw [h]; rfl)
  · intro h; exact hb.2 (by rw [h]; rfl)

/-- What stands behind a backslash and a u. -/
theorem uOk_list (u : ByteArray) (h : uOkC u = true) : ∃ a b c d, u.data.toList = 92 :: 117 :: a :: b :: c :: d :: (u.extract 6 u.size).data.toList ∧ (a ≠ 34 ∧ a ≠ 92) ∧ (b ≠ 34 ∧ b ≠ 92) ∧ (c ≠ 34 ∧ c ≠ 92) ∧ (d ≠ 34 ∧ d ≠ 92) := by
  have h6 := uOkC_size u h
  unfold uOkC at h
  simp only [Bool.and_eq_true, decide_eq_true_eq] at h
  obtain ⟨⟨_, h2⟩, h4⟩ := h
  have e0 : u.extract 0 u.size = u := by
    apply ByteArray.ext
    apply Array.toList_inj.1
    rw [extract_tail, List.drop_zero]
  have t2 := take2_tail u 0 (by omega)
  have t4 := take4_tail u 0 (by omega)
  rw [e0] at t2 t4
  rw [t2] at h2
  rw [t4] at h4
  have h2' := eq_of_beq h2
  injection h2' with a0 a1
  injection a1 with a1 _
  simp only [List.all_cons, List.all_nil, Bool.and_true, Bool.and_eq_true, decide_eq_true_eq] at h4
  refine ⟨u.data.toList.getD 2 0, u.data.toList.getD 3 0, u.data.toList.getD 4 0, u.data.toList.getD 5 0, ?_, hex_plain _ h4.1, hex_plain _ h4.2.1, hex_plain _ h4.2.2.1, hex_plain _ h4.2.2.2⟩
  rw [extract_tail]
  have hd := tail_at u 0 (by omega)
  rw [List.drop_zero, tail_at u (0 + 1) (by omega), tail_at u (0 + 1 + 1) (by omega), tail_at u (0 + 1 + 1 + 1) (by omega), tail_at u (0 + 1 + 1 + 1 + 1) (by omega), tail_at u (0 + 1 + 1 + 1 + 1 + 1) (by omega), a0, a1] at hd
  exact hd

theorem sizeQ6 (u : ByteArray) (h : uOkC u = true) (X : List UInt8) : sizeQ (u.data.toList ++ X) = 6 + sizeQ ((u.extract 6 u.size).data.toList ++ X) := by
  obtain ⟨a, b, c, d, e, ha, hb, hc, hd⟩ := uOk_list u h
  conv => lhs; rw [e]
  simp only [List.cons_append]
  rw [sizeQ_slash, sizeQ_plain a _ ha.1 ha.2, sizeQ_plain b _ hb.1 hb.2, sizeQ_plain c _ hc.1 hc.2, sizeQ_plain d _ hd.1 hd.2]
  omega

theorem sizeQ2 (u : ByteArray) (h : shortOk u = true) (hs : slashB u = true) (X : List UInt8) : sizeQ (u.data.toList ++ X) = 2 + sizeQ ((u.extract 2 u.size).data.toList ++ X) := by
  have h2 := shortOk_size u h
  have hd := tail_at u 0 (by omega)
  rw [List.drop_zero, tail_at u (0 + 1) (by omega)] at hd
  have h92 : u.data.toList.getD 0 0 = 92 := by
    unfold slashB at hs
    rw [hd, pre1] at hs
    simpa using hs
  rw [h92] at hd
  conv => lhs; rw [hd]
  rw [extract_tail]
  exact sizeQ_slash _ _

/-- A text that is read without an error ends with its first quote. -/
theorem closed_body (R : ByteArray → List UInt8 → List UInt8 × Int) (u : ByteArray) (acc : List UInt8) (X : List UInt8) (hR : ∀ v a, (R v a).2 = 0 → sizeQ (v.data.toList ++ X) = v.size) (h : (uBody R u acc).2 = 0) : sizeQ (u.data.toList ++ X) = u.size := by
  unfold uBody at h
  split at h
  · rename_i hE
    unfold endB at hE
    rw [ByteArray.toList_eq] at hE
    have e := eq_of_beq hE
    rw [← size_list, e]
    exact sizeQ_quote _
  · split at h
    · rename_i hS
      split at h
      · rename_i hU
        have h6 := uOkC_size u hU
        split at h
        · rw [sizeQ6 u hU, hR _ _ h, extract_size u 6 h6]
          omega
        · split at h
          · cases h
          · rename_i hp
            have hU2 : uOkC (u.extract 6 u.size) = true := by
              cases hh : uOkC (u.extract 6 u.size)
              · exact absurd (Or.inr (Or.inl hh)) hp
              · rfl
            have h62 := uOkC_size _ hU2
            rw [sizeQ6 u hU, sizeQ6 _ hU2, hR _ _ h, extract_size _ 6 h62, extract_size u 6 h6]
            rw [extract_size u 6 h6] at h62
            omega
      · split at h
        · rename_i hs2
          have h2 := shortOk_size u hs2
          rw [sizeQ2 u hs2 hS, hR _ _ h, extract_size u 2 h2]
          omega
        · cases h
    · split at h
      · cases h
      · cases h

theorem closed_any (X : List UInt8) : ∀ (f : Nat) (t : ByteArray) (acc : List UInt8), (unqFrom uRC uOkC f t acc).2 = 0 → sizeQ (t.data.toList ++ X) = t.size := by
  intro f
  induction f with
  | zero => intro t acc h; cases h
  | succ f ih =>
    intro t acc h
    rw [unqFrom_succ] at h
    have hb := closed_body _ _ _ X ih h
    have hpl := plainLen_le t
    have e : t.data.toList = t.data.toList.take (plainLen t) ++ (t.extract (plainLen t) t.size).data.toList := by
      rw [extract_tail, List.take_append_drop]
    conv => lhs; rw [e]
    rw [List.append_assoc, sizeQ_skip _ _ (plain_list t), hb, extract_size t _ hpl, List.length_take, size_list]
    omega

theorem quotR_size (t : List UInt8) (h : (quotR t).2 = 0) (X : List UInt8) : sizeQ (t.take (sizeQ t) ++ X) = sizeQ t := by
  have := closed_any X _ ⟨(t.take (sizeQ t)).toArray⟩ [] h
  have hs : (⟨(t.take (sizeQ t)).toArray⟩ : ByteArray).size = sizeQ t := by
    rw [← size_list]
    show (t.take (sizeQ t)).length = _
    rw [List.length_take]
    have := sizeQ_le t
    omega
  rw [hs] at this
  exact this

/-- A text between quotes, whatever stands behind it. -/
theorem quotR_of (T X : List UInt8) (a : List UInt8) (h : uq ⟨T.toArray⟩ [] = (a, 0)) : quotR (T ++ X) = (a, 0) ∧ sizeQ (T ++ X) = T.length := by
  have hc := closed_any X _ ⟨T.toArray⟩ [] (by show (uq ⟨T.toArray⟩ []).2 = 0; rw [h])
  have hs : (⟨T.toArray⟩ : ByteArray).size = T.length := by rw [← size_list]
  have hc2 : sizeQ (T ++ X) = T.length := by rw [← hs]; exact hc
  refine ⟨?_, hc2⟩
  unfold quotR
  rw [hc2, List.take_left]
  exact h

/-- What is told is UTF-8, and not too long. -/
def OkB (l : List UInt8) : Prop := ∃ rs, allOk rs ∧ l = bytesOf rs

theorem okB_nil : OkB [] := ⟨[], (by intro r hr; cases hr), rfl⟩

theorem OkB.app {a b : List UInt8} (ha : OkB a) (hb : OkB b) : OkB (a ++ b) := by
  obtain ⟨r1, h1, rfl⟩ := ha
  obtain ⟨r2, h2, rfl⟩ := hb
  refine ⟨r1 ++ r2, ?_, (bytesOf_append _ _).symm⟩
  intro r hr
  rcases List.mem_append.1 hr with h | h
  · exact h1 r h
  · exact h2 r h
theorem OkB.rune {r : Int} (n : Nat) (hn : r = (n : Int)) (h : okRune n) : OkB (Lib.encodeRune r) := by
  subst hn
  exact ⟨[n], by intro x hx; rw [List.mem_singleton] at hx; subst hx; exact h, by simp [bytesOf]⟩

theorem plain_ok (s : ByteArray) : ∀ (f pos : Nat), s.size ≤ pos + f → pos ≤ s.size → pos ≤ plainFrom s f pos ∧ OkB ((s.data.toList.drop pos).take (plainFrom s f pos - pos)) := by
  intro f
  induction f with
  | zero =>
    intro pos h hp
    have e : plainFrom s 0 pos = s.size := rfl
    rw [e]
    refine ⟨hp, ?_⟩
    rw [show s.size - pos = 0 by omega, List.take_zero]
    exact okB_nil
  | succ f ih =>
    intro pos h hp
    unfold plainFrom
    by_cases hlt : pos < s.size
    · rw [if_pos hlt]
      cases hst : stopB s pos
      · have hw := width_pos s pos hlt
        have hbr : brokenB s pos (Utf8.decode s pos).1 = false := by
          unfold stopB at hst
          simp only [Bool.or_eq_false_iff] at hst
          exact hst.2
        obtain ⟨hd, hl⟩ := char_at s pos hlt hbr
        have hle : pos + (Utf8.decode s pos).2 ≤ s.size := Span.le (rune_span s pos hlt) hlt
        obtain ⟨i1, i2⟩ := ih (pos + (Utf8.decode s pos).2) (by omega) hle
        simp only [Bool.false_eq_true, if_false]
        refine ⟨by omega, ?_⟩
        rw [hd, List.take_append, hl, List.take_of_length_le (by omega), show plainFrom s f (pos + (Utf8.decode s pos).2) - pos - (Utf8.decode s pos).2 = plainFrom s f (pos + (Utf8.decode s pos).2) - (pos + (Utf8.decode s pos).2) by omega]
        exact (OkB.rune _ rfl (rune_ok s pos)).app i2
      · rw [if_pos rfl, Nat.sub_self, List.take_zero]
        exact ⟨Nat.le_refl _, okB_nil⟩
    · rw [if_neg hlt, show s.size - pos = 0 by omega, List.take_zero]
      exact ⟨hp, okB_nil⟩

theorem plainLen_ok (t : ByteArray) : OkB (t.extract 0 (plainLen t)).data.toList := by
  rw [extract_list, List.drop_zero, Nat.sub_zero]
  have := (plain_ok t t.size 0 (by omega) (by omega)).2
  rw [List.drop_zero, Nat.sub_zero] at this
  exact this

theorem shortR_ok (u : ByteArray) (h : shortOk u = true) : ∃ n : Nat, shortR u = (n : Int) ∧ n < 128 := by
  unfold shortR
  rw [if_pos h]
  refine ⟨_, rfl, ?_⟩
  generalize (shortIdx u).toNat = k
  have key : ∀ k : Nat, (([34, 92, 8, 12, 10, 13, 9, 47] : List UInt8).getD k 0).toNat < 128 := by
    intro k
    match k with
    | 0 | 1 | 2 | 3 | 4 | 5 | 6 | 7 => decide
    | k + 8 => show (0 : UInt8).toNat < 128; decide
  exact key k

theorem good_body (R : ByteArray → List UInt8 → List UInt8 × Int) (N : Nat) (u : ByteArray) (acc : List UInt8) (hN : u.size ≤ N) (ha : OkB acc) (hR : ∀ v a, v.size ≤ N → OkB a → (R v a).2 = 0 → OkB (R v a).1 ∧ (R v a).1.length ≤ a.length + 2 * v.size) (h : (uBody R u acc).2 = 0) : OkB (uBody R u acc).1 ∧ (uBody R u acc).1.length ≤ acc.length + 2 * u.size := by
  unfold uBody at h ⊢
  split at h
  · rename_i hE
    rw [if_pos hE]
    exact ⟨ha, by show acc.length ≤ _; omega⟩
  · rename_i hE
    rw [if_neg hE]
    split at h
    · rename_i hS
      rw [if_pos hS]
      split at h
      · rename_i hU
        rw [if_pos hU]
        have h6 := uOkC_size u hU
        have hsz := extract_size u 6 h6
        obtain ⟨r0, r1⟩ := uRC_range u
        split at h
        · rename_i hr
          rw [if_pos hr]
          have hk : OkB (Lib.encodeRune (uRC u)) := OkB.rune (uRC u).toNat (by omega) (by unfold okRune; omega)
          have hl := encode_pos (uRC u).toNat
          rw [show (((uRC u).toNat : Nat) : Int) = uRC u by omega] at hl
          obtain ⟨q1, q2⟩ := hR _ _ (by omega) (ha.app hk) h
          refine ⟨q1, ?_⟩
          rw [List.length_append] at q2
          omega
        · rename_i hr
          rw [if_neg hr]
          split at h
          · cases h
          · rename_i hp
            rw [if_neg hp]
            have hU2 : uOkC (u.extract 6 u.size) = true := by
              cases hh : uOkC (u.extract 6 u.size)
              · exact absurd (Or.inr (Or.inl hh)) hp
              · rfl
            have h62 := uOkC_size _ hU2
            have hsz2 := extract_size (u.extract 6 u.size) 6 h62
            have hq : ¬ 56320 ≤ uRC u ∧ ¬ uRC (u.extract 6 u.size) < 56320 ∧ ¬ 57343 < uRC (u.extract 6 u.size) := ⟨fun h => hp (Or.inl h), fun h => hp (Or.inr (Or.inr (Or.inl h))), fun h => hp (Or.inr (Or.inr (Or.inr h)))⟩
            have hz : ∃ n : Nat, 65536 + (uRC u - 55296) * 1024 + (uRC (u.extract 6 u.size) - 56320) = (n : Int) ∧ okRune n := by
              refine ⟨(65536 + (uRC u - 55296) * 1024 + (uRC (u.extract 6 u.size) - 56320)).toNat, by omega, ?_⟩
              unfold okRune
              omega
            obtain ⟨n, hn1, hn2⟩ := hz
            rw [hn1] at h ⊢
            have hl := encode_pos n
            obtain ⟨q1, q2⟩ := hR _ _ (by omega) (ha.app (OkB.rune n rfl hn2)) h
            refine ⟨q1, ?_⟩
            rw [List.length_append] at q2
            omega
      · rename_i hU
        rw [if_neg hU]
        split at h
        · rename_i hs2
          rw [if_pos hs2]
          have h2 := shortOk_size u hs2
          have hsz := extract_size u 2 h2
          obtain ⟨n, hn1, hn2⟩ := shortR_ok u hs2
          rw [hn1] at h ⊢
          have hl : (Lib.encodeRune (n : Int)).length = 1 := by rw [enc1 n hn2]; rfl
          obtain ⟨q1, q2⟩ := hR _ _ (by omega) (ha.app (OkB.rune n rfl (by unfold okRune; omega))) h
          refine ⟨q1, ?_⟩
          rw [List.length_append] at q2
          omega
        · cases h
    · split at h
      · cases h
      · cases h

theorem unq_good : ∀ (f : Nat) (t : ByteArray) (acc : List UInt8), OkB acc → (unqFrom uRC uOkC f t acc).2 = 0 → OkB (unqFrom uRC uOkC f t acc).1 ∧ (unqFrom uRC uOkC f t acc).1.length ≤ acc.length + 2 * t.size := by
  intro f
  induction f with
  | zero => intro t acc _ h; cases h
  | succ f ih =>
    intro t acc ha h
    rw [unqFrom_succ] at h ⊢
    have hpl := plainLen_le t
    have hsz := extract_size t (plainLen t) hpl
    obtain ⟨q1, q2⟩ := good_body _ t.size _ _ (by omega) (ha.app (plainLen_ok t)) (fun v a _ h1 h2 => ih v a h1 h2) h
    refine ⟨q1, ?_⟩
    have hA : (acc ++ (t.extract 0 (plainLen t)).data.toList).length ≤ acc.length + plainLen t := by
      rw [List.length_append, extract_list, List.drop_zero, List.length_take, size_list]
      omega
    omega

theorem quotR_good (t : List UInt8) (h : (quotR t).2 = 0) : validB ⟨(quotR t).1.toArray⟩ = true ∧ (quotR t).1.length ≤ 2 * t.length := by
  obtain ⟨⟨rs, h1, h2⟩, h3⟩ := unq_good _ ⟨(t.take (sizeQ t)).toArray⟩ [] okB_nil h
  refine ⟨runes_valid _ rs h1 h2, ?_⟩
  have hs : (⟨(t.take (sizeQ t)).toArray⟩ : ByteArray).size ≤ t.length := by
    rw [← size_list]
    show (t.take (sizeQ t)).length ≤ _
    rw [List.length_take]
    omega
  have h4 : (quotR t).1.length ≤ [].length + 2 * (⟨(t.take (sizeQ t)).toArray⟩ : ByteArray).size := h3
  simp only [List.length_nil] at h4
  omega
end Go.Proofs.YtagjemdoefldaaaDoor
