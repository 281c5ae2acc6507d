/- The walk of the document's own 'Good': the first error, or 0: the same as GV.err. -/
import Derived.Test.YtkjijepepbgciabRShape
import Derived.Test.YtkjijepepbgciabRFew
import Derived.Test.YtkjijepepbgciabRDepth
import Derived.Test.YtkjijepepbgciabRBytes
import Derived.Test.YtkjijepepbgciabGood
namespace Go.Proofs.Ytkjijepepbgciab
open Go.RowKit

/-- Of values whose parts are formed, two tests that agree on each formed part agree. -/
theorem every_agree {p q : GV → Bool} (h : ∀ g, g.formed = true → p g = q g) : ∀ g : GV, g.every GV.formed = true → g.every p = g.every q := by
  intro g
  induction g with
  | nil => intro hF; simp [GV.every, GV.formed] at hF
  | mk k n s ln l fn nm f ihl ihf =>
    intro hF
    rw [GV.every_parts, Bool.and_eq_true, List.all_eq_true] at hF
    rw [GV.every_parts, GV.every_parts, h _ hF.1]
    congr 1
    have e : ∀ i, i < (GV.mk k n s ln l fn nm f).pn → ((GV.mk k n s ln l fn nm f).pf i).every p = ((GV.mk k n s ln l fn nm f).pf i).every q := by
      intro i hi
      have hv := hF.2 i (by simpa using hi)
      have hq : (GV.mk k n s ln l fn nm f).pf i = l i ∨ (GV.mk k n s ln l fn nm f).pf i = f i := by
        simp only [GV.pf]
        split
        · exact Or.inl rfl
        · exact Or.inr rfl
      rcases hq with e | e
      · rw [e] at hv ⊢
        exact ihl i hv
      · rw [e] at hv ⊢
        exact ihf i hv
    rw [Bool.eq_iff_iff, List.all_eq_true, List.all_eq_true]
    constructor
    · intro h1 i hi
      rw [← e i (by simpa using hi)]
      exact h1 i hi
    · intro h1 i hi
      rw [e i (by simpa using hi)]
      exact h1 i hi

theorem valid_nil : validB ⟨#[]⟩ = true := rfl

theorem text_agree (g : GV) (h : g.formed = true) : g.textOk = g.readable := by
  cases g with
  | nil => simp [GV.formed] at h
  | mk k n s ln l fn nm f =>
    have hcase : k = 1 ∨ k = 2 ∨ k = 3 ∨ k = 4 ∨ k = 5 ∨ k = 6 ∨ (k ≠ 1 ∧ k ≠ 2 ∧ k ≠ 3 ∧ k ≠ 4 ∧ k ≠ 5 ∧ k ≠ 6) := by omega
    rcases hcase with rfl | rfl | rfl | rfl | rfl | rfl | ⟨k1, k2, k3, k4, k5, k6⟩
    · simp [GV.formed] at h
      obtain ⟨⟨⟨_, hs⟩, _⟩, hf⟩ := h
      have hs' := empty_is (s := s) (by simpa using hs)
      subst hs' hf
      simp [GV.textOk, GV.readable, valid_nil]
    · simp [GV.formed] at h
      obtain ⟨⟨⟨_, hs⟩, _⟩, hf⟩ := h
      have hs' := empty_is (s := s) (by simpa using hs)
      subst hs' hf
      simp [GV.textOk, GV.readable, valid_nil]
    · simp [GV.formed] at h
      obtain ⟨⟨hs, _⟩, hf⟩ := h
      have hs' := empty_is (s := s) (by simpa using hs)
      subst hs' hf
      simp [GV.textOk, GV.readable, valid_nil]
    · simp [GV.formed] at h
      obtain ⟨_, hf⟩ := h
      subst hf
      simp [GV.textOk, GV.readable]
    · simp [GV.formed] at h
      obtain ⟨⟨_, hs⟩, hf⟩ := h
      have hs' := empty_is (s := s) (by simpa using hs)
      subst hs' hf
      simp [GV.textOk, GV.readable, valid_nil]
    · simp [GV.formed] at h
      obtain ⟨⟨_, hs⟩, _⟩ := h
      have hs' := empty_is (s := s) (by simpa using hs)
      subst hs'
      simp [GV.textOk, GV.readable, valid_nil]
    · simp [GV.formed, k1, k2, k3, k4, k5, k6] at h

theorem few_agree (g : GV) (h : g.formed = true) : g.fewOk = g.limited := by
  cases g with
  | nil => simp [GV.formed] at h
  | mk k n s ln l fn nm f =>
    have hcase : k = 1 ∨ k = 2 ∨ k = 3 ∨ k = 4 ∨ k = 5 ∨ k = 6 ∨ (k ≠ 1 ∧ k ≠ 2 ∧ k ≠ 3 ∧ k ≠ 4 ∧ k ≠ 5 ∧ k ≠ 6) := by omega
    rcases hcase with rfl | rfl | rfl | rfl | rfl | rfl | ⟨k1, k2, k3, k4, k5, k6⟩
    · simp [GV.formed] at h
      obtain ⟨⟨_, hl⟩, hf⟩ := h
      subst hl hf
      simp [GV.fewOk, GV.limited]
    · simp [GV.formed] at h
      obtain ⟨⟨_, hl⟩, hf⟩ := h
      subst hl hf
      simp [GV.fewOk, GV.limited]
    · simp [GV.formed] at h
      obtain ⟨⟨_, hl⟩, hf⟩ := h
      subst hl hf
      simp [GV.fewOk, GV.limited]
    · simp [GV.formed] at h
      obtain ⟨⟨_, hl⟩, hf⟩ := h
      subst hl hf
      simp [GV.fewOk, GV.limited]
    · simp [GV.formed] at h
      obtain ⟨_, hf⟩ := h
      subst hf
      simp [GV.fewOk, GV.limited]
    · simp [GV.formed] at h
      obtain ⟨_, hl⟩ := h
      subst hl
      simp [GV.fewOk, GV.limited, Bool.and_comm]
    · simp [GV.formed, k1, k2, k3, k4, k5, k6] at h

theorem or_one_half (n : Nat) : (n ||| 1) / 2 = n / 2 := by
  have := Nat.shiftRight_or_distrib (a := n) (b := 1) (i := 1)
  simpa [Nat.shiftRight_eq_div_pow] using this

theorem bitLen_or {n : Nat} (h0 : n ≠ 0) (h : n < 18446744073709551616) : Lib.bitLen (n ||| 1) = Lib.bitLen n := by
  have h1 : n ||| 1 < 2 ^ 64 := Nat.or_lt_two_pow (by omega) (by omega)
  have h2 : n ||| 1 ≠ 0 := by
    intro e
    have : n ≤ n ||| 1 := Nat.left_le_or
    omega
  rw [Lib.bitLen_half _ h2 h1, or_one_half, ← Lib.bitLen_half _ h0 (by omega)]

theorem digits_small : ∀ k : Fin 128, digitsN k.val = 1 := by decide +kernel

theorem digits_len : ∀ (f n : Nat), n ≤ f → n < 18446744073709551616 → (varint n).length = digitsN n
  | 0, n, hf, _ => by
    obtain rfl : n = 0 := by omega
    rw [varint_last (by omega)]
    exact (digits_small 0).symm
  | f + 1, n, hf, h => by
    by_cases h128 : 128 ≤ n
    · rw [varint_more h128, List.length_cons, digits_len f (n / 128) (by omega) (by omega)]
      unfold digitsN
      rw [bitLen_or (n := n) (by omega) h, bitLen_or (n := n / 128) (by omega) (by omega), Lib.bitLen_shift 7 n (by omega) (by omega), show (2 : Nat) ^ 7 = 128 from rfl]
      omega
    · rw [varint_last h128]
      have := digits_small ⟨n, by omega⟩
      simp at this
      simp [this]

theorem sum_congr {f g : Nat → Nat} : ∀ {n : Nat}, (∀ i, i < n → f i = g i) → ((List.range n).map f).sum = ((List.range n).map g).sum
  | 0, _ => by simp
  | n + 1, h => by
    rw [List.range_succ, List.map_append, List.map_append, List.sum_append, List.sum_append, sum_congr (n := n) (fun i hi => h i (by omega))]
    simp [h n (by omega)]

theorem flat_len_sum {c : Nat → List UInt8} : ∀ n, ((List.range n).flatMap c).length = ((List.range n).map fun i => (c i).length).sum
  | 0 => by simp
  | n + 1 => by
    rw [flat_snoc, List.length_append, flat_len_sum n, List.range_succ, List.map_append, List.sum_append]
    simp

/-- A tree's bytes are as many as its size says. -/
theorem enc_size : ∀ {w : World} {g : GV} {v : Value}, Lies w g v → g.enc.length = g.size := by
  intro w g
  induction g with
  | nil => intro v h; exact False.elim h
  | mk k n s ln l fn nm f ihl ihf =>
    intro v h
    obtain ⟨la, lc, fa, fc, rfl, hk, hn, hs, h4, h5, h6, h7, hl, hf⟩ := h
    have hml : maxLen = 9223372036854775807 := rfl
    have z := digits_len _ _ (Nat.le_refl _) (zig_lt hn).1
    have vs := digits_len _ s.size (Nat.le_refl _) (by omega)
    have vl := digits_len _ ln (Nat.le_refl _) (by omega)
    have vf := digits_len _ fn (Nat.le_refl _) (by omega)
    have e1 : ((List.range ln).flatMap fun i => (l i).enc).length = ((List.range ln).map fun i => (l i).size).sum := by
      rw [flat_len_sum]
      refine sum_congr fun i hi => ?_
      obtain ⟨b, o, v', _, hv, _⟩ := hl i hi
      exact ihl i hv
    have e2 : ((List.range fn).flatMap fun i => encS (nm i) ++ (f i).enc).length = ((List.range fn).map fun i => textN (nm i) + (f i).size).sum := by
      rw [flat_len_sum]
      refine sum_congr fun i hi => ?_
      obtain ⟨b, o, v', _, hsz, _, hv, _⟩ := hf i hi
      have vn := digits_len _ (nm i).size (Nat.le_refl _) (by omega)
      have hd : (nm i).data.size = (nm i).size := rfl
      simp only [encS, textN, List.length_append, Array.length_toList, ihf i hv]
      omega
    have hsd : s.data.size = s.size := rfl
    have es : (encS s).length = textN s := by simp only [encS, textN, List.length_append, Array.length_toList]; omega
    simp only [GV.enc, GV.size, List.length_cons, foldl_add]
    by_cases k2 : k = 2
    · simp [k2]
    · rw [if_neg k2, if_neg k2]
      by_cases k3 : k = 3
      · rw [if_pos k3, if_pos k3]; omega
      · rw [if_neg k3, if_neg k3]
        by_cases k4 : k = 4
        · rw [if_pos k4, if_pos k4]; omega
        · rw [if_neg k4, if_neg k4]
          by_cases k5 : k = 5
          · rw [if_pos k5, if_pos k5, List.length_append]; omega
          · rw [if_neg k5, if_neg k5]
            by_cases k6 : k = 6
            · rw [if_pos k6, if_pos k6, List.length_append]; omega
            · rw [if_neg k6, if_neg k6]; simp

set_option maxHeartbeats 4000000 in
set_option maxRecDepth 1000000 in
theorem rgood_any (g : GV) (v : Value) (w : World) (hL : Lies w g v) (hM : g.mass ≤ 4194304) :
    Calls Try.prog 29 #[v] w fun e w' => e = .returned (.int .i64 g.err) ∧ Below w.heap.size w w' := by
  have HL : Hid (Lies w g v) := hL
  have hN : g.nodes ≤ 4194304 := by have := GV.nodes_mass g; omega
  have hdn := GV.depth_le g
  have hES := enc_size hL
  have hEL := enc_le hL hM
  have hEP := enc_pos hL
  obtain ⟨k, n, s, la, ln, lc, fa, fn, fc, rfl⟩ := hL.agg
  clear hL
  have hbx := (Below.refl w.heap.size w).alloc (Nat.le_refl _) (.cells #[.int .i64 k, .int .i64 n, .string s, .slice la ln lc, .slice fa fn fc] 26)
  go_enter Try.func29, Try.ntmps29
  go_wp2_with fail
  refine (shape_any g _ _ (HL.out.below hbx) (by omega)).mono ?_
  rintro e w1 ⟨rfl, hb1⟩
  have X1 := hb1.mono (B' := w.heap.size + 1) (by simp)
  have B1 : Below w.heap.size w w1 := hbx.trans (X1.mono (by omega))
  clear hb1
  obtain ⟨c0, c1, c2, c3, c4⟩ := box_cells X1
  cases hE1 : g.every GV.formed with
  | false =>
    have HE : Hid (g.err = 4) := (err_1 hE1).1
    clear hE1
    go_wp2_with fail
    go_ret
    exact ⟨by rw [HE.out]; rfl, B1⟩
  | true =>
    have HE1 : Hid (g.every GV.formed = true) := hE1
    have HT : Hid (g.every GV.textOk = g.every GV.readable) := every_agree text_agree g hE1
    have HW : Hid (g.every GV.fewOk = g.every GV.limited) := every_agree few_agree g hE1
    clear hE1
    go_wp2_with fail
    refine (texts_any g _ _ (HL.out.below B1) hM).mono ?_
    rintro e w2 ⟨rfl, hb2⟩
    have X2 := X1.trans (hb2.mono (B' := w.heap.size + 1) (by have := X1.size; simp at this; omega))
    have B2 : Below w.heap.size w w2 := hbx.trans (X2.mono (by omega))
    clear hb2 X1 B1 c0 c1 c2 c3 c4
    obtain ⟨c0, c1, c2, c3, c4⟩ := box_cells X2
    rw [HT.out]
    cases hE2 : g.every GV.readable with
    | false =>
      have HE : Hid (g.err = 11) := (err_2 HE1.out hE2).1
      clear hE2
      go_wp2_with fail
      go_ret
      exact ⟨by rw [HE.out]; rfl, B2⟩
    | true =>
      have HE2 : Hid (g.every GV.readable = true) := hE2
      clear hE2
      go_wp2_with fail
      refine (few_any g _ _ (HL.out.below B2) hM).mono ?_
      rintro e w3 ⟨rfl, hb3⟩
      have X3 := X2.trans (hb3.mono (B' := w.heap.size + 1) (by have := X2.size; simp at this; omega))
      have B3 : Below w.heap.size w w3 := hbx.trans (X3.mono (by omega))
      clear hb3 X2 B2 c0 c1 c2 c3 c4
      obtain ⟨c0, c1, c2, c3, c4⟩ := box_cells X3
      rw [HW.out]
      cases hE3 : g.every GV.limited with
      | false =>
        have HE : Hid (g.err = 15) := (err_3 HE1.out HE2.out hE3).1
        clear hE3
        go_wp2_with fail
        go_ret
        exact ⟨by rw [HE.out]; rfl, B3⟩
      | true =>
        have HE3 : Hid (g.every GV.limited = true) := hE3
        clear hE3
        go_wp2_with fail
        refine (rDepth_any g _ _ (HL.out.below B3) (by omega)).mono ?_
        rintro e w4 ⟨rfl, hb4⟩
        have X4 := X3.trans (hb4.mono (B' := w.heap.size + 1) (by have := X3.size; simp at this; omega))
        have B4 : Below w.heap.size w w4 := hbx.trans (X4.mono (by omega))
        clear hb4 X3 B3 c0 c1 c2 c3 c4
        obtain ⟨c0, c1, c2, c3, c4⟩ := box_cells X4
        by_cases hd : 8 < g.depth
        · have HE : Hid (g.err = 3) := (err_4 HE1.out HE2.out HE3.out hd).1
          have hd2 : (8 : Int) < (g.depth : Int) := by omega
          go_wp2_with fail
          go_ret
          exact ⟨by rw [HE.out]; rfl, B4⟩
        · have hd2 : ¬ (8 : Int) < (g.depth : Int) := by omega
          have HD : Hid (¬ 8 < g.depth) := hd
          go_wp2_with fail
          refine (rbytes_any g _ _ (HL.out.below B4) hM HE1.out).mono ?_
          rintro e w5 ⟨v5, rfl, hv5, hb5⟩
          obtain ⟨g5, c5, rfl, _⟩ := own_some hv5 hEP
          have B5 : Below w.heap.size w w5 := B4.trans (hb5.mono B4.size)
          clear hb5 X4 B4 c0 c1 c2 c3 c4 hv5
          obtain ⟨E, hEe⟩ : ∃ E, g.enc.length = E := ⟨_, rfl⟩
          rw [hEe] at hES hEL ⊢
          clear hEe
          by_cases hz : 2048 < g.size
          · have HE : Hid (g.err = 2) := (err_5 HE1.out HE2.out HE3.out HD.out hz).1
            have hz2 : (2048 : Int) < (E : Int) := by omega
            go_wp2_with fail
            go_ret
            exact ⟨by rw [HE.out]; rfl, B5⟩
          · have HE : Hid (g.err = 0) := (err_6 HE1.out HE2.out HE3.out HD.out hz).1
            have hz2 : ¬ (2048 : Int) < (E : Int) := by omega
            go_wp2_with fail
            go_ret
            exact ⟨by rw [HE.out]; rfl, B5⟩
end Go.Proofs.Ytkjijepepbgciab
