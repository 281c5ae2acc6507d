/- Plain facts on the order of values, of trees: the other way round; over a third one; 0 just of the same; the same have one row of bytes. -/
import Derived.Test.YtkjijepepbgciaaChain
import Derived.Test.YtkjijepepbgciaaSame2
import Derived.Test.YtkjijepepbgciaaHashT
namespace Go.Proofs.Ytkjijepepbgciaa
open Go.RowKit

theorem cmp_mk {k n s ln l fn nm f k' n' s' ln' l' fn' nm' f'} : (GV.mk k n s ln l fn nm f).cmp (.mk k' n' s' ln' l' fn' nm' f') =
    orElse (Lib.compareInt k k') (if k = 2 ∨ k = 3 then Lib.compareInt n n' else if k = 4 then cmpS s s' else if k = 5 then lex (fun i => (l i).cmp (l' i)) ln ln' else if k = 6 then lex (fun i => orElse (cmpS (nm i) (nm' i)) ((f i).cmp (f' i))) fn fn' else 0) := by
  rw [GV.cmp]
  unfold orElse
  by_cases h : Lib.compareInt k k' = 0
  · rw [if_neg (by simp [h]), if_pos h]
  · rw [if_pos h, if_neg h]

def GV.real : GV → Prop
  | .nil => False
  | .mk _ _ _ ln l fn _ f => (∀ i, i < ln → (l i).real) ∧ (∀ i, i < fn → (f i).real)

theorem Lies.real {w : World} : ∀ {g : GV} {v : Value}, Lies w g v → g.real := by
  intro g
  induction g with
  | nil => intro v h; exact False.elim h
  | mk k n s ln l fn nm f ihl ihf =>
    intro v h
    obtain ⟨la, lc, fa, fc, rfl, _, _, _, _, _, _, _, hl, hf⟩ := h
    refine ⟨fun i hi => ?_, fun i hi => ?_⟩
    · obtain ⟨_, _, _, _, h, _⟩ := hl i hi
      exact ihl i h
    · obtain ⟨_, _, _, _, _, _, h, _⟩ := hf i hi
      exact ihf i h

theorem T3_zero : T3 0 0 0 := ⟨fun _ _ => by omega, fun h => by omega, fun _ h => by omega, fun _ _ => rfl⟩

theorem T3_cmp : ∀ a b c : GV, a.real → b.real → c.real → T3 (a.cmp b) (b.cmp c) (a.cmp c) := by
  intro a
  induction a with
  | nil => intro b c h; exact False.elim h
  | mk k n s ln l fn nm f ihl ihf =>
    intro b c ha hb hc
    cases b with
    | nil => exact False.elim hb
    | mk k' n' s' ln' l' fn' nm' f' =>
      cases c with
      | nil => exact False.elim hc
      | mk k2 n2 s2 ln2 l2 fn2 nm2 f2 =>
        rw [cmp_mk, cmp_mk, cmp_mk]
        refine T3_or (T3_int k k' k2) fun h1 h2 => ?_
        have e1 := compareInt_zero h1
        have e2 := compareInt_zero h2
        subst e1 e2
        by_cases c1 : k = 2 ∨ k = 3
        · simp only [c1, if_true]; exact T3_int n n' n2
        · by_cases c2 : k = 4
          · simp only [c2]; exact T3_str s s' s2
          · by_cases c3 : k = 5
            · simp only [c3]
              exact T3_lex fun i h1 h2 h3 => ihl i _ _ (ha.1 i h1) (hb.1 i h2) (hc.1 i h3)
            · by_cases c4 : k = 6
              · simp only [c4]
                exact T3_lex fun i h1 h2 h3 => T3_or (T3_str _ _ _) fun _ _ => ihf i _ _ (ha.2 i h1) (hb.2 i h2) (hc.2 i h3)
              · simp only [c1, c2, c3, c4, if_false]
                exact T3_zero

theorem or_anti (x y : Int) : orElse (-x) (-y) = - orElse x y := by
  unfold orElse
  by_cases h : x = 0
  · rw [if_pos (by omega), if_pos h]
  · rw [if_neg (by omega), if_neg h]

theorem anti_cmp : ∀ a b : GV, a.real → b.real → b.cmp a = - a.cmp b := by
  intro a
  induction a with
  | nil => intro b h; exact False.elim h
  | mk k n s ln l fn nm f ihl ihf =>
    intro b ha hb
    cases b with
    | nil => exact False.elim hb
    | mk k' n' s' ln' l' fn' nm' f' =>
      rw [cmp_mk, cmp_mk, ← or_anti, ← anti_int]
      by_cases hk : k = k'
      · subst hk
        congr 1
        by_cases c1 : k = 2 ∨ k = 3
        · simp only [c1, if_true]; exact anti_int n n'
        · by_cases c2 : k = 4
          · simp only [c2]; exact anti_str s s'
          · by_cases c3 : k = 5
            · simp only [c3]
              exact lex_anti fun i h1 h2 => ihl i _ (ha.1 i h1) (hb.1 i h2)
            · by_cases c4 : k = 6
              · simp only [c4]
                exact lex_anti fun i h1 h2 => by rw [anti_str, ihf i _ (ha.2 i h1) (hb.2 i h2), or_anti]
              · simp only [c1, c2, c3, c4, if_false]
                rfl
      · have h0 : Lib.compareInt k' k ≠ 0 := fun h => hk (compareInt_zero h).symm
        unfold orElse
        rw [if_neg h0, if_neg h0]

theorem lex_zero {c : Nat → Int} {n1 n2 : Nat} (h : lex c n1 n2 = 0) : n1 = n2 ∧ ∀ i, i < n1 → c i = 0 := by
  rcases lex_cases c n1 n2 with ⟨i, _, _, _, hc, e⟩ | ⟨hz, e⟩
  · rw [e] at h; exact absurd h hc
  · rw [e] at h
    have e := (compareInt_nat n1 n2).2.2.1 h
    exact ⟨e, fun i hi => hz i (by omega)⟩
theorem zero_lex {c : Nat → Int} {n : Nat} (h : ∀ i, i < n → c i = 0) : lex c n n = 0 := by
  rw [lex_end fun i hi => h i (by omega)]
  exact (compareInt_nat n n).2.2.2 rfl

theorem cmpS_zero {a b : ByteArray} (h : cmpS a b = 0) : a = b := WideShapes.bytes_inj (cmp_zero _ _ h)
theorem cmpS_self (a : ByteArray) : cmpS a a = 0 := cmp_self _

theorem same_cmp : ∀ a b : GV, a.same b = true → a.cmp b = 0 := by
  intro a
  induction a with
  | nil => intro b h; simp [GV.same] at h
  | mk k n s ln l fn nm f ihl ihf =>
    intro b h
    cases b with
    | nil => simp [GV.same] at h
    | mk k' n' s' ln' l' fn' nm' f' =>
      simp only [GV.same, Bool.and_eq_true, decide_eq_true_eq, List.all_eq_true, List.mem_range] at h
      obtain ⟨⟨⟨⟨⟨⟨rfl, rfl⟩, rfl⟩, rfl⟩, rfl⟩, hl⟩, hf⟩ := h
      rw [cmp_mk, compareInt_self]
      have h5 : lex (fun i => (l i).cmp (l' i)) ln ln = 0 := zero_lex fun i hi => ihl i _ (hl i hi)
      have h6 : lex (fun i => orElse (cmpS (nm i) (nm' i)) ((f i).cmp (f' i))) fn fn = 0 := zero_lex fun i hi => by
        obtain ⟨e1, e2⟩ := hf i hi
        rw [e1, cmpS_self, ihf i _ e2]
        rfl
      rw [h5, h6, compareInt_self, cmpS_self]
      simp [orElse]

theorem same_enc : ∀ a b : GV, a.same b = true → a.enc = b.enc := by
  intro a
  induction a with
  | nil => intro b h; simp [GV.same] at h
  | mk k n s ln l fn nm f ihl ihf =>
    intro b h
    cases b with
    | nil => simp [GV.same] at h
    | mk k' n' s' ln' l' fn' nm' f' =>
      simp only [GV.same, Bool.and_eq_true, decide_eq_true_eq, List.all_eq_true, List.mem_range] at h
      obtain ⟨⟨⟨⟨⟨⟨rfl, rfl⟩, rfl⟩, rfl⟩, rfl⟩, hl⟩, hf⟩ := h
      have e5 : (List.range ln).flatMap (fun i => (l i).enc) = (List.range ln).flatMap (fun i => (l' i).enc) := by
        rw [List.flatMap_def, List.flatMap_def, List.map_congr_left fun i hi => ihl i _ (hl i (List.mem_range.1 hi))]
      have e6 : (List.range fn).flatMap (fun i => encS (nm i) ++ (f i).enc) = (List.range fn).flatMap (fun i => encS (nm' i) ++ (f' i).enc) := by
        rw [List.flatMap_def, List.flatMap_def, List.map_congr_left fun i hi => by
          obtain ⟨e1, e2⟩ := hf i (List.mem_range.1 hi)
          rw [e1, ihf i _ e2]]
      simp only [GV.enc, e5, e6]

theorem empty_eq {s t : ByteArray} (h : s.toList.isEmpty = true) (h' : t.toList.isEmpty = true) : s = t := by
  rw [← decide_eq_emptyBytes, decide_eq_true_iff] at h h'
  rw [h, h']

theorem orElse_zero (c : Int) : orElse 0 c = c := by simp [orElse]
theorem empty_nil {s t : ByteArray} (h : s.toList = []) (h' : t.toList = []) : s = t := empty_eq (by rw [h]; rfl) (by rw [h']; rfl)

theorem cmp_same : ∀ a b : GV, a.real → b.real → a.every GV.formed = true → b.every GV.formed = true → a.cmp b = 0 → a.same b = true := by
  intro a
  induction a with
  | nil => intro b h; exact False.elim h
  | mk k n s ln l fn nm f ihl ihf =>
    intro b ha hb fa fb h
    cases b with
    | nil => exact False.elim hb
    | mk k' n' s' ln' l' fn' nm' f' =>
      rw [cmp_mk] at h
      have hk : Lib.compareInt k k' = 0 := by
        unfold orElse at h
        by_cases h0 : Lib.compareInt k k' = 0
        · exact h0
        · rw [if_neg h0] at h; exact absurd h h0
      rw [hk, orElse_zero] at h
      have e := compareInt_zero hk
      subst e
      have fa1 : (GV.mk k n s ln l fn nm f).formed = true := by simp only [GV.every, Bool.and_eq_true] at fa; exact fa.1
      have fb1 : (GV.mk k n' s' ln' l' fn' nm' f').formed = true := by simp only [GV.every, Bool.and_eq_true] at fb; exact fb.1
      have hcase : k = 1 ∨ k = 2 ∨ k = 3 ∨ k = 4 ∨ k = 5 ∨ k = 6 ∨ (k ≠ 1 ∧ k ≠ 2 ∧ k ≠ 3 ∧ k ≠ 4 ∧ k ≠ 5 ∧ k ≠ 6) := by omega
      rcases hcase with rfl | rfl | rfl | rfl | rfl | rfl | ⟨k1, k2, k3, k4, k5, k6⟩
      · simp only [GV.formed, if_true, Bool.and_eq_true, decide_eq_true_eq] at fa1 fb1
        obtain ⟨⟨⟨rfl, hs⟩, rfl⟩, rfl⟩ := fa1
        obtain ⟨⟨⟨rfl, hs'⟩, rfl⟩, rfl⟩ := fb1
        simp [GV.same, empty_eq hs hs']
      · simp [GV.formed] at fa1 fb1
        obtain ⟨⟨⟨_, hs⟩, rfl⟩, rfl⟩ := fa1
        obtain ⟨⟨⟨_, hs'⟩, rfl⟩, rfl⟩ := fb1
        have hn : n = n' := compareInt_zero (by simpa using h)
        subst hn
        simp [GV.same]
        exact empty_nil hs hs'
      · simp [GV.formed] at fa1 fb1
        obtain ⟨⟨hs, rfl⟩, rfl⟩ := fa1
        obtain ⟨⟨hs', rfl⟩, rfl⟩ := fb1
        have hn : n = n' := compareInt_zero (by simpa using h)
        subst hn
        simp [GV.same]
        exact empty_nil hs hs'
      · simp [GV.formed] at fa1 fb1
        obtain ⟨⟨rfl, rfl⟩, rfl⟩ := fa1
        obtain ⟨⟨rfl, rfl⟩, rfl⟩ := fb1
        have hn : s = s' := cmpS_zero (by simpa using h)
        subst hn
        simp [GV.same]
      · simp [GV.formed] at fa1 fb1
        obtain ⟨⟨rfl, hs⟩, rfl⟩ := fa1
        obtain ⟨⟨rfl, hs'⟩, rfl⟩ := fb1
        obtain ⟨rfl, hz⟩ := lex_zero (c := fun i => (l i).cmp (l' i)) (n1 := ln) (n2 := ln') (by simpa using h)
        have fa2 : ∀ i, i < ln → (l i).every GV.formed = true := by
          simp [GV.every] at fa
          exact fa.2
        have fb2 : ∀ i, i < ln → (l' i).every GV.formed = true := by
          simp [GV.every] at fb
          exact fb.2
        have hall : ∀ i, i < ln → (l i).same (l' i) = true := fun i hi => ihl i _ (ha.1 i hi) (hb.1 i hi) (fa2 i hi) (fb2 i hi) (hz i hi)
        simp [GV.same]
        exact ⟨empty_nil hs hs', hall⟩
      · simp [GV.formed] at fa1 fb1
        obtain ⟨⟨⟨_, rfl⟩, hs⟩, rfl⟩ := fa1
        obtain ⟨⟨⟨_, rfl⟩, hs'⟩, rfl⟩ := fb1
        obtain ⟨rfl, hz⟩ := lex_zero (c := fun i => orElse (cmpS (nm i) (nm' i)) ((f i).cmp (f' i))) (n1 := fn) (n2 := fn') (by simpa using h)
        have fa2 : ∀ i, i < fn → (f i).every GV.formed = true := by
          simp [GV.every] at fa
          exact fa.2
        have fb2 : ∀ i, i < fn → (f' i).every GV.formed = true := by
          simp [GV.every] at fb
          exact fb.2
        have hall : ∀ i, i < fn → nm i = nm' i ∧ (f i).same (f' i) = true := fun i hi => by
          have hzi := hz i hi
          have h0 : cmpS (nm i) (nm' i) = 0 := by
            unfold orElse at hzi
            by_cases h0 : cmpS (nm i) (nm' i) = 0
            · exact h0
            · rw [if_neg h0] at hzi; exact absurd hzi h0
          rw [h0] at hzi
          exact ⟨cmpS_zero h0, ihf i _ (ha.2 i hi) (hb.2 i hi) (fa2 i hi) (fb2 i hi) (by simpa [orElse] using hzi)⟩
        simp [GV.same]
        exact ⟨empty_nil hs hs', hall⟩
      · simp [GV.formed, k1, k2, k3, k4, k5, k6] at fa1
end Go.Proofs.Ytkjijepepbgciaa
