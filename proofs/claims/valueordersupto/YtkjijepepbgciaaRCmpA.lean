/- The document's own 'Compare', of any two values; of formed ones it reckons the order GV.cmp. -/
import Derived.Test.YtkjijepepbgciaaRCmp
import Derived.Test.YtkjijepepbgciaaRGood
import Derived.Test.YtkjijepepbgciaaChain2
namespace Go.Proofs.Ytkjijepepbgciaa
open Go.RowKit

theorem len_nodes (k n : Int) (s : ByteArray) (ln : Nat) (l : Nat → GV) (fn : Nat) (nm : Nat → ByteArray) (f : Nat → GV) : ln + fn < (GV.mk k n s ln l fn nm f).nodes := by
  have h0 : ∀ (c : Nat → GV) m, m ≤ ((List.range m).map fun i => (c i).nodes).sum := by
    intro c m
    induction m with
    | zero => simp
    | succ m ih =>
      rw [List.range_succ, List.map_append, List.sum_append]
      have : 1 ≤ (c m).nodes := by cases (c m) <;> simp [GV.nodes] <;> omega
      simp
      omega
  have h1 := h0 l ln
  have h2 := h0 f fn
  simp only [GV.nodes]
  omega

theorem rcompare_any : ∀ (ga gb : GV) (v v' : Value) (w : World), Lies w ga v → Lies w gb v' → ga.nodes ≤ 1000000000 → gb.nodes ≤ 1000000000 →
    Calls Try.prog 31 #[v, v'] w fun e w' => e = .returned (.int .i64 (ga.rcmp gb)) ∧ Below w.heap.size w w' := by
  intro ga
  induction ga with
  | nil => intro gb v v' w h; exact False.elim h
  | mk k n s ln l fn nm f ihl ihf =>
    intro gb v v' w ha hb na nb
    cases gb with
    | nil => exact False.elim hb
    | mk k' n' s' ln' l' fn' nm' f' =>
      obtain ⟨la, lc, fa, fc, rfl, _, _, _, h4, h5, h6, h7, hl, hf⟩ := ha
      obtain ⟨la', lc', fa', fc', rfl, _, _, _, h4', h5', h6', h7', hl', hf'⟩ := hb
      by_cases hk : k = k'
      · subst hk
        by_cases hn : n = n'
        · subst hn
          have b1 := len_nodes k n s ln l fn nm f
          have b2 := len_nodes k n s' ln' l' fn' nm' f'
          refine rcompare_rest k n s s' ln l fn nm f ln' l' fn' nm' f' la fa la' fa' lc fc lc' fc' w h4 h5 h6 h7 h4' h5' h6' h7' (by omega) (by omega) hl hl' hf hf' ?_ ?_ _ ?_
          · intro i h1 h2 v v' u hv hv'
            have m1 := GV.nodes_l (k := k) (n := n) (s := s) (l := l) (fn := fn) (nm := nm) (f := f) h1
            have m2 := GV.nodes_l (k := k) (n := n) (s := s') (l := l') (fn := fn') (nm := nm') (f := f') h2
            exact ihl i _ v v' u hv hv' (by omega) (by omega)
          · intro i h1 h2 v v' u hv hv'
            have m1 := GV.nodes_f (k := k) (n := n) (s := s) (ln := ln) (l := l) (nm := nm) (f := f) h1
            have m2 := GV.nodes_f (k := k) (n := n) (s := s') (ln := ln') (l := l') (nm := nm') (f := f') h2
            exact ihf i _ v v' u hv hv' (by omega) (by omega)
          · unfold RIs
            simp only [GV.rcmp, ne_eq, not_true_eq_false, if_false, Int.natCast_add]
        · have e : (GV.mk k n s ln l fn nm f).rcmp (GV.mk k n' s' ln' l' fn' nm' f') = if n < n' then -1 else 1 := by
            simp only [GV.rcmp, ne_eq, not_true_eq_false, if_false]
            rw [if_pos hn]
          rw [e]
          exact rcompare_num k n n' s s' ln lc fn fc ln' lc' fn' fc' la fa la' fa' w hn
      · have e : (GV.mk k n s ln l fn nm f).rcmp (GV.mk k' n' s' ln' l' fn' nm' f') = Lib.compareInt k k' := by
          simp only [GV.rcmp]
          rw [if_pos hk]
        rw [e]
        exact rcompare_kind k n k' n' s s' ln lc fn fc ln' lc' fn' fc' la fa la' fa' w hk

theorem runC_zeros {c : Nat → Int} : ∀ m, (∀ j, j < m → c j = 0) → runC c 0 m = 0
  | 0, _ => rfl
  | m + 1, h => by
    rw [runC_succ, runC_zeros m (fun j hj => h j (by omega)), if_pos rfl]
    exact h m (by omega)

theorem runC_lex (c : Nat → Int) (n1 n2 : Nat) : (if runC c 0 (min n1 n2) ≠ 0 then runC c 0 (min n1 n2) else Lib.compareInt n1 n2) = lex c n1 n2 := by
  rcases lex_cases c n1 n2 with ⟨i, h1, h2, hz, hc, e⟩ | ⟨hz, e⟩
  · have h3 : runC c 0 (i + 1) = c i := by rw [runC_succ, runC_zeros i hz, if_pos rfl]
    have h4 := runC_stop (c := c) (a := 0) (j := i + 1) (by rw [h3]; exact hc) (min n1 n2) (by omega)
    rw [h4, h3, if_pos hc, e]
  · rw [runC_zeros _ hz, if_neg (by decide), e]

theorem runC_congr {c d : Nat → Int} {a : Int} : ∀ m, (∀ j, j < m → c j = d j) → runC c a m = runC d a m
  | 0, _ => rfl
  | m + 1, h => by rw [runC_succ, runC_succ, runC_congr m (fun j hj => h j (by omega)), h m (by omega)]

theorem cmpS_nil : cmpS ⟨#[]⟩ ⟨#[]⟩ = 0 := rfl
theorem cmpI_zero : Lib.compareInt 0 0 = 0 := rfl

theorem rcmp_cmp : ∀ a b : GV, a.every GV.formed = true → b.every GV.formed = true → a.rcmp b = a.cmp b := by
  intro a
  induction a with
  | nil => intro b h; simp [GV.every, GV.formed] at h
  | mk k n s ln l fn nm f ihl ihf =>
    intro b ha hb
    cases b with
    | nil => simp [GV.every, GV.formed] at hb
    | mk k' n' s' ln' l' fn' nm' f' =>
      by_cases hk : k = k'
      · subst hk
        rw [GV.every_parts, Bool.and_eq_true, List.all_eq_true] at ha hb
        have ka := ha.2
        have kb := hb.2
        have fa := ha.1
        have fb := hb.1
        clear ha hb
        have hself : Lib.compareInt k k = 0 := by unfold Lib.compareInt; repeat' split; all_goals omega
        have hcase : k = 1 ∨ k = 2 ∨ k = 3 ∨ k = 4 ∨ k = 5 ∨ k = 6 ∨ (k ≠ 1 ∧ k ≠ 2 ∧ k ≠ 3 ∧ k ≠ 4 ∧ k ≠ 5 ∧ k ≠ 6) := by omega
        rcases hcase with rfl | rfl | rfl | rfl | rfl | rfl | ⟨k1, k2, k3, k4, k5, k6⟩
        · simp [GV.formed] at fa fb
          obtain ⟨⟨⟨rfl, hs⟩, rfl⟩, rfl⟩ := fa
          obtain ⟨⟨⟨rfl, hs'⟩, rfl⟩, rfl⟩ := fb
          have e1 := empty_is (s := s) (by simpa using hs)
          have e2 := empty_is (s := s') (by simpa using hs')
          subst e1 e2
          simp [GV.rcmp, GV.cmp, hself, runC, cmpS_nil, cmpI_zero]
        · simp [GV.formed] at fa fb
          obtain ⟨⟨⟨_, hs⟩, rfl⟩, rfl⟩ := fa
          obtain ⟨⟨⟨_, hs'⟩, rfl⟩, rfl⟩ := fb
          have e1 := empty_is (s := s) (by simpa using hs)
          have e2 := empty_is (s := s') (by simpa using hs')
          subst e1 e2
          simp only [GV.rcmp, GV.cmp, hself, runC, cmpS_nil]
          simp [cmpI_zero]
          unfold Lib.compareInt
          repeat' split
          all_goals first | omega | rfl
        · simp [GV.formed] at fa fb
          obtain ⟨⟨hs, rfl⟩, rfl⟩ := fa
          obtain ⟨⟨hs', rfl⟩, rfl⟩ := fb
          have e1 := empty_is (s := s) (by simpa using hs)
          have e2 := empty_is (s := s') (by simpa using hs')
          subst e1 e2
          simp only [GV.rcmp, GV.cmp, hself, runC, cmpS_nil]
          simp [cmpI_zero]
          unfold Lib.compareInt
          repeat' split
          all_goals first | omega | rfl
        · simp [GV.formed] at fa fb
          obtain ⟨⟨rfl, rfl⟩, rfl⟩ := fa
          obtain ⟨⟨rfl, rfl⟩, rfl⟩ := fb
          simp only [GV.rcmp, GV.cmp, hself, runC]
          simp [cmpI_zero]
          intro h
          exact h.symm
        · simp [GV.formed] at fa fb
          obtain ⟨⟨rfl, hs⟩, rfl⟩ := fa
          obtain ⟨⟨rfl, hs'⟩, rfl⟩ := fb
          have e1 := empty_is (s := s) (by simpa using hs)
          have e2 := empty_is (s := s') (by simpa using hs')
          subst e1 e2
          have hc := runC_congr (c := fun i => (l i).rcmp (l' i)) (d := fun i => (l i).cmp (l' i)) (a := 0) (min ln ln') (fun j hj => ihl j _ (by have := ka j (by simp [GV.pn]; omega); simpa [GV.pf] using this) (by have := kb j (by simp [GV.pn]; omega); simpa [GV.pf] using this))
          have hx := runC_lex (fun i => (l i).cmp (l' i)) ln ln'
          have e1 : (GV.mk 5 0 ⟨#[]⟩ ln l 0 nm f).cmp (GV.mk 5 0 ⟨#[]⟩ ln' l' 0 nm' f') = lex (fun i => (l i).cmp (l' i)) ln ln' := by simp [GV.cmp, hself]
          rw [e1, ← hx, ← hc]
          simp only [GV.rcmp, cmpS_nil, Nat.min_self, runC_zero]
          simp
        · simp [GV.formed] at fa fb
          obtain ⟨⟨⟨_, rfl⟩, hs⟩, rfl⟩ := fa
          obtain ⟨⟨⟨_, rfl⟩, hs'⟩, rfl⟩ := fb
          have e1 := empty_is (s := s) (by simpa using hs)
          have e2 := empty_is (s := s') (by simpa using hs')
          subst e1 e2
          have hc := runC_congr (c := fun i => orElse (cmpS (nm i) (nm' i)) ((f i).rcmp (f' i))) (d := fun i => orElse (cmpS (nm i) (nm' i)) ((f i).cmp (f' i))) (a := 0) (min fn fn') (fun j hj => by
            show orElse _ _ = orElse _ _
            rw [ihf j _ (by have := ka j (by simp [GV.pn]; omega); simpa [GV.pf] using this) (by have := kb j (by simp [GV.pn]; omega); simpa [GV.pf] using this)])
          have hx := runC_lex (fun i => orElse (cmpS (nm i) (nm' i)) ((f i).cmp (f' i))) fn fn'
          have e1 : (GV.mk 6 0 ⟨#[]⟩ 0 l fn nm f).cmp (GV.mk 6 0 ⟨#[]⟩ 0 l' fn' nm' f') = lex (fun i => orElse (cmpS (nm i) (nm' i)) ((f i).cmp (f' i))) fn fn' := by simp [GV.cmp, hself, orElse]
          rw [e1, ← hx, ← hc]
          simp only [GV.rcmp, cmpS_nil, Nat.min_self, runC_zero]
          simp
        · simp [GV.formed, k1, k2, k3, k4, k5, k6] at fa
      · have hne : Lib.compareInt k k' ≠ 0 := by unfold Lib.compareInt; repeat' split; all_goals omega
        simp only [GV.rcmp, GV.cmp]
        rw [if_pos hk, if_pos hne]
end Go.Proofs.Ytkjijepepbgciaa
