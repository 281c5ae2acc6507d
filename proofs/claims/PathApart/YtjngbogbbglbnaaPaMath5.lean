/- A good value with a part taken out is good; so what leads somewhere is unset. No program. -/
import Derived.Test.YtjngbogbbglbnaaPaMath4
namespace Go.Proofs.Ytjngbogbbglbnaa
open Go.RowKit

theorem rise_rising {fn : Nat} {nm : Nat → ByteArray} (h : Rise nm fn) : risingB fn nm = true := by
  refine List.all_eq_true.2 fun i hi => ?_
  have hi2 : i < fn - 1 := by simpa using hi
  have h2 := h i (i + 1) (by omega) (by omega)
  rw [less_cmp, decide_eq_true_eq, ByteArray.toList_eq, ByteArray.toList_eq]
  exact h2
theorem digits_few : ∀ n, n < 33 → digitsN n = 1 := by decide +kernel
/-- One taken out of a sum. -/
theorem total_drop {F : Nat → Nat} {i : Nat} : ∀ n, i < n → ((List.range (n - 1)).map fun t => if t < i then F t else F (t + 1)).sum + F i = ((List.range n).map F).sum
  | 0, h => absurd h (Nat.not_lt_zero _)
  | n + 1, h => by
    rw [Nat.add_sub_cancel]
    by_cases e : i = n
    · subst e
      have : (List.range i).map (fun t => if t < i then F t else F (t + 1)) = (List.range i).map F := List.map_congr_left fun t ht => if_pos (by simpa using ht)
      rw [this, List.range_succ, List.map_append, List.sum_append]
      simp
    · have ih := total_drop (F := F) (i := i) n (by omega)
      obtain ⟨m, rfl⟩ : ∃ m, n = m + 1 := ⟨n - 1, by omega⟩
      rw [Nat.add_sub_cancel] at ih
      rw [List.range_succ (n := m), List.map_append, List.sum_append, List.range_succ (n := m + 1), List.map_append, List.sum_append]
      simp only [List.map_cons, List.map_nil, List.sum_cons, List.sum_nil]
      rw [if_neg (show ¬ m < i by omega)]
      omega
/-- One put for another in a sum. -/
theorem total_swap {F : Nat → Nat} {i a : Nat} : ∀ n, i < n → ((List.range n).map fun t => if t = i then a else F t).sum + F i = ((List.range n).map F).sum + a
  | 0, h => absurd h (Nat.not_lt_zero _)
  | n + 1, h => by
    rw [List.range_succ, List.map_append, List.sum_append, List.map_append, List.sum_append]
    simp only [List.map_cons, List.map_nil, List.sum_cons, List.sum_nil]
    by_cases e : n = i
    · subst e
      have : (List.range n).map (fun t => if t = n then a else F t) = (List.range n).map F := List.map_congr_left fun t ht => if_neg (Nat.ne_of_lt (List.mem_range.1 ht))
      rw [this, if_pos rfl]
      omega
    · rw [if_neg e]
      have ih := total_swap (F := F) (i := i) (a := a) n (by omega)
      omega
/-- A good value no greater than another. -/
def Lesser (u g : GV) : Prop := u.err = 0 ∧ u.depth ≤ g.depth ∧ u.size ≤ g.size
theorem depth_5 {n : Int} {s : ByteArray} {ln : Nat} {l : Nat → GV} {fn : Nat} {nm : Nat → ByteArray} {f : Nat → GV} : (GV.mk 5 n s ln l fn nm f).depth = 1 + (List.range ln).foldl (fun m i => max m (l i).depth) 0 := by simp [GV.depth]
theorem depth_6 {n : Int} {s : ByteArray} {ln : Nat} {l : Nat → GV} {fn : Nat} {nm : Nat → ByteArray} {f : Nat → GV} : (GV.mk 6 n s ln l fn nm f).depth = 1 + (List.range fn).foldl (fun m i => max m (f i).depth) 0 := by simp [GV.depth]
theorem every_5 {p : GV → Bool} {n : Int} {s : ByteArray} {ln : Nat} {l : Nat → GV} {fn : Nat} {nm : Nat → ByteArray} {f : Nat → GV} : (GV.mk 5 n s ln l fn nm f).every p = true ↔ p (.mk 5 n s ln l fn nm f) = true ∧ ∀ i, i < ln → (l i).every p = true := by
  simp [GV.every, List.all_eq_true]
theorem every_6 {p : GV → Bool} {n : Int} {s : ByteArray} {ln : Nat} {l : Nat → GV} {fn : Nat} {nm : Nat → ByteArray} {f : Nat → GV} : (GV.mk 6 n s ln l fn nm f).every p = true ↔ p (.mk 6 n s ln l fn nm f) = true ∧ ∀ i, i < fn → (f i).every p = true := by
  simp [GV.every, List.all_eq_true]
theorem swap_good {g z : GV} {s : ByteArray} {i : Nat} (hg : g.err = 0) (h : g.loc s = .hit i) (hz : Lesser z (g.part i)) : Lesser (g.spl i 1 s 1 fun _ => z) g := by
  obtain ⟨h1, h2, h3, h4, h5⟩ := (err_iff g).1 hg
  obtain ⟨hz0, hzd, hzs⟩ := hz
  obtain ⟨z1, z2, z3, _, _⟩ := (err_iff z).1 hz0
  cases g with
  | nil => cases h
  | mk k n s' ln l fn nm f =>
    rcases loc_hit h with ⟨rfl, hi⟩ | ⟨rfl, hi⟩
    · have hnm2 : spl nm i 1 1 (fun _ => s) = nm := by
        have hh := h
        simp only [GV.loc] at hh
        split at hh
        · rw [if_pos trivial] at hh
          obtain ⟨_, hn⟩ := locN_hit hh
          rw [spl_hit]; funext t
          show (if t = i then s else nm t) = nm t
          by_cases e : t = i
          · rw [if_pos e, e, hn]
          · rw [if_neg e]
        · rw [if_neg (by decide)] at hh; cases hh
      have e : (GV.mk 6 n s' ln l fn nm f).spl i 1 s 1 (fun _ => z) = .mk 6 n s' ln l fn nm (fun t => if t = i then z else f t) := by
        show GV.mk 6 n s' ln l (fn - 1 + 1) (spl nm i 1 1 fun _ => s) (spl f i 1 1 fun _ => z) = _
        rw [hnm2, spl_hit, show fn - 1 + 1 = fn by omega]
      rw [e]
      have hev : ∀ p : GV → Bool, p (.mk 6 n s' ln l fn nm fun t => if t = i then z else f t) = p (.mk 6 n s' ln l fn nm f) → (GV.mk 6 n s' ln l fn nm f).every p = true → z.every p = true → (GV.mk 6 n s' ln l fn nm fun t => if t = i then z else f t).every p = true := fun p hp hq hzp => by
        rw [every_6] at hq ⊢
        refine ⟨by rw [hp]; exact hq.1, fun t ht => ?_⟩
        by_cases c : t = i
        · rw [if_pos c]; exact hzp
        · rw [if_neg c]; exact hq.2 t ht
      have hd : (GV.mk 6 n s' ln l fn nm fun t => if t = i then z else f t).depth ≤ (GV.mk 6 n s' ln l fn nm f).depth := by
        rw [depth_6, depth_6]
        have hm := (most_le (f := fun i => (f i).depth) (M := (List.range fn).foldl (fun m i => max m (f i).depth) 0) fn).1 (Nat.le_refl _)
        refine Nat.add_le_add_left ((most_le (f := fun t => (if t = i then z else f t).depth) fn).2 fun t ht => ?_) 1
        by_cases c : t = i
        · rw [if_pos c]; exact Nat.le_trans hzd (hm i hi)
        · rw [if_neg c]; exact hm t ht
      have hs : (GV.mk 6 n s' ln l fn nm fun t => if t = i then z else f t).size ≤ (GV.mk 6 n s' ln l fn nm f).size := by
        rw [GV.size_l6, GV.size_l6, total_is (fun i => textN (nm i) + (f i).size), total_is (fun t => textN (nm t) + (if t = i then z else f t).size)]
        have hsw := total_swap (F := fun t => textN (nm t) + (f t).size) (i := i) (a := textN (nm i) + z.size) fn hi
        have heq : (fun t => textN (nm t) + (if t = i then z else f t).size) = fun t => if t = i then textN (nm i) + z.size else textN (nm t) + (f t).size := by
          funext t
          by_cases c : t = i
          · rw [if_pos c, if_pos c, c]
          · rw [if_neg c, if_neg c]
        rw [heq]
        have hzs' : z.size ≤ (f i).size := hzs
        omega
      exact ⟨(err_iff _).2 ⟨hev _ rfl h1 z1, hev _ rfl h2 z2, hev _ rfl h3 z3, by omega, by omega⟩, hd, hs⟩
    · have e : (GV.mk 5 n s' ln l fn nm f).spl i 1 s 1 (fun _ => z) = .mk 5 n s' ln (fun t => if t = i then z else l t) fn nm f := by
        show GV.mk 5 n s' (ln - 1 + 1) (spl l i 1 1 fun _ => z) fn nm f = _
        rw [spl_hit, show ln - 1 + 1 = ln by omega]
      rw [e]
      have hev : ∀ p : GV → Bool, p (.mk 5 n s' ln (fun t => if t = i then z else l t) fn nm f) = p (.mk 5 n s' ln l fn nm f) → (GV.mk 5 n s' ln l fn nm f).every p = true → z.every p = true → (GV.mk 5 n s' ln (fun t => if t = i then z else l t) fn nm f).every p = true := fun p hp hq hzp => by
        rw [every_5] at hq ⊢
        refine ⟨by rw [hp]; exact hq.1, fun t ht => ?_⟩
        by_cases c : t = i
        · rw [if_pos c]; exact hzp
        · rw [if_neg c]; exact hq.2 t ht
      have hd : (GV.mk 5 n s' ln (fun t => if t = i then z else l t) fn nm f).depth ≤ (GV.mk 5 n s' ln l fn nm f).depth := by
        rw [depth_5, depth_5]
        have hm := (most_le (f := fun i => (l i).depth) (M := (List.range ln).foldl (fun m i => max m (l i).depth) 0) ln).1 (Nat.le_refl _)
        refine Nat.add_le_add_left ((most_le (f := fun t => (if t = i then z else l t).depth) ln).2 fun t ht => ?_) 1
        by_cases c : t = i
        · rw [if_pos c]; exact Nat.le_trans hzd (hm i hi)
        · rw [if_neg c]; exact hm t ht
      have hs : (GV.mk 5 n s' ln (fun t => if t = i then z else l t) fn nm f).size ≤ (GV.mk 5 n s' ln l fn nm f).size := by
        rw [GV.size_l5, GV.size_l5, total_is (fun i => (l i).size), total_is (fun t => (if t = i then z else l t).size)]
        have hsw := total_swap (F := fun t => (l t).size) (i := i) (a := z.size) ln hi
        have heq : (fun t => (if t = i then z else l t).size) = fun t => if t = i then z.size else (l t).size := by
          funext t
          by_cases c : t = i
          · rw [if_pos c, if_pos c]
          · rw [if_neg c, if_neg c]
        rw [heq]
        have hzs' : z.size ≤ (l i).size := hzs
        omega
      exact ⟨(err_iff _).2 ⟨hev _ rfl h1 z1, hev _ rfl h2 z2, hev _ rfl h3 z3, by omega, by omega⟩, hd, hs⟩
theorem drop_good {g : GV} {s : ByteArray} {i : Nat} {x : Nat → GV} (hg : g.err = 0) (h : g.loc s = .hit i) : Lesser (g.spl i 1 s 0 x) g := by
  obtain ⟨h1, h2, h3, h4, h5⟩ := (err_iff g).1 hg
  have hr := formed_rise (every_self h1)
  cases g with
  | nil => cases h
  | mk k n s' ln l fn nm f =>
    rcases loc_hit h with ⟨rfl, hi⟩ | ⟨rfl, hi⟩
    · have hr' : Rise nm fn := hr rfl
      have e : (GV.mk 6 n s' ln l fn nm f).spl i 1 s 0 x = .mk 6 n s' ln l (fn - 1) (fun t => if t < i then nm t else nm (t + 1)) (fun t => if t < i then f t else f (t + 1)) := by
        show GV.mk 6 n s' ln l (fn - 1 + 0) (spl nm i 1 0 fun _ => s) (spl f i 1 0 x) = _
        rw [spl_drop, spl_drop, Nat.add_zero]
      rw [e]
      rw [every_6] at h1 h2 h3
      have hff : ∀ p : GV → Bool, (∀ i, i < fn → (f i).every p = true) → ∀ t, t < fn - 1 → (if t < i then f t else f (t + 1)).every p = true := fun p hp t ht => by
        by_cases c : t < i
        · rw [if_pos c]; exact hp t (by omega)
        · rw [if_neg c]; exact hp (t + 1) (by omega)
      have hfo : GV.formed (.mk 6 n s' ln l (fn - 1) (fun t => if t < i then nm t else nm (t + 1)) (fun t => if t < i then f t else f (t + 1))) = true := by
        have h0 := h1.1
        simp only [GV.formed] at h0 ⊢
        simp at h0 ⊢
        refine ⟨⟨⟨rise_rising fun a b hab hb => ?_, h0.1.1.2⟩, h0.1.2⟩, h0.2⟩
        by_cases c : b < i
        · rw [if_pos c, if_pos (by omega)]; exact hr' a b hab (by omega)
        · rw [if_neg c]
          by_cases c2 : a < i
          · rw [if_pos c2]; exact hr' a (b + 1) (by omega) (by omega)
          · rw [if_neg c2]; exact hr' (a + 1) (b + 1) (by omega) (by omega)
      have hre : GV.readable (.mk 6 n s' ln l (fn - 1) (fun t => if t < i then nm t else nm (t + 1)) (fun t => if t < i then f t else f (t + 1))) = true := by
        have h0 := h2.1
        simp [GV.readable, List.all_eq_true] at h0 ⊢
        intro t ht
        by_cases c : t < i
        · rw [if_pos c]; exact h0 t (by omega)
        · rw [if_neg c]; exact h0 (t + 1) (by omega)
      have hlm : fn ≤ 32 := by
        have h0 := h3.1
        simp [GV.limited] at h0
        exact h0.2
      have hli : GV.limited (.mk 6 n s' ln l (fn - 1) (fun t => if t < i then nm t else nm (t + 1)) (fun t => if t < i then f t else f (t + 1))) = true := by
        have h0 := h3.1
        simp [GV.limited, List.all_eq_true] at h0 ⊢
        refine ⟨fun t ht => ?_, by omega⟩
        by_cases c : t < i
        · rw [if_pos c]; exact h0.1 t (by omega)
        · rw [if_neg c]; exact h0.1 (t + 1) (by omega)
      have hd : (GV.mk 6 n s' ln l (fn - 1) (fun t => if t < i then nm t else nm (t + 1)) (fun t => if t < i then f t else f (t + 1))).depth ≤ (GV.mk 6 n s' ln l fn nm f).depth := by
        rw [depth_6, depth_6]
        have hm := (most_le (f := fun i => (f i).depth) (M := (List.range fn).foldl (fun m i => max m (f i).depth) 0) fn).1 (Nat.le_refl _)
        refine Nat.add_le_add_left ((most_le (f := fun t => (if t < i then f t else f (t + 1)).depth) (fn - 1)).2 fun t ht => ?_) 1
        by_cases c : t < i
        · rw [if_pos c]; exact hm t (by omega)
        · rw [if_neg c]; exact hm (t + 1) (by omega)
      have hs : (GV.mk 6 n s' ln l (fn - 1) (fun t => if t < i then nm t else nm (t + 1)) (fun t => if t < i then f t else f (t + 1))).size ≤ (GV.mk 6 n s' ln l fn nm f).size := by
        rw [GV.size_l6, GV.size_l6, total_is (fun i => textN (nm i) + (f i).size), total_is (fun t => textN (if t < i then nm t else nm (t + 1)) + (if t < i then f t else f (t + 1)).size), digits_few fn (by omega), digits_few (fn - 1) (by omega)]
        have hsw := total_drop (F := fun t => textN (nm t) + (f t).size) (i := i) fn hi
        have heq : (fun t => textN (if t < i then nm t else nm (t + 1)) + (if t < i then f t else f (t + 1)).size) = fun t => if t < i then textN (nm t) + (f t).size else textN (nm (t + 1)) + (f (t + 1)).size := by
          funext t
          by_cases c : t < i
          · rw [if_pos c, if_pos c, if_pos c]
          · rw [if_neg c, if_neg c, if_neg c]
        rw [heq]
        omega
      exact ⟨(err_iff _).2 ⟨every_6.2 ⟨hfo, hff _ h1.2⟩, every_6.2 ⟨hre, hff _ h2.2⟩, every_6.2 ⟨hli, hff _ h3.2⟩, by omega, by omega⟩, hd, hs⟩
    · have e : (GV.mk 5 n s' ln l fn nm f).spl i 1 s 0 x = .mk 5 n s' (ln - 1) (fun t => if t < i then l t else l (t + 1)) fn nm f := by
        show GV.mk 5 n s' (ln - 1 + 0) (spl l i 1 0 x) fn nm f = _
        rw [spl_drop, Nat.add_zero]
      rw [e]
      rw [every_5] at h1 h2 h3
      have hff : ∀ p : GV → Bool, (∀ i, i < ln → (l i).every p = true) → ∀ t, t < ln - 1 → (if t < i then l t else l (t + 1)).every p = true := fun p hp t ht => by
        by_cases c : t < i
        · rw [if_pos c]; exact hp t (by omega)
        · rw [if_neg c]; exact hp (t + 1) (by omega)
      have hlm : ln ≤ 32 := by
        have h0 := h3.1
        simp [GV.limited] at h0
        exact h0
      have hli : GV.limited (.mk 5 n s' (ln - 1) (fun t => if t < i then l t else l (t + 1)) fn nm f) = true := by
        simp [GV.limited]
        omega
      have hd : (GV.mk 5 n s' (ln - 1) (fun t => if t < i then l t else l (t + 1)) fn nm f).depth ≤ (GV.mk 5 n s' ln l fn nm f).depth := by
        rw [depth_5, depth_5]
        have hm := (most_le (f := fun i => (l i).depth) (M := (List.range ln).foldl (fun m i => max m (l i).depth) 0) ln).1 (Nat.le_refl _)
        refine Nat.add_le_add_left ((most_le (f := fun t => (if t < i then l t else l (t + 1)).depth) (ln - 1)).2 fun t ht => ?_) 1
        by_cases c : t < i
        · rw [if_pos c]; exact hm t (by omega)
        · rw [if_neg c]; exact hm (t + 1) (by omega)
      have hs : (GV.mk 5 n s' (ln - 1) (fun t => if t < i then l t else l (t + 1)) fn nm f).size ≤ (GV.mk 5 n s' ln l fn nm f).size := by
        rw [GV.size_l5, GV.size_l5, total_is (fun i => (l i).size), total_is (fun t => (if t < i then l t else l (t + 1)).size), digits_few ln (by omega), digits_few (ln - 1) (by omega)]
        have hsw := total_drop (F := fun t => (l t).size) (i := i) ln hi
        have heq : (fun t => (if t < i then l t else l (t + 1)).size) = fun t => if t < i then (l t).size else (l (t + 1)).size := by
          funext t
          by_cases c : t < i
          · rw [if_pos c, if_pos c]
          · rw [if_neg c, if_neg c]
        rw [heq]
        omega
      exact ⟨(err_iff _).2 ⟨every_5.2 ⟨h1.1, hff _ h1.2⟩, every_5.2 ⟨h2.1, hff _ h2.2⟩, every_5.2 ⟨hli, hff _ h3.2⟩, by omega, by omega⟩, hd, hs⟩
theorem put_lesser : ∀ (l : List ByteArray) (g o u : GV) (x : Nat → GV), l ≠ [] → g.err = 0 → g.lead l = some o → GV.put l g 0 x = .ok u → Lesser u g
  | [], _, _, _, _, h, _, _, _ => absurd rfl h
  | s :: r, g, o, u, x, _, hg, h, hp => by
    obtain ⟨i, hl, hrd⟩ := lead_hit h
    rw [GV.put, hl] at hp
    dsimp only at hp
    by_cases hrr : r = []
    · rw [if_pos hrr] at hp
      injection hp with hp
      rw [← hp]
      exact drop_good hg hl
    · rw [if_neg hrr] at hp
      cases hq : GV.put r (g.part i) 0 x with
      | error e => rw [hq] at hp; cases hp
      | ok z =>
        rw [hq] at hp
        injection hp with hp
        rw [← hp]
        exact swap_good hg hl (put_lesser r _ o z x hrr (part_good hg (loc_hit hl)) hrd hq)
/-- What is got can be unset; and is gone then, if the last step is a name. -/
theorem unset_got {g o : GV} {p : ByteArray} (h : getR g p = some o) : ∃ u, unsetR g p = .ok u ∧ u.err = 0 ∧ ∀ l (hne : l ≠ []), stepsR p.data.toList = some l → isNameB (l.getLast hne).data.toList = true → getR u p = none := by
  unfold getR at h
  cases hb : begR g p 0 (fun _ => .nil) with
  | error e => rw [hb] at h; cases h
  | ok l =>
    rw [hb] at h
    dsimp only at h
    obtain ⟨h1, h2, _⟩ := beg_ok hb
    have hne := steps_some h2
    obtain ⟨u, hu⟩ := put_drop l g o (fun _ => .nil) hne h
    have hL := put_lesser l g o u _ hne h1 h hu
    refine ⟨u, ?_, hL.1, fun l' hne' hl' hn => ?_⟩
    · unfold unsetR
      rw [hb]
      dsimp only
      rw [h]
      dsimp only
      rw [hu]
      unfold toldR
      dsimp only
      rw [if_pos hL.1]
    · obtain rfl : l = l' := Option.some.inj (h2.symm.trans hl')
      rw [get_good hL.1 h2]
      exact lead_gone l g o u _ hne (err_every h1) (steps_all h2).1 h hn hu
/-- What is unset where nothing is, stays; or there is an error. -/
theorem unset_none {g : GV} {p : ByteArray} (h : getR g p = none) : unsetR g p = .ok g ∨ ∃ e, unsetR g p = .error e := by
  unfold getR at h
  unfold unsetR
  cases hb : begR g p 0 (fun _ => .nil) with
  | error e => exact Or.inr ⟨e, rfl⟩
  | ok l =>
    rw [hb] at h
    dsimp only at h
    refine Or.inl ?_
    dsimp only
    rw [h]
end Go.Proofs.Ytjngbogbbglbnaa
