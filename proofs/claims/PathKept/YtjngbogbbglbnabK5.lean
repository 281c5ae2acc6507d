/- Some texts in one: each opens with its own remark. -/
import Derived.Test.YtjngbogbbglbnabZPaPut
import Derived.Test.YtjngbogbbglbnabK1
import Derived.IntWalk
/- What stands behind a path that was set: what was set is there, and what lies at a path of other steps is as it was. No program. -/
namespace Go.Proofs.Ytjngbogbbglbnab
open Go.RowKit

def cmpB (a b : ByteArray) : Int := Lib.compareBytes a.data.toList b.data.toList
theorem cmpB_zero {a b : ByteArray} (h : cmpB a b = 0) : a = b := by
 have := cmp_zero _ _ h;have h2 := Array.toList_inj.1 this
 cases a; cases b; simp at h2; rw [h2]
theorem cmpB_self (a : ByteArray) : cmpB a a = 0 := cmp_self _
theorem cmpB_anti (a b : ByteArray) : cmpB b a = - cmpB a b := cmp_anti _ _
theorem cmpB_lt {a b c : ByteArray} (h1 : cmpB a b < 0) (h2 : cmpB b c ≤ 0) : cmpB a c < 0 := by
 have h3 : cmpB a c ≤ 0 := cmp_trans _ _ _ (Int.le_of_lt h1) h2
 by_cases h : cmpB a c = 0
 ·have e := cmpB_zero h;subst e;have := cmpB_anti a b;omega
 ·omega
/-- Names that rise. -/
def Rise (nm : Nat → ByteArray) (fn : Nat) : Prop := ∀ i j, i < j → j < fn → cmpB (nm i) (nm j) < 0
def GV.rise : GV → Prop
 | .nil => True
 | .mk k _ _ _ _ fn nm _ => k = 6 → Rise nm fn
theorem formed_rise {g : GV} (h : g.formed = true) : g.rise := by
 cases g with
 | nil => trivial
 | mk k n s ln l fn nm f =>
  intro hk;subst hk
  have h' : (risingB fn nm && decide (n = 0) && s.toList.isEmpty && decide (ln = 0)) = true := by
   have h2 := h;simp only [GV.formed] at h2;simpa using h2
  simp only [Bool.and_eq_true] at h';exact fun i j hij hj => rising_lt h'.1.1.1 j i hij hj
theorem Rise.inj {nm : Nat → ByteArray} {fn i j : Nat} (h : Rise nm fn) (hi : i < fn) (hj : j < fn) (e : nm i = nm j) : i = j := by
 rcases Nat.lt_trichotomy i j with h1 | h1 | h1
 ·have := h i j h1 hj;rw [e, cmpB_self] at this;omega
 ·exact h1
 ·have := h j i h1 hi;rw [e, cmpB_self] at this;omega
/-- So many names stand ahead of s, and they are the first. -/
theorem below_cut {nm : Nat → ByteArray} {fn : Nat} (h : Rise nm fn) (s : ByteArray) : belowN nm fn s ≤ fn ∧ (∀ t, t < belowN nm fn s → cmpB (nm t) s < 0) ∧ (∀ t, belowN nm fn s ≤ t → t < fn → ¬ cmpB (nm t) s < 0) := by
 have hx : ∃ k, k ≤ fn ∧ (∀ t, t < k → cmpB (nm t) s < 0) ∧ (∀ t, k ≤ t → t < fn → ¬ cmpB (nm t) s < 0) := by
  induction fn with
  | zero => exact ⟨0, Nat.le_refl _, fun t ht => absurd ht (Nat.not_lt_zero _), fun t _ ht => absurd ht (Nat.not_lt_zero _)⟩
  | succ fn ih =>
   obtain ⟨k, h1, h2, h3⟩ := ih (fun i j hij hj => h i j hij (by omega))
   by_cases hk : k = fn
   ·by_cases hs : cmpB (nm fn) s < 0
    ·refine ⟨fn + 1, Nat.le_refl _, fun t ht => ?_, fun t h4 h5 => by omega⟩
     by_cases ht2 : t = fn
     ·rw [ht2]; exact hs
     ·exact h2 t (by omega)
    ·refine ⟨fn, by omega, fun t ht => h2 t (by omega), fun t h4 h5 => ?_⟩;obtain rfl : t = fn := by omega
     exact hs
   ·refine ⟨k, by omega, h2, fun t h4 h5 hlt => ?_⟩
    by_cases ht : t = fn
    ·have := h k t (by omega) h5;exact h3 k (Nat.le_refl _) (by omega) (cmpB_lt this (Int.le_of_lt hlt))
    ·exact h3 t h4 (by omega) hlt
 obtain ⟨k, h1, h2, h3⟩ := hx;have hb : belowN nm fn s = k := count_is _ fn k h1 (fun t ht => decide_eq_true (h2 t ht)) (fun t ht ht2 => decide_eq_false (h3 t ht ht2));rw [hb];exact ⟨h1, h2, h3⟩
theorem locN_at {nm : Nat → ByteArray} {fn i : Nat} (h : Rise nm fn) (hi : i < fn) : locN nm fn (nm i) = .hit i := by
 have hb : belowN nm fn (nm i) = i := count_is _ fn i (by omega) (fun t ht => decide_eq_true (h t i ht hi)) (fun t ht ht2 => decide_eq_false (fun hlt => by
  have hlt' : cmpB (nm t) (nm i) < 0 := hlt
  by_cases e : t = i
  ·rw [e, cmpB_self] at hlt'; omega
  ·have := h i t (by omega) ht2;have := cmpB_anti (nm i) (nm t)
   omega))
 unfold locN;rw [hb, if_pos ⟨hi, rfl⟩]
theorem locN_hit {nm : Nat → ByteArray} {fn i : Nat} {s : ByteArray} (h : locN nm fn s = .hit i) : i < fn ∧ nm i = s := by
 unfold locN at h
 split at h
 ·rename_i hc
  injection h with h
  rw [← h]; exact hc
 ·cases h
theorem locN_miss {nm : Nat → ByteArray} {fn a : Nat} {s : ByteArray} (hr : Rise nm fn) (h : locN nm fn s = .miss a) : a ≤ fn ∧ (∀ t, t < a → cmpB (nm t) s < 0) ∧ (∀ t, a ≤ t → t < fn → cmpB s (nm t) < 0) := by
 unfold locN at h
 split at h
 ·cases h
 ·rename_i hc
  injection h with h
  obtain ⟨h1, h2, h3⟩ := below_cut hr s;rw [h] at hc h1 h2 h3;refine ⟨h1, h2, fun t ht htf => ?_⟩;have h4 := h3 t ht htf;have ha := cmpB_anti (nm t) s
  by_cases e : cmpB (nm t) s = 0
  ·exfalso;have e2 := cmpB_zero e
   by_cases hta : t = a
   ·exact hc ⟨by omega, by rw [← hta]; exact e2⟩
   ·have h5 := hr a t (by omega) htf;exact h3 a (Nat.le_refl _) (by omega) (by rw [← e2]; exact h5)
  ·omega
/-- What a step leads to. -/
def GV.to (g : GV) (s : ByteArray) : Option GV := match g.loc s with
 | .hit i => some (g.part i)
 | _ => none
theorem lead_cons (g : GV) (s : ByteArray) (r : List ByteArray) : g.lead (s :: r) = (g.to s).bind fun y => y.lead r := by
 cases g with
 | nil => rfl
 | mk k n s' ln l fn nm f =>
  show (match (GV.mk k n s' ln l fn nm f).loc s with | .hit i => ((GV.mk k n s' ln l fn nm f).part i).lead r | _ => none) = _;unfold GV.to
  cases (GV.mk k n s' ln l fn nm f).loc s <;> rfl
theorem lead_nil (g : GV) : g.lead [] = some g := by cases g <;> rfl
theorem to_some {g y : GV} {s : ByteArray} (h : g.to s = some y) (he : g.every GV.formed = true) : y.every GV.formed = true := by
 unfold GV.to at h
 cases hl : g.loc s with
 | bad _ => rw [hl] at h; cases h
 | miss _ => rw [hl] at h; cases h
 | hit i =>
  rw [hl] at h;injection h with h
  rw [← h];have hh := loc_hit hl
  cases g with
  | nil => exact False.elim hh
  | mk k n s ln l fn nm f =>
   rcases hh with ⟨rfl, hi⟩ | ⟨rfl, hi⟩
   ·simp only [GV.every, Bool.and_eq_true, if_true] at he;exact List.all_eq_true.1 he.2 i (by simpa using hi)
   ·simp only [GV.every, Bool.and_eq_true, if_true] at he;exact List.all_eq_true.1 he.2 i (by simpa using hi)
end Go.Proofs.Ytjngbogbbglbnab

/- What path.Set, Get and Add make of each other: what was set is got, what is apart stays, what is set twice is set once. No program. -/
namespace Go.Proofs.Ytjngbogbbglbnab
open Go.RowKit

end Go.Proofs.Ytjngbogbbglbnab

/- What was unset is gone; what is set to what is there stays. No program. -/
namespace Go.Proofs.Ytjngbogbbglbnab
open Go.RowKit

theorem lead_hit {g o : GV} {s : ByteArray} {r : List ByteArray} (h : g.lead (s :: r) = some o) : ∃ i, g.loc s = .hit i ∧ (g.part i).lead r = some o := by
 rw [lead_cons] at h;unfold GV.to at h
 cases hl : g.loc s with
 | bad _ => rw [hl] at h; cases h
 | miss _ => rw [hl] at h; cases h
 | hit i => rw [hl] at h; exact ⟨i, rfl, h⟩
end Go.Proofs.Ytjngbogbbglbnab

/- A part of a good value is good. No program. -/
namespace Go.Proofs.Ytjngbogbbglbnab
open Go.RowKit

theorem err_iff (g : GV) : g.err = 0 ↔ g.every GV.formed = true ∧ g.every GV.readable = true ∧ g.every GV.limited = true ∧ g.depth ≤ 8 ∧ g.size ≤ 2048 := by
 unfold GV.err
 cases g.every GV.formed <;> cases g.every GV.readable <;> cases g.every GV.limited <;> simp
 by_cases h : 8 < g.depth
 ·rw [if_pos h]
  constructor
  ·intro h2; cases h2
  ·intro h2; omega
 ·rw [if_neg h]
  by_cases h2 : 2048 < g.size
  ·rw [if_pos h2]
   constructor
   ·intro h3; cases h3
   ·intro h3; omega
  ·rw [if_neg h2]
   constructor
   ·intro _; omega
   ·intro _; rfl
theorem every_part {p : GV → Bool} {g : GV} {i : Nat} (he : g.every p = true) (hh : g.has i) : (g.part i).every p = true := by
 cases g with
 | nil => exact False.elim hh
 | mk k n s ln l fn nm f =>
  rcases hh with ⟨rfl, hi⟩ | ⟨rfl, hi⟩
  ·simp only [GV.every, Bool.and_eq_true] at he;exact List.all_eq_true.1 he.2 i (by simpa using hi)
  ·simp only [GV.every, Bool.and_eq_true] at he;exact List.all_eq_true.1 he.2 i (by simpa using hi)
/-- The greatest of so many. -/
theorem most_le {f : Nat → Nat} {M : Nat} : ∀ n, ((List.range n).foldl (fun m i => max m (f i)) 0 ≤ M ↔ ∀ i, i < n → f i ≤ M)
 | 0 => ⟨fun _ i hi => absurd hi (Nat.not_lt_zero _), fun _ => Nat.zero_le _⟩
 | n + 1 => by
  rw [List.range_succ, List.foldl_append];show max _ (f n) ≤ M ↔ _;rw [Nat.max_le, most_le n];exact ⟨fun h i hi => if e : i = n then by rw [e]; exact h.2 else h.1 i (by omega), fun h => ⟨fun i hi => h i (by omega), h n (by omega)⟩⟩
/-- Their sum, behind a. -/
theorem total_is (f : Nat → Nat) : ∀ n a, (List.range n).foldl (fun m i => m + f i) a = a + ((List.range n).map f).sum
 | 0, a => by simp
 | n + 1, a => by
  rw [List.range_succ, List.foldl_append, List.map_append, List.sum_append];show _ + f n = _;rw [total_is f n a];simp;omega
theorem total_one {f : Nat → Nat} : ∀ n i, i < n → f i ≤ ((List.range n).map f).sum
 | 0, _, h => absurd h (Nat.not_lt_zero _)
 | n + 1, i, h => by
  rw [List.range_succ, List.map_append, List.sum_append];simp only [List.map_cons, List.map_nil, List.sum_cons, List.sum_nil]
  by_cases e : i = n
  ·rw [e]; omega
  ·have := total_one (f := f) n i (by omega); omega
theorem part_depth {g : GV} {i : Nat} (hh : g.has i) : (g.part i).depth + 1 ≤ g.depth := by
 cases g with
 | nil => exact False.elim hh
 | mk k n s ln l fn nm f =>
  rcases hh with ⟨rfl, hi⟩ | ⟨rfl, hi⟩
  ·have h := (most_le (f := fun i => (f i).depth) (M := (List.range fn).foldl (fun m i => max m (f i).depth) 0) fn).1 (Nat.le_refl _) i hi;have e : (GV.mk 6 n s ln l fn nm f).depth = 1 + (List.range fn).foldl (fun m i => max m (f i).depth) 0 := by simp [GV.depth]
   rw [e];show (f i).depth + 1 ≤ _;omega
  ·have h := (most_le (f := fun i => (l i).depth) (M := (List.range ln).foldl (fun m i => max m (l i).depth) 0) ln).1 (Nat.le_refl _) i hi;have e : (GV.mk 5 n s ln l fn nm f).depth = 1 + (List.range ln).foldl (fun m i => max m (l i).depth) 0 := by simp [GV.depth]
   rw [e];show (l i).depth + 1 ≤ _;omega
theorem part_size {g : GV} {i : Nat} (hh : g.has i) : (g.part i).size ≤ g.size := by
 cases g with
 | nil => exact False.elim hh
 | mk k n s ln l fn nm f =>
  rcases hh with ⟨rfl, hi⟩ | ⟨rfl, hi⟩
  ·rw [GV.size_l6, total_is (fun i => textN (nm i) + (f i).size)];have h := total_one (f := fun i => textN (nm i) + (f i).size) fn i hi;show (f i).size ≤ _;omega
  ·rw [GV.size_l5, total_is (fun i => (l i).size)];have h := total_one (f := fun i => (l i).size) ln i hi;show (l i).size ≤ _;omega
theorem part_good {g : GV} {i : Nat} (h : g.err = 0) (hh : g.has i) : (g.part i).err = 0 := by
 obtain ⟨h1, h2, h3, h4, h5⟩ := (err_iff g).1 h;have hd := part_depth hh;have hs := part_size hh;exact (err_iff _).2 ⟨every_part h1 hh, every_part h2 hh, every_part h3 hh, by omega, by omega⟩
/-- Where a good value leads, a good value lies. -/
theorem lead_good : ∀ (l : List ByteArray) (g o : GV), g.err = 0 → g.lead l = some o → o.err = 0
 | [], g, o, h, hl => by
  rw [lead_nil] at hl;injection hl with hl
  rw [← hl]; exact h
 | s :: r, g, o, h, hl => by
  obtain ⟨i, h1, h2⟩ := lead_hit hl;exact lead_good r _ o (part_good h (loc_hit h1)) h2
end Go.Proofs.Ytjngbogbbglbnab

/- A good value with a part taken out is good; so what leads somewhere is unset. No program. -/
namespace Go.Proofs.Ytjngbogbbglbnab
open Go.RowKit

end Go.Proofs.Ytjngbogbbglbnab

/- What is added twice is added once. No program. -/
namespace Go.Proofs.Ytjngbogbbglbnab
open Go.RowKit

end Go.Proofs.Ytjngbogbbglbnab
