/- How many parts a value has behind a change. (No walk.) -/
import Derived.Test.YtjngbogbbglbnabZPaPut
namespace Go.Proofs.Ytjngbogbbglbnab
open Go.RowKit

def sumG (x : Nat → GV) (c : Nat) : Nat := ((List.range c).map fun i => (x i).nodes).sum

theorem sum_spl (h x : Nat → GV) (n p q c : Nat) (hpq : p + q ≤ n) : sumG (spl h p q c x) (n - q + c) + sumG (fun i => h (p + i)) q = sumG h n + sumG x c := by
 obtain ⟨A, hA⟩ : ∃ A, A = (List.range n).map fun i => (h i).nodes := ⟨_, rfl⟩
 obtain ⟨X, hX⟩ : ∃ X, X = (List.range c).map fun i => (x i).nodes := ⟨_, rfl⟩
 have hAl : A.length = n := by rw [hA]; simp
 have hXl : X.length = c := by rw [hX]; simp
 have e1 : ((List.range (n - q + c)).map fun i => (spl h p q c x i).nodes) = A.take p ++ (X ++ A.drop (p + q)) := by
  have hs := spl_list A X (fun i => (h i).nodes) (fun i => (x i).nodes) p q (by omega) (fun i hi => by simp [hA]) (fun i hi => by simp [hX]);have hl := spl_len A X p q (by omega)
  apply List.ext_getElem
  ·rw [hl, hAl, hXl]; simp
  ·intro i h1 h2;rw [hs i h2, hXl];simp only [List.getElem_map, List.getElem_range];unfold spl
   split
   ·rfl
   ·split <;> rfl
 have e2 : ((List.range q).map fun i => (h (p + i)).nodes) = (A.drop p).take q := by
  apply List.ext_getElem
  ·simp [hA]; omega
  ·intro i h1 h2;simp [hA]
 have e3 : A.sum = (A.take p).sum + (((A.drop p).take q).sum + (A.drop (p + q)).sum) := by
  conv => lhs; rw [← List.take_append_drop p A, List.sum_append, ← List.take_append_drop q (A.drop p), List.sum_append, List.drop_drop]
 unfold sumG;rw [e1, e2, ← hA, ← hX, e3, List.sum_append, List.sum_append];omega

theorem nodes_spl6 {n : Int} {s' : ByteArray} {ln : Nat} {l : Nat → GV} {fn : Nat} {nm : Nat → ByteArray} {f : Nat → GV} {p q c : Nat} {s : ByteArray} {x : Nat → GV} (hpq : p + q ≤ fn) :
  ((GV.mk 6 n s' ln l fn nm f).spl p q s c x).nodes + sumG (fun i => f (p + i)) q = (GV.mk 6 n s' ln l fn nm f).nodes + sumG x c := by
 have h := sum_spl f x fn p q c hpq;simp only [GV.spl, if_true, GV.nodes];unfold sumG at *;omega
theorem nodes_spl5 {k n : Int} {s' : ByteArray} {ln : Nat} {l : Nat → GV} {fn : Nat} {nm : Nat → ByteArray} {f : Nat → GV} {p q c : Nat} {s : ByteArray} {x : Nat → GV} (hk : k ≠ 6) (hpq : p + q ≤ ln) :
  ((GV.mk k n s' ln l fn nm f).spl p q s c x).nodes + sumG (fun i => l (p + i)) q = (GV.mk k n s' ln l fn nm f).nodes + sumG x c := by
 have h := sum_spl l x ln p q c hpq;simp only [GV.spl, if_neg hk, GV.nodes];unfold sumG at *;omega
theorem sumG_1 (x : Nat → GV) : sumG x 1 = (x 0).nodes := by simp [sumG]
theorem sumG_0 (x : Nat → GV) : sumG x 0 = 0 := rfl

theorem put_nodes : ∀ (l : List ByteArray) (g : GV) (c : Nat) (x : Nat → GV) (y : GV), GV.put l g c x = .ok y → y.nodes ≤ g.nodes + sumG x c + l.length
 | [], g, c, x, y, h => by
  simp only [GV.put] at h;injection h with h
  rw [← h];simp only [List.length_nil];omega
 | s :: r, g, c, x, y, h => by
  simp only [GV.put] at h
  cases hl : g.loc s with
  | bad e => rw [hl] at h; cases h
  | miss a =>
   rw [hl] at h;simp only at h
   cases g with
   | nil => simp [GV.loc] at hl
   | mk k n s' ln l fn nm f =>
    obtain ⟨rfl, hle⟩ := miss_six hl
    by_cases hr : r = []
    ·rw [if_pos hr] at h;injection h with h
     rw [← h];have h1 := nodes_spl6 (n := n) (s' := s') (ln := ln) (l := l) (fn := fn) (nm := nm) (f := f) (p := a) (q := 0) (c := c) (s := s) (x := x) (by omega);rw [sumG_0] at h1;omega
    ·rw [if_neg hr] at h
     cases hz : GV.put r gE c x with
     | error e => rw [hz] at h; cases h
     | ok z =>
      rw [hz] at h;injection h with h
      rw [← h];have h2 := put_nodes r gE c x z hz;have h1 := nodes_spl6 (n := n) (s' := s') (ln := ln) (l := l) (fn := fn) (nm := nm) (f := f) (p := a) (q := 0) (c := 1) (s := s) (x := fun _ => z) (by omega);rw [sumG_0, sumG_1] at h1;have h3 : gE.nodes = 1 := by simp [gE, GV.nodes]
      simp;omega
  | hit i =>
   rw [hl] at h;simp only at h;have hh := loc_hit hl
   cases g with
   | nil => exact False.elim hh
   | mk k n s' ln l fn nm f =>
    by_cases hr : r = []
    ·rw [if_pos hr] at h;injection h with h
     rw [← h]
     rcases hh with ⟨rfl, hi⟩ | ⟨rfl, hi⟩
     ·have h1 := nodes_spl6 (n := n) (s' := s') (ln := ln) (l := l) (fn := fn) (nm := nm) (f := f) (p := i) (q := 1) (c := c) (s := s) (x := x) (by omega);omega
     ·have h1 := nodes_spl5 (k := 5) (n := n) (s' := s') (ln := ln) (l := l) (fn := fn) (nm := nm) (f := f) (p := i) (q := 1) (c := c) (s := s) (x := x) (by decide) (by omega);omega
    ·rw [if_neg hr] at h
     cases hz : GV.put r ((GV.mk k n s' ln l fn nm f).part i) c x with
     | error e => rw [hz] at h; cases h
     | ok z =>
      rw [hz] at h;injection h with h
      rw [← h];have h2 := put_nodes r _ c x z hz
      rcases hh with ⟨rfl, hi⟩ | ⟨rfl, hi⟩
      ·have h1 := nodes_spl6 (n := n) (s' := s') (ln := ln) (l := l) (fn := fn) (nm := nm) (f := f) (p := i) (q := 1) (c := 1) (s := s) (x := fun _ => z) (by omega);rw [sumG_1, sumG_1] at h1;simp only [GV.part, if_true, Nat.add_zero] at h1 h2;simp;omega
      ·have h1 := nodes_spl5 (k := 5) (n := n) (s' := s') (ln := ln) (l := l) (fn := fn) (nm := nm) (f := f) (p := i) (q := 1) (c := 1) (s := s) (x := fun _ => z) (by decide) (by omega);rw [sumG_1, sumG_1] at h1;have h56 : ¬ (5 : Int) = 6 := by decide
       simp only [GV.part, if_neg h56, Nat.add_zero] at h1 h2;simp;omega
end Go.Proofs.Ytjngbogbbglbnab
