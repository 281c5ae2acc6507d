/- A part of a good value is good. No program. -/
import Derived.Test.YtjngbogbbglbnaaPaMath3
namespace Go.Proofs.Ytjngbogbbglbnaa
open Go.RowKit

theorem err_iff (g : GV) : g.err = 0 ↔ g.every GV.formed = true ∧ g.every GV.readable = true ∧ g.every GV.limited = true ∧ g.depth ≤ 8 ∧ g.size ≤ 2048 := by
  unfold GV.err
  cases g.every GV.formed <;> cases g.every GV.readable <;> cases g.every GV.limited <;> simp
  by_cases h : 8 < g.depth
  · rw [if_pos h]
    constructor
    · intro h2; cases h2
    · intro h2; omega
  · rw [if_neg h]
    by_cases h2 : 2048 < g.size
    · rw [if_pos h2]
      constructor
      · intro h3; cases h3
      · intro h3; omega
    · rw [if_neg h2]
      constructor
      · intro _; omega
      · intro _; rfl
theorem every_part {p : GV → Bool} {g : GV} {i : Nat} (he : g.every p = true) (hh : g.has i) : (g.part i).every p = true := by
  cases g with
  | nil => exact False.elim hh
  | mk k n s ln l fn nm f =>
    rcases hh with ⟨rfl, hi⟩ | ⟨rfl, hi⟩
    · simp only [GV.every, Bool.and_eq_true] at he
      exact List.all_eq_true.1 he.2 i (by simpa using hi)
    · simp only [GV.every, Bool.and_eq_true] at he
      exact List.all_eq_true.1 he.2 i (by simpa using hi)
/-- The greatest of so many. -/
theorem most_le {f : Nat → Nat} {M : Nat} : ∀ n, ((List.range n).foldl (fun m i => max m (f i)) 0 ≤ M ↔ ∀ i, i < n → f i ≤ M)
  | 0 => ⟨fun _ i hi => absurd hi (Nat.not_lt_zero _), fun _ => Nat.zero_le _⟩
  | n + 1 => by
    rw [List.range_succ, List.foldl_append]
    show max _ (f n) ≤ M ↔ _
    rw [Nat.max_le, most_le n]
    exact ⟨fun h i hi => if e : i = n then by rw [e]; exact h.2 else h.1 i (by omega), fun h => ⟨fun i hi => h i (by omega), h n (by omega)⟩⟩
/-- Their sum, behind a. -/
theorem total_is (f : Nat → Nat) : ∀ n a, (List.range n).foldl (fun m i => m + f i) a = a + ((List.range n).map f).sum
  | 0, a => by simp
  | n + 1, a => by
    rw [List.range_succ, List.foldl_append, List.map_append, List.sum_append]
    show _ + f n = _
    rw [total_is f n a]
    simp
    omega
theorem total_one {f : Nat → Nat} : ∀ n i, i < n → f i ≤ ((List.range n).map f).sum
  | 0, _, h => absurd h (Nat.not_lt_zero _)
  | n + 1, i, h => by
    rw [List.range_succ, List.map_append, List.sum_append]
    simp only [List.map_cons, List.map_nil, List.sum_cons, List.sum_nil]
    by_cases e : i = n
    · rw [e]; omega
    · have := total_one (f := f) n i (by omega); omega
theorem part_depth {g : GV} {i : Nat} (hh : g.has i) : (g.part i).depth + 1 ≤ g.depth := by
  cases g with
  | nil => exact False.elim hh
  | mk k n s ln l fn nm f =>
    rcases hh with ⟨rfl, hi⟩ | ⟨rfl, hi⟩
    · have h := (most_le (f := fun i => (f i).depth) (M := (List.range fn).foldl (fun m i => max m (f i).depth) 0) fn).1 (Nat.le_refl _) i hi
      have e : (GV.mk 6 n s ln l fn nm f).depth = 1 + (List.range fn).foldl (fun m i => max m (f i).depth) 0 := by simp [GV.depth]
      rw [e]
      show (f i).depth + 1 ≤ _
      omega
    · have h := (most_le (f := fun i => (l i).depth) (M := (List.range ln).foldl (fun m i => max m (l i).depth) 0) ln).1 (Nat.le_refl _) i hi
      have e : (GV.mk 5 n s ln l fn nm f).depth = 1 + (List.range ln).foldl (fun m i => max m (l i).depth) 0 := by simp [GV.depth]
      rw [e]
      show (l i).depth + 1 ≤ _
      omega
theorem part_size {g : GV} {i : Nat} (hh : g.has i) : (g.part i).size ≤ g.size := by
  cases g with
  | nil => exact False.elim hh
  | mk k n s ln l fn nm f =>
    rcases hh with ⟨rfl, hi⟩ | ⟨rfl, hi⟩
    · rw [GV.size_l6, total_is (fun i => textN (nm i) + (f i).size)]
      have h := total_one (f := fun i => textN (nm i) + (f i).size) fn i hi
      show (f i).size ≤ _
      omega
    · rw [GV.size_l5, total_is (fun i => (l i).size)]
      have h := total_one (f := fun i => (l i).size) ln i hi
      show (l i).size ≤ _
      omega
theorem part_good {g : GV} {i : Nat} (h : g.err = 0) (hh : g.has i) : (g.part i).err = 0 := by
  obtain ⟨h1, h2, h3, h4, h5⟩ := (err_iff g).1 h
  have hd := part_depth hh
  have hs := part_size hh
  exact (err_iff _).2 ⟨every_part h1 hh, every_part h2 hh, every_part h3 hh, by omega, by omega⟩
/-- Where a good value leads, a good value lies. -/
theorem lead_good : ∀ (l : List ByteArray) (g o : GV), g.err = 0 → g.lead l = some o → o.err = 0
  | [], g, o, h, hl => by
    rw [lead_nil] at hl
    injection hl with hl
    rw [← hl]; exact h
  | s :: r, g, o, h, hl => by
    obtain ⟨i, h1, h2⟩ := lead_hit hl
    exact lead_good r _ o (part_good h (loc_hit h1)) h2
/-- Set to what is got, the value stays. -/
theorem set_back {g o : GV} {p : ByteArray} (h : getR g p = some o) : setR g p o = .ok g := by
  unfold getR at h
  cases hb : begR g p 0 (fun _ => .nil) with
  | error e => rw [hb] at h; cases h
  | ok l =>
    rw [hb] at h
    obtain ⟨h1, h2, _⟩ := beg_ok hb
    have ho := lead_good l g o h1 h
    have hb2 : begR g p 1 (fun _ => o) = .ok l := by
      unfold begR
      rw [if_neg (by omega), h2]
      dsimp only
      rw [if_neg (by intro hc; exact hc.2 ho)]
    unfold setR
    rw [hb2]
    dsimp only
    rw [put_back l g o (steps_some h2) h]
    unfold toldR
    dsimp only
    rw [if_pos h1]
end Go.Proofs.Ytjngbogbbglbnaa
