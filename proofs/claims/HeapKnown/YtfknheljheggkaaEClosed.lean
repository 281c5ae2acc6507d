/- What is reached is closed (no walk). -/
import Derived.Test.YtfknheljheggkaaEReach2
namespace Go.Proofs.Ytfknheljheggkaa
open Go.RowKit

theorem plc_zero (s : HS) : plc s 0 = none := by
  unfold plc
  cases hl : look s.L 0 with
  | none => rfl
  | some p =>
    have := (look_some hl).1
    simp at this
theorem meetM_pre (s : HS) (m : Mt) (x : Nat) : ∃ t, (meetM s m x).M = m.M ++ t := by
  unfold meetM
  split
  · exact ⟨[], by simp⟩
  · cases plc s x with
    | none => exact ⟨[], by simp⟩
    | some q =>
      dsimp only
      split
      · exact ⟨[], by simp⟩
      · exact ⟨[q], rfl⟩
theorem meetAll_pre (s : HS) : ∀ (l : List Nat) (m : Mt), ∃ t, (meetAll s m l).M = m.M ++ t
  | [], m => ⟨[], by simp [meetAll]⟩
  | x :: l, m => by
    obtain ⟨t1, h1⟩ := meetM_pre s m x
    obtain ⟨t2, h2⟩ := meetAll_pre s l (meetM s m x)
    exact ⟨t1 ++ t2, by show (meetAll s (meetM s m x) l).M = _; rw [h2, h1, List.append_assoc]⟩
theorem meetM_mem {s : HS} {m : Mt} {x p : Nat} (h : plc s x = some p) : p ∈ (meetM s m x).M := by
  unfold meetM
  have h0 : x ≠ 0 := by
    rintro rfl
    rw [plc_zero] at h
    cases h
  rw [if_neg h0, h]
  dsimp only
  split
  · assumption
  · simp
theorem meetAll_mem {s : HS} : ∀ (l : List Nat) {m : Mt} {x p : Nat}, x ∈ l → plc s x = some p → p ∈ (meetAll s m l).M
  | [], _, _, _, h, _ => by simp at h
  | y :: l, m, x, p, h, hp => by
    show p ∈ (meetAll s (meetM s m y) l).M
    rcases List.mem_cons.1 h with e | h
    · subst e
      obtain ⟨t, ht⟩ := meetAll_pre s l (meetM s m x)
      rw [ht]
      exact List.mem_append_left _ (meetM_mem hp)
    · exact meetAll_mem l h hp
theorem bfsK_pre (s : HS) (m : Mt) (k : Nat) : ∀ n, ∃ t, (bfsK s m (k + n)).M = (bfsK s m k).M ++ t
  | 0 => ⟨[], by simp⟩
  | n + 1 => by
    obtain ⟨t, ht⟩ := bfsK_pre s m k n
    obtain ⟨t2, ht2⟩ := meetAll_pre s (refsAt s ((bfsK s m (k + n)).M.getD (k + n) 0)) (bfsK s m (k + n))
    exact ⟨t ++ t2, by show (meetAll s (bfsK s m (k + n)) (refsAt s ((bfsK s m (k + n)).M.getD (k + n) 0))).M = _; rw [ht2, ht, List.append_assoc]⟩
theorem bfsK_get (s : HS) (m : Mt) {k K : Nat} (h : k ≤ K) {j : Nat} (hj : j < (bfsK s m k).M.length) : (bfsK s m K).M.getD j 0 = (bfsK s m k).M.getD j 0 := by
  obtain ⟨t, ht⟩ := bfsK_pre s m k (K - k)
  rw [show k + (K - k) = K by omega] at ht
  rw [ht, List.getD_eq_getElem?_getD, List.getD_eq_getElem?_getD, List.getElem?_append_left hj]
theorem bfsK_mono (s : HS) (m : Mt) {k K : Nat} (h : k ≤ K) {p : Nat} (hp : p ∈ (bfsK s m k).M) : p ∈ (bfsK s m K).M := by
  obtain ⟨t, ht⟩ := bfsK_pre s m k (K - k)
  rw [show k + (K - k) = K by omega] at ht
  rw [ht]
  exact List.mem_append_left _ hp
/-- What the first ones hold was met. -/
theorem bfsK_closed (s : HS) (m : Mt) {k K : Nat} (h : k < K) (hk : k < (bfsK s m k).M.length) {x p : Nat} (hx : x ∈ refsAt s ((bfsK s m K).M.getD k 0)) (hp : plc s x = some p) : p ∈ (bfsK s m K).M := by
  rw [bfsK_get s m (Nat.le_of_lt h) hk] at hx
  exact bfsK_mono s m h (show p ∈ (meetAll s (bfsK s m k) (refsAt s ((bfsK s m k).M.getD k 0))).M from meetAll_mem _ hx hp)
theorem bfsK_roots (s : HS) {K : Nat} {x p : Nat} (hx : x ∈ s.rt) (hp : plc s x = some p) : p ∈ (bfsK s (mRoots s) K).M :=
  bfsK_mono s _ (Nat.zero_le K) (show p ∈ (meetAll s m0 s.rt).M from meetAll_mem _ hx hp)
end Go.Proofs.Ytfknheljheggkaa
