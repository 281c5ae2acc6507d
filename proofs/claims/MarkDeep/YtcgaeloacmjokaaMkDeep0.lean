/- A row of objects, each held by the one ahead: what a marking does, unit by unit (no walk). -/
import Derived.Test.YtcgaeloacmjokaaMkKnown
namespace Go.Proofs.Ytcgaeloacmjokaa
open Go.RowKit

theorem oat_ext {a b : List Ob} (hl : a.length = b.length) (h : ∀ k, k < a.length → oat a k = oat b k) : a = b := by
  apply List.ext_getElem? 
  intro k
  rcases Nat.lt_or_ge k a.length with hk | hk
  · rw [oat_get hk, oat_get (by omega), h k hk]
  · rw [List.getElem?_eq_none hk, List.getElem?_eq_none (by omega)]
/-- The two refs of the object that holds the one behind it. -/
def lnk (j : Nat) : List Nat := if (j + 1) % 2 = 0 then [hnd (j + 1) 1, 0] else [0, hnd (j + 1) 1]
/-- The first i ones, as they are made. -/
def dpB (i : Nat) : List Ob := (List.range i).map fun j => ⟨1, 2, j, false, if j + 1 < i then lnk j else [0, 0]⟩
theorem dpB_len (i : Nat) : (dpB i).length = i := by simp [dpB]
theorem dpB_at {i j : Nat} (h : j < i) : oat (dpB i) j = ⟨1, 2, j, false, if j + 1 < i then lnk j else [0, 0]⟩ := by simp [oat, dpB, h]
theorem lnk_len (j : Nat) : (lnk j).length = 2 := by unfold lnk; split <;> rfl
theorem dpB_tot (i : Nat) : tot (dpB i) = 3 * i := by
  have key : ∀ (l : List Nat) (f : Nat → List Nat), (∀ j, (f j).length = 2) → tot (l.map fun j => ⟨1, 2, j, false, f j⟩) = 3 * l.length := by
    intro l f hf
    induction l with
    | nil => rfl
    | cons a l ih => simp only [List.map_cons, tot, osz, hf, ih, List.length_cons]; omega
  have := key (List.range i) (fun j => if j + 1 < i then lnk j else [0, 0]) (fun j => by split; exact lnk_len j; rfl)
  rw [List.length_range] at this
  exact this
theorem dpB_one : dpB 0 ++ [newOb 1 2 2 0] = dpB 1 := by decide +kernel
theorem dpB_more {i : Nat} (h : 0 < i) : (dpB i ++ [newOb 1 2 2 i]).set (i - 1) ((oat (dpB i ++ [newOb 1 2 2 i]) (i - 1)).put (i % 2) (hnd i 1)) = dpB (i + 1) := by
  have hl : (dpB i ++ [newOb 1 2 2 i]).length = i + 1 := by simp [dpB_len]
  apply oat_ext
  · simp [dpB_len]
  · intro k hk
    rw [List.length_set, hl] at hk
    have hx : oat (dpB i ++ [newOb 1 2 2 i]) (i - 1) = ⟨1, 2, i - 1, false, [0, 0]⟩ := by rw [oat_snoc, dpB_len, if_neg (by omega), dpB_at (by omega), if_neg (by omega)]
    rw [oat_set _ k (by omega), dpB_at hk, hx]
    by_cases e : k = i - 1
    · rw [if_pos e, if_pos (by omega)]
      subst e
      unfold Ob.put lnk
      dsimp only
      rw [show i - 1 + 1 = i by omega]
      rcases Nat.mod_two_eq_zero_or_one i with h2 | h2
      · rw [h2]; simp
      · rw [h2]; simp
    · rw [if_neg e, oat_snoc, dpB_len]
      by_cases e2 : k = i
      · rw [if_pos e2, if_neg (by omega)]
        subst e2
        rfl
      · rw [if_neg e2, dpB_at (by omega), if_pos (by omega), if_pos (by omega)]
/-- The refs when all is linked. -/
def dws (n : Nat) (ring : Bool) (j : Nat) : List Nat := if j + 1 < n then lnk j else if ring then [0, hnd 0 1] else [0, 0]
/-- All of them, the first u + 1 of them marked. -/
def dpM (n : Nat) (ring : Bool) (f : Nat → Bool) : List Ob := (List.range n).map fun j => ⟨1, 2, j, f j, dws n ring j⟩
theorem dpM_len (n : Nat) (ring : Bool) (f : Nat → Bool) : (dpM n ring f).length = n := by simp [dpM]
theorem dpM_at {n j : Nat} (ring : Bool) (f : Nat → Bool) (h : j < n) : oat (dpM n ring f) j = ⟨1, 2, j, f j, dws n ring j⟩ := by simp [oat, dpM, h]
theorem dpM_congr {n : Nat} {ring : Bool} {f g : Nat → Bool} (h : ∀ j, j < n → f j = g j) : dpM n ring f = dpM n ring g := by
  apply oat_ext
  · simp [dpM_len]
  · intro k hk
    rw [dpM_len] at hk
    rw [dpM_at ring f hk, dpM_at ring g hk, h k hk]
theorem dpM_open (n : Nat) : dpM n false (fun _ => false) = dpB n := by
  apply oat_ext
  · simp [dpM_len, dpB_len]
  · intro k hk
    rw [dpM_len] at hk
    rw [dpM_at _ _ hk, dpB_at hk]
    rfl
theorem dpM_ring {n : Nat} (h : 0 < n) : (dpB n).set (n - 1) ((oat (dpB n) (n - 1)).put 1 (hnd 0 1)) = dpM n true (fun _ => false) := by
  apply oat_ext
  · simp [dpM_len, dpB_len]
  · intro k hk
    rw [List.length_set, dpB_len] at hk
    rw [oat_set _ k (by rw [dpB_len]; omega), dpM_at _ _ hk, dpB_at (by omega : n - 1 < n)]
    by_cases e : k = n - 1
    · rw [if_pos e, if_neg (by omega)]
      subst e
      unfold Ob.put dws
      rw [if_neg (by omega)]
      rfl
    · rw [if_neg e, dpB_at hk, if_pos (by omega)]
      unfold dws
      rw [if_pos (by omega)]
theorem dpM_mk {n k : Nat} (ring : Bool) (f : Nat → Bool) (h : k < n) : mkO (dpM n ring f) k true = dpM n ring (fun j => if j = k then true else f j) := by
  apply oat_ext
  · simp [mkO_len, dpM_len]
  · intro j hj
    rw [mkO_len, dpM_len] at hj
    rw [oat_mkO true j (by rw [dpM_len]; exact h), dpM_at ring (fun j => if j = k then true else f j) hj, dpM_at ring f h]
    by_cases e : j = k
    · subst e
      rw [if_pos rfl]
      unfold Ob.on
      simp
    · rw [if_neg e, dpM_at ring f hj, if_neg e]
theorem look_zero (Os : List Ob) : look (plL 0 Os) 0 = none := by
  rcases h : look (plL 0 Os) 0 with _ | k
  · rfl
  · have := (look_pl_some h).2
    unfold hnd at this
    omega
theorem dpM_look {n k : Nat} (ring : Bool) (f : Nat → Bool) (h : k < n) (hb : n ≤ 1048576) : look (plL 0 (dpM n ring f)) (hnd k 1) = some k := look_pl (by rw [dpM_len]; exact h) (by rw [dpM_len]; exact hb)
theorem dpM_off (n : Nat) (ring : Bool) (f : Nat → Bool) : offO (dpM n ring f) = dpM n ring (fun _ => false) := by simp [offO, dpM, Ob.on]
/-- After u units. -/
def dU (n : Nat) (ring : Bool) (u : Nat) : List Ob × List Nat := (dpM n ring (fun j => decide (j ≤ u)), if u < n then [u] else [])
theorem dU_late {n u v : Nat} (ring : Bool) (hu : n ≤ u) (hv : n ≤ v) : dU n ring u = dU n ring v := by
  unfold dU
  rw [if_neg (by omega), if_neg (by omega), dpM_congr (f := fun j => decide (j ≤ u)) (g := fun j => decide (j ≤ v)) (fun j hj => by simp; omega)]
theorem dws_len (n : Nat) (ring : Bool) (u : Nat) : (dws n ring u).length = 2 := by
  unfold dws
  split
  · exact lnk_len u
  · cases ring <;> simp
theorem dU_refs {n u : Nat} (ring : Bool) (hu : u < n) : unitX (dU n ring u) = putAll (dpM n ring (fun j => decide (j ≤ u)), []) (dws n ring u) := by
  have h2 : refsO (oat (dpM n ring (fun j => decide (j ≤ u))) u) = dws n ring u := by
    rw [dpM_at ring _ hu]
    unfold refsO
    exact List.take_of_length_le (Nat.le_of_eq (dws_len n ring u))
  have h3 : dU n ring u = (dpM n ring (fun j => decide (j ≤ u)), [u]) := by unfold dU; rw [if_pos hu]
  rw [h3]
  unfold unitX
  simp only [List.getLast?_singleton, List.dropLast_singleton]
  rw [h2]
theorem dU_next {n u : Nat} (ring : Bool) (h1 : u + 1 < n) (hb : n ≤ 1048576) : putX (dpM n ring (fun j => decide (j ≤ u)), []) (hnd (u + 1) 1) = dU n ring (u + 1) := by
  have h3 : dU n ring (u + 1) = (dpM n ring (fun j => decide (j ≤ u + 1)), [u + 1]) := by unfold dU; rw [if_pos h1]
  have h4 : dpM n ring (fun j => if j = u + 1 then true else decide (j ≤ u)) = dpM n ring (fun j => decide (j ≤ u + 1)) := dpM_congr fun j _ => by
    by_cases e : j = u + 1
    · rw [if_pos e, e]; exact (decide_eq_true (Nat.le_refl _)).symm
    · rw [if_neg e]; exact decide_eq_decide.2 (by omega)
  rw [putX_new (s := (dpM n ring (fun j => decide (j ≤ u)), [])) (k := u + 1) (dpM_look ring (fun j => decide (j ≤ u)) h1 hb) (by
    have := dpM_at (j := u + 1) ring (fun j => decide (j ≤ u)) h1
    show (oat (dpM n ring fun j => decide (j ≤ u)) (u + 1)).mark = false
    rw [this]
    exact decide_eq_false (by omega)), h3, ← h4, ← dpM_mk ring _ h1]
  rfl
theorem putAll_two (s : List Ob × List Nat) (x y : Nat) : putAll s [x, y] = putX (putX s x) y := rfl
theorem dU_zero {n : Nat} (ring : Bool) (f : Nat → Bool) (K : List Nat) : putX (dpM n ring f, K) 0 = (dpM n ring f, K) := putX_none (s := (dpM n ring f, K)) (look_zero (dpM n ring f))
theorem dU_unitA {n u : Nat} (ring : Bool) (h1 : u + 1 < n) (hb : n ≤ 1048576) : putAll (dpM n ring (fun j => decide (j ≤ u)), []) (lnk u) = dU n ring (u + 1) := by
  have hn := dU_next ring h1 hb
  have hz2 : putX (dU n ring (u + 1)) 0 = dU n ring (u + 1) := dU_zero ring _ _
  unfold lnk
  generalize hnd (u + 1) 1 = x at hn ⊢
  split
  · rw [putAll_two, hn, hz2]
  · rw [putAll_two, dU_zero, hn]
theorem dU_unitB {n u : Nat} (ring : Bool) (hu : u < n) (h1 : ¬ u + 1 < n) (hb : n ≤ 1048576) : putAll (dpM n ring (fun j => decide (j ≤ u)), []) (if ring then [0, hnd 0 1] else [0, 0]) = dU n ring (u + 1) := by
  have hend : dU n ring (u + 1) = (dpM n ring (fun j => decide (j ≤ u)), []) := by
    unfold dU
    rw [if_neg h1, dpM_congr (f := fun j => decide (j ≤ u + 1)) (g := fun j => decide (j ≤ u)) (fun j hj => decide_eq_decide.2 (by omega))]
  have hm : (oat (dpM n ring fun j => decide (j ≤ u)) 0).mark = true := by
    rw [dpM_at (j := 0) ring (fun j => decide (j ≤ u)) (by omega : 0 < n)]
    simp
  have hl := dpM_look ring (fun j => decide (j ≤ u)) (by omega : 0 < n) hb
  generalize hnd 0 1 = x at hl ⊢
  have h0 : putX (dpM n ring (fun j => decide (j ≤ u)), []) x = (dpM n ring (fun j => decide (j ≤ u)), []) := putX_old (s := (dpM n ring (fun j => decide (j ≤ u)), [])) (k := 0) hl hm
  rw [hend]
  cases ring with
  | false =>
    rw [if_neg (by simp), putAll_two, dU_zero, dU_zero]
  | true =>
    rw [if_pos rfl, putAll_two, dU_zero, h0]
theorem dU_unit {n u : Nat} (ring : Bool) (hu : u < n) (hb : n ≤ 1048576) : unitX (dU n ring u) = dU n ring (u + 1) := by
  rw [dU_refs ring hu]
  unfold dws
  by_cases h1 : u + 1 < n
  · rw [if_pos h1]; exact dU_unitA ring h1 hb
  · rw [if_neg h1]; exact dU_unitB ring hu h1 hb
theorem dU_step {n : Nat} (ring : Bool) (hb : n ≤ 1048576) : ∀ (k u : Nat), stepX k (dU n ring u) = dU n ring (u + k)
  | 0, u => rfl
  | k + 1, u => by
    by_cases hu : u < n
    · rw [stepX_succ k (by unfold dU; rw [if_pos hu]; simp), dU_unit ring hu hb, dU_step ring hb k (u + 1)]
      congr 1; omega
    · rw [stepX_nil _ (by unfold dU; rw [if_neg hu]), dU_late ring (by omega) (by omega : n ≤ u + (k + 1))]
theorem dU_start {n : Nat} (ring : Bool) (f : Nat → Bool) (h : 0 < n) (hb : n ≤ 1048576) : startX (dpM n ring f) (rt0.set 7 (hnd 0 1)) = dU n ring 0 := by
  unfold startX
  rw [dpM_off]
  have hz : putX (dpM n ring (fun _ => false), []) 0 = (dpM n ring (fun _ => false), []) := putX_none (s := (dpM n ring (fun _ => false), [])) (look_zero (dpM n ring (fun _ => false)))
  have hn : putX (dpM n ring (fun _ => false), []) (hnd 0 1) = dU n ring 0 := by
    rw [putX_new (s := (dpM n ring (fun _ => false), [])) (k := 0) (dpM_look ring (fun _ => false) h hb) (by dsimp only; rw [dpM_at ring _ h])]
    dsimp only
    rw [dpM_mk ring (fun _ => false) h]
    unfold dU
    rw [if_pos h, dpM_congr (f := fun j => if j = 0 then true else false) (g := fun j => decide (j ≤ 0)) (fun j _ => by cases j <;> simp)]
    rfl
  have hz2 : putX (dU n ring 0) 0 = dU n ring 0 := putX_none (s := dU n ring 0) (look_zero _)
  have e : rt0.set 7 (hnd 0 1) = [0, 0, 0, 0, 0, 0, 0, hnd 0 1, 0, 0, 0, 0, 0, 0, 0, 0] := rfl
  rw [e]
  unfold putAll
  simp only [List.foldl_cons, List.foldl_nil, hz, hn, hz2]
theorem dU_done {n u : Nat} (ring : Bool) : ((dU n ring u).2.length == 0) = decide (n ≤ u) := by
  unfold dU
  by_cases h : u < n
  · rw [if_pos h]; simp; omega
  · rw [if_neg h]; simp; omega
end Go.Proofs.Ytcgaeloacmjokaa
