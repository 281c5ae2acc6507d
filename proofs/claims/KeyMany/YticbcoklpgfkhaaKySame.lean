/- Values that are the same have the same error. What first tells of bytes. (No walk.) -/
import Derived.Test.YticbcoklpgfkhaaKyMath
import Derived.Test.YticbcoklpgfkhaaKyLen
namespace Go.Proofs.Yticbcoklpgfkhaa
open Go.RowKit

theorem all_congr {p q : Nat → Bool} {n : Nat} (h : ∀ i, i < n → p i = q i) : (List.range n).all p = (List.range n).all q := by
  induction n with
  | zero => rfl
  | succ n ih => rw [List.range_succ, List.all_append, List.all_append, ih fun i hi => h i (by omega)]; simp [h n (by omega)]
theorem foldl_congr {f g : Nat → Nat → Nat} {n a : Nat} (h : ∀ m i, i < n → f m i = g m i) : (List.range n).foldl f a = (List.range n).foldl g a := by
  induction n with
  | zero => rfl
  | succ n ih => rw [List.range_succ, List.foldl_append, List.foldl_append, ih fun m i hi => h m i (by omega)]; simp [h _ n (by omega)]
theorem same_every {p : GV → Bool} (hp : ∀ a b : GV, a.same b = true → p a = p b) : ∀ a b : GV, a.same b = true → a.every p = b.every p := by
  intro a
  induction a with
  | nil => intro b h; simp [GV.same] at h
  | mk k n s ln l fn nm f ihl ihf =>
    intro b h
    have h0 := h
    cases b with
    | nil => simp [GV.same] at h
    | mk k' n' s' ln' l' fn' nm' f' =>
      simp [GV.same] at h
      obtain ⟨⟨⟨⟨⟨⟨h1, h2⟩, h3⟩, h4⟩, h5⟩, h6⟩, h7⟩ := h
      rw [GV.every, GV.every, hp _ _ h0]
      subst h1 h4 h5
      rw [all_congr (p := fun i => (l i).every p) (q := fun i => (l' i).every p) fun i hi => ihl i _ (h6 i hi), all_congr (p := fun i => (f i).every p) (q := fun i => (f' i).every p) fun i hi => ihf i _ (h7 i hi).2]
theorem same_formed (a b : GV) (h : a.same b = true) : a.formed = b.formed := by
  cases a with
  | nil => simp [GV.same] at h
  | mk k n s ln l fn nm f =>
    cases b with
    | nil => simp [GV.same] at h
    | mk k' n' s' ln' l' fn' nm' f' =>
      simp [GV.same] at h
      obtain ⟨⟨⟨⟨⟨⟨h1, h2⟩, h3⟩, h4⟩, h5⟩, h6⟩, h7⟩ := h
      subst h1 h2 h3 h4 h5
      have e : risingB fn nm = risingB fn nm' := by
        unfold risingB
        refine all_congr fun i hi => ?_
        rw [(h7 i (by omega)).1, (h7 (i + 1) (by omega)).1]
      simp only [GV.formed, e]
theorem same_readable (a b : GV) (h : a.same b = true) : a.readable = b.readable := by
  cases a with
  | nil => simp [GV.same] at h
  | mk k n s ln l fn nm f =>
    cases b with
    | nil => simp [GV.same] at h
    | mk k' n' s' ln' l' fn' nm' f' =>
      simp [GV.same] at h
      obtain ⟨⟨⟨⟨⟨⟨h1, h2⟩, h3⟩, h4⟩, h5⟩, h6⟩, h7⟩ := h
      subst h1 h2 h3 h4 h5
      simp only [GV.readable]
      rw [all_congr (p := fun i => validB (nm i)) (q := fun i => validB (nm' i)) fun i hi => by rw [(h7 i hi).1]]
theorem same_limited (a b : GV) (h : a.same b = true) : a.limited = b.limited := by
  cases a with
  | nil => simp [GV.same] at h
  | mk k n s ln l fn nm f =>
    cases b with
    | nil => simp [GV.same] at h
    | mk k' n' s' ln' l' fn' nm' f' =>
      simp [GV.same] at h
      obtain ⟨⟨⟨⟨⟨⟨h1, h2⟩, h3⟩, h4⟩, h5⟩, h6⟩, h7⟩ := h
      subst h1 h2 h3 h4 h5
      simp only [GV.limited]
      rw [all_congr (p := fun i => nameFits (nm i)) (q := fun i => nameFits (nm' i)) fun i hi => by rw [(h7 i hi).1]]
theorem same_depth : ∀ a b : GV, a.same b = true → a.depth = b.depth := by
  intro a
  induction a with
  | nil => intro b h; simp [GV.same] at h
  | mk k n s ln l fn nm f ihl ihf =>
    intro b h
    cases b with
    | nil => simp [GV.same] at h
    | mk k' n' s' ln' l' fn' nm' f' =>
      simp [GV.same] at h
      obtain ⟨⟨⟨⟨⟨⟨h1, h2⟩, h3⟩, h4⟩, h5⟩, h6⟩, h7⟩ := h
      subst h1 h4 h5
      simp only [GV.depth]
      rw [foldl_congr (f := fun m i => max m (l i).depth) (g := fun m i => max m (l' i).depth) fun m i hi => by rw [ihl i _ (h6 i hi)], foldl_congr (f := fun m i => max m (f i).depth) (g := fun m i => max m (f' i).depth) fun m i hi => by rw [ihf i _ (h7 i hi).2]]
theorem same_size : ∀ a b : GV, a.same b = true → a.size = b.size := by
  intro a
  induction a with
  | nil => intro b h; simp [GV.same] at h
  | mk k n s ln l fn nm f ihl ihf =>
    intro b h
    cases b with
    | nil => simp [GV.same] at h
    | mk k' n' s' ln' l' fn' nm' f' =>
      simp [GV.same] at h
      obtain ⟨⟨⟨⟨⟨⟨h1, h2⟩, h3⟩, h4⟩, h5⟩, h6⟩, h7⟩ := h
      subst h1 h2 h3 h4 h5
      simp only [GV.size]
      rw [foldl_congr (f := fun m i => m + (l i).size) (g := fun m i => m + (l' i).size) fun m i hi => by rw [ihl i _ (h6 i hi)], foldl_congr (f := fun m i => m + (textN (nm i) + (f i).size)) (g := fun m i => m + (textN (nm' i) + (f' i).size)) fun m i hi => by rw [ihf i _ (h7 i hi).2, (h7 i hi).1]]
theorem same_err {a b : GV} (h : a.same b = true) : a.err = b.err := by
  unfold GV.err
  rw [same_every same_formed a b h, same_every same_readable a b h, same_every same_limited a b h, same_depth a b h, same_size a b h]

/-- The good value with whose key the bytes begin. -/
def Begins (l : List UInt8) (g : GV) (rest : List UInt8) : Prop := g.err = 0 ∧ l = g.key ++ rest
theorem bad_bool : (gB (-1)).err ≠ 0 := by
  intro h
  have := (err_zeroM h).1
  simp [gB, GV.every, GV.formed] at this
/-- What the steps tell of the bytes' beginning. -/
theorem first_yes {l : List UInt8} {g : GV} {rest : List UInt8} (h : Leads (.kind [] (l.take 10240)) (.done (some (g, rest)))) (he : g.err = 0) : Begins l g (rest ++ l.drop 10240) ∧ (l.take 10240).length = g.key.length + rest.length := by
  rcases leads_key h with e | ⟨rfl, _⟩
  · refine ⟨⟨he, ?_⟩, by rw [← e, List.length_append]⟩
    rw [← List.append_assoc, e, List.take_append_drop]
  · exact absurd he bad_bool
theorem first_no {l : List UInt8} {r : Option (GV × List UInt8)} (h : Leads (.kind [] (l.take 10240)) (.done r)) (hr : ∀ g rest, r = some (g, rest) → g.err ≠ 0) (g : GV) (rest : List UInt8) (hn : g.every GV.nOk = true) : ¬ Begins l g rest := by
  rintro ⟨he, hl⟩
  have hk := key_most he
  have e : l.take 10240 = g.key ++ rest.take (10240 - g.key.length) := by
    rw [hl, List.take_append]
    congr 1
    exact List.take_of_length_le (by omega)
  rw [e] at h
  obtain ⟨g', h1, h2⟩ := key_leads (err_zeroM he).1 hn (rest.take (10240 - g.key.length))
  have := h.one h1
  exact hr g' _ this (by rw [same_err h2]; exact he)
/-- Where one reads a key, the value is the same. -/
theorem begins_same {l : List UInt8} {g g' : GV} {rest rest' : List UInt8} (h : Begins l g rest) (h' : Begins l g' rest') (hn : g.every GV.nOk = true) (hn' : g'.every GV.nOk = true) : rest = rest' ∧ g.key = g'.key ∧ ∃ g0 : GV, g0.same g = true ∧ g0.same g' = true := by
  obtain ⟨e1, e2⟩ := h
  obtain ⟨e1', e2'⟩ := h'
  obtain ⟨g0, h1, h2⟩ := key_leads (err_zeroM e1).1 hn rest
  obtain ⟨g0', h1', h2'⟩ := key_leads (err_zeroM e1').1 hn' rest'
  rw [← e2] at h1
  rw [← e2'] at h1'
  have := h1.one h1'
  injection this with this
  injection this with t1 t2
  subst t1 t2
  exact ⟨rfl, List.append_cancel_right (e2.symm.trans e2'), g0, h2, h2'⟩
end Go.Proofs.Yticbcoklpgfkhaa
