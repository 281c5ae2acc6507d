/- Plain facts on a Doc of fields: in whatever order they stand; what is found in it; its bytes. -/
import Derived.Test.YtkjijepepbgciaaMakeA
namespace Go.Proofs.Ytkjijepepbgciaa
open Go.RowKit Go.Sort

/-- The first j fields, turned by t. -/
def rotL (d : List Fl) (t j : Nat) : List Fl := (List.range j).map fun i => d[(i + t) % d.length]?.getD default

theorem rotL_succ (d : List Fl) (t j : Nat) : rotL d t (j + 1) = rotL d t j ++ [d[(j + t) % d.length]?.getD default] := by
  simp [rotL, List.range_succ]
theorem rotL_len (d : List Fl) (t j : Nat) : (rotL d t j).length = j := by simp [rotL]

theorem rot_perm (d : List Fl) (t : Nat) : (rotL d t d.length).Perm d := by
  by_cases h0 : d.length = 0
  · have : d = [] := List.length_eq_zero_iff.1 h0
    subst this
    exact List.Perm.refl _
  · have hr := Nat.mod_lt t (show 0 < d.length by omega)
    have e : rotL d t d.length = d.drop (t % d.length) ++ d.take (t % d.length) := by
      apply List.ext_getElem
      · simp [rotL]
        omega
      · intro i h1 h2
        have hi : i < d.length := by simpa [rotL] using h1
        have hm : (i + t) % d.length = (i + t % d.length) % d.length := by simp
        by_cases hlt : i + t % d.length < d.length
        · rw [List.getElem_append_left (by simp; omega), List.getElem_drop]
          simp only [rotL, List.getElem_map, List.getElem_range]
          rw [hm, Nat.mod_eq_of_lt hlt]
          simp [hlt, Nat.add_comm]
        · rw [List.getElem_append_right (by simp; omega), List.getElem_take]
          simp only [rotL, List.getElem_map, List.getElem_range]
          have hm2 : (i + t % d.length) % d.length = i + t % d.length - d.length := by
            rw [Nat.mod_eq_sub_mod (by omega), Nat.mod_eq_of_lt (by omega)]
          rw [hm, hm2]
          have hlt2 : i + t % d.length - d.length < d.length := by omega
          simp only [hlt2, List.getElem?_eq_getElem, Option.getD_some]
          congr 1
          simp
          omega
    rw [e]
    exact List.perm_append_comm.trans (by rw [List.take_append_drop])
theorem rot_mem {d : List Fl} {t j : Nat} (hj : j ≤ d.length) : ∀ x ∈ rotL d t j, x ∈ d := by
  intro x hx
  simp only [rotL, List.mem_map, List.mem_range] at hx
  obtain ⟨i, hi, rfl⟩ := hx
  have hlt := Nat.mod_lt (i + t) (show 0 < d.length by omega)
  simp [hlt]

theorem ins_some {d : List Fl} (h : mkErr d = 0) : ∃ out, insAll [] d = some out ∧ Up out ∧ out.Perm d ∧ (docOf out).err = 0 ∧ mkTree d = docOf out := by
  cases e : insAll [] d with
  | none => simp [mkErr, e] at h
  | some out =>
    obtain ⟨h1, h2⟩ := insAll_up d [] out List.Pairwise.nil e
    have h3 : (docOf out).err = 0 := by simpa [mkErr, e] using h
    exact ⟨out, rfl, h1, by simpa using h2, h3, by simp [mkTree, e, h3]⟩
theorem ins_none {d : List Fl} (h : mkErr d ≠ 0) : mkTree d = gZ := by
  cases e : insAll [] d with
  | none => simp [mkTree, e]
  | some out =>
    have h3 : (docOf out).err ≠ 0 := by simpa [mkErr, e] using h
    simp [mkTree, e, h3]
theorem mk_perm {d e : List Fl} (h : mkErr d = 0) (hp : e.Perm d) : mkErr e = 0 ∧ mkTree e = mkTree d := by
  obtain ⟨out, h1, h2, h3, h4, h5⟩ := ins_some h
  have h6 := sorted_ins (d := e) (d' := out) (h3.trans hp.symm) h2
  refine ⟨by simp [mkErr, h6, h4], ?_⟩
  rw [h5]
  simp [mkTree, h6, h4]

theorem find_out {out : List Fl} (hu : Up out) {x : Fl} (hx : x ∈ out) : (docOf out).find x.nm = some x.g := by
  obtain ⟨i, hi, rfl⟩ := List.getElem_of_mem hx
  have h1 : findAt (nmOf out) (out[i]'hi).nm out.length = some i := by
    refine findAt_some (nmOf_at hi) (fun j hj => ?_) hi
    rw [nmOf_at (show j < out.length by omega)]
    intro e
    have := List.pairwise_iff_getElem.1 hu j i (by omega) hi hj
    have := cfF_zero.2 e
    omega
  simp only [docOf, gD, GV.find, if_true, h1, Option.map_some, gOf_at hi]

theorem le_foldl_max {f : Nat → Nat} : ∀ {n i : Nat}, i < n → f i ≤ (List.range n).foldl (fun m i => max m (f i)) 0
  | 0, i, h => absurd h (Nat.not_lt_zero _)
  | n + 1, i, h => by
    rw [List.range_succ, List.foldl_append]
    simp only [List.foldl_cons, List.foldl_nil]
    rcases Nat.lt_succ_iff_lt_or_eq.1 h with h1 | rfl
    · have := le_foldl_max (f := f) h1
      omega
    · omega

theorem err_zero {g : GV} (h : g.err = 0) : g.every GV.formed = true ∧ g.every GV.readable = true ∧ g.every GV.limited = true ∧ g.depth ≤ 8 ∧ g.size ≤ 2048 := by
  unfold GV.err at h
  split at h
  · omega
  · split at h
    · omega
    · split at h
      · omega
      · split at h
        · omega
        · split at h
          · omega
          · rename_i a b c d e
            exact ⟨by simpa using a, by simpa using b, by simpa using c, by omega, by omega⟩
theorem err_of {g : GV} (h1 : g.every GV.formed = true) (h2 : g.every GV.readable = true) (h3 : g.every GV.limited = true) (h4 : g.depth ≤ 8) (h5 : g.size ≤ 2048) : g.err = 0 := (err_6 h1 h2 h3 (by omega) (by omega)).1

theorem digit1 : ∀ k : Fin 128, digitsN k.val = 1 := by decide +kernel

theorem every_part {p : GV → Bool} {n : Nat} {nm : Nat → ByteArray} {f : Nat → GV} (h : (gD n nm f).every p = true) : p (gD n nm f) = true ∧ ∀ i, i < n → (f i).every p = true := by
  simp only [gD, GV.every, Bool.and_eq_true] at h
  refine ⟨h.1, fun i hi => ?_⟩
  have h2 := h.2
  simp at h2
  exact h2 i hi

theorem mem_le_sum : ∀ {l : List Nat} {a : Nat}, a ∈ l → a ≤ l.sum
  | [], _, h => by simp at h
  | b :: l, a, h => by
    rw [List.sum_cons]
    rcases List.mem_cons.1 h with rfl | h
    · omega
    · have := mem_le_sum h
      omega

def fldSize (x : Fl) : Nat := 1 + x.nm.size + x.g.size
def sizeF (d : List Fl) : Nat := (d.map fldSize).sum

theorem doc_parts {out : List Fl} (h : (docOf out).err = 0) : out.length ≤ 32 ∧ (∀ x ∈ out, x.nm.size ≤ 24 ∧ x.g.err = 0) ∧ (docOf out).size = 2 + sizeF out := by
  obtain ⟨h1, h2, h3, h4, h5⟩ := err_zero h
  have e1 := every_part h1
  have e2 := every_part h2
  have e3 := every_part h3
  have hl : out.length ≤ 32 ∧ ∀ i, i < out.length → (nmOf out i).size ≤ 24 := by
    have := e3.1
    simp only [gD, GV.limited] at this
    simp [nameFits] at this
    exact ⟨this.2, fun i hi => (this.1 i hi).2⟩
  have hsz : (docOf out).size = 2 + ((List.range out.length).map fun i => 1 + (nmOf out i).size + (gOf out i).size).sum := by
    simp only [docOf, gD]
    rw [GV.size_l6, foldl_add, digit1 ⟨out.length, by omega⟩]
    congr 1
    have : ∀ i, i < out.length → textN (nmOf out i) + (gOf out i).size = 1 + (nmOf out i).size + (gOf out i).size := by
      intro i hi
      have := digit1 ⟨(nmOf out i).size, by have := hl.2 i hi; omega⟩
      simp only at this
      simp only [textN, this]
    have key : ∀ m, m ≤ out.length → ((List.range m).map fun i => textN (nmOf out i) + (gOf out i).size).sum = ((List.range m).map fun i => 1 + (nmOf out i).size + (gOf out i).size).sum := by
      intro m
      induction m with
      | zero => intro _; rfl
      | succ m ih =>
        intro hm
        rw [List.range_succ, List.map_append, List.map_append, List.sum_append, List.sum_append, ih (by omega)]
        simp [this m (by omega)]
    exact key _ (Nat.le_refl _)
  have hsF : ((List.range out.length).map fun i => 1 + (nmOf out i).size + (gOf out i).size) = out.map fldSize := range_map (fun i hi => by rw [nmOf_at hi, gOf_at hi]; rfl)
  rw [hsF] at hsz
  refine ⟨hl.1, fun x hx => ?_, hsz⟩
  obtain ⟨i, hi, rfl⟩ := List.getElem_of_mem hx
  have hd : (gOf out i).depth ≤ 8 := by
    have h6 := le_foldl_max (f := fun i => (gOf out i).depth) hi
    have h7 : (docOf out).depth = 1 + (List.range out.length).foldl (fun m i => max m (gOf out i).depth) 0 := by simp [docOf, gD, GV.depth]
    omega
  have hs : (gOf out i).size ≤ 2048 := by
    have h6 : fldSize out[i] ≤ (out.map fldSize).sum := by
      have : fldSize out[i] ∈ out.map fldSize := List.mem_map.2 ⟨_, List.getElem_mem hi, rfl⟩
      exact mem_le_sum this
    have h8 : fldSize out[i] = 1 + out[i].nm.size + out[i].g.size := rfl
    rw [gOf_at hi]
    omega
  have := hl.2 i hi
  rw [nmOf_at hi] at this
  have hE := err_of (e1.2 i hi) (e2.2 i hi) (e3.2 i hi) hd hs
  rw [gOf_at hi] at hE
  exact ⟨this, hE⟩
end Go.Proofs.Ytkjijepepbgciaa
