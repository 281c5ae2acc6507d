/- Small facts about trees, for the keys. (No walk.) -/
import Derived.Test.YticbcoklpgfkhaaEnc
import Derived.Test.YticbcoklpgfkhaaSame2
import Derived.Test.YticbcoklpgfkhaaRVar
import Derived.Test.YticbcoklpgfkhaaPut56
import Derived.Test.YticbcoklpgfkhaaRowb
namespace Go.Proofs.Yticbcoklpgfkhaa
open Go.RowKit

theorem mkHid {p : Prop} (h : p) : Hid p := h
def GV.nOk : GV → Bool
  | .nil => false
  | .mk _ n _ _ _ _ _ _ => decide (-9223372036854775808 ≤ n ∧ n ≤ 9223372036854775807)
theorem every_top {p : GV → Bool} {g : GV} (h : g.every p = true) : p g = true := by
  cases g with
  | nil => exact h
  | mk k n s ln l fn nm f => simp only [GV.every, Bool.and_eq_true] at h; exact h.1
theorem every_l {p : GV → Bool} {n s ln l fn nm f} (h : (GV.mk 5 n s ln l fn nm f).every p = true) (i : Nat) (hi : i < ln) : (l i).every p = true := by
  simp only [GV.every, Bool.and_eq_true, if_true] at h
  exact List.all_eq_true.1 h.2 i (by simpa using hi)
theorem every_f {p : GV → Bool} {n s ln l fn nm f} (h : (GV.mk 6 n s ln l fn nm f).every p = true) (i : Nat) (hi : i < fn) : (f i).every p = true := by
  simp only [GV.every, Bool.and_eq_true, if_true] at h
  exact List.all_eq_true.1 h.2 i (by simpa using hi)
theorem empty_eq {s : ByteArray} (h : s.toList.isEmpty = true) : s = ⟨#[]⟩ := by
  have h1 := empty_size h
  have h2 : s = ByteArray.empty := by simpa using h1
  rw [h2]
  rfl
theorem kind_of {k n s ln l fn nm f} (h : (GV.mk k n s ln l fn nm f).formed = true) : k = 1 ∨ k = 2 ∨ k = 3 ∨ k = 4 ∨ k = 5 ∨ k = 6 := by
  unfold GV.formed at h
  by_cases h1 : k = 1
  · exact Or.inl h1
  by_cases h2 : k = 2
  · exact Or.inr (Or.inl h2)
  by_cases h3 : k = 3
  · exact Or.inr (Or.inr (Or.inl h3))
  by_cases h4 : k = 4
  · exact Or.inr (Or.inr (Or.inr (Or.inl h4)))
  by_cases h5 : k = 5
  · exact Or.inr (Or.inr (Or.inr (Or.inr (Or.inl h5))))
  by_cases h6 : k = 6
  · exact Or.inr (Or.inr (Or.inr (Or.inr (Or.inr h6))))
  · simp [h1, h2, h3, h4, h5, h6] at h
/-- What lies in memory has numbers of 64 bits. -/
theorem nOk_lies {w : World} : ∀ {g : GV} {v : Value}, Lies w g v → g.every GV.nOk = true := by
  intro g
  induction g with
  | nil => intro v h; exact False.elim h
  | mk k n s ln l fn nm f ihl ihf =>
    intro v h
    obtain ⟨la, lc, fa, fc, rfl, hk, hn, hs, h4, h5, h6, h7, hl, hf⟩ := h
    simp only [GV.every, Bool.and_eq_true]
    refine ⟨decide_eq_true hn, ?_⟩
    split
    · refine List.all_eq_true.2 fun i hi => ?_
      obtain ⟨_, _, _, _, h, _⟩ := hl i (by simpa using hi)
      exact ihl i h
    · split
      · refine List.all_eq_true.2 fun i hi => ?_
        obtain ⟨_, _, _, _, _, _, h, _⟩ := hf i (by simpa using hi)
        exact ihf i h
      · rfl
theorem err_zeroM {g : GV} (h : g.err = 0) : g.every GV.formed = true ∧ g.every GV.readable = true ∧ g.every GV.limited = true ∧ g.depth ≤ 8 ∧ g.size ≤ 2048 := by
  unfold GV.err at h
  split at h
  · omega
  · split at h
    · omega
    · split at h
      · omega
      · split at h
        · omega
        · split at h
          · omega
          · rename_i a b c d e
            exact ⟨by simpa using a, by simpa using b, by simpa using c, by omega, by omega⟩
theorem err_ofM {g : GV} (h1 : g.every GV.formed = true) (h2 : g.every GV.readable = true) (h3 : g.every GV.limited = true) (h4 : g.depth ≤ 8) (h5 : g.size ≤ 2048) : g.err = 0 := by
  simp [GV.err, h1, h2, h3, show ¬ 8 < g.depth by omega, show ¬ 2048 < g.size by omega]
def pnm (parts : List (ByteArray × GV)) (i : Nat) : ByteArray := (parts[i]?.map Prod.fst).getD ⟨#[]⟩
def pg (parts : List (ByteArray × GV)) (i : Nat) : GV := (parts[i]?.map Prod.snd).getD .nil
/-- A List or a Doc of these parts. -/
def partsG (doc : Bool) (parts : List (ByteArray × GV)) : GV :=
  if doc = true then .mk 6 0 ⟨#[]⟩ 0 (fun _ => .nil) parts.length (pnm parts) (pg parts) else .mk 5 0 ⟨#[]⟩ parts.length (pg parts) 0 (fun _ => ⟨#[]⟩) (fun _ => .nil)
theorem pg_map (fs : List Fl) : pg (fs.map fun f => (f.nm, f.g)) = gOf fs := by
  funext i
  simp [pg, gOf]
  cases fs[i]? <;> rfl
theorem pnm_map (fs : List Fl) : pnm (fs.map fun f => (f.nm, f.g)) = nmOf fs := by
  funext i
  simp [pnm, nmOf]
  cases fs[i]? <;> rfl
end Go.Proofs.Yticbcoklpgfkhaa
