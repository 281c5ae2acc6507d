/- The walk of the statement PathApart. -/
import Derived.Test.YtjngbogbbglbnabZPaHold
import Derived.Test.YtjngbogbbglbnabK3
namespace Go.Proofs.Ytjngbogbbglbnab
open Go.RowKit

theorem same_self {w : World} : ∀ {g : GV} {v : Value}, Lies w g v → g.same g = true := by
  intro g
  induction g with
  | nil => intro v h; exact False.elim h
  | mk k n s ln l fn nm f ihl ihf =>
    intro v h
    obtain ⟨la, lc, fa, fc, rfl, _, _, _, _, _, _, _, hl, hf⟩ := h
    simp only [GV.same, decide_true, Bool.true_and, Bool.and_eq_true, List.all_eq_true, List.mem_range]
    refine ⟨fun i hi => ?_, fun i hi => ?_⟩
    · obtain ⟨b, o, v', _, h1, _⟩ := hl i hi
      exact ihl i h1
    · obtain ⟨b, o, v', _, _, _, h1, _⟩ := hf i hi
      exact ihf i h1
/-- That some of the first j steps differ. -/
def apB (a b : List ByteArray) (j : Nat) : Bool := (List.range j).any fun i => !decide (a.getD i ⟨#[]⟩ = b.getD i ⟨#[]⟩)
theorem apB_succ (a b : List ByteArray) (j : Nat) : apB a b (j + 1) = (apB a b j || !decide (a.getD j ⟨#[]⟩ = b.getD j ⟨#[]⟩)) := by
  unfold apB
  rw [List.range_succ, List.any_append]
  simp
theorem parted_at : ∀ (a b : List ByteArray) (i : Nat), i < a.length → i < b.length → a.getD i ⟨#[]⟩ ≠ b.getD i ⟨#[]⟩ → parted a b
  | [], _, i, h, _, _ => absurd h (Nat.not_lt_zero _)
  | _ :: _, [], i, _, h, _ => absurd h (Nat.not_lt_zero _)
  | s :: a, t :: b, 0, _, _, h => Or.inl fun e => h (by simp [e])
  | s :: a, t :: b, i + 1, h1, h2, h => Or.inr (parted_at a b i (by simpa using h1) (by simpa using h2) (by simpa using h))
theorem apB_parted {a b : List ByteArray} {j : Nat} (h : apB a b j = true) (h1 : j ≤ a.length) (h2 : j ≤ b.length) : parted a b := by
  obtain ⟨i, hi, hd⟩ := List.any_eq_true.1 h
  have hi2 : i < j := by simpa using hi
  exact parted_at a b i (by omega) (by omega) (by simpa using hd)
theorem strs_at {w : World} {pa : Option Addr} {a : List ByteArray} (h : Strs w pa a) {i : Nat} (hi : i < a.length) : ∃ b o, pa = some ⟨b, o, none⟩ ∧ w.cell? ⟨b, o + i, none⟩ = some (.string (a.getD i ⟨#[]⟩)) := by
  obtain ⟨b, o, e, hc⟩ := h i hi
  refine ⟨b, o, e, ?_⟩
  rw [hc, List.getD_eq_getElem?_getD, List.getElem?_eq_getElem hi]
  rfl

end Go.Proofs.Ytjngbogbbglbnab
