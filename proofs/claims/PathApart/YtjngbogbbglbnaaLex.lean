/- The walks of slices.CompareFunc at rows of values, and at rows of fields, given what the function that is handed in tells. -/
import Derived.Test.YtjngbogbbglbnaaVF
namespace Go.Proofs.Ytjngbogbbglbnaa
open Go.RowKit

/-- The first that differs tells; else the lengths. -/
def lex (c : Nat → Int) (n1 n2 : Nat) : Int :=
  match (List.range (min n1 n2)).find? (fun i => c i != 0) with
  | some i => c i
  | none => Lib.compareInt n1 n2

theorem lex_at {c : Nat → Int} {n1 n2 j : Nat} (h : ∀ i, i < j → c i = 0) (hj : c j ≠ 0) (h1 : j < n1) (h2 : j < n2) : lex c n1 n2 = c j := by
  unfold lex
  have hm : j < min n1 n2 := by omega
  have : (List.range (min n1 n2)).find? (fun i => c i != 0) = some j := by
    rw [List.find?_range_eq_some]
    refine ⟨by simp [hj], by simpa using hm, fun i hi => by simp [h i hi]⟩
  rw [this]

theorem lex_end {c : Nat → Int} {n1 n2 : Nat} (h : ∀ i, i < min n1 n2 → c i = 0) : lex c n1 n2 = Lib.compareInt n1 n2 := by
  unfold lex
  have : (List.range (min n1 n2)).find? (fun i => c i != 0) = none := by
    rw [List.find?_range_eq_none]
    intro i hi
    simp [h i hi]
  rw [this]

end Go.Proofs.Ytjngbogbbglbnaa
