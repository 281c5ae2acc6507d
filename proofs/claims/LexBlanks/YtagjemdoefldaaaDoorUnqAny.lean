/- Contract of utf.Unquote at every text that is not too long: what the plain function says; nothing that was there is changed. Condition: the library's variable for a wrong form can be read. -/
import Derived.Test.YtagjemdoefldaaaDoorNice
import Derived.Test.YtagjemdoefldaaaDoorHexBad
namespace Go.Proofs.YtagjemdoefldaaaDoor
open Go.RowKit

def uRes (s : ByteArray) : List UInt8 × Int := if Lib.hasPrefix s.data.toList [34] = true then unqFrom uRC uOkC s.size (s.extract 1 s.size) [] else ([], 4)

theorem unquote_any (s : ByteArray) (w : World) (hs : 4 * s.size + 16 ≤ 140737488355328) (hv : SynOk w) :
    Calls Tryd.prog 54 #[.string s] w fun e w' => e = .returned (.tuple #[.string ⟨(uRes s).1.toArray⟩, .int .i64 (uRes s).2]) ∧ Below w.heap.size w w' := by
  cases hq : Lib.hasPrefix s.data.toList [34]
  · have e : uRes s = ([], 4) := by simp [uRes, hq]
    rw [e]
    exact unquote_form s w hq
  · have e : uRes s = unqFrom uRC uOkC s.size (s.extract 1 s.size) [] := by simp [uRes, hq]
    rw [e]
    have h1 : 1 ≤ s.size := by
      have hl := (List.isPrefixOf_iff_prefix.1 hq).length_le
      simp at hl
      exact hl
    refine unquote_in uRC uOkC s w hs hq h1 uRC_range uOkC_size ?_ ?_
    · intro k t W _ hk ht _ hB
      have hsz := extract_size s k hk
      rw [← ht] at hsz
      exact unit_any t W (by unfold maxLen; omega) (hv.mono hB)
    · intro k t W _ hk ht ho hB
      have hsz := extract_size s k hk
      rw [← ht] at hsz
      have h6 := uOkC_size t ho
      have hx6 := extract_size t 6 h6
      exact unit_any _ W (by unfold maxLen; omega) (hv.mono hB)
end Go.Proofs.YtagjemdoefldaaaDoor
