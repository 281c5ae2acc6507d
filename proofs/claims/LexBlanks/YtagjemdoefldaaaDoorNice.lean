/- Contract of utf.Unquote at texts in which each number has its four digits; nothing that was there is changed. -/
import Derived.Test.YtagjemdoefldaaaDoorAwake
import Derived.Test.YtagjemdoefldaaaDoorHex
namespace Go.Proofs.YtagjemdoefldaaaDoor
open Go.RowKit

theorem unquote_nice (s : ByteArray) (res : List UInt8 × Int) (w : World) (hs : 4 * s.size + 16 ≤ 140737488355328) (hq : Lib.hasPrefix s.data.toList [34] = true) (h1 : 1 ≤ s.size) (hn : ∀ k, k ≤ s.size → niceU (s.extract k s.size) = true)
    (hres : unqFrom uRC uOkC s.size (s.extract 1 s.size) [] = res) :
    Calls Tryd.prog 54 #[.string s] w fun e w' => e = .returned (.tuple #[.string ⟨res.1.toArray⟩, .int .i64 res.2]) ∧ Below w.heap.size w w' := by
  subst hres
  refine unquote_in uRC uOkC s w hs hq h1 uRC_range uOkC_size ?_ ?_
  · intro k t W _ hk ht _ _
    have hsz := extract_size s k hk
    rw [← ht] at hsz
    exact unit_nice t W (by unfold maxLen; omega) (by rw [ht]; exact hn k hk)
  · intro k t W _ hk ht ho _
    have hsz := extract_size s k hk
    rw [← ht] at hsz
    have h6 := uOkC_size t ho
    have hx6 := extract_size t 6 h6
    refine unit_nice _ W (by unfold maxLen; omega) ?_
    rw [ht, extract_rest s k 6 (by omega)]
    exact hn (k + 6) (by omega)
end Go.Proofs.YtagjemdoefldaaaDoor
