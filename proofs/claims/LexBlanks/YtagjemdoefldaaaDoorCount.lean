/- Contract of utf.Count: of a text of characters how many they are, of any other the error 11; nothing that was there is changed. -/
import Derived.Test.YtagjemdoefldaaaDoorTexts
namespace Go.Proofs.YtagjemdoefldaaaDoor
open Go.RowKit

theorem rest_end (s : ByteArray) (pos : Nat) (h : s.data.toList.drop pos = bytesOf []) : ¬ pos < s.size := by
  have := congrArg List.length h
  rw [List.length_drop, size_list, bytesOf_nil, List.length_nil] at this
  omega

end Go.Proofs.YtagjemdoefldaaaDoor
