/- Contract of the helper 'same' where both rows hold the same characters. -/
import Derived.Test.YtagjemdoefldaaaDoorTextW
import Derived.BigQuiet
namespace Go.Proofs.YtagjemdoefldaaaDoor
open Go.RowKit

theorem below_drewN {B : Nat} {a w : World} (h : Below B a w) (q : Nat) : Below B a (w.drewN q) := ⟨h.os, h.tape, h.output, h.size, h.block⟩

end Go.Proofs.YtagjemdoefldaaaDoor
