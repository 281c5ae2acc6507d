/- Contract of path.Add, of any value and any path. -/
import Derived.Test.YtjngbogbbglbnabK1
namespace Go.Proofs.Ytjngbogbbglbnab
open Go.RowKit

end Go.Proofs.Ytjngbogbbglbnab
