/- Contract of path.Add, of any value and any path. -/
import Derived.Test.YtjngbogbbglbnabK2
namespace Go.Proofs.Ytjngbogbbglbnab
open Go.RowKit

end Go.Proofs.Ytjngbogbbglbnab
