/- The walk of slices.CompareFunc at rows of fields, given what the function that is handed in tells. -/
import Derived.Test.YtjngbogbbglbnaaLex
namespace Go.Proofs.Ytjngbogbbglbnaa
open Go.RowKit

end Go.Proofs.Ytjngbogbbglbnaa
