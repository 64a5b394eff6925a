/- The first call of the laws of layer 2. -/
import Derived.Test.YtkijhcflomjdbaaDoorRl
import Derived.Deep.RegionHeld3
import Derived.Deep.DeepCutAuto
namespace Go.Proofs.YtkijhcflomjdbaaDoor
open Go.RowKit

end Go.Proofs.YtkijhcflomjdbaaDoor
