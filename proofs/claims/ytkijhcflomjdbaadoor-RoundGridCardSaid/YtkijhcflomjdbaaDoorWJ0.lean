/- Contracts of package whole: Div, by the signs. -/
import Derived.Test.YtkijhcflomjdbaaDoorWb
import Derived.Deep.RegionHeld3
namespace Go.Proofs.YtkijhcflomjdbaaDoor
open Go.RowKit

end Go.Proofs.YtkijhcflomjdbaaDoor
