/- Contracts of package whole: Div, by the signs. -/
import Derived.Test.YtnnnolmldmbaaaaDoorWb
import Derived.Deep.RegionHeld3
namespace Go.Proofs.YtnnnolmldmbaaaaDoor
open Go.RowKit

end Go.Proofs.YtnnnolmldmbaaaaDoor
