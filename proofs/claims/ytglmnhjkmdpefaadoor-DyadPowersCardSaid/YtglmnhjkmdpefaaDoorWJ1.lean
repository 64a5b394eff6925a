/- Contracts of package whole: Div, by the signs. -/
import Derived.Test.YtglmnhjkmdpefaaDoorWb
import Derived.Deep.RegionHeld3
namespace Go.Proofs.YtglmnhjkmdpefaaDoor
open Go.RowKit

end Go.Proofs.YtglmnhjkmdpefaaDoor
