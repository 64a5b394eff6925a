/- Contracts of package whole: Div, by the signs. -/
import Derived.Test.YtbamplgleeofhaaDoorWb
import Derived.Deep.RegionHeld3
namespace Go.Proofs.YtbamplgleeofhaaDoor
open Go.RowKit

end Go.Proofs.YtbamplgleeofhaaDoor
