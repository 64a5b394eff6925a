/- Contracts of package whole: Div, by the signs. -/
import Derived.Test.YtgmencbhkkcpiaaDoorWb
import Derived.Deep.RegionHeld3
namespace Go.Proofs.YtgmencbhkkcpiaaDoor
open Go.RowKit

end Go.Proofs.YtgmencbhkkcpiaaDoor
