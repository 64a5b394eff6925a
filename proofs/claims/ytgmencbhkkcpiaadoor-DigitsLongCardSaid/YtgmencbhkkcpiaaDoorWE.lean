/- Contracts of package whole: Mul. -/
import Derived.Test.YtgmencbhkkcpiaaDoorWa
import Derived.Test.YtgmencbhkkcpiaaDoorLa
import Derived.Deep.RegionHeld3
namespace Go.Proofs.YtgmencbhkkcpiaaDoor
open Go.RowKit

end Go.Proofs.YtgmencbhkkcpiaaDoor
