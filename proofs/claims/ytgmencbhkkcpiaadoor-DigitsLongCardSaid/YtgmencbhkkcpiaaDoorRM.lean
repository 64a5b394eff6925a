/- Words for the walks of layer 2. -/
import Derived.Test.YtgmencbhkkcpiaaDoorRt
import Derived.Test.YtgmencbhkkcpiaaDoorLb
import Derived.Test.YtgmencbhkkcpiaaDoorArgI
import Derived.Deep.RegionHeld3
namespace Go.Proofs.YtgmencbhkkcpiaaDoor
open Go.RowKit

end Go.Proofs.YtgmencbhkkcpiaaDoor
