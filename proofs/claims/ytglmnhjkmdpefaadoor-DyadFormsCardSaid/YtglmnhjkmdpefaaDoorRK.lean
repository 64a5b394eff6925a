/- The first call of the laws of layer 2. -/
import Derived.Test.YtglmnhjkmdpefaaDoorRl
import Derived.Deep.RegionHeld3
import Derived.Deep.DeepCutAuto
namespace Go.Proofs.YtglmnhjkmdpefaaDoor
open Go.RowKit

end Go.Proofs.YtglmnhjkmdpefaaDoor
