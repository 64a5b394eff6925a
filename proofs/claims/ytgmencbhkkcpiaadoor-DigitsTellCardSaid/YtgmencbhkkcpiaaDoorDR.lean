/- Dyads raised: a row made with room, appended to, and shifted. -/
import Derived.Test.YtgmencbhkkcpiaaDoorNormsA
import Derived.Test.YtgmencbhkkcpiaaDoorRM
import Derived.Deep.RegionHeld3
import Derived.Deep.DeepCutAuto
import Derived.Lib.AppendZeros
namespace Go.Proofs.YtgmencbhkkcpiaaDoor
open Go.RowKit

set_option linter.unusedSimpArgs false
set_option linter.unusedVariables false
end Go.Proofs.YtgmencbhkkcpiaaDoor
