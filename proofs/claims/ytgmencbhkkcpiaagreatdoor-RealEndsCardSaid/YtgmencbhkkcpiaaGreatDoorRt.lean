/- The first call of the laws of layer 2. -/
import Derived.Test.YtgmencbhkkcpiaaGreatDoorRl
import Derived.Deep.RegionHeld3
import Derived.Deep.DeepCutAuto
import Derived.BigQuiet
import Derived.Deep.QuietTactic
namespace Go.Proofs.YtgmencbhkkcpiaaGreatDoor
open Go.RowKit

end Go.Proofs.YtgmencbhkkcpiaaGreatDoor
/- Contracts of the document's own numbers with a sign: IsInt. -/
namespace Go.Proofs.YtgmencbhkkcpiaaGreatDoor
open Go.RowKit

end Go.Proofs.YtgmencbhkkcpiaaGreatDoor
