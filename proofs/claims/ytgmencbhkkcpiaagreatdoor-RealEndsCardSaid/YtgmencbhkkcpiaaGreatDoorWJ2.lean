/- Contracts of package whole: Div, by the signs. -/
import Derived.Test.YtgmencbhkkcpiaaGreatDoorWb
import Derived.Deep.RegionHeld3
namespace Go.Proofs.YtgmencbhkkcpiaaGreatDoor
open Go.RowKit

end Go.Proofs.YtgmencbhkkcpiaaGreatDoor
