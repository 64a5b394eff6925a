/- Contracts of package whole: Div, by the signs. -/
import Derived.Test.YtbamplgleeofhaaGreatDoorWb
import Derived.Deep.RegionHeld3
namespace Go.Proofs.YtbamplgleeofhaaGreatDoor
open Go.RowKit

end Go.Proofs.YtbamplgleeofhaaGreatDoor
