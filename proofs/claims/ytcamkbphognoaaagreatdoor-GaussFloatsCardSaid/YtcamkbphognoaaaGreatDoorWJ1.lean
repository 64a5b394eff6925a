/- Contracts of package whole: Div, by the signs. -/
import Derived.Test.YtcamkbphognoaaaGreatDoorWb
import Derived.Deep.RegionHeld3
namespace Go.Proofs.YtcamkbphognoaaaGreatDoor
open Go.RowKit

end Go.Proofs.YtcamkbphognoaaaGreatDoor
