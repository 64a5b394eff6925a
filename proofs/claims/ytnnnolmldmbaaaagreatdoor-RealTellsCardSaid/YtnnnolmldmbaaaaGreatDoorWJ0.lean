/- Contracts of package whole: Div, by the signs. -/
import Derived.Test.YtnnnolmldmbaaaaGreatDoorWb
import Derived.Deep.RegionHeld3
namespace Go.Proofs.YtnnnolmldmbaaaaGreatDoor
open Go.RowKit

end Go.Proofs.YtnnnolmldmbaaaaGreatDoor
