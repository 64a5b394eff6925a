/- The first call of the laws of layer 2. -/
import Derived.Test.YtnnnolmldmbaaaaGreatDoorRl
import Derived.Deep.RegionHeld3
import Derived.Deep.DeepCutAuto
import Derived.BigQuiet
import Derived.Deep.QuietTactic
namespace Go.Proofs.YtnnnolmldmbaaaaGreatDoor
open Go.RowKit

end Go.Proofs.YtnnnolmldmbaaaaGreatDoor
/- Contracts of the document's own numbers with a sign: IsInt. -/
namespace Go.Proofs.YtnnnolmldmbaaaaGreatDoor
open Go.RowKit

end Go.Proofs.YtnnnolmldmbaaaaGreatDoor
