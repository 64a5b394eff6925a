/- Rows put together, and quotients, in new memory, whatever is shut out. -/
import Derived.Test.YtcamkbphognoaaaGreatDoorEq0
import Derived.Test.YtcamkbphognoaaaGreatDoorEqc
import Derived.Test.YtcamkbphognoaaaGreatDoorXm
namespace Go.Proofs.YtcamkbphognoaaaGreatDoor.Ev
open Go Go.RowKit
set_option linter.unusedSimpArgs false
set_option linter.unusedVariables false
variable {G : World → Prop}
end Go.Proofs.YtcamkbphognoaaaGreatDoor.Ev
