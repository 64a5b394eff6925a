/- What nat's functions ask and tell, as data. -/
import Derived.Test.YtcamkbphognoaaaGreatDoorEvd
import Derived.Test.YtcamkbphognoaaaGreatDoorRoot
namespace Go.Proofs.YtcamkbphognoaaaGreatDoor.Ev
open Go Go.RowKit
set_option linter.unusedSimpArgs false
set_option linter.unusedVariables false
variable {G : World → Prop}
end Go.Proofs.YtcamkbphognoaaaGreatDoor.Ev
