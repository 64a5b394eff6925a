/- The document's rounding of dyads. -/
import Derived.Test.YtcamkbphognoaaaGreatDoorEvq
import Derived.Test.YtcamkbphognoaaaGreatDoorEvo
namespace Go.Proofs.YtcamkbphognoaaaGreatDoor.Ev
open Go Go.RowKit
set_option linter.unusedSimpArgs false
set_option linter.unusedVariables false
end Go.Proofs.YtcamkbphognoaaaGreatDoor.Ev
