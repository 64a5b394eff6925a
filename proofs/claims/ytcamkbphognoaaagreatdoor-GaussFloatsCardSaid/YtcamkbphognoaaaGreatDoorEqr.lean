/- The document's quotients and roots of dyads. -/
import Derived.Test.YtcamkbphognoaaaGreatDoorXh
import Derived.Test.YtcamkbphognoaaaGreatDoorEq5
import Derived.Test.YtcamkbphognoaaaGreatDoorEvu
import Derived.Test.YtcamkbphognoaaaGreatDoorRefG
namespace Go.Proofs.YtcamkbphognoaaaGreatDoor.Ev
open Go Go.RowKit
set_option linter.unusedSimpArgs false
set_option linter.unusedVariables false
section
variable {G : World → Prop}
end
end Go.Proofs.YtcamkbphognoaaaGreatDoor.Ev
