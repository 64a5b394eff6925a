/- The document's rounding of dyads. -/
import Derived.Test.YtcamkbphognoaaaDoorEvq
import Derived.Test.YtcamkbphognoaaaDoorEvo
namespace Go.Proofs.YtcamkbphognoaaaDoor.Ev
open Go Go.RowKit
set_option linter.unusedSimpArgs false
set_option linter.unusedVariables false
end Go.Proofs.YtcamkbphognoaaaDoor.Ev
