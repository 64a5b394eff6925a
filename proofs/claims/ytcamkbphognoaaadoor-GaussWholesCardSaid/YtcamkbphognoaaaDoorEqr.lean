/- The document's quotients and roots of dyads. -/
import Derived.Test.YtcamkbphognoaaaDoorXh
import Derived.Test.YtcamkbphognoaaaDoorEq5
import Derived.Test.YtcamkbphognoaaaDoorEvu
import Derived.Test.YtcamkbphognoaaaDoorRefG
namespace Go.Proofs.YtcamkbphognoaaaDoor.Ev
open Go Go.RowKit
set_option linter.unusedSimpArgs false
set_option linter.unusedVariables false
section
variable {G : World → Prop}
end
end Go.Proofs.YtcamkbphognoaaaDoor.Ev
