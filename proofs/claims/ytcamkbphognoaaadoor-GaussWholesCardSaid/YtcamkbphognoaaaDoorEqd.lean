/- Rows put together, and quotients, in new memory, whatever is shut out. -/
import Derived.Test.YtcamkbphognoaaaDoorEq0
import Derived.Test.YtcamkbphognoaaaDoorEqc
import Derived.Test.YtcamkbphognoaaaDoorXm
namespace Go.Proofs.YtcamkbphognoaaaDoor.Ev
open Go Go.RowKit
set_option linter.unusedSimpArgs false
set_option linter.unusedVariables false
variable {G : World → Prop}
end Go.Proofs.YtcamkbphognoaaaDoor.Ev
