/- What nat's functions ask and tell, as data. -/
import Derived.Test.YtcamkbphognoaaaDoorEvd
import Derived.Test.YtcamkbphognoaaaDoorRoot
namespace Go.Proofs.YtcamkbphognoaaaDoor.Ev
open Go Go.RowKit
set_option linter.unusedSimpArgs false
set_option linter.unusedVariables false
variable {G : World → Prop}
end Go.Proofs.YtcamkbphognoaaaDoor.Ev
