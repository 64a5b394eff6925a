/- The document's rounding of dyads. -/
import Derived.Test.YtgmencbhkkcpiaaGreatDoorEvq
import Derived.Test.YtgmencbhkkcpiaaGreatDoorEvo
namespace Go.Proofs.YtgmencbhkkcpiaaGreatDoor.Ev
open Go Go.RowKit
set_option linter.unusedSimpArgs false
set_option linter.unusedVariables false
end Go.Proofs.YtgmencbhkkcpiaaGreatDoor.Ev
