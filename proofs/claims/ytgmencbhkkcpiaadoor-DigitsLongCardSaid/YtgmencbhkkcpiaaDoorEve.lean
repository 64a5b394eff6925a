/- Dyads: order and sums. -/
import Derived.Test.YtgmencbhkkcpiaaDoorEvd
import Derived.Test.YtgmencbhkkcpiaaDoorDR
namespace Go.Proofs.YtgmencbhkkcpiaaDoor.Ev
open Go Go.RowKit
set_option linter.unusedSimpArgs false
set_option linter.unusedVariables false
end Go.Proofs.YtgmencbhkkcpiaaDoor.Ev
