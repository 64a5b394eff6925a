/- The document's quotients and roots of dyads. -/
import Derived.Test.YtgmencbhkkcpiaaGreatDoorXh
import Derived.Test.YtgmencbhkkcpiaaGreatDoorEq5
import Derived.Test.YtgmencbhkkcpiaaGreatDoorEvu
import Derived.Test.YtgmencbhkkcpiaaGreatDoorRefG
namespace Go.Proofs.YtgmencbhkkcpiaaGreatDoor.Ev
open Go Go.RowKit
set_option linter.unusedSimpArgs false
set_option linter.unusedVariables false
section
variable {G : World → Prop}
end
end Go.Proofs.YtgmencbhkkcpiaaGreatDoor.Ev
