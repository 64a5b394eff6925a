/- The first call of the laws of layer 2. -/
import Derived.Test.YtcamkbphognoaaaDoorRl
import Derived.Deep.RegionHeld3
import Derived.Deep.DeepCutAuto
import Derived.BigQuiet
import Derived.Deep.QuietTactic
namespace Go.Proofs.YtcamkbphognoaaaDoor
open Go.RowKit

end Go.Proofs.YtcamkbphognoaaaDoor
/- Contracts of the document's own numbers with a sign: IsInt. -/
namespace Go.Proofs.YtcamkbphognoaaaDoor
open Go.RowKit

end Go.Proofs.YtcamkbphognoaaaDoor
