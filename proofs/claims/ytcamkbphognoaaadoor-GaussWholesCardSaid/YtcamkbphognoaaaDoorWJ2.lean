/- Contracts of package whole: Div, by the signs. -/
import Derived.Test.YtcamkbphognoaaaDoorWb
import Derived.Deep.RegionHeld3
namespace Go.Proofs.YtcamkbphognoaaaDoor
open Go.RowKit

end Go.Proofs.YtcamkbphognoaaaDoor
