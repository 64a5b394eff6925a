/- Contracts of the document's own numbers with a sign: Sign, Neg. -/
import Derived.Test.YtgmencbhkkcpiaaDoorRM
import Derived.Test.YtgmencbhkkcpiaaDoorRg
import Derived.Deep.RegionHeld3
namespace Go.Proofs.YtgmencbhkkcpiaaDoor
open Go.RowKit

end Go.Proofs.YtgmencbhkkcpiaaDoor
