/- Contracts of package whole: Cmp. -/
import Derived.Test.YtgmencbhkkcpiaaDoorWE
import Derived.Deep.RegionHeld3
import Derived.Test.YtgmencbhkkcpiaaDoorDv
namespace Go.Proofs.YtgmencbhkkcpiaaDoor
open Go.RowKit

end Go.Proofs.YtgmencbhkkcpiaaDoor
/- Contracts of package whole: Shr. -/
namespace Go.Proofs.YtgmencbhkkcpiaaDoor
open Go.RowKit

end Go.Proofs.YtgmencbhkkcpiaaDoor
/- Contracts of package whole: Of. -/
namespace Go.Proofs.YtgmencbhkkcpiaaDoor
open Go.RowKit

end Go.Proofs.YtgmencbhkkcpiaaDoor
/- Contracts of package whole: Small. -/
namespace Go.Proofs.YtgmencbhkkcpiaaDoor
open Go.RowKit

theorem vt_one (d : Nat → Nat) : vt d 1 = d 0 := by simp [vt]
/-- what fits into 64 bits. -/
def fits (Z : Int) : Bool := decide (-9223372036854775808 ≤ Z ∧ Z ≤ 9223372036854775807)
end Go.Proofs.YtgmencbhkkcpiaaDoor
/- Contracts of package whole: Div. -/
namespace Go.Proofs.YtgmencbhkkcpiaaDoor
open Go.RowKit

end Go.Proofs.YtgmencbhkkcpiaaDoor
