/- Words for the walks of layer 2. -/
import Derived.Test.YtgmencbhkkcpiaaGreatDoorRt
import Derived.Test.YtgmencbhkkcpiaaGreatDoorLb
import Derived.Test.YtgmencbhkkcpiaaGreatDoorArgI
import Derived.Deep.RegionHeld3
namespace Go.Proofs.YtgmencbhkkcpiaaGreatDoor
open Go.RowKit

theorem bel_drw {B w : World} (h : Below B.heap.size B w) : Below B.heap.size B w.drew := h.drew
theorem bel_al {B w : World} {o : Obj} (h : Below B.heap.size B w) : Below B.heap.size B (w.alloc o) := bel_next h (bel_alloc _ _)
end Go.Proofs.YtgmencbhkkcpiaaGreatDoor
