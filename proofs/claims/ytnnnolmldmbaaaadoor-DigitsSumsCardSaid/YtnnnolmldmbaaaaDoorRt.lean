/- The first call of the laws of layer 2. -/
import Derived.Test.YtnnnolmldmbaaaaDoorRl
import Derived.Deep.RegionHeld3
import Derived.Deep.DeepCutAuto
import Derived.BigQuiet
import Derived.Deep.QuietTactic
namespace Go.Proofs.YtnnnolmldmbaaaaDoor
open Go.RowKit

end Go.Proofs.YtnnnolmldmbaaaaDoor
/- Contracts of the document's own numbers with a sign: IsInt. -/
namespace Go.Proofs.YtnnnolmldmbaaaaDoor
open Go.RowKit

theorem is_lenI {xs : List Nat} {n : Nat} (hx : Ok xs) (hl : xs.length = n) : (((ln (val xs) : Nat) : Int) == (n : Int)) = decide (lim (val xs) = xs) := by
  subst hl
  rw [Bool.eq_iff_iff, beq_iff_eq, decide_eq_true_iff]
  constructor
  · intro h
    rw [lim_val_take hx, List.take_of_length_le (by omega)]
  · intro h
    show ((lim (val xs)).length : Int) = _
    rw [h]
end Go.Proofs.YtnnnolmldmbaaaaDoor
