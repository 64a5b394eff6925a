/- The laws of rounding: what they lean on. -/
import Derived.Test.YtcamkbphognoaaaGreatDoorEvu
import Derived.Test.YtcamkbphognoaaaGreatDoorXp
namespace Go.Proofs.YtcamkbphognoaaaGreatDoor.Ev
open Go Go.RowKit
set_option linter.unusedSimpArgs false
set_option linter.unusedVariables false
/-- a whole number that is rounded to multiples of U, as a multiple. -/
def rd (mode v U : Int) : Int :=
  if mode = 0 then v / U else if mode = 1 then -((-v) / U) else
  if U < 2 * (v % U) ∨ (U = 2 * (v % U) ∧ (v / U).natAbs % 2 = 1) then v / U + 1 else v / U
theorem tmI_oddN {m : Int} (h : m ≠ 0) : (tmI m).natAbs % 2 = 1 := (tz0_iff (by have := tmI_ne h; omega)).1 (tmI_odd h)
theorem k2 : tmI 2 = 1 := tmI_is (k := 1) (by decide) (by decide) (by decide)
theorem k4 : tmI 4 = 1 := tmI_is (k := 2) (by decide) (by decide) (by decide)
end Go.Proofs.YtcamkbphognoaaaGreatDoor.Ev
/- Rounding: what the laws of grids, halves and of rounding twice lean on. -/
namespace Go.Proofs.YtcamkbphognoaaaGreatDoor.Ev
open Go Go.RowKit
set_option linter.unusedSimpArgs false
set_option linter.unusedVariables false
end Go.Proofs.YtcamkbphognoaaaGreatDoor.Ev
