/- Digits of roots, by jumps. -/
import Derived.Test.YtcamkbphognoaaaGreatDoorEq2
namespace Go.Proofs.YtcamkbphognoaaaGreatDoor.Ev
open Go Go.RowKit
set_option linter.unusedSimpArgs false
set_option linter.unusedVariables false
theorem Post.two {Q : Post} {z z' y y' : Int} (h : Q.R (.tup [.sl (N0.ln z) (N0.lm z), .sl (N0.ln y) (N0.lm y)])) (hz : z' = z) (hy : y' = y) : Q.R (.tup [.sl (N0.ln z') (N0.lm z'), .sl (N0.ln y') (N0.lm y')]) := by
  subst hz hy; exact h
end Go.Proofs.YtcamkbphognoaaaGreatDoor.Ev
