/- Roots, digit by digit. -/
import Derived.Test.YtcamkbphognoaaaGreatDoorEq3
namespace Go.Proofs.YtcamkbphognoaaaGreatDoor.Ev
open Go Go.RowKit
set_option linter.unusedSimpArgs false
set_option linter.unusedVariables false
theorem Post.lb {Q : Post} {z z' : Int} {b b' : Bool} (h : Q.R (.tup [.sl (N0.ln z) (N0.lm z), .bool b])) (hz : z' = z) (hb : b' = b) : Q.R (.tup [.sl (N0.ln z') (N0.lm z'), .bool b']) := by
  subst hz hb; exact h
end Go.Proofs.YtcamkbphognoaaaGreatDoor.Ev
