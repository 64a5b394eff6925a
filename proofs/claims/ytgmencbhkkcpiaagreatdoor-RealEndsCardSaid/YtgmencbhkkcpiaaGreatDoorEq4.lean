/- Roots, digit by digit. -/
import Derived.Test.YtgmencbhkkcpiaaGreatDoorEq3
namespace Go.Proofs.YtgmencbhkkcpiaaGreatDoor.Ev
open Go Go.RowKit
set_option linter.unusedSimpArgs false
set_option linter.unusedVariables false
/-- how many digits are told next. -/
def rN (cs : List D) (i : Nat) : Nat := min (ln (rt (vL (cs.drop i)).toNat) - 1) (i / 2)
theorem Post.lb {Q : Post} {z z' : Int} {b b' : Bool} (h : Q.R (.tup [.sl (N0.ln z) (N0.lm z), .bool b])) (hz : z' = z) (hb : b' = b) : Q.R (.tup [.sl (N0.ln z') (N0.lm z'), .bool b']) := by
  subst hz hb; exact h
end Go.Proofs.YtgmencbhkkcpiaaGreatDoor.Ev
