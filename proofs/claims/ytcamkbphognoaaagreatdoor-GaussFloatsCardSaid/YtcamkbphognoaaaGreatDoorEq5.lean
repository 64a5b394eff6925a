/- Package quot: what is divided, and roots. -/
import Derived.Test.YtcamkbphognoaaaGreatDoorEq4
namespace Go.Proofs.YtcamkbphognoaaaGreatDoor.Ev
open Go Go.RowKit
set_option linter.unusedSimpArgs false
set_option linter.unusedVariables false
/-- the exponent of what a quotient is told in multiples of. -/
def qE (X e Y f p : Int) : Int := clampE (topD X e Y f - min (max p 1) 4000 + 1)
theorem Post.dv {Q : Post} {m m' e e' k k' : Int} (h : Q.R (.tup [.agg [.bool (N0.neg m), .sl (N0.ln m) (N0.lm m), .int .i64 e], .int .i64 k])) (h1 : m' = m) (h2 : e' = e) (h3 : k' = k) : Q.R (.tup [.agg [.bool (N0.neg m'), .sl (N0.ln m') (N0.lm m'), .int .i64 e'], .int .i64 k']) := by
  subst h1 h2 h3; exact h
end Go.Proofs.YtcamkbphognoaaaGreatDoor.Ev
