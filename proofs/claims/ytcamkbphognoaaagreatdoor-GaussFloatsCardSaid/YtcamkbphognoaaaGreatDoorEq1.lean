/- Package quot: divided, and roots. -/
import Derived.Test.YtcamkbphognoaaaGreatDoorEve
import Derived.Test.YtcamkbphognoaaaGreatDoorEqd
namespace Go.Proofs.YtcamkbphognoaaaGreatDoor.Ev
open Go Go.RowKit
set_option linter.unusedSimpArgs false
set_option linter.unusedVariables false
theorem val_cons (x : Nat) (xs : List Nat) : val (x :: xs) = x + Bs * val xs := by
  have h := val_drop_succ (x :: xs) 0
  rw [List.drop_zero, List.drop_succ_cons, List.drop_zero, dig_cons_zero] at h
  exact h
theorem Post.l {Q : Post} {z z' : Int} (h : Q.R (.sl (N0.ln z) (N0.lm z))) (hz : z = z') : Q.R (.sl (N0.ln z') (N0.lm z')) := hz ▸ h
end Go.Proofs.YtcamkbphognoaaaGreatDoor.Ev
