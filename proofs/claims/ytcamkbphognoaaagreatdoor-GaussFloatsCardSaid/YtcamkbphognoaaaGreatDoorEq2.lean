/- Digits of quotients and roots, by jumps. -/
import Derived.Test.YtcamkbphognoaaaGreatDoorEq1
namespace Go.Proofs.YtcamkbphognoaaaGreatDoor.Ev
open Go Go.RowKit
set_option linter.unusedSimpArgs false
set_option linter.unusedVariables false
theorem ln_pos_iff (x : Nat) : (0 : Int) < ((N0.ln (x : Nat) : Nat) : Int) ↔ x ≠ 0 := by
  have h : N0.ln (x : Nat) = ln x := rfl
  rw [h]
  have := ln_zero_iff (n := x)
  omega
theorem Post.q {Q : Post} {n n' : Nat} {cs cs' : List D} {b b' : Bool} (h : Q.R (.tup [.sl n cs, .bool b])) (h1 : n = n') (h2 : cs' = cs) (h3 : b = b') : Q.R (.tup [.sl n' cs', .bool b']) := by
  subst h1 h2 h3; exact h
end Go.Proofs.YtcamkbphognoaaaGreatDoor.Ev
