/- Digits of roots, by jumps. -/
import Derived.Test.YtgmencbhkkcpiaaGreatDoorEq2
namespace Go.Proofs.YtgmencbhkkcpiaaGreatDoor.Ev
open Go Go.RowKit
set_option linter.unusedSimpArgs false
set_option linter.unusedVariables false
theorem okN {x b : Nat} (h : x < 2 ^ b) (hb : b ≤ 3200000) : okC (N0.ln ((x : Nat) : Int)) (N0.lm ((x : Nat) : Int)) := okC_fitN (k := b) (by unfold Fit; rw [Int.natAbs_natCast]; exact h) hb
theorem ln_okN {x b c : Nat} (h : x < 2 ^ b) (hb : b ≤ 32 * c) : N0.ln ((x : Nat) : Int) ≤ c := Fit.ln (k := b) (by unfold Fit; rw [Int.natAbs_natCast]; exact h) hb
theorem Post.two {Q : Post} {z z' y y' : Int} (h : Q.R (.tup [.sl (N0.ln z) (N0.lm z), .sl (N0.ln y) (N0.lm y)])) (hz : z' = z) (hy : y' = y) : Q.R (.tup [.sl (N0.ln z') (N0.lm z'), .sl (N0.ln y') (N0.lm y')]) := by
  subst hz hy; exact h
end Go.Proofs.YtgmencbhkkcpiaaGreatDoor.Ev
