/- Quotients and roots: what they are as numbers. -/
import Derived.Test.YtcamkbphognoaaaGreatDoorXv
import Derived.Test.YtcamkbphognoaaaGreatDoorRoot
namespace Go.Proofs.YtcamkbphognoaaaGreatDoor.Ev
open Go Go.RowKit
set_option linter.unusedSimpArgs false
set_option linter.unusedVariables false
/-- the side of a mode: any but up is down. -/
def sideI (mode : Int) : Int := if mode = 1 then 1 else 0
/-- the floor of N times two to the power of k. -/
def scaleN (N : Nat) (k : Int) : Nat := if 0 ≤ k then N * 2 ^ k.toNat else N / 2 ^ (-k).toNat
/-- the greatest t such that two to the power of t isn't more than M by N. -/
def topQ (M N : Nat) : Int := if scaleN M (-((nb M : Int) - nb N)) < N then (nb M : Int) - nb N - 1 else (nb M : Int) - nb N
theorem nb_pos {N : Nat} (h : N ≠ 0) : 1 ≤ nb N := by unfold nb; rw [if_neg h]; omega
end Go.Proofs.YtcamkbphognoaaaGreatDoor.Ev
/- Quotients and roots of dyads, as the program and as the document make them. -/
namespace Go.Proofs.YtcamkbphognoaaaGreatDoor.Ev
open Go Go.RowKit
set_option linter.unusedSimpArgs false
set_option linter.unusedVariables false
/-- x by y, as a multiple of two to the power of E, on a mode's side. -/
def qm (X e Y f E mode : Int) : Int := rd (sideI mode) (X * sg Y * 2 ^ (e - f - E).toNat) ((Y.natAbs * 2 ^ (f + E - e).toNat : Nat) : Int)
theorem sg_tm (Y : Int) : sg (tmI Y) = sg Y := by
  have := sg_pow (tmI Y) (tz Y.natAbs)
  rw [tmI_mul] at this
  exact this.symm
/-- where the topmost bit of a quotient lies. -/
def topD (X e Y f : Int) : Int := topQ X.natAbs Y.natAbs + e - f
end Go.Proofs.YtcamkbphognoaaaGreatDoor.Ev
