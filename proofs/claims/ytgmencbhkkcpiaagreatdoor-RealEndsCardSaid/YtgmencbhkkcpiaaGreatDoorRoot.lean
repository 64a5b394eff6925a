/- Contracts: above, Root. -/
import Derived.Test.YtgmencbhkkcpiaaGreatDoorDv
import Derived.Deep.LoopGhost
namespace Go.Proofs.YtgmencbhkkcpiaaGreatDoor
open Go.RowKit

/-- the greatest number whose square isn't more. -/
def rt : Nat → Nat
  | 0 => 0
  | n + 1 => if (rt n + 1) * (rt n + 1) ≤ n + 1 then rt n + 1 else rt n
theorem rt_spec (N : Nat) : rt N * rt N ≤ N ∧ N < (rt N + 1) * (rt N + 1) := by
  induction N with
  | zero => exact ⟨Nat.le_refl _, by decide⟩
  | succ n ih =>
    unfold rt
    split
    · rename_i h
      refine ⟨h, ?_⟩
      have : (rt n + 1 + 1) * (rt n + 1 + 1) = (rt n + 1) * (rt n + 1) + 2 * (rt n + 1) + 1 := by grind
      omega
    · rename_i h
      exact ⟨by omega, by omega⟩
theorem rt_unique {N r : Nat} (h1 : r * r ≤ N) (h2 : N < (r + 1) * (r + 1)) : rt N = r := by
  obtain ⟨h3, h4⟩ := rt_spec N
  apply Nat.le_antisymm
  · apply Nat.le_of_not_lt
    intro c
    have : (r + 1) * (r + 1) ≤ rt N * rt N := Nat.mul_le_mul c c
    omega
  · apply Nat.le_of_not_lt
    intro c
    have : (rt N + 1) * (rt N + 1) ≤ r * r := Nat.mul_le_mul c c
    omega
end Go.Proofs.YtgmencbhkkcpiaaGreatDoor
