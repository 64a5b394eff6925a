/- The laws of quotients and roots: what they lean on. -/
import Derived.Test.YtgmencbhkkcpiaaGreatDoorEq5
namespace Go.Proofs.YtgmencbhkkcpiaaGreatDoor.Ev
open Go Go.RowKit
set_option linter.unusedSimpArgs false
set_option linter.unusedVariables false
theorem sg_mul (X Y : Int) : sg X * sg Y = sg (X * Y) := by
  have h := sg_mulW X Y
  rw [wrap_in (by rcases sg_cases X with ⟨_, h2⟩ | ⟨_, h2⟩ | ⟨_, h2⟩ <;> rcases sg_cases Y with ⟨_, h4⟩ | ⟨_, h4⟩ | ⟨_, h4⟩ <;> rw [h2, h4] <;> decide) (by rcases sg_cases X with ⟨_, h2⟩ | ⟨_, h2⟩ | ⟨_, h2⟩ <;> rcases sg_cases Y with ⟨_, h4⟩ | ⟨_, h4⟩ | ⟨_, h4⟩ <;> rw [h2, h4] <;> decide)] at h
  exact h
end Go.Proofs.YtgmencbhkkcpiaaGreatDoor.Ev
/- The laws of quotients and roots: what fits, roots, thirds. -/
namespace Go.Proofs.YtgmencbhkkcpiaaGreatDoor.Ev
open Go Go.RowKit
set_option linter.unusedSimpArgs false
set_option linter.unusedVariables false
end Go.Proofs.YtgmencbhkkcpiaaGreatDoor.Ev
