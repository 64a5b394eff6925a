/- What an argument that is a dyad reads as, as data. -/
import Derived.Test.YtcamkbphognoaaaDoorArgI
import Derived.Test.YtcamkbphognoaaaDoorXp
namespace Go.Proofs.YtcamkbphognoaaaDoor.Ev
open Go Go.RowKit Go.ChangeShapes Go.WideShapes Go.ChangeAt
set_option linter.unusedSimpArgs false
set_option linter.unusedVariables false

theorem denL0 {E : Env} : denL E [] [] := by simp only [denL]
theorem denL1 {E : Env} {d : D} {v : Value} {ds : List D} {vs : List Value} (h : den E d v) (k : denL E ds vs) : denL E (d :: ds) (v :: vs) := by
  simp only [denL]; exact ⟨_, _, rfl, h, k⟩
theorem den_i {E : Env} (k : IntKind) (z : Int) : den E (.int k z) (.int k z) := by simp only [den]
end Go.Proofs.YtcamkbphognoaaaDoor.Ev
/- What the table of modes reads as. -/
namespace Go.Proofs.YtcamkbphognoaaaDoor.Ev
open Go Go.RowKit Go.ChangeShapes Go.WideShapes Go.ChangeAt
set_option linter.unusedSimpArgs false
set_option linter.unusedVariables false
end Go.Proofs.YtcamkbphognoaaaDoor.Ev
