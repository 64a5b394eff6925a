import Derived.Test.YtkfojbelnemhbaaGreatDoorHi0
import Derived.Test.YtkfojbelnemhbaaGreatDoorHi1
import Derived.Test.YtkfojbelnemhbaaGreatDoorHi2
set_option linter.all false
namespace Go.Proofs.YtkfojbelnemhbaaGreatDoor.Ev
open Go Go.RowKit
def s_RectTells : FnSpec := ⟨.one .b, fun ds => match ds with | [x, y, c, .int .i64 n] => okXP x ∧ okXP y ∧ okX c | _ => False, fun _ _ => 0, fun _ _ => true, fun _ _ => 0, fun _ _ => []⟩
theorem RectTells_arg {ds : List D} (h : s_RectTells.p ds) : ∃ x y c n, ds = [x, y, c, .int .i64 n] ∧ okXP x ∧ okXP y ∧ okX c := by
 unfold s_RectTells at h
 dsimp only at h
 split at h
 ·exact ⟨_, _, _, _, rfl, h⟩
 ·exact h.elim
theorem good_RectTells : Good Tryz.prog (GWL [0, 1, 2, 3, 4, 5, 6]) N0 3 s_RectTells := by
 refine ⟨good_RectTells0.1, fun ds hp => ?_⟩
 obtain ⟨x, y, c, n, rfl, h⟩ := RectTells_arg hp
 rcases two_b (meetB (rv8 x).1 (rv8 y).1) (meetB (rv8 x).2 (rv8 y).2) with k | k | k
 ·exact good_RectTells0.2 _ ⟨h, k⟩
 ·exact good_RectTells1.2 _ ⟨h, k⟩
 ·exact good_RectTells2.2 _ ⟨h, k⟩
end Go.Proofs.YtkfojbelnemhbaaGreatDoor.Ev
