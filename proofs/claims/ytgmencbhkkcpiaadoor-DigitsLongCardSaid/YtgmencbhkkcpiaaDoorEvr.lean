/- The document's numbers with a sign, and its dyads. -/
import Derived.Test.YtgmencbhkkcpiaaDoorEve
namespace Go.Proofs.YtgmencbhkkcpiaaDoor.Ev
open Go Go.RowKit
set_option linter.unusedSimpArgs false
set_option linter.unusedVariables false
theorem vL_N0n (z : Int) : (vL (N0.lm z)).toNat = z.natAbs := by rw [vL_N0]; rfl
theorem vI_mk (s : Bool) (z : Int) : vI s (N0.lm z) = sgn s z.natAbs := by
  unfold vI N0
  dsimp only
  rw [nums_u32s, val_lim]
def sameI (x y : D) : Bool := (dcs x).1 == (dcs y).1 && decide ((dcs x).2 = (dcs y).2)
theorem sameI_N0 (a b : Int) (r r' : List D) : sameI (.agg (.bool (N0.neg a) :: .sl (N0.ln a) (N0.lm a) :: r)) (.agg (.bool (N0.neg b) :: .sl (N0.ln b) (N0.lm b) :: r')) = decide (a = b) := by
  unfold sameI
  simp only [dcs]
  rw [Bool.eq_iff_iff]
  rw [Bool.and_eq_true, beq_iff_eq, decide_eq_true_eq]
  constructor
  · rintro ⟨h1, h2⟩
    have h3 := vI_N0 a
    have h4 := vI_N0 b
    unfold vI at h3 h4
    rw [← h3, ← h4, h1, of_decide_eq_true h2]
  · rintro rfl; exact ⟨rfl, decide_eq_true rfl⟩
def s_rSameI : FnSpec := sp2 (.one .b) (fun x y => okI x ∧ okI y) (fun _ _ _ => 0) (fun x y _ => sameI x y)
theorem Post.I {Q : Post} {m m' : Int} (h : Q.R (.agg [.bool (N0.neg m), .sl (N0.ln m) (N0.lm m)])) (hm : m = m') : Q.R (.agg [.bool (N0.neg m'), .sl (N0.ln m') (N0.lm m')]) := by
  subst hm; exact h
theorem Post.T {Q : Post} {a b a' b' : Int} (h : Q.R (.tup [.agg [.bool (N0.neg a), .sl (N0.ln a) (N0.lm a)], .agg [.bool (N0.neg b), .sl (N0.ln b) (N0.lm b)], .bool true])) (h1 : a = a' ∧ b = b') : Q.R (.tup [.agg [.bool (N0.neg a'), .sl (N0.ln a') (N0.lm a')], .agg [.bool (N0.neg b'), .sl (N0.ln b') (N0.lm b')], .bool true]) := by
  obtain ⟨rfl, rfl⟩ := h1; exact h
end Go.Proofs.YtgmencbhkkcpiaaDoor.Ev
