/- The document's numbers with a sign, and its dyads. -/
import Derived.Test.YtgmencbhkkcpiaaGreatDoorEve
namespace Go.Proofs.YtgmencbhkkcpiaaGreatDoor.Ev
open Go Go.RowKit
set_option linter.unusedSimpArgs false
set_option linter.unusedVariables false
theorem vL_N0n (z : Int) : (vL (N0.lm z)).toNat = z.natAbs := by rw [vL_N0]; rfl
theorem vI_mk (s : Bool) (z : Int) : vI s (N0.lm z) = sgn s z.natAbs := by
  unfold vI N0
  dsimp only
  rw [nums_u32s, val_lim]
theorem sgn_neg (z : Int) : sgn (N0.neg z) z.natAbs = z := sgn_of z
theorem neg_N0 (z : Int) : N0.neg z = decide (z < 0) := rfl
def sameI (x y : D) : Bool := (dcs x).1 == (dcs y).1 && decide ((dcs x).2 = (dcs y).2)
theorem sameI_N0 (a b : Int) (r r' : List D) : sameI (.agg (.bool (N0.neg a) :: .sl (N0.ln a) (N0.lm a) :: r)) (.agg (.bool (N0.neg b) :: .sl (N0.ln b) (N0.lm b) :: r')) = decide (a = b) := by
  unfold sameI
  simp only [dcs]
  rw [Bool.eq_iff_iff]
  rw [Bool.and_eq_true, beq_iff_eq, decide_eq_true_eq]
  constructor
  · rintro ⟨h1, h2⟩
    have h3 := vI_N0 a
    have h4 := vI_N0 b
    unfold vI at h3 h4
    rw [← h3, ← h4, h1, of_decide_eq_true h2]
  · rintro rfl; exact ⟨rfl, decide_eq_true rfl⟩
def s_rSameI : FnSpec := sp2 (.one .b) (fun x y => okI x ∧ okI y) (fun _ _ _ => 0) (fun x y _ => sameI x y)
theorem Post.I {Q : Post} {m m' : Int} (h : Q.R (.agg [.bool (N0.neg m), .sl (N0.ln m) (N0.lm m)])) (hm : m = m') : Q.R (.agg [.bool (N0.neg m'), .sl (N0.ln m') (N0.lm m')]) := by
  subst hm; exact h
theorem Post.T {Q : Post} {a b a' b' : Int} (h : Q.R (.tup [.agg [.bool (N0.neg a), .sl (N0.ln a) (N0.lm a)], .agg [.bool (N0.neg b), .sl (N0.ln b) (N0.lm b)], .bool true])) (h1 : a = a' ∧ b = b') : Q.R (.tup [.agg [.bool (N0.neg a'), .sl (N0.ln a') (N0.lm a')], .agg [.bool (N0.neg b'), .sl (N0.ln b') (N0.lm b')], .bool true]) := by
  obtain ⟨rfl, rfl⟩ := h1; exact h
set_option maxRecDepth 100000 in
set_option maxHeartbeats 2000000 in
theorem good_rSameI : Good Tryz.prog (GWL [0, 1]) N0 32 s_rSameI := by
  refine goodL (l := [0, 1]) (tab := [(48, s_rSame)]) (shs := [(48, .one .b)]) rfl ⟨good_rSame, trivial⟩ Tryz.f32 (by kernel_rfl) (by kernel_rfl) (by kernel_rfl) (fun ds hp F A Q hF hA hQ => ⟨0, ?_⟩)
  obtain ⟨x, y, rfl, hx, hy⟩ := sp2_arg hp
  obtain ⟨s, n, cs, rfl, hc⟩ := okI_arg hx
  obtain ⟨t, m, es, rfl, hc2⟩ := okI_arg hy
  clear hp hx hy
  cbv
  repeat' (first | with_reducible refine And.intro ?_ ?_ | (with_reducible refine safe_lift hA ?_; kernel_rfl) | (intro hc_; cbv))
  all_goals (repeat (rw [safe_true hA, true_and]; rotate_left; kernel_rfl))
  all_goals subst hF hA
  all_goals simp only [fnOf, find, std, reduceIte, Nat.reduceEqDiff, sp1, sp2, a1, a2, FnSpec.out, Shape.build, leafs, leafCells, tups, oneOf, List.cons_append, List.nil_append, List.length_cons, List.length_nil, s_rSameI, s_rSame, sameI, dcs] at *
  all_goals first
    | exact ⟨hc, hc2⟩
    | exact Post.b hQ (by rw [hc_, Bool.true_and]; exact Bool.eq_iff_iff.2 ⟨fun h => decide_eq_true (of_decide_eq_true h), fun h => decide_eq_true (of_decide_eq_true h)⟩)
    | (refine Post.b hQ ?_; rw [hc_]; rfl)
end Go.Proofs.YtgmencbhkkcpiaaGreatDoor.Ev
