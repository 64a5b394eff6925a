/- Dyads: order and sums. -/
import Derived.Test.YtnnnolmldmbaaaaDoorEvd
import Derived.Test.YtnnnolmldmbaaaaDoorDR
namespace Go.Proofs.YtnnnolmldmbaaaaDoor.Ev
open Go Go.RowKit
set_option linter.unusedSimpArgs false
set_option linter.unusedVariables false
theorem rsB_ne {x : D} {k : Int} (h : k ≠ 0) : rsB x k = N0.neg (dm x * 2 ^ k.toNat) := if_neg h
theorem rsN_ne {x : D} {k : Int} (h : k ≠ 0) : rsN x k = N0.ln (dm x * 2 ^ k.toNat) := if_neg h
theorem rsC_ne {x : D} {k : Int} (h : k ≠ 0) : rsC x k = N0.lm (dm x * 2 ^ k.toNat) := if_neg h
def s_dRaised0 : FnSpec := ⟨.agg [.R], fun ds => match ds with | [x, y] => okI x ∧ y = .int .i64 0 | _ => False, fun _ _ => 0, a2 false fun x y _ => rsB x (dz y), a2 0 fun x y _ => rsN x (dz y), a2 [] fun x y _ => rsC x (dz y)⟩
theorem raised0_arg {ds : List D} (h : s_dRaised0.p ds) : ∃ s n cs, ds = [.agg [.bool s, .sl n cs], .int .i64 0] ∧ okC n cs := by
  match ds, h with
  | [x, y], h =>
    obtain ⟨s, n, cs, rfl, hc⟩ := okI_arg h.1
    exact ⟨s, n, cs, by rw [h.2], hc⟩
theorem sg_beq (z : Int) : (sg z == 0) = decide (z = 0) := by
  rcases sg_cases z with ⟨h1, h2⟩ | ⟨h1, h2⟩ | ⟨h1, h2⟩ <;> rw [h2] <;> simp <;> omega
theorem beq_dec (a b : Int) : (a == b) = decide (a = b) := rfl
theorem nat_beq (n : Nat) : ((n : Int) == 0) = decide (n = 0) := by
  rw [Bool.eq_iff_iff]; simp
theorem held_beq (e : Int) : (e == min (max e (-20000)) 20000) = decide (-20000 ≤ e ∧ e ≤ 20000) := by
  rw [Bool.eq_iff_iff]; simp only [beq_iff_eq, decide_eq_true_eq]; omega
theorem al_arg {ds : List D} (h : s_dAligned.p ds) : ∃ x y, ds = [x, y] ∧ okD x ∧ okD y ∧ dcn x ≤ 25000 ∧ dcn y ≤ 25000 ∧ upx x y ≤ 2000000 ∧ upx y x ≤ 2000000 := by
  match ds, h with
  | [x, y], h => exact ⟨x, y, rfl, h⟩
theorem min_if (a b : Int) : (if b < a then b else a) = min a b := by simp only [Int.min_def]; split <;> split <;> omega
set_option maxRecDepth 100000 in
set_option maxHeartbeats 2000000 in
theorem good_nanI : Good Tryd.prog (GWL [0, 1]) N0 100 s_nanI := by
  refine goodL (l := [0, 1]) (tab := []) (shs := []) rfl trivial Tryd.f100 (by kernel_rfl) (by kernel_rfl) (by kernel_rfl) (fun ds hp F A Q hF hA hQ => ⟨0, ?_⟩)
  obtain ⟨x, rfl, hx⟩ := sp1_arg hp
  obtain ⟨k, rfl⟩ := isi_arg hx
  cbv
  all_goals (repeat (rw [safe_true hA, true_and]; rotate_left; kernel_rfl))
  all_goals subst hF hA
  all_goals simp only [fnOf, find, std, reduceIte, Nat.reduceEqDiff, sp1, sp2, a1, a2, FnSpec.out, Shape.build, leafs, leafCells, tups, oneOf, List.cons_append, List.nil_append, List.length_cons, List.length_nil, s_nanI] at *
  exact Post.b hQ (by simp)
set_option maxRecDepth 100000 in
set_option maxHeartbeats 2000000 in
theorem good_cmpI : Good Tryd.prog (GWL [0, 1]) N0 86 s_cmpI := by
  refine goodL (l := [0, 1]) (tab := [(100, s_nanI)]) (shs := [(100, .one .b)]) rfl ⟨good_nanI, trivial⟩ Tryd.f86 (by kernel_rfl) (by kernel_rfl) (by kernel_rfl) (fun ds hp F A Q hF hA hQ => ⟨0, ?_⟩)
  obtain ⟨x, y, rfl, hx, hy⟩ := sp2_arg hp
  obtain ⟨k, rfl⟩ := isi_arg hx
  obtain ⟨l, rfl⟩ := isi_arg hy
  cbv
  repeat' (first | with_reducible refine And.intro ?_ ?_ | (with_reducible refine safe_lift hA ?_; kernel_rfl) | (intro hc_; cbv))
  all_goals (repeat (rw [safe_true hA, true_and]; rotate_left; kernel_rfl))
  all_goals subst hF hA
  all_goals simp only [fnOf, find, std, reduceIte, Nat.reduceEqDiff, sp1, sp2, a1, a2, FnSpec.out, Shape.build, leafs, leafCells, tups, oneOf, List.cons_append, List.nil_append, List.length_cons, List.length_nil, s_cmpI, s_nanI, dz, decide_eq_true_eq, decide_eq_false_iff_not] at *
  all_goals first
    | exact hx | exact hy
    | (exfalso; simp_all; done)
    | (refine Post.i hQ ?_; first | exact sg_neg (by omega) | exact sg_pos (by omega) | exact sg_zero (by omega))
end Go.Proofs.YtnnnolmldmbaaaaDoor.Ev
