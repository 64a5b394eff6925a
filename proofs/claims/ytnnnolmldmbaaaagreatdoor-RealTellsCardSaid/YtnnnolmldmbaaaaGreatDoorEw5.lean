/- A law of intervals: RealTells. -/
import Derived.Test.YtnnnolmldmbaaaaGreatDoorXl
namespace Go.Proofs.YtnnnolmldmbaaaaGreatDoor.Ev
open Go Go.RowKit
set_option linter.unusedSimpArgs false
set_option linter.unusedVariables false
def s_RealTells : FnSpec := ⟨.one .b, fun ds => match ds with | [x, y, d, .int .i64 c] => okX x ∧ okX y ∧ okW d | _ => False, fun _ _ => 0, fun _ _ => true, fun _ _ => 0, fun _ _ => []⟩
theorem RealTells_arg {ds : List D} (h : s_RealTells.p ds) : ∃ x y d c, ds = [x, y, d, .int .i64 c] ∧ okX x ∧ okX y ∧ okW d := by
  unfold s_RealTells at h
  dsimp only at h
  split at h
  · exact ⟨_, _, _, _, rfl, h⟩
  · exact h.elim
set_option maxRecDepth 100000 in
set_option maxHeartbeats 16000000 in
theorem good_RealTells : Good Tryz.prog (GWL [0, 1, 2, 3, 5]) N0 3 s_RealTells := by
  refine goodL (l := [0, 1, 2, 3, 5]) (tab := [(9, s_known7), (10, s_fewR), (11, s_few7), (12, s_yReal), (13, s_eMeet), (14, s_yMeet), (15, s_eIs), (17, s_qMake), (16, s_qCmp), (18, s_eHas), (19, s_yHas), (20, s_eIn), (21, s_yIn), (23, s_eAdd), (24, s_yAdd), (22, s_yEqual), (25, s_eSub), (26, s_ySub), (27, s_eMul), (28, s_yMul), (29, s_eNeg), (30, s_yNeg), (31, s_eSquare), (32, s_yPow), (33, s_ePow), (34, s_eAbs), (35, s_yAbs), (36, s_eHull), (37, s_yHull), (38, s_eSame)]) (shs := [(9, .one .b), (10, .one .b), (11, .one .b), (12, .agg [.I, .i .i64, .I, .i .i64]), (13, .tup [(true, [.I, .i .i64, .I, .i .i64]), (false, [.b])]), (14, .tup [(true, [.I, .i .i64, .I, .i .i64]), (false, [.b])]), (15, .one .b), (17, .agg [.I, .i .i64]), (16, .one (.i .i64)), (18, .one .b), (19, .one .b), (20, .one .b), (21, .one .b), (23, .agg [.I, .i .i64, .I, .i .i64]), (24, .agg [.I, .i .i64, .I, .i .i64]), (22, .one .b), (25, .agg [.I, .i .i64, .I, .i .i64]), (26, .agg [.I, .i .i64, .I, .i .i64]), (27, .agg [.I, .i .i64, .I, .i .i64]), (28, .agg [.I, .i .i64, .I, .i .i64]), (29, .agg [.I, .i .i64, .I, .i .i64]), (30, .agg [.I, .i .i64, .I, .i .i64]), (31, .agg [.I, .i .i64, .I, .i .i64]), (32, .agg [.I, .i .i64, .I, .i .i64]), (33, .agg [.I, .i .i64, .I, .i .i64]), (34, .agg [.I, .i .i64, .I, .i .i64]), (35, .agg [.I, .i .i64, .I, .i .i64]), (36, .agg [.I, .i .i64, .I, .i .i64]), (37, .agg [.I, .i .i64, .I, .i .i64]), (38, .one .b)]) rfl ⟨(good_known7.lift (by decide)), (good_fewR.lift (by decide)), (good_few7.lift (by decide)), (good_yReal.lift (by decide)), (good_eMeet.lift (by decide)), (good_yMeet.lift (by decide)), (good_eIs.lift (by decide)), (good_qMake.lift (by decide)), (good_qCmp.lift (by decide)), (good_eHas.lift (by decide)), (good_yHas.lift (by decide)), (good_eIn.lift (by decide)), (good_yIn.lift (by decide)), (good_eAdd.lift (by decide)), (good_yAdd.lift (by decide)), (good_yEqual.lift (by decide)), (good_eSub.lift (by decide)), (good_ySub.lift (by decide)), (good_eMul.lift (by decide)), (good_yMul.lift (by decide)), (good_eNeg.lift (by decide)), (good_yNeg.lift (by decide)), (good_eSquare.lift (by decide)), (good_yPow.lift (by decide)), (good_ePow.lift (by decide)), (good_eAbs.lift (by decide)), (good_yAbs.lift (by decide)), (good_eHull.lift (by decide)), (good_yHull.lift (by decide)), (good_eSame.lift (by decide)), trivial⟩ Tryz.f3 (by kernel_rfl) (by kernel_rfl) (by kernel_rfl) (fun ds hp F A Q hF hA hQ => ⟨0, ?_⟩)
  obtain ⟨x, y, d, c, rfl, hx, hy, hd⟩ := RealTells_arg hp
  obtain ⟨s, n, cs, e, t, m, es, f, rfl, hw, hr, hw2, hr2⟩ := okX_arg hx
  obtain ⟨u, p, gs, g, v, q, hs, h, rfl, hv, hs1, hv2, hs2⟩ := okX_arg hy
  obtain ⟨a, i, is, j, rfl, hd, hd1, hd2⟩ := okW_arg hd
  clear hp hx hy
  rcases four (a := ((n ≤ 10 ∧ -1000 ≤ e ∧ e ≤ 1000) ∧ m ≤ 10 ∧ -1000 ≤ f ∧ f ≤ 1000)) (b := ((p ≤ 10 ∧ -1000 ≤ g ∧ g ≤ 1000) ∧ q ≤ 10 ∧ -1000 ≤ h ∧ h ≤ 1000)) (c := (i ≤ 10 ∧ -1000 ≤ j ∧ j ≤ 1000)) with kx | ⟨kx, ky⟩ | ⟨kx, ky, kd⟩ | ⟨kx, ky, kd⟩
  · have hfx : (((n ≤ 10 ∧ -1000 ≤ e ∧ e ≤ 1000) ∧ m ≤ 10 ∧ -1000 ≤ f ∧ f ≤ 1000)) = False := eq_false kx
    cbv
    repeat' (first | with_reducible refine And.intro ?_ ?_ | (with_reducible refine safe_lift hA ?_; kernel_rfl) | (intro hc_; (first | (with_reducible exfalso; clear hQ; subst hF hA; simp only [fnOf, find, std, reduceIte, Nat.reduceEqDiff, sp1, sp2, a1, a2, FnSpec.out, Shape.build, leafs, leafCells, tups, oneOf, List.cons_append, List.nil_append, List.length_cons, List.length_nil, s_RealTells, s_known7, s_fewR, s_few7, s_yReal, s_eMeet, s_yMeet, s_eIs, s_qMake, s_qCmp, s_eHas, s_yHas, s_eIn, s_yIn, s_eAdd, s_yAdd, s_yEqual, s_eSub, s_ySub, s_eMul, s_yMul, s_eNeg, s_yNeg, s_eSquare, s_yPow, s_ePow, s_eAbs, s_yAbs, s_eHull, s_yHull, s_eSame, re4, rv_raw, rv_N0, dv, dz, dx, dcn, dm_raw, dm_N0, vI_N0, raw6_is, Prod.eta, vI_nil, N0_neg0, N0_ln0, N0_lm0, tmI_idem, teI_idem, cmpD_nrm, cmpD_nrmL, cmpD_nrmR, hasY_n, inY_rn, meetY_rn, zeroY_rn, powN_2, min_if, hasB_zero, wrap_er, rn_rn, Int.reduceNeg, Int.reduceEq, Int.reduceLT, Int.reduceLE, Int.reduceBEq, beq_dec, Int.reduceAdd, Int.zero_add, Int.add_zero, eq_self, Bool.not_eq_eq_eq_not, decide_eq_true_eq, decide_eq_false_iff_not, not_true_eq_false, not_false_eq_true, decide_true, decide_false, Bool.true_and, Bool.and_true, Bool.not_true, Bool.not_false, beq_self_eq_true, Bool.true_eq_false, Bool.false_eq_true, reduceCtorEq, gt_iff_lt, ge_iff_le, true_and, and_true, and_self, Bool.false_eq, Bool.and_self, hfx] at hc_; done) | (clear hc_; cbv))))
    all_goals subst hF hA
    all_goals (try simp only [fnOf, find, std, reduceIte, Nat.reduceEqDiff, sp1, sp2, a1, a2, FnSpec.out, Shape.build, leafs, leafCells, tups, oneOf, List.cons_append, List.nil_append, List.length_cons, List.length_nil, s_RealTells, s_known7, s_fewR, s_few7, s_yReal, s_eMeet, s_yMeet, s_eIs, s_qMake, s_qCmp, s_eHas, s_yHas, s_eIn, s_yIn, s_eAdd, s_yAdd, s_yEqual, s_eSub, s_ySub, s_eMul, s_yMul, s_eNeg, s_yNeg, s_eSquare, s_yPow, s_ePow, s_eAbs, s_yAbs, s_eHull, s_yHull, s_eSame, re4, rv_raw, rv_N0, dv, dz, dx, dcn, dm_raw, dm_N0, vI_N0, raw6_is, Prod.eta, vI_nil, N0_neg0, N0_ln0, N0_lm0, tmI_idem, teI_idem, cmpD_nrm, cmpD_nrmL, cmpD_nrmR, hasY_n, inY_rn, meetY_rn, zeroY_rn, powN_2, min_if, hasB_zero, wrap_er, rn_rn, Int.reduceNeg, Int.reduceEq, Int.reduceLT, Int.reduceLE, Int.reduceBEq, beq_dec, Int.reduceAdd, Int.zero_add, Int.add_zero, eq_self, Bool.not_eq_eq_eq_not, decide_eq_true_eq, decide_eq_false_iff_not, not_true_eq_false, not_false_eq_true, decide_true, decide_false, Bool.true_and, Bool.and_true, Bool.not_true, Bool.not_false, beq_self_eq_true, Bool.true_eq_false, Bool.false_eq_true, reduceCtorEq, gt_iff_lt, ge_iff_le, true_and, and_true, and_self, Bool.false_eq, Bool.and_self, hfx] at hQ ⊢)
    all_goals (repeat' (first
      | with_reducible exact hQ
      | with_reducible assumption
      | with_reducible exact isi_int _ _
      | (with_reducible refine canR_c (r := ((_, _), (_, _))) ?_; with_reducible assumption)
      | (with_reducible refine okR_c (r := ((_, _), (_, _))) ?_; with_reducible assumption)
      | (with_reducible refine okM_fR (r := ((_, _), (_, _))) ?_; with_reducible assumption)
      | (with_reducible refine few20_fR (r := ((_, _), (_, _))) ?_; with_reducible assumption)
      | (with_reducible refine few30_fR (r := ((_, _), (_, _))) ?_; with_reducible assumption)
      | with_reducible exact True.intro
      | (with_reducible refine few40_fR (r := ((_, _), (_, _))) ?_; with_reducible assumption)
      | (with_reducible refine canD_c (a := (_, _)) ?_; with_reducible assumption)
      | (with_reducible refine okT_c (a := (_, _)) ?_; with_reducible assumption)
      | (with_reducible refine okD_c (a := (_, _)) ?_; with_reducible assumption)
      | (with_reducible refine near_c (a := (_, _)) (b := (_, _)) ?_ ?_ <;> with_reducible assumption)
      | (with_reducible refine okE_fit ?_ (k := 10000) (by omega); with_reducible assumption)
      | with_reducible refine okX_mk ?_ ?_ ?_ ?_
      | with_reducible refine okW_mk ?_ ?_ ?_
      | with_reducible refine okE_mk ?_
      | with_reducible refine okI_mk ?_
      | with_reducible refine okD_mk ?_ ?_ ?_
      | (with_reducible refine near_mk ?_ ?_; (focus omega); (focus omega))
      | omega
      | with_reducible refine And.intro ?_ ?_))
  · have hfx : (((n ≤ 10 ∧ -1000 ≤ e ∧ e ≤ 1000) ∧ m ≤ 10 ∧ -1000 ≤ f ∧ f ≤ 1000)) = True := eq_true kx
    have hfy : (((p ≤ 10 ∧ -1000 ≤ g ∧ g ≤ 1000) ∧ q ≤ 10 ∧ -1000 ≤ h ∧ h ≤ 1000)) = False := eq_false ky
    cbv
    repeat' (first | with_reducible refine And.intro ?_ ?_ | (with_reducible refine safe_lift hA ?_; kernel_rfl) | (intro hc_; (first | (with_reducible exfalso; clear hQ; subst hF hA; simp only [fnOf, find, std, reduceIte, Nat.reduceEqDiff, sp1, sp2, a1, a2, FnSpec.out, Shape.build, leafs, leafCells, tups, oneOf, List.cons_append, List.nil_append, List.length_cons, List.length_nil, s_RealTells, s_known7, s_fewR, s_few7, s_yReal, s_eMeet, s_yMeet, s_eIs, s_qMake, s_qCmp, s_eHas, s_yHas, s_eIn, s_yIn, s_eAdd, s_yAdd, s_yEqual, s_eSub, s_ySub, s_eMul, s_yMul, s_eNeg, s_yNeg, s_eSquare, s_yPow, s_ePow, s_eAbs, s_yAbs, s_eHull, s_yHull, s_eSame, re4, rv_raw, rv_N0, dv, dz, dx, dcn, dm_raw, dm_N0, vI_N0, raw6_is, Prod.eta, vI_nil, N0_neg0, N0_ln0, N0_lm0, tmI_idem, teI_idem, cmpD_nrm, cmpD_nrmL, cmpD_nrmR, hasY_n, inY_rn, meetY_rn, zeroY_rn, powN_2, min_if, hasB_zero, wrap_er, rn_rn, Int.reduceNeg, Int.reduceEq, Int.reduceLT, Int.reduceLE, Int.reduceBEq, beq_dec, Int.reduceAdd, Int.zero_add, Int.add_zero, eq_self, Bool.not_eq_eq_eq_not, decide_eq_true_eq, decide_eq_false_iff_not, not_true_eq_false, not_false_eq_true, decide_true, decide_false, Bool.true_and, Bool.and_true, Bool.not_true, Bool.not_false, beq_self_eq_true, Bool.true_eq_false, Bool.false_eq_true, reduceCtorEq, gt_iff_lt, ge_iff_le, true_and, and_true, and_self, Bool.false_eq, Bool.and_self, hfx, hfy] at hc_; done) | (clear hc_; cbv))))
    all_goals subst hF hA
    all_goals (try simp only [fnOf, find, std, reduceIte, Nat.reduceEqDiff, sp1, sp2, a1, a2, FnSpec.out, Shape.build, leafs, leafCells, tups, oneOf, List.cons_append, List.nil_append, List.length_cons, List.length_nil, s_RealTells, s_known7, s_fewR, s_few7, s_yReal, s_eMeet, s_yMeet, s_eIs, s_qMake, s_qCmp, s_eHas, s_yHas, s_eIn, s_yIn, s_eAdd, s_yAdd, s_yEqual, s_eSub, s_ySub, s_eMul, s_yMul, s_eNeg, s_yNeg, s_eSquare, s_yPow, s_ePow, s_eAbs, s_yAbs, s_eHull, s_yHull, s_eSame, re4, rv_raw, rv_N0, dv, dz, dx, dcn, dm_raw, dm_N0, vI_N0, raw6_is, Prod.eta, vI_nil, N0_neg0, N0_ln0, N0_lm0, tmI_idem, teI_idem, cmpD_nrm, cmpD_nrmL, cmpD_nrmR, hasY_n, inY_rn, meetY_rn, zeroY_rn, powN_2, min_if, hasB_zero, wrap_er, rn_rn, Int.reduceNeg, Int.reduceEq, Int.reduceLT, Int.reduceLE, Int.reduceBEq, beq_dec, Int.reduceAdd, Int.zero_add, Int.add_zero, eq_self, Bool.not_eq_eq_eq_not, decide_eq_true_eq, decide_eq_false_iff_not, not_true_eq_false, not_false_eq_true, decide_true, decide_false, Bool.true_and, Bool.and_true, Bool.not_true, Bool.not_false, beq_self_eq_true, Bool.true_eq_false, Bool.false_eq_true, reduceCtorEq, gt_iff_lt, ge_iff_le, true_and, and_true, and_self, Bool.false_eq, Bool.and_self, hfx, hfy] at hQ ⊢)
    all_goals (repeat' (first
      | with_reducible exact hQ
      | with_reducible assumption
      | with_reducible exact isi_int _ _
      | (with_reducible refine canR_c (r := ((_, _), (_, _))) ?_; with_reducible assumption)
      | (with_reducible refine okR_c (r := ((_, _), (_, _))) ?_; with_reducible assumption)
      | (with_reducible refine okM_fR (r := ((_, _), (_, _))) ?_; with_reducible assumption)
      | (with_reducible refine few20_fR (r := ((_, _), (_, _))) ?_; with_reducible assumption)
      | (with_reducible refine few30_fR (r := ((_, _), (_, _))) ?_; with_reducible assumption)
      | with_reducible exact True.intro
      | (with_reducible refine few40_fR (r := ((_, _), (_, _))) ?_; with_reducible assumption)
      | (with_reducible refine canD_c (a := (_, _)) ?_; with_reducible assumption)
      | (with_reducible refine okT_c (a := (_, _)) ?_; with_reducible assumption)
      | (with_reducible refine okD_c (a := (_, _)) ?_; with_reducible assumption)
      | (with_reducible refine near_c (a := (_, _)) (b := (_, _)) ?_ ?_ <;> with_reducible assumption)
      | (with_reducible refine okE_fit ?_ (k := 10000) (by omega); with_reducible assumption)
      | with_reducible refine okX_mk ?_ ?_ ?_ ?_
      | with_reducible refine okW_mk ?_ ?_ ?_
      | with_reducible refine okE_mk ?_
      | with_reducible refine okI_mk ?_
      | with_reducible refine okD_mk ?_ ?_ ?_
      | (with_reducible refine near_mk ?_ ?_; (focus omega); (focus omega))
      | omega
      | with_reducible refine And.intro ?_ ?_))
  · have hfx : (((n ≤ 10 ∧ -1000 ≤ e ∧ e ≤ 1000) ∧ m ≤ 10 ∧ -1000 ≤ f ∧ f ≤ 1000)) = True := eq_true kx
    have hfy : (((p ≤ 10 ∧ -1000 ≤ g ∧ g ≤ 1000) ∧ q ≤ 10 ∧ -1000 ≤ h ∧ h ≤ 1000)) = True := eq_true ky
    have hfd : ((i ≤ 10 ∧ -1000 ≤ j ∧ j ≤ 1000)) = False := eq_false kd
    cbv
    repeat' (first | with_reducible refine And.intro ?_ ?_ | (with_reducible refine safe_lift hA ?_; kernel_rfl) | (intro hc_; (first | (with_reducible exfalso; clear hQ; subst hF hA; simp only [fnOf, find, std, reduceIte, Nat.reduceEqDiff, sp1, sp2, a1, a2, FnSpec.out, Shape.build, leafs, leafCells, tups, oneOf, List.cons_append, List.nil_append, List.length_cons, List.length_nil, s_RealTells, s_known7, s_fewR, s_few7, s_yReal, s_eMeet, s_yMeet, s_eIs, s_qMake, s_qCmp, s_eHas, s_yHas, s_eIn, s_yIn, s_eAdd, s_yAdd, s_yEqual, s_eSub, s_ySub, s_eMul, s_yMul, s_eNeg, s_yNeg, s_eSquare, s_yPow, s_ePow, s_eAbs, s_yAbs, s_eHull, s_yHull, s_eSame, re4, rv_raw, rv_N0, dv, dz, dx, dcn, dm_raw, dm_N0, vI_N0, raw6_is, Prod.eta, vI_nil, N0_neg0, N0_ln0, N0_lm0, tmI_idem, teI_idem, cmpD_nrm, cmpD_nrmL, cmpD_nrmR, hasY_n, inY_rn, meetY_rn, zeroY_rn, powN_2, min_if, hasB_zero, wrap_er, rn_rn, Int.reduceNeg, Int.reduceEq, Int.reduceLT, Int.reduceLE, Int.reduceBEq, beq_dec, Int.reduceAdd, Int.zero_add, Int.add_zero, eq_self, Bool.not_eq_eq_eq_not, decide_eq_true_eq, decide_eq_false_iff_not, not_true_eq_false, not_false_eq_true, decide_true, decide_false, Bool.true_and, Bool.and_true, Bool.not_true, Bool.not_false, beq_self_eq_true, Bool.true_eq_false, Bool.false_eq_true, reduceCtorEq, gt_iff_lt, ge_iff_le, true_and, and_true, and_self, Bool.false_eq, Bool.and_self, hfx, hfy, hfd] at hc_; done) | (clear hc_; cbv))))
    all_goals subst hF hA
    all_goals (try simp only [fnOf, find, std, reduceIte, Nat.reduceEqDiff, sp1, sp2, a1, a2, FnSpec.out, Shape.build, leafs, leafCells, tups, oneOf, List.cons_append, List.nil_append, List.length_cons, List.length_nil, s_RealTells, s_known7, s_fewR, s_few7, s_yReal, s_eMeet, s_yMeet, s_eIs, s_qMake, s_qCmp, s_eHas, s_yHas, s_eIn, s_yIn, s_eAdd, s_yAdd, s_yEqual, s_eSub, s_ySub, s_eMul, s_yMul, s_eNeg, s_yNeg, s_eSquare, s_yPow, s_ePow, s_eAbs, s_yAbs, s_eHull, s_yHull, s_eSame, re4, rv_raw, rv_N0, dv, dz, dx, dcn, dm_raw, dm_N0, vI_N0, raw6_is, Prod.eta, vI_nil, N0_neg0, N0_ln0, N0_lm0, tmI_idem, teI_idem, cmpD_nrm, cmpD_nrmL, cmpD_nrmR, hasY_n, inY_rn, meetY_rn, zeroY_rn, powN_2, min_if, hasB_zero, wrap_er, rn_rn, Int.reduceNeg, Int.reduceEq, Int.reduceLT, Int.reduceLE, Int.reduceBEq, beq_dec, Int.reduceAdd, Int.zero_add, Int.add_zero, eq_self, Bool.not_eq_eq_eq_not, decide_eq_true_eq, decide_eq_false_iff_not, not_true_eq_false, not_false_eq_true, decide_true, decide_false, Bool.true_and, Bool.and_true, Bool.not_true, Bool.not_false, beq_self_eq_true, Bool.true_eq_false, Bool.false_eq_true, reduceCtorEq, gt_iff_lt, ge_iff_le, true_and, and_true, and_self, Bool.false_eq, Bool.and_self, hfx, hfy, hfd] at hQ ⊢)
    all_goals (repeat' (first
      | with_reducible exact hQ
      | with_reducible assumption
      | with_reducible exact isi_int _ _
      | (with_reducible refine canR_c (r := ((_, _), (_, _))) ?_; with_reducible assumption)
      | (with_reducible refine okR_c (r := ((_, _), (_, _))) ?_; with_reducible assumption)
      | (with_reducible refine okM_fR (r := ((_, _), (_, _))) ?_; with_reducible assumption)
      | (with_reducible refine few20_fR (r := ((_, _), (_, _))) ?_; with_reducible assumption)
      | (with_reducible refine few30_fR (r := ((_, _), (_, _))) ?_; with_reducible assumption)
      | with_reducible exact True.intro
      | (with_reducible refine few40_fR (r := ((_, _), (_, _))) ?_; with_reducible assumption)
      | (with_reducible refine canD_c (a := (_, _)) ?_; with_reducible assumption)
      | (with_reducible refine okT_c (a := (_, _)) ?_; with_reducible assumption)
      | (with_reducible refine okD_c (a := (_, _)) ?_; with_reducible assumption)
      | (with_reducible refine near_c (a := (_, _)) (b := (_, _)) ?_ ?_ <;> with_reducible assumption)
      | (with_reducible refine okE_fit ?_ (k := 10000) (by omega); with_reducible assumption)
      | with_reducible refine okX_mk ?_ ?_ ?_ ?_
      | with_reducible refine okW_mk ?_ ?_ ?_
      | with_reducible refine okE_mk ?_
      | with_reducible refine okI_mk ?_
      | with_reducible refine okD_mk ?_ ?_ ?_
      | (with_reducible refine near_mk ?_ ?_; (focus omega); (focus omega))
      | omega
      | with_reducible refine And.intro ?_ ?_))
  · have hfx : (((n ≤ 10 ∧ -1000 ≤ e ∧ e ≤ 1000) ∧ m ≤ 10 ∧ -1000 ≤ f ∧ f ≤ 1000)) = True := eq_true kx
    have hfy : (((p ≤ 10 ∧ -1000 ≤ g ∧ g ≤ 1000) ∧ q ≤ 10 ∧ -1000 ≤ h ∧ h ≤ 1000)) = True := eq_true ky
    have hfd : ((i ≤ 10 ∧ -1000 ≤ j ∧ j ≤ 1000)) = True := eq_true kd
    obtain ⟨x1, x2, x3, x4, x5, x6, x7, x8, x9⟩ := few_facts (s := s) (t := t) (cs := cs) (es := es) hw hw2 kx
    obtain ⟨X, hX⟩ : ∃ X : Re, ((vI s cs, e), (vI t es, f)) = X := ⟨_, rfl⟩
    rw [hX] at x6
    obtain ⟨y1, y2, y3, y4, y5, y6, y7, y8, y9⟩ := few_facts (s := u) (t := v) (cs := gs) (es := hs) hv hv2 ky
    obtain ⟨Y, hY⟩ : ∃ Y : Re, ((vI u gs, g), (vI v hs, h)) = Y := ⟨_, rfl⟩
    rw [hY] at y6
    have cX := c_rn x6
    have bX := rn_few x6
    have bX2 : fR (rn X) 640 2000 := bX.mono (by omega) (by omega)
    have bX3 : fR (rn X) 1280 20000 := bX.mono (by omega) (by omega)
    have bX4 : fR (rn X) 4000 8000 := bX.mono (by omega) (by omega)
    have bX5 : fR (rn X) 8000 10000 := bX.mono (by omega) (by omega)
    have cY := c_rn y6
    have bY := rn_few y6
    have bY2 : fR (rn Y) 640 2000 := bY.mono (by omega) (by omega)
    have bY3 : fR (rn Y) 1280 20000 := bY.mono (by omega) (by omega)
    have bY4 : fR (rn Y) 4000 8000 := bY.mono (by omega) (by omega)
    have bY5 : fR (rn Y) 8000 10000 := bY.mono (by omega) (by omega)
    have gX := fC_rn x6
    have gY := fC_rn y6
    obtain ⟨w1, w2, w3, w4, w5, w6⟩ := few_d (s := s) hw kx.1
    have w7 : dC (tmI (vI s cs), teI (vI s cs) e) := w4
    have w8 : -20000 ≤ teI (vI s cs) e ∧ teI (vI s cs) e ≤ 20000 := dC_b w4
    obtain ⟨v1, v2, v3, v4, v5, v6⟩ := few_d (s := t) hw2 kx.2
    have v7 : dC (tmI (vI t es), teI (vI t es) f) := v4
    have v8 : -20000 ≤ teI (vI t es) f ∧ teI (vI t es) f ≤ 20000 := dC_b v4
    obtain ⟨d1, d2, d3, d4, d5, d6⟩ := few_d (s := a) hd kd
    have d7 : dC (tmI (vI a is), teI (vI a is) j) := d4
    have d8 : -20000 ≤ teI (vI a is) j ∧ teI (vI a is) j ≤ 20000 := dC_b d4
    have hpk := powN_min8 c
    have t0 := c_add gX gY
    have t1 := c_sub gX gY
    have t2 := c_mul gX gY
    have t3 := c_neg gX
    have t4 := c_pow gX (show 2 ≤ 8 by omega)
    have t5 := c_pow gX hpk
    have t6 := c_abs gX
    have t7 := c_hull gX gY
    have t8 := c_meet x6 y6
    have hcX : cmpD X.1.1 X.1.2 X.2.1 X.2.2 = cmpD (vI s cs) e (vI t es) f := by rw [← hX]
    cbv
    repeat' (first | with_reducible refine And.intro ?_ ?_ | (with_reducible refine safe_lift hA ?_; kernel_rfl) | (intro hc_; (first | (with_reducible exfalso; clear hQ; subst hF hA; simp only [fnOf, find, std, reduceIte, Nat.reduceEqDiff, sp1, sp2, a1, a2, FnSpec.out, Shape.build, leafs, leafCells, tups, oneOf, List.cons_append, List.nil_append, List.length_cons, List.length_nil, s_RealTells, s_known7, s_fewR, s_few7, s_yReal, s_eMeet, s_yMeet, s_eIs, s_qMake, s_qCmp, s_eHas, s_yHas, s_eIn, s_yIn, s_eAdd, s_yAdd, s_yEqual, s_eSub, s_ySub, s_eMul, s_yMul, s_eNeg, s_yNeg, s_eSquare, s_yPow, s_ePow, s_eAbs, s_yAbs, s_eHull, s_yHull, s_eSame, re4, rv_raw, rv_N0, dv, dz, dx, dcn, dm_raw, dm_N0, vI_N0, raw6_is, Prod.eta, vI_nil, N0_neg0, N0_ln0, N0_lm0, tmI_idem, teI_idem, cmpD_nrm, cmpD_nrmL, cmpD_nrmR, hasY_n, inY_rn, meetY_rn, zeroY_rn, powN_2, min_if, hasB_zero, wrap_er, rn_rn, Int.reduceNeg, Int.reduceEq, Int.reduceLT, Int.reduceLE, Int.reduceBEq, beq_dec, Int.reduceAdd, Int.zero_add, Int.add_zero, eq_self, Bool.not_eq_eq_eq_not, decide_eq_true_eq, decide_eq_false_iff_not, not_true_eq_false, not_false_eq_true, decide_true, decide_false, Bool.true_and, Bool.and_true, Bool.not_true, Bool.not_false, beq_self_eq_true, Bool.true_eq_false, Bool.false_eq_true, reduceCtorEq, gt_iff_lt, ge_iff_le, true_and, and_true, and_self, Bool.false_eq, Bool.and_self, hfx, hfy, hfd, hX, hY, w6, v6, d6, hcX] at hc_; done) | (clear hc_; cbv))))
    all_goals subst hF hA
    all_goals (try simp only [fnOf, find, std, reduceIte, Nat.reduceEqDiff, sp1, sp2, a1, a2, FnSpec.out, Shape.build, leafs, leafCells, tups, oneOf, List.cons_append, List.nil_append, List.length_cons, List.length_nil, s_RealTells, s_known7, s_fewR, s_few7, s_yReal, s_eMeet, s_yMeet, s_eIs, s_qMake, s_qCmp, s_eHas, s_yHas, s_eIn, s_yIn, s_eAdd, s_yAdd, s_yEqual, s_eSub, s_ySub, s_eMul, s_yMul, s_eNeg, s_yNeg, s_eSquare, s_yPow, s_ePow, s_eAbs, s_yAbs, s_eHull, s_yHull, s_eSame, re4, rv_raw, rv_N0, dv, dz, dx, dcn, dm_raw, dm_N0, vI_N0, raw6_is, Prod.eta, vI_nil, N0_neg0, N0_ln0, N0_lm0, tmI_idem, teI_idem, cmpD_nrm, cmpD_nrmL, cmpD_nrmR, hasY_n, inY_rn, meetY_rn, zeroY_rn, powN_2, min_if, hasB_zero, wrap_er, rn_rn, Int.reduceNeg, Int.reduceEq, Int.reduceLT, Int.reduceLE, Int.reduceBEq, beq_dec, Int.reduceAdd, Int.zero_add, Int.add_zero, eq_self, Bool.not_eq_eq_eq_not, decide_eq_true_eq, decide_eq_false_iff_not, not_true_eq_false, not_false_eq_true, decide_true, decide_false, Bool.true_and, Bool.and_true, Bool.not_true, Bool.not_false, beq_self_eq_true, Bool.true_eq_false, Bool.false_eq_true, reduceCtorEq, gt_iff_lt, ge_iff_le, true_and, and_true, and_self, Bool.false_eq, Bool.and_self, hfx, hfy, hfd, hX, hY, w6, v6, d6, hcX] at hQ ⊢)
    all_goals (repeat' (first
      | with_reducible exact hQ
      | with_reducible assumption
      | with_reducible exact isi_int _ _
      | (with_reducible refine canR_c (r := ((_, _), (_, _))) ?_; with_reducible assumption)
      | (with_reducible refine okR_c (r := ((_, _), (_, _))) ?_; with_reducible assumption)
      | (with_reducible refine okM_fR (r := ((_, _), (_, _))) ?_; with_reducible assumption)
      | (with_reducible refine few20_fR (r := ((_, _), (_, _))) ?_; with_reducible assumption)
      | (with_reducible refine few30_fR (r := ((_, _), (_, _))) ?_; with_reducible assumption)
      | with_reducible exact True.intro
      | (with_reducible refine few40_fR (r := ((_, _), (_, _))) ?_; with_reducible assumption)
      | (with_reducible refine canD_c (a := (_, _)) ?_; with_reducible assumption)
      | (with_reducible refine okT_c (a := (_, _)) ?_; with_reducible assumption)
      | (with_reducible refine okD_c (a := (_, _)) ?_; with_reducible assumption)
      | (with_reducible refine near_c (a := (_, _)) (b := (_, _)) ?_ ?_ <;> with_reducible assumption)
      | (with_reducible refine okE_fit ?_ (k := 10000) (by omega); with_reducible assumption)
      | with_reducible refine okX_mk ?_ ?_ ?_ ?_
      | with_reducible refine okW_mk ?_ ?_ ?_
      | with_reducible refine okE_mk ?_
      | with_reducible refine okI_mk ?_
      | with_reducible refine okD_mk ?_ ?_ ?_
      | (with_reducible refine near_mk ?_ ?_; (focus omega); (focus omega))
      | omega
      | with_reducible refine And.intro ?_ ?_))
end Go.Proofs.YtnnnolmldmbaaaaGreatDoor.Ev
