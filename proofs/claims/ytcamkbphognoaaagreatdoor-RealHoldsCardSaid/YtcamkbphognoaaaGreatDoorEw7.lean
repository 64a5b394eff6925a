/- A law of intervals: RealHolds. -/
import Derived.Test.YtcamkbphognoaaaGreatDoorXl
namespace Go.Proofs.YtcamkbphognoaaaGreatDoor.Ev
open Go Go.RowKit
set_option linter.unusedSimpArgs false
set_option linter.unusedVariables false
def s_RealHolds : FnSpec := ⟨.one .b, fun ds => match ds with | [x, y, d, d2, .int .u8 c, .int .u8 c2] => okX x ∧ okX y ∧ okW d ∧ okW d2 ∧ (0 ≤ c ∧ c ≤ 255) ∧ 0 ≤ c2 ∧ c2 ≤ 255 | _ => False, fun _ _ => 0, fun _ _ => true, fun _ _ => 0, fun _ _ => []⟩
theorem RealHolds_arg {ds : List D} (h : s_RealHolds.p ds) : ∃ x y d d2 c c2, ds = [x, y, d, d2, .int .u8 c, .int .u8 c2] ∧ okX x ∧ okX y ∧ okW d ∧ okW d2 ∧ (0 ≤ c ∧ c ≤ 255) ∧ 0 ≤ c2 ∧ c2 ≤ 255 := by
  unfold s_RealHolds at h
  dsimp only at h
  split at h
  · exact ⟨_, _, _, _, _, _, rfl, h⟩
  · exact h.elim
set_option maxRecDepth 100000 in
set_option maxHeartbeats 16000000 in
theorem good_RealHolds : Good Tryz.prog (GWL [0, 1, 2, 3, 4, 5]) N0 3 s_RealHolds := by
  refine goodL (l := [0, 1, 2, 3, 4, 5]) (tab := [(9, s_known7), (10, s_fewR), (11, s_few7), (12, s_eHas), (13, s_qMake), (14, s_eAdd), (15, s_qAdd), (16, s_eSub), (17, s_qSub), (18, s_eMul), (19, s_qMul), (20, s_ePow), (21, s_qPow), (22, s_eAbs), (23, s_qAbs), (24, s_eRound), (25, s_eHull), (26, s_eDiv), (27, s_yMin), (28, s_yMax)]) (shs := [(9, .one .b), (10, .one .b), (11, .one .b), (12, .one .b), (13, .agg [.I, .i .i64]), (14, .agg [.I, .i .i64, .I, .i .i64]), (15, .agg [.I, .i .i64]), (16, .agg [.I, .i .i64, .I, .i .i64]), (17, .agg [.I, .i .i64]), (18, .agg [.I, .i .i64, .I, .i .i64]), (19, .agg [.I, .i .i64]), (20, .agg [.I, .i .i64, .I, .i .i64]), (21, .agg [.I, .i .i64]), (22, .agg [.I, .i .i64, .I, .i .i64]), (23, .agg [.I, .i .i64]), (24, .agg [.I, .i .i64, .I, .i .i64]), (25, .agg [.I, .i .i64, .I, .i .i64]), (26, .tup [(true, [.I, .i .i64, .I, .i .i64]), (false, [.i .i64])]), (27, .agg [.I, .i .i64]), (28, .agg [.I, .i .i64])]) rfl ⟨(good_known7.lift (by decide)), (good_fewR.lift (by decide)), (good_few7.lift (by decide)), (good_eHas.lift (by decide)), (good_qMake.lift (by decide)), (good_eAdd.lift (by decide)), (good_qAdd.lift (by decide)), (good_eSub.lift (by decide)), (good_qSub.lift (by decide)), (good_eMul.lift (by decide)), (good_qMul.lift (by decide)), (good_ePow.lift (by decide)), (good_qPow.lift (by decide)), (good_eAbs.lift (by decide)), (good_qAbs.lift (by decide)), (good_eRound.lift (by decide)), (good_eHull.lift (by decide)), good_eDiv, (good_yMin.lift (by decide)), (good_yMax.lift (by decide)), trivial⟩ Tryz.f3 (by kernel_rfl) (by kernel_rfl) (by kernel_rfl) (fun ds hp F A Q hF hA hQ => ⟨0, ?_⟩)
  obtain ⟨x, y, d, d2, c, c2, rfl, hx, hy, hd, hd2, ⟨hc1, hc2⟩, hc3, hc4⟩ := RealHolds_arg hp
  obtain ⟨s, n, cs, e, t, m, es, f, rfl, hw, hr, hw2, hr2⟩ := okX_arg hx
  obtain ⟨u, p, gs, g, v, q, hs, h, rfl, hv, hs1, hv2, hs2⟩ := okX_arg hy
  obtain ⟨b, k, ks, l, rfl, hd_, hd3, hd4⟩ := okW_arg hd2
  obtain ⟨a, i, is, j, rfl, hd, hd1, hd2⟩ := okW_arg hd
  clear hp hx hy
  have htc : 0 ≤ c.tmod 100 ∧ c.tmod 100 ≤ 99 := by rw [Int.tmod_eq_emod_of_nonneg hc1]; omega
  have htd : 0 ≤ c2.tmod 7 ∧ c2.tmod 7 ≤ 6 := by rw [Int.tmod_eq_emod_of_nonneg hc3]; omega
  rcases nine7 (a := ((n ≤ 10 ∧ -1000 ≤ e ∧ e ≤ 1000) ∧ m ≤ 10 ∧ -1000 ≤ f ∧ f ≤ 1000)) (b := ((p ≤ 10 ∧ -1000 ≤ g ∧ g ≤ 1000) ∧ q ≤ 10 ∧ -1000 ≤ h ∧ h ≤ 1000)) (c := (i ≤ 10 ∧ -1000 ≤ j ∧ j ≤ 1000)) (d := (k ≤ 10 ∧ -1000 ≤ l ∧ l ≤ 1000)) (x := hasB ((vI s cs, e), (vI t es, f)) (vI a is, j) = true) (y := hasB ((vI u gs, g), (vI v hs, h)) (vI b ks, l) = true) (z := zeroB ((vI u gs, g), (vI v hs, h)) = false) with kx | ⟨kx, ky⟩ | ⟨kx, ky, kd⟩ | ⟨kx, ky, kd, ke⟩ | ⟨kx, ky, kd, ke, hS⟩ | ⟨kx, ky, kd, ke, hS, hT⟩ | ⟨kx, ky, kd, ke, hS, hT, hz⟩ | ⟨kx, ky, kd, ke, hS, hT, hz⟩
  · have hfx : (((n ≤ 10 ∧ -1000 ≤ e ∧ e ≤ 1000) ∧ m ≤ 10 ∧ -1000 ≤ f ∧ f ≤ 1000)) = False := eq_false kx
    cbv
    repeat' (first | with_reducible refine And.intro ?_ ?_ | (with_reducible refine safe_lift hA ?_; kernel_rfl) | (intro hc_; (first | (with_reducible exfalso; clear hQ; subst hF hA; simp only [fnOf, find, std, reduceIte, Nat.reduceEqDiff, sp1, sp2, a1, a2, FnSpec.out, Shape.build, leafs, leafCells, tups, oneOf, List.cons_append, List.nil_append, List.length_cons, List.length_nil, s_RealHolds, s_known7, s_fewR, s_few7, s_eHas, s_qMake, s_eAdd, s_qAdd, s_eSub, s_qSub, s_eMul, s_qMul, s_ePow, s_qPow, s_eAbs, s_qAbs, s_eRound, s_eHull, s_eDiv, s_yMin, s_yMax, re4, rv_raw, rv_N0, dv, dz, dx, dcn, dm_raw, dm_N0, vI_N0, raw6_is, Prod.eta, vI_nil, N0_neg0, N0_ln0, N0_lm0, tmI_idem, teI_idem, cmpD_nrm, cmpD_nrmL, cmpD_nrmR, hasY_n, inY_rn, meetY_rn, zeroY_rn, powN_2, min_if, hasB_zero, wrap_er, rn_rn, Int.reduceNeg, Int.reduceEq, Int.reduceLT, Int.reduceLE, Int.reduceBEq, beq_dec, Int.reduceAdd, Int.zero_add, Int.add_zero, tmI_mulL, teI_mulL, tmI_mulR, teI_mulR, tmI_addL, teI_addL, tmI_addR, teI_addR, tmI_addN, teI_addN, tmI_neg, teI_neg, tmI_abs, teI_abs, Int.natAbs_natCast, eq_self, Bool.not_eq_eq_eq_not, decide_eq_true_eq, decide_eq_false_iff_not, not_true_eq_false, not_false_eq_true, decide_true, decide_false, Bool.true_and, Bool.and_true, Bool.not_true, Bool.not_false, beq_self_eq_true, Bool.true_eq_false, Bool.false_eq_true, reduceCtorEq, gt_iff_lt, ge_iff_le, true_and, and_true, and_self, Bool.false_eq, Bool.and_self, hfx] at hc_; done) | (clear hc_; cbv))))
    all_goals subst hF hA
    all_goals (try simp only [fnOf, find, std, reduceIte, Nat.reduceEqDiff, sp1, sp2, a1, a2, FnSpec.out, Shape.build, leafs, leafCells, tups, oneOf, List.cons_append, List.nil_append, List.length_cons, List.length_nil, s_RealHolds, s_known7, s_fewR, s_few7, s_eHas, s_qMake, s_eAdd, s_qAdd, s_eSub, s_qSub, s_eMul, s_qMul, s_ePow, s_qPow, s_eAbs, s_qAbs, s_eRound, s_eHull, s_eDiv, s_yMin, s_yMax, re4, rv_raw, rv_N0, dv, dz, dx, dcn, dm_raw, dm_N0, vI_N0, raw6_is, Prod.eta, vI_nil, N0_neg0, N0_ln0, N0_lm0, tmI_idem, teI_idem, cmpD_nrm, cmpD_nrmL, cmpD_nrmR, hasY_n, inY_rn, meetY_rn, zeroY_rn, powN_2, min_if, hasB_zero, wrap_er, rn_rn, Int.reduceNeg, Int.reduceEq, Int.reduceLT, Int.reduceLE, Int.reduceBEq, beq_dec, Int.reduceAdd, Int.zero_add, Int.add_zero, tmI_mulL, teI_mulL, tmI_mulR, teI_mulR, tmI_addL, teI_addL, tmI_addR, teI_addR, tmI_addN, teI_addN, tmI_neg, teI_neg, tmI_abs, teI_abs, Int.natAbs_natCast, eq_self, Bool.not_eq_eq_eq_not, decide_eq_true_eq, decide_eq_false_iff_not, not_true_eq_false, not_false_eq_true, decide_true, decide_false, Bool.true_and, Bool.and_true, Bool.not_true, Bool.not_false, beq_self_eq_true, Bool.true_eq_false, Bool.false_eq_true, reduceCtorEq, gt_iff_lt, ge_iff_le, true_and, and_true, and_self, Bool.false_eq, Bool.and_self, hfx] at hQ ⊢)
    all_goals (repeat' (first
      | with_reducible exact hQ
      | with_reducible assumption
      | with_reducible exact isi_int _ _
      | (with_reducible refine canR_c (r := ((_, _), (_, _))) ?_; with_reducible assumption)
      | (with_reducible refine okR_c (r := ((_, _), (_, _))) ?_; with_reducible assumption)
      | (with_reducible refine okM_fR (r := ((_, _), (_, _))) ?_; with_reducible assumption)
      | (with_reducible refine few20_fR (r := ((_, _), (_, _))) ?_; with_reducible assumption)
      | (with_reducible refine few30_fR (r := ((_, _), (_, _))) ?_; with_reducible assumption)
      | with_reducible exact True.intro
      | (with_reducible refine few40_fR (r := ((_, _), (_, _))) ?_; with_reducible assumption)
      | (with_reducible refine canD_c (a := (_, _)) ?_; with_reducible assumption)
      | (with_reducible refine okT_c (a := (_, _)) ?_; with_reducible assumption)
      | (with_reducible refine okD_c (a := (_, _)) ?_; with_reducible assumption)
      | (with_reducible refine near_c (a := (_, _)) (b := (_, _)) ?_ ?_ <;> with_reducible assumption)
      | (with_reducible refine okE_fit ?_ (k := 10000) (by omega); with_reducible assumption)
      | with_reducible refine okX_mk ?_ ?_ ?_ ?_
      | with_reducible refine okW_mk ?_ ?_ ?_
      | with_reducible refine okE_mk ?_
      | with_reducible refine okI_mk ?_
      | with_reducible refine okD_mk ?_ ?_ ?_
      | (with_reducible refine near_mk ?_ ?_; (focus omega); (focus omega))
      | with_reducible exact near_c w5 w6
      | exact near_c w5 w6
      | omega
      | with_reducible refine And.intro ?_ ?_))
  · have hfx : (((n ≤ 10 ∧ -1000 ≤ e ∧ e ≤ 1000) ∧ m ≤ 10 ∧ -1000 ≤ f ∧ f ≤ 1000)) = True := eq_true kx
    have hfy : (((p ≤ 10 ∧ -1000 ≤ g ∧ g ≤ 1000) ∧ q ≤ 10 ∧ -1000 ≤ h ∧ h ≤ 1000)) = False := eq_false ky
    cbv
    repeat' (first | with_reducible refine And.intro ?_ ?_ | (with_reducible refine safe_lift hA ?_; kernel_rfl) | (intro hc_; (first | (with_reducible exfalso; clear hQ; subst hF hA; simp only [fnOf, find, std, reduceIte, Nat.reduceEqDiff, sp1, sp2, a1, a2, FnSpec.out, Shape.build, leafs, leafCells, tups, oneOf, List.cons_append, List.nil_append, List.length_cons, List.length_nil, s_RealHolds, s_known7, s_fewR, s_few7, s_eHas, s_qMake, s_eAdd, s_qAdd, s_eSub, s_qSub, s_eMul, s_qMul, s_ePow, s_qPow, s_eAbs, s_qAbs, s_eRound, s_eHull, s_eDiv, s_yMin, s_yMax, re4, rv_raw, rv_N0, dv, dz, dx, dcn, dm_raw, dm_N0, vI_N0, raw6_is, Prod.eta, vI_nil, N0_neg0, N0_ln0, N0_lm0, tmI_idem, teI_idem, cmpD_nrm, cmpD_nrmL, cmpD_nrmR, hasY_n, inY_rn, meetY_rn, zeroY_rn, powN_2, min_if, hasB_zero, wrap_er, rn_rn, Int.reduceNeg, Int.reduceEq, Int.reduceLT, Int.reduceLE, Int.reduceBEq, beq_dec, Int.reduceAdd, Int.zero_add, Int.add_zero, tmI_mulL, teI_mulL, tmI_mulR, teI_mulR, tmI_addL, teI_addL, tmI_addR, teI_addR, tmI_addN, teI_addN, tmI_neg, teI_neg, tmI_abs, teI_abs, Int.natAbs_natCast, eq_self, Bool.not_eq_eq_eq_not, decide_eq_true_eq, decide_eq_false_iff_not, not_true_eq_false, not_false_eq_true, decide_true, decide_false, Bool.true_and, Bool.and_true, Bool.not_true, Bool.not_false, beq_self_eq_true, Bool.true_eq_false, Bool.false_eq_true, reduceCtorEq, gt_iff_lt, ge_iff_le, true_and, and_true, and_self, Bool.false_eq, Bool.and_self, hfx, hfy] at hc_; done) | (clear hc_; cbv))))
    all_goals subst hF hA
    all_goals (try simp only [fnOf, find, std, reduceIte, Nat.reduceEqDiff, sp1, sp2, a1, a2, FnSpec.out, Shape.build, leafs, leafCells, tups, oneOf, List.cons_append, List.nil_append, List.length_cons, List.length_nil, s_RealHolds, s_known7, s_fewR, s_few7, s_eHas, s_qMake, s_eAdd, s_qAdd, s_eSub, s_qSub, s_eMul, s_qMul, s_ePow, s_qPow, s_eAbs, s_qAbs, s_eRound, s_eHull, s_eDiv, s_yMin, s_yMax, re4, rv_raw, rv_N0, dv, dz, dx, dcn, dm_raw, dm_N0, vI_N0, raw6_is, Prod.eta, vI_nil, N0_neg0, N0_ln0, N0_lm0, tmI_idem, teI_idem, cmpD_nrm, cmpD_nrmL, cmpD_nrmR, hasY_n, inY_rn, meetY_rn, zeroY_rn, powN_2, min_if, hasB_zero, wrap_er, rn_rn, Int.reduceNeg, Int.reduceEq, Int.reduceLT, Int.reduceLE, Int.reduceBEq, beq_dec, Int.reduceAdd, Int.zero_add, Int.add_zero, tmI_mulL, teI_mulL, tmI_mulR, teI_mulR, tmI_addL, teI_addL, tmI_addR, teI_addR, tmI_addN, teI_addN, tmI_neg, teI_neg, tmI_abs, teI_abs, Int.natAbs_natCast, eq_self, Bool.not_eq_eq_eq_not, decide_eq_true_eq, decide_eq_false_iff_not, not_true_eq_false, not_false_eq_true, decide_true, decide_false, Bool.true_and, Bool.and_true, Bool.not_true, Bool.not_false, beq_self_eq_true, Bool.true_eq_false, Bool.false_eq_true, reduceCtorEq, gt_iff_lt, ge_iff_le, true_and, and_true, and_self, Bool.false_eq, Bool.and_self, hfx, hfy] at hQ ⊢)
    all_goals (repeat' (first
      | with_reducible exact hQ
      | with_reducible assumption
      | with_reducible exact isi_int _ _
      | (with_reducible refine canR_c (r := ((_, _), (_, _))) ?_; with_reducible assumption)
      | (with_reducible refine okR_c (r := ((_, _), (_, _))) ?_; with_reducible assumption)
      | (with_reducible refine okM_fR (r := ((_, _), (_, _))) ?_; with_reducible assumption)
      | (with_reducible refine few20_fR (r := ((_, _), (_, _))) ?_; with_reducible assumption)
      | (with_reducible refine few30_fR (r := ((_, _), (_, _))) ?_; with_reducible assumption)
      | with_reducible exact True.intro
      | (with_reducible refine few40_fR (r := ((_, _), (_, _))) ?_; with_reducible assumption)
      | (with_reducible refine canD_c (a := (_, _)) ?_; with_reducible assumption)
      | (with_reducible refine okT_c (a := (_, _)) ?_; with_reducible assumption)
      | (with_reducible refine okD_c (a := (_, _)) ?_; with_reducible assumption)
      | (with_reducible refine near_c (a := (_, _)) (b := (_, _)) ?_ ?_ <;> with_reducible assumption)
      | (with_reducible refine okE_fit ?_ (k := 10000) (by omega); with_reducible assumption)
      | with_reducible refine okX_mk ?_ ?_ ?_ ?_
      | with_reducible refine okW_mk ?_ ?_ ?_
      | with_reducible refine okE_mk ?_
      | with_reducible refine okI_mk ?_
      | with_reducible refine okD_mk ?_ ?_ ?_
      | (with_reducible refine near_mk ?_ ?_; (focus omega); (focus omega))
      | with_reducible exact near_c w5 w6
      | exact near_c w5 w6
      | omega
      | with_reducible refine And.intro ?_ ?_))
  · have hfx : (((n ≤ 10 ∧ -1000 ≤ e ∧ e ≤ 1000) ∧ m ≤ 10 ∧ -1000 ≤ f ∧ f ≤ 1000)) = True := eq_true kx
    have hfy : (((p ≤ 10 ∧ -1000 ≤ g ∧ g ≤ 1000) ∧ q ≤ 10 ∧ -1000 ≤ h ∧ h ≤ 1000)) = True := eq_true ky
    have hfd : ((i ≤ 10 ∧ -1000 ≤ j ∧ j ≤ 1000)) = False := eq_false kd
    cbv
    repeat' (first | with_reducible refine And.intro ?_ ?_ | (with_reducible refine safe_lift hA ?_; kernel_rfl) | (intro hc_; (first | (with_reducible exfalso; clear hQ; subst hF hA; simp only [fnOf, find, std, reduceIte, Nat.reduceEqDiff, sp1, sp2, a1, a2, FnSpec.out, Shape.build, leafs, leafCells, tups, oneOf, List.cons_append, List.nil_append, List.length_cons, List.length_nil, s_RealHolds, s_known7, s_fewR, s_few7, s_eHas, s_qMake, s_eAdd, s_qAdd, s_eSub, s_qSub, s_eMul, s_qMul, s_ePow, s_qPow, s_eAbs, s_qAbs, s_eRound, s_eHull, s_eDiv, s_yMin, s_yMax, re4, rv_raw, rv_N0, dv, dz, dx, dcn, dm_raw, dm_N0, vI_N0, raw6_is, Prod.eta, vI_nil, N0_neg0, N0_ln0, N0_lm0, tmI_idem, teI_idem, cmpD_nrm, cmpD_nrmL, cmpD_nrmR, hasY_n, inY_rn, meetY_rn, zeroY_rn, powN_2, min_if, hasB_zero, wrap_er, rn_rn, Int.reduceNeg, Int.reduceEq, Int.reduceLT, Int.reduceLE, Int.reduceBEq, beq_dec, Int.reduceAdd, Int.zero_add, Int.add_zero, tmI_mulL, teI_mulL, tmI_mulR, teI_mulR, tmI_addL, teI_addL, tmI_addR, teI_addR, tmI_addN, teI_addN, tmI_neg, teI_neg, tmI_abs, teI_abs, Int.natAbs_natCast, eq_self, Bool.not_eq_eq_eq_not, decide_eq_true_eq, decide_eq_false_iff_not, not_true_eq_false, not_false_eq_true, decide_true, decide_false, Bool.true_and, Bool.and_true, Bool.not_true, Bool.not_false, beq_self_eq_true, Bool.true_eq_false, Bool.false_eq_true, reduceCtorEq, gt_iff_lt, ge_iff_le, true_and, and_true, and_self, Bool.false_eq, Bool.and_self, hfx, hfy, hfd] at hc_; done) | (clear hc_; cbv))))
    all_goals subst hF hA
    all_goals (try simp only [fnOf, find, std, reduceIte, Nat.reduceEqDiff, sp1, sp2, a1, a2, FnSpec.out, Shape.build, leafs, leafCells, tups, oneOf, List.cons_append, List.nil_append, List.length_cons, List.length_nil, s_RealHolds, s_known7, s_fewR, s_few7, s_eHas, s_qMake, s_eAdd, s_qAdd, s_eSub, s_qSub, s_eMul, s_qMul, s_ePow, s_qPow, s_eAbs, s_qAbs, s_eRound, s_eHull, s_eDiv, s_yMin, s_yMax, re4, rv_raw, rv_N0, dv, dz, dx, dcn, dm_raw, dm_N0, vI_N0, raw6_is, Prod.eta, vI_nil, N0_neg0, N0_ln0, N0_lm0, tmI_idem, teI_idem, cmpD_nrm, cmpD_nrmL, cmpD_nrmR, hasY_n, inY_rn, meetY_rn, zeroY_rn, powN_2, min_if, hasB_zero, wrap_er, rn_rn, Int.reduceNeg, Int.reduceEq, Int.reduceLT, Int.reduceLE, Int.reduceBEq, beq_dec, Int.reduceAdd, Int.zero_add, Int.add_zero, tmI_mulL, teI_mulL, tmI_mulR, teI_mulR, tmI_addL, teI_addL, tmI_addR, teI_addR, tmI_addN, teI_addN, tmI_neg, teI_neg, tmI_abs, teI_abs, Int.natAbs_natCast, eq_self, Bool.not_eq_eq_eq_not, decide_eq_true_eq, decide_eq_false_iff_not, not_true_eq_false, not_false_eq_true, decide_true, decide_false, Bool.true_and, Bool.and_true, Bool.not_true, Bool.not_false, beq_self_eq_true, Bool.true_eq_false, Bool.false_eq_true, reduceCtorEq, gt_iff_lt, ge_iff_le, true_and, and_true, and_self, Bool.false_eq, Bool.and_self, hfx, hfy, hfd] at hQ ⊢)
    all_goals (repeat' (first
      | with_reducible exact hQ
      | with_reducible assumption
      | with_reducible exact isi_int _ _
      | (with_reducible refine canR_c (r := ((_, _), (_, _))) ?_; with_reducible assumption)
      | (with_reducible refine okR_c (r := ((_, _), (_, _))) ?_; with_reducible assumption)
      | (with_reducible refine okM_fR (r := ((_, _), (_, _))) ?_; with_reducible assumption)
      | (with_reducible refine few20_fR (r := ((_, _), (_, _))) ?_; with_reducible assumption)
      | (with_reducible refine few30_fR (r := ((_, _), (_, _))) ?_; with_reducible assumption)
      | with_reducible exact True.intro
      | (with_reducible refine few40_fR (r := ((_, _), (_, _))) ?_; with_reducible assumption)
      | (with_reducible refine canD_c (a := (_, _)) ?_; with_reducible assumption)
      | (with_reducible refine okT_c (a := (_, _)) ?_; with_reducible assumption)
      | (with_reducible refine okD_c (a := (_, _)) ?_; with_reducible assumption)
      | (with_reducible refine near_c (a := (_, _)) (b := (_, _)) ?_ ?_ <;> with_reducible assumption)
      | (with_reducible refine okE_fit ?_ (k := 10000) (by omega); with_reducible assumption)
      | with_reducible refine okX_mk ?_ ?_ ?_ ?_
      | with_reducible refine okW_mk ?_ ?_ ?_
      | with_reducible refine okE_mk ?_
      | with_reducible refine okI_mk ?_
      | with_reducible refine okD_mk ?_ ?_ ?_
      | (with_reducible refine near_mk ?_ ?_; (focus omega); (focus omega))
      | with_reducible exact near_c w5 w6
      | exact near_c w5 w6
      | omega
      | with_reducible refine And.intro ?_ ?_))
  · have hfx : (((n ≤ 10 ∧ -1000 ≤ e ∧ e ≤ 1000) ∧ m ≤ 10 ∧ -1000 ≤ f ∧ f ≤ 1000)) = True := eq_true kx
    have hfy : (((p ≤ 10 ∧ -1000 ≤ g ∧ g ≤ 1000) ∧ q ≤ 10 ∧ -1000 ≤ h ∧ h ≤ 1000)) = True := eq_true ky
    have hfd : ((i ≤ 10 ∧ -1000 ≤ j ∧ j ≤ 1000)) = True := eq_true kd
    have hfe : ((k ≤ 10 ∧ -1000 ≤ l ∧ l ≤ 1000)) = False := eq_false ke
    cbv
    repeat' (first | with_reducible refine And.intro ?_ ?_ | (with_reducible refine safe_lift hA ?_; kernel_rfl) | (intro hc_; (first | (with_reducible exfalso; clear hQ; subst hF hA; simp only [fnOf, find, std, reduceIte, Nat.reduceEqDiff, sp1, sp2, a1, a2, FnSpec.out, Shape.build, leafs, leafCells, tups, oneOf, List.cons_append, List.nil_append, List.length_cons, List.length_nil, s_RealHolds, s_known7, s_fewR, s_few7, s_eHas, s_qMake, s_eAdd, s_qAdd, s_eSub, s_qSub, s_eMul, s_qMul, s_ePow, s_qPow, s_eAbs, s_qAbs, s_eRound, s_eHull, s_eDiv, s_yMin, s_yMax, re4, rv_raw, rv_N0, dv, dz, dx, dcn, dm_raw, dm_N0, vI_N0, raw6_is, Prod.eta, vI_nil, N0_neg0, N0_ln0, N0_lm0, tmI_idem, teI_idem, cmpD_nrm, cmpD_nrmL, cmpD_nrmR, hasY_n, inY_rn, meetY_rn, zeroY_rn, powN_2, min_if, hasB_zero, wrap_er, rn_rn, Int.reduceNeg, Int.reduceEq, Int.reduceLT, Int.reduceLE, Int.reduceBEq, beq_dec, Int.reduceAdd, Int.zero_add, Int.add_zero, tmI_mulL, teI_mulL, tmI_mulR, teI_mulR, tmI_addL, teI_addL, tmI_addR, teI_addR, tmI_addN, teI_addN, tmI_neg, teI_neg, tmI_abs, teI_abs, Int.natAbs_natCast, eq_self, Bool.not_eq_eq_eq_not, decide_eq_true_eq, decide_eq_false_iff_not, not_true_eq_false, not_false_eq_true, decide_true, decide_false, Bool.true_and, Bool.and_true, Bool.not_true, Bool.not_false, beq_self_eq_true, Bool.true_eq_false, Bool.false_eq_true, reduceCtorEq, gt_iff_lt, ge_iff_le, true_and, and_true, and_self, Bool.false_eq, Bool.and_self, hfx, hfy, hfd, hfe] at hc_; done) | (clear hc_; cbv))))
    all_goals subst hF hA
    all_goals (try simp only [fnOf, find, std, reduceIte, Nat.reduceEqDiff, sp1, sp2, a1, a2, FnSpec.out, Shape.build, leafs, leafCells, tups, oneOf, List.cons_append, List.nil_append, List.length_cons, List.length_nil, s_RealHolds, s_known7, s_fewR, s_few7, s_eHas, s_qMake, s_eAdd, s_qAdd, s_eSub, s_qSub, s_eMul, s_qMul, s_ePow, s_qPow, s_eAbs, s_qAbs, s_eRound, s_eHull, s_eDiv, s_yMin, s_yMax, re4, rv_raw, rv_N0, dv, dz, dx, dcn, dm_raw, dm_N0, vI_N0, raw6_is, Prod.eta, vI_nil, N0_neg0, N0_ln0, N0_lm0, tmI_idem, teI_idem, cmpD_nrm, cmpD_nrmL, cmpD_nrmR, hasY_n, inY_rn, meetY_rn, zeroY_rn, powN_2, min_if, hasB_zero, wrap_er, rn_rn, Int.reduceNeg, Int.reduceEq, Int.reduceLT, Int.reduceLE, Int.reduceBEq, beq_dec, Int.reduceAdd, Int.zero_add, Int.add_zero, tmI_mulL, teI_mulL, tmI_mulR, teI_mulR, tmI_addL, teI_addL, tmI_addR, teI_addR, tmI_addN, teI_addN, tmI_neg, teI_neg, tmI_abs, teI_abs, Int.natAbs_natCast, eq_self, Bool.not_eq_eq_eq_not, decide_eq_true_eq, decide_eq_false_iff_not, not_true_eq_false, not_false_eq_true, decide_true, decide_false, Bool.true_and, Bool.and_true, Bool.not_true, Bool.not_false, beq_self_eq_true, Bool.true_eq_false, Bool.false_eq_true, reduceCtorEq, gt_iff_lt, ge_iff_le, true_and, and_true, and_self, Bool.false_eq, Bool.and_self, hfx, hfy, hfd, hfe] at hQ ⊢)
    all_goals (repeat' (first
      | with_reducible exact hQ
      | with_reducible assumption
      | with_reducible exact isi_int _ _
      | (with_reducible refine canR_c (r := ((_, _), (_, _))) ?_; with_reducible assumption)
      | (with_reducible refine okR_c (r := ((_, _), (_, _))) ?_; with_reducible assumption)
      | (with_reducible refine okM_fR (r := ((_, _), (_, _))) ?_; with_reducible assumption)
      | (with_reducible refine few20_fR (r := ((_, _), (_, _))) ?_; with_reducible assumption)
      | (with_reducible refine few30_fR (r := ((_, _), (_, _))) ?_; with_reducible assumption)
      | with_reducible exact True.intro
      | (with_reducible refine few40_fR (r := ((_, _), (_, _))) ?_; with_reducible assumption)
      | (with_reducible refine canD_c (a := (_, _)) ?_; with_reducible assumption)
      | (with_reducible refine okT_c (a := (_, _)) ?_; with_reducible assumption)
      | (with_reducible refine okD_c (a := (_, _)) ?_; with_reducible assumption)
      | (with_reducible refine near_c (a := (_, _)) (b := (_, _)) ?_ ?_ <;> with_reducible assumption)
      | (with_reducible refine okE_fit ?_ (k := 10000) (by omega); with_reducible assumption)
      | with_reducible refine okX_mk ?_ ?_ ?_ ?_
      | with_reducible refine okW_mk ?_ ?_ ?_
      | with_reducible refine okE_mk ?_
      | with_reducible refine okI_mk ?_
      | with_reducible refine okD_mk ?_ ?_ ?_
      | (with_reducible refine near_mk ?_ ?_; (focus omega); (focus omega))
      | with_reducible exact near_c w5 w6
      | exact near_c w5 w6
      | omega
      | with_reducible refine And.intro ?_ ?_))
  · have hfx : (((n ≤ 10 ∧ -1000 ≤ e ∧ e ≤ 1000) ∧ m ≤ 10 ∧ -1000 ≤ f ∧ f ≤ 1000)) = True := eq_true kx
    have hfy : (((p ≤ 10 ∧ -1000 ≤ g ∧ g ≤ 1000) ∧ q ≤ 10 ∧ -1000 ≤ h ∧ h ≤ 1000)) = True := eq_true ky
    have hfd : ((i ≤ 10 ∧ -1000 ≤ j ∧ j ≤ 1000)) = True := eq_true kd
    have hfe : ((k ≤ 10 ∧ -1000 ≤ l ∧ l ≤ 1000)) = True := eq_true ke
    obtain ⟨x1, x2, x3, x4, x5, x6, x7, x8, x9⟩ := few_facts (s := s) (t := t) (cs := cs) (es := es) hw hw2 kx
    obtain ⟨X, hX⟩ : ∃ X : Re, ((vI s cs, e), (vI t es, f)) = X := ⟨_, rfl⟩
    rw [hX] at x6
    obtain ⟨y1, y2, y3, y4, y5, y6, y7, y8, y9⟩ := few_facts (s := u) (t := v) (cs := gs) (es := hs) hv hv2 ky
    obtain ⟨Y, hY⟩ : ∃ Y : Re, ((vI u gs, g), (vI v hs, h)) = Y := ⟨_, rfl⟩
    rw [hY] at y6
    have cX := c_rn x6
    have bX := rn_few x6
    have bX2 : fR (rn X) 640 2000 := bX.mono (by omega) (by omega)
    have bX3 : fR (rn X) 1280 20000 := bX.mono (by omega) (by omega)
    have bX4 : fR (rn X) 4000 8000 := bX.mono (by omega) (by omega)
    have bX5 : fR (rn X) 8000 10000 := bX.mono (by omega) (by omega)
    have cY := c_rn y6
    have bY := rn_few y6
    have bY2 : fR (rn Y) 640 2000 := bY.mono (by omega) (by omega)
    have bY3 : fR (rn Y) 1280 20000 := bY.mono (by omega) (by omega)
    have bY4 : fR (rn Y) 4000 8000 := bY.mono (by omega) (by omega)
    have bY5 : fR (rn Y) 8000 10000 := bY.mono (by omega) (by omega)
    obtain ⟨d1, d2, d3, d4, d5, d6⟩ := few_d (s := a) hd kd
    have d7 : dC (tmI (vI a is), teI (vI a is) j) := d4
    have d8 : -20000 ≤ teI (vI a is) j ∧ teI (vI a is) j ≤ 20000 := dC_b d4
    obtain ⟨n1, n2, n3, n4, n5, n6⟩ := few_d (s := b) hd_ ke
    have n7 : dC (tmI (vI b ks), teI (vI b ks) l) := n4
    have n8 : -20000 ≤ teI (vI b ks) l ∧ teI (vI b ks) l ≤ 20000 := dC_b n4
    have gX := fC_rn x6
    have gY := fC_rn y6
    rw [hX] at hS
    have hS : hasB X (vI a is, j) = false := by simpa using hS
    cbv
    repeat' (first | with_reducible refine And.intro ?_ ?_ | (with_reducible refine safe_lift hA ?_; kernel_rfl) | (intro hc_; (first | (with_reducible exfalso; clear hQ; subst hF hA; simp only [fnOf, find, std, reduceIte, Nat.reduceEqDiff, sp1, sp2, a1, a2, FnSpec.out, Shape.build, leafs, leafCells, tups, oneOf, List.cons_append, List.nil_append, List.length_cons, List.length_nil, s_RealHolds, s_known7, s_fewR, s_few7, s_eHas, s_qMake, s_eAdd, s_qAdd, s_eSub, s_qSub, s_eMul, s_qMul, s_ePow, s_qPow, s_eAbs, s_qAbs, s_eRound, s_eHull, s_eDiv, s_yMin, s_yMax, re4, rv_raw, rv_N0, dv, dz, dx, dcn, dm_raw, dm_N0, vI_N0, raw6_is, Prod.eta, vI_nil, N0_neg0, N0_ln0, N0_lm0, tmI_idem, teI_idem, cmpD_nrm, cmpD_nrmL, cmpD_nrmR, hasY_n, inY_rn, meetY_rn, zeroY_rn, powN_2, min_if, hasB_zero, wrap_er, rn_rn, Int.reduceNeg, Int.reduceEq, Int.reduceLT, Int.reduceLE, Int.reduceBEq, beq_dec, Int.reduceAdd, Int.zero_add, Int.add_zero, tmI_mulL, teI_mulL, tmI_mulR, teI_mulR, tmI_addL, teI_addL, tmI_addR, teI_addR, tmI_addN, teI_addN, tmI_neg, teI_neg, tmI_abs, teI_abs, Int.natAbs_natCast, eq_self, Bool.not_eq_eq_eq_not, decide_eq_true_eq, decide_eq_false_iff_not, not_true_eq_false, not_false_eq_true, decide_true, decide_false, Bool.true_and, Bool.and_true, Bool.not_true, Bool.not_false, beq_self_eq_true, Bool.true_eq_false, Bool.false_eq_true, reduceCtorEq, gt_iff_lt, ge_iff_le, true_and, and_true, and_self, Bool.false_eq, Bool.and_self, hfx, hfy, hfd, hfe, hX, hY, d6, n6, hS] at hc_; done) | (clear hc_; cbv))))
    all_goals subst hF hA
    all_goals (try simp only [fnOf, find, std, reduceIte, Nat.reduceEqDiff, sp1, sp2, a1, a2, FnSpec.out, Shape.build, leafs, leafCells, tups, oneOf, List.cons_append, List.nil_append, List.length_cons, List.length_nil, s_RealHolds, s_known7, s_fewR, s_few7, s_eHas, s_qMake, s_eAdd, s_qAdd, s_eSub, s_qSub, s_eMul, s_qMul, s_ePow, s_qPow, s_eAbs, s_qAbs, s_eRound, s_eHull, s_eDiv, s_yMin, s_yMax, re4, rv_raw, rv_N0, dv, dz, dx, dcn, dm_raw, dm_N0, vI_N0, raw6_is, Prod.eta, vI_nil, N0_neg0, N0_ln0, N0_lm0, tmI_idem, teI_idem, cmpD_nrm, cmpD_nrmL, cmpD_nrmR, hasY_n, inY_rn, meetY_rn, zeroY_rn, powN_2, min_if, hasB_zero, wrap_er, rn_rn, Int.reduceNeg, Int.reduceEq, Int.reduceLT, Int.reduceLE, Int.reduceBEq, beq_dec, Int.reduceAdd, Int.zero_add, Int.add_zero, tmI_mulL, teI_mulL, tmI_mulR, teI_mulR, tmI_addL, teI_addL, tmI_addR, teI_addR, tmI_addN, teI_addN, tmI_neg, teI_neg, tmI_abs, teI_abs, Int.natAbs_natCast, eq_self, Bool.not_eq_eq_eq_not, decide_eq_true_eq, decide_eq_false_iff_not, not_true_eq_false, not_false_eq_true, decide_true, decide_false, Bool.true_and, Bool.and_true, Bool.not_true, Bool.not_false, beq_self_eq_true, Bool.true_eq_false, Bool.false_eq_true, reduceCtorEq, gt_iff_lt, ge_iff_le, true_and, and_true, and_self, Bool.false_eq, Bool.and_self, hfx, hfy, hfd, hfe, hX, hY, d6, n6, hS] at hQ ⊢)
    all_goals (repeat' (first
      | with_reducible exact hQ
      | with_reducible assumption
      | with_reducible exact isi_int _ _
      | (with_reducible refine canR_c (r := ((_, _), (_, _))) ?_; with_reducible assumption)
      | (with_reducible refine okR_c (r := ((_, _), (_, _))) ?_; with_reducible assumption)
      | (with_reducible refine okM_fR (r := ((_, _), (_, _))) ?_; with_reducible assumption)
      | (with_reducible refine few20_fR (r := ((_, _), (_, _))) ?_; with_reducible assumption)
      | (with_reducible refine few30_fR (r := ((_, _), (_, _))) ?_; with_reducible assumption)
      | with_reducible exact True.intro
      | (with_reducible refine few40_fR (r := ((_, _), (_, _))) ?_; with_reducible assumption)
      | (with_reducible refine canD_c (a := (_, _)) ?_; with_reducible assumption)
      | (with_reducible refine okT_c (a := (_, _)) ?_; with_reducible assumption)
      | (with_reducible refine okD_c (a := (_, _)) ?_; with_reducible assumption)
      | (with_reducible refine near_c (a := (_, _)) (b := (_, _)) ?_ ?_ <;> with_reducible assumption)
      | (with_reducible refine okE_fit ?_ (k := 10000) (by omega); with_reducible assumption)
      | with_reducible refine okX_mk ?_ ?_ ?_ ?_
      | with_reducible refine okW_mk ?_ ?_ ?_
      | with_reducible refine okE_mk ?_
      | with_reducible refine okI_mk ?_
      | with_reducible refine okD_mk ?_ ?_ ?_
      | (with_reducible refine near_mk ?_ ?_; (focus omega); (focus omega))
      | with_reducible exact near_c w5 w6
      | exact near_c w5 w6
      | omega
      | with_reducible refine And.intro ?_ ?_))
  · have hfx : (((n ≤ 10 ∧ -1000 ≤ e ∧ e ≤ 1000) ∧ m ≤ 10 ∧ -1000 ≤ f ∧ f ≤ 1000)) = True := eq_true kx
    have hfy : (((p ≤ 10 ∧ -1000 ≤ g ∧ g ≤ 1000) ∧ q ≤ 10 ∧ -1000 ≤ h ∧ h ≤ 1000)) = True := eq_true ky
    have hfd : ((i ≤ 10 ∧ -1000 ≤ j ∧ j ≤ 1000)) = True := eq_true kd
    have hfe : ((k ≤ 10 ∧ -1000 ≤ l ∧ l ≤ 1000)) = True := eq_true ke
    obtain ⟨x1, x2, x3, x4, x5, x6, x7, x8, x9⟩ := few_facts (s := s) (t := t) (cs := cs) (es := es) hw hw2 kx
    obtain ⟨X, hX⟩ : ∃ X : Re, ((vI s cs, e), (vI t es, f)) = X := ⟨_, rfl⟩
    rw [hX] at x6
    obtain ⟨y1, y2, y3, y4, y5, y6, y7, y8, y9⟩ := few_facts (s := u) (t := v) (cs := gs) (es := hs) hv hv2 ky
    obtain ⟨Y, hY⟩ : ∃ Y : Re, ((vI u gs, g), (vI v hs, h)) = Y := ⟨_, rfl⟩
    rw [hY] at y6
    have cX := c_rn x6
    have bX := rn_few x6
    have bX2 : fR (rn X) 640 2000 := bX.mono (by omega) (by omega)
    have bX3 : fR (rn X) 1280 20000 := bX.mono (by omega) (by omega)
    have bX4 : fR (rn X) 4000 8000 := bX.mono (by omega) (by omega)
    have bX5 : fR (rn X) 8000 10000 := bX.mono (by omega) (by omega)
    have cY := c_rn y6
    have bY := rn_few y6
    have bY2 : fR (rn Y) 640 2000 := bY.mono (by omega) (by omega)
    have bY3 : fR (rn Y) 1280 20000 := bY.mono (by omega) (by omega)
    have bY4 : fR (rn Y) 4000 8000 := bY.mono (by omega) (by omega)
    have bY5 : fR (rn Y) 8000 10000 := bY.mono (by omega) (by omega)
    obtain ⟨d1, d2, d3, d4, d5, d6⟩ := few_d (s := a) hd kd
    have d7 : dC (tmI (vI a is), teI (vI a is) j) := d4
    have d8 : -20000 ≤ teI (vI a is) j ∧ teI (vI a is) j ≤ 20000 := dC_b d4
    obtain ⟨n1, n2, n3, n4, n5, n6⟩ := few_d (s := b) hd_ ke
    have n7 : dC (tmI (vI b ks), teI (vI b ks) l) := n4
    have n8 : -20000 ≤ teI (vI b ks) l ∧ teI (vI b ks) l ≤ 20000 := dC_b n4
    have gX := fC_rn x6
    have gY := fC_rn y6
    rw [hX] at hS
    rw [hY] at hT
    have hT : hasB Y (vI b ks, l) = false := by simpa using hT
    cbv
    repeat' (first | with_reducible refine And.intro ?_ ?_ | (with_reducible refine safe_lift hA ?_; kernel_rfl) | (intro hc_; (first | (with_reducible exfalso; clear hQ; subst hF hA; simp only [fnOf, find, std, reduceIte, Nat.reduceEqDiff, sp1, sp2, a1, a2, FnSpec.out, Shape.build, leafs, leafCells, tups, oneOf, List.cons_append, List.nil_append, List.length_cons, List.length_nil, s_RealHolds, s_known7, s_fewR, s_few7, s_eHas, s_qMake, s_eAdd, s_qAdd, s_eSub, s_qSub, s_eMul, s_qMul, s_ePow, s_qPow, s_eAbs, s_qAbs, s_eRound, s_eHull, s_eDiv, s_yMin, s_yMax, re4, rv_raw, rv_N0, dv, dz, dx, dcn, dm_raw, dm_N0, vI_N0, raw6_is, Prod.eta, vI_nil, N0_neg0, N0_ln0, N0_lm0, tmI_idem, teI_idem, cmpD_nrm, cmpD_nrmL, cmpD_nrmR, hasY_n, inY_rn, meetY_rn, zeroY_rn, powN_2, min_if, hasB_zero, wrap_er, rn_rn, Int.reduceNeg, Int.reduceEq, Int.reduceLT, Int.reduceLE, Int.reduceBEq, beq_dec, Int.reduceAdd, Int.zero_add, Int.add_zero, tmI_mulL, teI_mulL, tmI_mulR, teI_mulR, tmI_addL, teI_addL, tmI_addR, teI_addR, tmI_addN, teI_addN, tmI_neg, teI_neg, tmI_abs, teI_abs, Int.natAbs_natCast, eq_self, Bool.not_eq_eq_eq_not, decide_eq_true_eq, decide_eq_false_iff_not, not_true_eq_false, not_false_eq_true, decide_true, decide_false, Bool.true_and, Bool.and_true, Bool.not_true, Bool.not_false, beq_self_eq_true, Bool.true_eq_false, Bool.false_eq_true, reduceCtorEq, gt_iff_lt, ge_iff_le, true_and, and_true, and_self, Bool.false_eq, Bool.and_self, hfx, hfy, hfd, hfe, hX, hY, d6, n6, hS, hT] at hc_; done) | (clear hc_; cbv))))
    all_goals subst hF hA
    all_goals (try simp only [fnOf, find, std, reduceIte, Nat.reduceEqDiff, sp1, sp2, a1, a2, FnSpec.out, Shape.build, leafs, leafCells, tups, oneOf, List.cons_append, List.nil_append, List.length_cons, List.length_nil, s_RealHolds, s_known7, s_fewR, s_few7, s_eHas, s_qMake, s_eAdd, s_qAdd, s_eSub, s_qSub, s_eMul, s_qMul, s_ePow, s_qPow, s_eAbs, s_qAbs, s_eRound, s_eHull, s_eDiv, s_yMin, s_yMax, re4, rv_raw, rv_N0, dv, dz, dx, dcn, dm_raw, dm_N0, vI_N0, raw6_is, Prod.eta, vI_nil, N0_neg0, N0_ln0, N0_lm0, tmI_idem, teI_idem, cmpD_nrm, cmpD_nrmL, cmpD_nrmR, hasY_n, inY_rn, meetY_rn, zeroY_rn, powN_2, min_if, hasB_zero, wrap_er, rn_rn, Int.reduceNeg, Int.reduceEq, Int.reduceLT, Int.reduceLE, Int.reduceBEq, beq_dec, Int.reduceAdd, Int.zero_add, Int.add_zero, tmI_mulL, teI_mulL, tmI_mulR, teI_mulR, tmI_addL, teI_addL, tmI_addR, teI_addR, tmI_addN, teI_addN, tmI_neg, teI_neg, tmI_abs, teI_abs, Int.natAbs_natCast, eq_self, Bool.not_eq_eq_eq_not, decide_eq_true_eq, decide_eq_false_iff_not, not_true_eq_false, not_false_eq_true, decide_true, decide_false, Bool.true_and, Bool.and_true, Bool.not_true, Bool.not_false, beq_self_eq_true, Bool.true_eq_false, Bool.false_eq_true, reduceCtorEq, gt_iff_lt, ge_iff_le, true_and, and_true, and_self, Bool.false_eq, Bool.and_self, hfx, hfy, hfd, hfe, hX, hY, d6, n6, hS, hT] at hQ ⊢)
    all_goals (repeat' (first
      | with_reducible exact hQ
      | with_reducible assumption
      | with_reducible exact isi_int _ _
      | (with_reducible refine canR_c (r := ((_, _), (_, _))) ?_; with_reducible assumption)
      | (with_reducible refine okR_c (r := ((_, _), (_, _))) ?_; with_reducible assumption)
      | (with_reducible refine okM_fR (r := ((_, _), (_, _))) ?_; with_reducible assumption)
      | (with_reducible refine few20_fR (r := ((_, _), (_, _))) ?_; with_reducible assumption)
      | (with_reducible refine few30_fR (r := ((_, _), (_, _))) ?_; with_reducible assumption)
      | with_reducible exact True.intro
      | (with_reducible refine few40_fR (r := ((_, _), (_, _))) ?_; with_reducible assumption)
      | (with_reducible refine canD_c (a := (_, _)) ?_; with_reducible assumption)
      | (with_reducible refine okT_c (a := (_, _)) ?_; with_reducible assumption)
      | (with_reducible refine okD_c (a := (_, _)) ?_; with_reducible assumption)
      | (with_reducible refine near_c (a := (_, _)) (b := (_, _)) ?_ ?_ <;> with_reducible assumption)
      | (with_reducible refine okE_fit ?_ (k := 10000) (by omega); with_reducible assumption)
      | with_reducible refine okX_mk ?_ ?_ ?_ ?_
      | with_reducible refine okW_mk ?_ ?_ ?_
      | with_reducible refine okE_mk ?_
      | with_reducible refine okI_mk ?_
      | with_reducible refine okD_mk ?_ ?_ ?_
      | (with_reducible refine near_mk ?_ ?_; (focus omega); (focus omega))
      | with_reducible exact near_c w5 w6
      | exact near_c w5 w6
      | omega
      | with_reducible refine And.intro ?_ ?_))
  · have hfx : (((n ≤ 10 ∧ -1000 ≤ e ∧ e ≤ 1000) ∧ m ≤ 10 ∧ -1000 ≤ f ∧ f ≤ 1000)) = True := eq_true kx
    have hfy : (((p ≤ 10 ∧ -1000 ≤ g ∧ g ≤ 1000) ∧ q ≤ 10 ∧ -1000 ≤ h ∧ h ≤ 1000)) = True := eq_true ky
    have hfd : ((i ≤ 10 ∧ -1000 ≤ j ∧ j ≤ 1000)) = True := eq_true kd
    have hfe : ((k ≤ 10 ∧ -1000 ≤ l ∧ l ≤ 1000)) = True := eq_true ke
    obtain ⟨x1, x2, x3, x4, x5, x6, x7, x8, x9⟩ := few_facts (s := s) (t := t) (cs := cs) (es := es) hw hw2 kx
    obtain ⟨X, hX⟩ : ∃ X : Re, ((vI s cs, e), (vI t es, f)) = X := ⟨_, rfl⟩
    rw [hX] at x6
    obtain ⟨y1, y2, y3, y4, y5, y6, y7, y8, y9⟩ := few_facts (s := u) (t := v) (cs := gs) (es := hs) hv hv2 ky
    obtain ⟨Y, hY⟩ : ∃ Y : Re, ((vI u gs, g), (vI v hs, h)) = Y := ⟨_, rfl⟩
    rw [hY] at y6
    have cX := c_rn x6
    have bX := rn_few x6
    have bX2 : fR (rn X) 640 2000 := bX.mono (by omega) (by omega)
    have bX3 : fR (rn X) 1280 20000 := bX.mono (by omega) (by omega)
    have bX4 : fR (rn X) 4000 8000 := bX.mono (by omega) (by omega)
    have bX5 : fR (rn X) 8000 10000 := bX.mono (by omega) (by omega)
    have cY := c_rn y6
    have bY := rn_few y6
    have bY2 : fR (rn Y) 640 2000 := bY.mono (by omega) (by omega)
    have bY3 : fR (rn Y) 1280 20000 := bY.mono (by omega) (by omega)
    have bY4 : fR (rn Y) 4000 8000 := bY.mono (by omega) (by omega)
    have bY5 : fR (rn Y) 8000 10000 := bY.mono (by omega) (by omega)
    obtain ⟨d1, d2, d3, d4, d5, d6⟩ := few_d (s := a) hd kd
    have d7 : dC (tmI (vI a is), teI (vI a is) j) := d4
    have d8 : -20000 ≤ teI (vI a is) j ∧ teI (vI a is) j ≤ 20000 := dC_b d4
    obtain ⟨n1, n2, n3, n4, n5, n6⟩ := few_d (s := b) hd_ ke
    have n7 : dC (tmI (vI b ks), teI (vI b ks) l) := n4
    have n8 : -20000 ≤ teI (vI b ks) l ∧ teI (vI b ks) l ≤ 20000 := dC_b n4
    have gX := fC_rn x6
    have gY := fC_rn y6
    rw [hX] at hS
    rw [hY] at hT hz
    have hz : zeroB Y = true := by simpa using hz
    have hw1 : IntKind.i64.wrap (c.tmod 100) = c.tmod 100 := wrap_in (by omega) (by omega)
    have hw2 : IntKind.i64.wrap (c.tmod 100 + 1) = c.tmod 100 + 1 := wrap_in (by omega) (by omega)
    have hw3 : IntKind.i64.wrap (c2.tmod 7) = c2.tmod 7 := wrap_in (by omega) (by omega)
    have hpk : powN (c2.tmod 7) ≤ 8 := by unfold powN; omega
    have H := holds7 x6 y6 d3 n3 hS hT hpk (c.tmod 100 + 1)
    dsimp only at H
    obtain ⟨q1, q2, q3, q4, q5, q6, q7, q8, q9, q10, q11, q12, q13, q14⟩ := H
    have lS : N0.ln (tmI (vI a is)) ≤ 10 := ln_fit (fit_tm d3.1)
    have lT : N0.ln (tmI (vI b ks)) ≤ 10 := ln_fit (fit_tm n3.1)
    have fST : Fit (vI a is * vI b ks) 100000 := (d3.1.mul n3.1 (by omega)).mono (Nat.le_refl _)
    have t0 := c_add gX gY
    have t1 := c_sub gX gY
    have t2 := c_mul gX gY
    have t3 := c_pow gX hpk
    have t4 := c_abs gX
    have t5 := c_round gX (c.tmod 100 + 1)
    have t6 := c_hull gX gY
    have t7 := c_div x6 y6 (p := c.tmod 100 + 1) (by omega)
    simp only [tmI_abs, teI_abs] at q9 q10
    have fST2 : Fit (tmI (vI a is) * tmI (vI b ks)) 100000 := ((fit_tm d3.1).mul (fit_tm n3.1) (by omega)).mono (Nat.le_refl _)
    have z1 := er0_z hz
    have oz : okT (.agg [.bool false, .sl 0 [], .int .i64 0]) := okT_mk okC_nil (by omega) (by omega) (by omega)
    cbv
    repeat' (first | with_reducible refine And.intro ?_ ?_ | (with_reducible refine safe_lift hA ?_; kernel_rfl) | (intro hc_; (first | (with_reducible exfalso; clear hQ; subst hF hA; simp only [fnOf, find, std, reduceIte, Nat.reduceEqDiff, sp1, sp2, a1, a2, FnSpec.out, Shape.build, leafs, leafCells, tups, oneOf, List.cons_append, List.nil_append, List.length_cons, List.length_nil, s_RealHolds, s_known7, s_fewR, s_few7, s_eHas, s_qMake, s_eAdd, s_qAdd, s_eSub, s_qSub, s_eMul, s_qMul, s_ePow, s_qPow, s_eAbs, s_qAbs, s_eRound, s_eHull, s_eDiv, s_yMin, s_yMax, re4, rv_raw, rv_N0, dv, dz, dx, dcn, dm_raw, dm_N0, vI_N0, raw6_is, Prod.eta, vI_nil, N0_neg0, N0_ln0, N0_lm0, tmI_idem, teI_idem, cmpD_nrm, cmpD_nrmL, cmpD_nrmR, hasY_n, inY_rn, meetY_rn, zeroY_rn, powN_2, min_if, hasB_zero, wrap_er, rn_rn, Int.reduceNeg, Int.reduceEq, Int.reduceLT, Int.reduceLE, Int.reduceBEq, beq_dec, Int.reduceAdd, Int.zero_add, Int.add_zero, tmI_mulL, teI_mulL, tmI_mulR, teI_mulR, tmI_addL, teI_addL, tmI_addR, teI_addR, tmI_addN, teI_addN, tmI_neg, teI_neg, tmI_abs, teI_abs, Int.natAbs_natCast, eq_self, Bool.not_eq_eq_eq_not, decide_eq_true_eq, decide_eq_false_iff_not, not_true_eq_false, not_false_eq_true, decide_true, decide_false, Bool.true_and, Bool.and_true, Bool.not_true, Bool.not_false, beq_self_eq_true, Bool.true_eq_false, Bool.false_eq_true, reduceCtorEq, gt_iff_lt, ge_iff_le, true_and, and_true, and_self, Bool.false_eq, Bool.and_self, hfx, hfy, hfd, hfe, hX, hY, d6, n6, hS, hT, hw1, hw2, hw3, q1, q3, q5, q7, q9, q11, q13, hz, z1] at hc_; done) | (clear hc_; cbv))))
    all_goals subst hF hA
    all_goals (try simp only [fnOf, find, std, reduceIte, Nat.reduceEqDiff, sp1, sp2, a1, a2, FnSpec.out, Shape.build, leafs, leafCells, tups, oneOf, List.cons_append, List.nil_append, List.length_cons, List.length_nil, s_RealHolds, s_known7, s_fewR, s_few7, s_eHas, s_qMake, s_eAdd, s_qAdd, s_eSub, s_qSub, s_eMul, s_qMul, s_ePow, s_qPow, s_eAbs, s_qAbs, s_eRound, s_eHull, s_eDiv, s_yMin, s_yMax, re4, rv_raw, rv_N0, dv, dz, dx, dcn, dm_raw, dm_N0, vI_N0, raw6_is, Prod.eta, vI_nil, N0_neg0, N0_ln0, N0_lm0, tmI_idem, teI_idem, cmpD_nrm, cmpD_nrmL, cmpD_nrmR, hasY_n, inY_rn, meetY_rn, zeroY_rn, powN_2, min_if, hasB_zero, wrap_er, rn_rn, Int.reduceNeg, Int.reduceEq, Int.reduceLT, Int.reduceLE, Int.reduceBEq, beq_dec, Int.reduceAdd, Int.zero_add, Int.add_zero, tmI_mulL, teI_mulL, tmI_mulR, teI_mulR, tmI_addL, teI_addL, tmI_addR, teI_addR, tmI_addN, teI_addN, tmI_neg, teI_neg, tmI_abs, teI_abs, Int.natAbs_natCast, eq_self, Bool.not_eq_eq_eq_not, decide_eq_true_eq, decide_eq_false_iff_not, not_true_eq_false, not_false_eq_true, decide_true, decide_false, Bool.true_and, Bool.and_true, Bool.not_true, Bool.not_false, beq_self_eq_true, Bool.true_eq_false, Bool.false_eq_true, reduceCtorEq, gt_iff_lt, ge_iff_le, true_and, and_true, and_self, Bool.false_eq, Bool.and_self, hfx, hfy, hfd, hfe, hX, hY, d6, n6, hS, hT, hw1, hw2, hw3, q1, q3, q5, q7, q9, q11, q13, hz, z1] at hQ ⊢)
    all_goals (repeat' (first
      | with_reducible exact hQ
      | with_reducible assumption
      | with_reducible exact isi_int _ _
      | (with_reducible refine canR_c (r := ((_, _), (_, _))) ?_; with_reducible assumption)
      | (with_reducible refine okR_c (r := ((_, _), (_, _))) ?_; with_reducible assumption)
      | (with_reducible refine okM_fR (r := ((_, _), (_, _))) ?_; with_reducible assumption)
      | (with_reducible refine few20_fR (r := ((_, _), (_, _))) ?_; with_reducible assumption)
      | (with_reducible refine few30_fR (r := ((_, _), (_, _))) ?_; with_reducible assumption)
      | with_reducible exact True.intro
      | (with_reducible refine few40_fR (r := ((_, _), (_, _))) ?_; with_reducible assumption)
      | (with_reducible refine canD_c (a := (_, _)) ?_; with_reducible assumption)
      | (with_reducible refine okT_c (a := (_, _)) ?_; with_reducible assumption)
      | (with_reducible refine okD_c (a := (_, _)) ?_; with_reducible assumption)
      | (with_reducible refine near_c (a := (_, _)) (b := (_, _)) ?_ ?_ <;> with_reducible assumption)
      | (with_reducible refine okE_fit ?_ (k := 10000) (by omega); with_reducible assumption)
      | with_reducible refine okX_mk ?_ ?_ ?_ ?_
      | with_reducible refine okW_mk ?_ ?_ ?_
      | with_reducible refine okE_mk ?_
      | with_reducible refine okI_mk ?_
      | with_reducible refine okD_mk ?_ ?_ ?_
      | (with_reducible refine near_mk ?_ ?_; (focus omega); (focus omega))
      | with_reducible exact near_c w5 w6
      | exact near_c w5 w6
      | omega
      | with_reducible refine And.intro ?_ ?_))
  · have hfx : (((n ≤ 10 ∧ -1000 ≤ e ∧ e ≤ 1000) ∧ m ≤ 10 ∧ -1000 ≤ f ∧ f ≤ 1000)) = True := eq_true kx
    have hfy : (((p ≤ 10 ∧ -1000 ≤ g ∧ g ≤ 1000) ∧ q ≤ 10 ∧ -1000 ≤ h ∧ h ≤ 1000)) = True := eq_true ky
    have hfd : ((i ≤ 10 ∧ -1000 ≤ j ∧ j ≤ 1000)) = True := eq_true kd
    have hfe : ((k ≤ 10 ∧ -1000 ≤ l ∧ l ≤ 1000)) = True := eq_true ke
    obtain ⟨x1, x2, x3, x4, x5, x6, x7, x8, x9⟩ := few_facts (s := s) (t := t) (cs := cs) (es := es) hw hw2 kx
    obtain ⟨X, hX⟩ : ∃ X : Re, ((vI s cs, e), (vI t es, f)) = X := ⟨_, rfl⟩
    rw [hX] at x6
    obtain ⟨y1, y2, y3, y4, y5, y6, y7, y8, y9⟩ := few_facts (s := u) (t := v) (cs := gs) (es := hs) hv hv2 ky
    obtain ⟨Y, hY⟩ : ∃ Y : Re, ((vI u gs, g), (vI v hs, h)) = Y := ⟨_, rfl⟩
    rw [hY] at y6
    have cX := c_rn x6
    have bX := rn_few x6
    have bX2 : fR (rn X) 640 2000 := bX.mono (by omega) (by omega)
    have bX3 : fR (rn X) 1280 20000 := bX.mono (by omega) (by omega)
    have bX4 : fR (rn X) 4000 8000 := bX.mono (by omega) (by omega)
    have bX5 : fR (rn X) 8000 10000 := bX.mono (by omega) (by omega)
    have cY := c_rn y6
    have bY := rn_few y6
    have bY2 : fR (rn Y) 640 2000 := bY.mono (by omega) (by omega)
    have bY3 : fR (rn Y) 1280 20000 := bY.mono (by omega) (by omega)
    have bY4 : fR (rn Y) 4000 8000 := bY.mono (by omega) (by omega)
    have bY5 : fR (rn Y) 8000 10000 := bY.mono (by omega) (by omega)
    obtain ⟨d1, d2, d3, d4, d5, d6⟩ := few_d (s := a) hd kd
    have d7 : dC (tmI (vI a is), teI (vI a is) j) := d4
    have d8 : -20000 ≤ teI (vI a is) j ∧ teI (vI a is) j ≤ 20000 := dC_b d4
    obtain ⟨n1, n2, n3, n4, n5, n6⟩ := few_d (s := b) hd_ ke
    have n7 : dC (tmI (vI b ks), teI (vI b ks) l) := n4
    have n8 : -20000 ≤ teI (vI b ks) l ∧ teI (vI b ks) l ≤ 20000 := dC_b n4
    have gX := fC_rn x6
    have gY := fC_rn y6
    rw [hX] at hS
    rw [hY] at hT hz
    have hw1 : IntKind.i64.wrap (c.tmod 100) = c.tmod 100 := wrap_in (by omega) (by omega)
    have hw2 : IntKind.i64.wrap (c.tmod 100 + 1) = c.tmod 100 + 1 := wrap_in (by omega) (by omega)
    have hw3 : IntKind.i64.wrap (c2.tmod 7) = c2.tmod 7 := wrap_in (by omega) (by omega)
    have hpk : powN (c2.tmod 7) ≤ 8 := by unfold powN; omega
    have H := holds7 x6 y6 d3 n3 hS hT hpk (c.tmod 100 + 1)
    dsimp only at H
    obtain ⟨q1, q2, q3, q4, q5, q6, q7, q8, q9, q10, q11, q12, q13, q14⟩ := H
    have lS : N0.ln (tmI (vI a is)) ≤ 10 := ln_fit (fit_tm d3.1)
    have lT : N0.ln (tmI (vI b ks)) ≤ 10 := ln_fit (fit_tm n3.1)
    have fST : Fit (vI a is * vI b ks) 100000 := (d3.1.mul n3.1 (by omega)).mono (Nat.le_refl _)
    have t0 := c_add gX gY
    have t1 := c_sub gX gY
    have t2 := c_mul gX gY
    have t3 := c_pow gX hpk
    have t4 := c_abs gX
    have t5 := c_round gX (c.tmod 100 + 1)
    have t6 := c_hull gX gY
    have t7 := c_div x6 y6 (p := c.tmod 100 + 1) (by omega)
    simp only [tmI_abs, teI_abs] at q9 q10
    have fST2 : Fit (tmI (vI a is) * tmI (vI b ks)) 100000 := ((fit_tm d3.1).mul (fit_tm n3.1) (by omega)).mono (Nat.le_refl _)
    obtain ⟨w1, w2, w3, w4, w5, w6, w7, w8⟩ := holds7q x6 y6 n3 hS hT hz (p := c.tmod 100 + 1) (by omega)
    dsimp only at w3 w4 w5 w6
    have g1 := okC_fitN w8.1.1 (by omega)
    have g2 := okC_fitN w8.2.1 (by omega)
    have g3 : N0.ln (rdiv (rn X) (rn Y) (c.tmod 100 + 1)).1.1 ≤ 600 := ln_fit (w8.1.1.mono (by omega))
    have g4 : N0.ln (rdiv (rn X) (rn Y) (c.tmod 100 + 1)).2.1 ≤ 600 := ln_fit (w8.2.1.mono (by omega))
    have g5 : -100000000 ≤ (rdiv (rn X) (rn Y) (c.tmod 100 + 1)).1.2 := by have h9 := w8.1.2.1; omega
    have g6 : (rdiv (rn X) (rn Y) (c.tmod 100 + 1)).1.2 ≤ 100000000 := by have h9 := w8.1.2.2; omega
    have g7 : -100000000 ≤ (rdiv (rn X) (rn Y) (c.tmod 100 + 1)).2.2 := by have h9 := w8.2.2.1; omega
    have g8 : (rdiv (rn X) (rn Y) (c.tmod 100 + 1)).2.2 ≤ 100000000 := by have h9 := w8.2.2.2; omega
    have g9 : Fit ((rdiv (rn X) (rn Y) (c.tmod 100 + 1)).1.1 * tmI (vI b ks)) 100000 := (w8.1.1.mul (fit_tm n3.1) (by omega)).mono (Nat.le_refl _)
    have g10 : Fit ((rdiv (rn X) (rn Y) (c.tmod 100 + 1)).2.1 * tmI (vI b ks)) 100000 := (w8.2.1.mul (fit_tm n3.1) (by omega)).mono (Nat.le_refl _)
    cbv
    repeat' (first | with_reducible refine And.intro ?_ ?_ | (with_reducible refine safe_lift hA ?_; kernel_rfl) | (intro hc_; (first | (with_reducible exfalso; clear hQ; subst hF hA; simp only [fnOf, find, std, reduceIte, Nat.reduceEqDiff, sp1, sp2, a1, a2, FnSpec.out, Shape.build, leafs, leafCells, tups, oneOf, List.cons_append, List.nil_append, List.length_cons, List.length_nil, s_RealHolds, s_known7, s_fewR, s_few7, s_eHas, s_qMake, s_eAdd, s_qAdd, s_eSub, s_qSub, s_eMul, s_qMul, s_ePow, s_qPow, s_eAbs, s_qAbs, s_eRound, s_eHull, s_eDiv, s_yMin, s_yMax, re4, rv_raw, rv_N0, dv, dz, dx, dcn, dm_raw, dm_N0, vI_N0, raw6_is, Prod.eta, vI_nil, N0_neg0, N0_ln0, N0_lm0, tmI_idem, teI_idem, cmpD_nrm, cmpD_nrmL, cmpD_nrmR, hasY_n, inY_rn, meetY_rn, zeroY_rn, powN_2, min_if, hasB_zero, wrap_er, rn_rn, Int.reduceNeg, Int.reduceEq, Int.reduceLT, Int.reduceLE, Int.reduceBEq, beq_dec, Int.reduceAdd, Int.zero_add, Int.add_zero, tmI_mulL, teI_mulL, tmI_mulR, teI_mulR, tmI_addL, teI_addL, tmI_addR, teI_addR, tmI_addN, teI_addN, tmI_neg, teI_neg, tmI_abs, teI_abs, Int.natAbs_natCast, eq_self, Bool.not_eq_eq_eq_not, decide_eq_true_eq, decide_eq_false_iff_not, not_true_eq_false, not_false_eq_true, decide_true, decide_false, Bool.true_and, Bool.and_true, Bool.not_true, Bool.not_false, beq_self_eq_true, Bool.true_eq_false, Bool.false_eq_true, reduceCtorEq, gt_iff_lt, ge_iff_le, true_and, and_true, and_self, Bool.false_eq, Bool.and_self, hfx, hfy, hfd, hfe, hX, hY, d6, n6, hS, hT, hw1, hw2, hw3, q1, q3, q5, q7, q9, q11, q13, hz, w1, w2, w3] at hc_; done) | (clear hc_; cbv))))
    all_goals subst hF hA
    all_goals (try simp only [fnOf, find, std, reduceIte, Nat.reduceEqDiff, sp1, sp2, a1, a2, FnSpec.out, Shape.build, leafs, leafCells, tups, oneOf, List.cons_append, List.nil_append, List.length_cons, List.length_nil, s_RealHolds, s_known7, s_fewR, s_few7, s_eHas, s_qMake, s_eAdd, s_qAdd, s_eSub, s_qSub, s_eMul, s_qMul, s_ePow, s_qPow, s_eAbs, s_qAbs, s_eRound, s_eHull, s_eDiv, s_yMin, s_yMax, re4, rv_raw, rv_N0, dv, dz, dx, dcn, dm_raw, dm_N0, vI_N0, raw6_is, Prod.eta, vI_nil, N0_neg0, N0_ln0, N0_lm0, tmI_idem, teI_idem, cmpD_nrm, cmpD_nrmL, cmpD_nrmR, hasY_n, inY_rn, meetY_rn, zeroY_rn, powN_2, min_if, hasB_zero, wrap_er, rn_rn, Int.reduceNeg, Int.reduceEq, Int.reduceLT, Int.reduceLE, Int.reduceBEq, beq_dec, Int.reduceAdd, Int.zero_add, Int.add_zero, tmI_mulL, teI_mulL, tmI_mulR, teI_mulR, tmI_addL, teI_addL, tmI_addR, teI_addR, tmI_addN, teI_addN, tmI_neg, teI_neg, tmI_abs, teI_abs, Int.natAbs_natCast, eq_self, Bool.not_eq_eq_eq_not, decide_eq_true_eq, decide_eq_false_iff_not, not_true_eq_false, not_false_eq_true, decide_true, decide_false, Bool.true_and, Bool.and_true, Bool.not_true, Bool.not_false, beq_self_eq_true, Bool.true_eq_false, Bool.false_eq_true, reduceCtorEq, gt_iff_lt, ge_iff_le, true_and, and_true, and_self, Bool.false_eq, Bool.and_self, hfx, hfy, hfd, hfe, hX, hY, d6, n6, hS, hT, hw1, hw2, hw3, q1, q3, q5, q7, q9, q11, q13, hz, w1, w2, w3] at hQ ⊢)
    all_goals (repeat' (first
      | with_reducible exact hQ
      | with_reducible assumption
      | with_reducible exact isi_int _ _
      | (with_reducible refine canR_c (r := ((_, _), (_, _))) ?_; with_reducible assumption)
      | (with_reducible refine okR_c (r := ((_, _), (_, _))) ?_; with_reducible assumption)
      | (with_reducible refine okM_fR (r := ((_, _), (_, _))) ?_; with_reducible assumption)
      | (with_reducible refine few20_fR (r := ((_, _), (_, _))) ?_; with_reducible assumption)
      | (with_reducible refine few30_fR (r := ((_, _), (_, _))) ?_; with_reducible assumption)
      | with_reducible exact True.intro
      | (with_reducible refine few40_fR (r := ((_, _), (_, _))) ?_; with_reducible assumption)
      | (with_reducible refine canD_c (a := (_, _)) ?_; with_reducible assumption)
      | (with_reducible refine okT_c (a := (_, _)) ?_; with_reducible assumption)
      | (with_reducible refine okD_c (a := (_, _)) ?_; with_reducible assumption)
      | (with_reducible refine near_c (a := (_, _)) (b := (_, _)) ?_ ?_ <;> with_reducible assumption)
      | (with_reducible refine okE_fit ?_ (k := 10000) (by omega); with_reducible assumption)
      | with_reducible refine okX_mk ?_ ?_ ?_ ?_
      | with_reducible refine okW_mk ?_ ?_ ?_
      | with_reducible refine okE_mk ?_
      | with_reducible refine okI_mk ?_
      | with_reducible refine okD_mk ?_ ?_ ?_
      | (with_reducible refine near_mk ?_ ?_; (focus omega); (focus omega))
      | with_reducible exact near_c w5 w6
      | exact near_c w5 w6
      | omega
      | with_reducible refine And.intro ?_ ?_))
end Go.Proofs.YtcamkbphognoaaaGreatDoor.Ev
