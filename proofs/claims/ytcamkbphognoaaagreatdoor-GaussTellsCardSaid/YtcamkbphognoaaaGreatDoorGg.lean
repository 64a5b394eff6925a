/- A law of points: GaussTells. -/
import Derived.Test.YtcamkbphognoaaaGreatDoorGw
namespace Go.Proofs.YtcamkbphognoaaaGreatDoor.Ev
open Go Go.RowKit
set_option linter.unusedSimpArgs false
set_option linter.unusedVariables false
def s_GaussTells : FnSpec := ⟨.one .b, fun ds => match ds with | [x, y, d, .int .i64 c, .int .i64 c2, .int .i64 c3] => okX x ∧ okX y ∧ okW d ∧ (-9223372036854775808 ≤ c2 ∧ c2 ≤ 9223372036854775807) ∧ -9223372036854775808 ≤ c3 ∧ c3 ≤ 9223372036854775807 | _ => False, fun _ _ => 0, fun _ _ => true, fun _ _ => 0, fun _ _ => []⟩
theorem GaussTells_arg {ds : List D} (h : s_GaussTells.p ds) : ∃ x y d c c2 c3, ds = [x, y, d, .int .i64 c, .int .i64 c2, .int .i64 c3] ∧ okX x ∧ okX y ∧ okW d ∧ (-9223372036854775808 ≤ c2 ∧ c2 ≤ 9223372036854775807) ∧ -9223372036854775808 ≤ c3 ∧ c3 ≤ 9223372036854775807 := by
  unfold s_GaussTells at h
  dsimp only at h
  split at h
  · exact ⟨_, _, _, _, _, _, rfl, h⟩
  · exact h.elim
set_option maxRecDepth 100000 in
set_option maxHeartbeats 16000000 in
theorem good_GaussTells : Good Tryz.prog (GWL [0, 1, 2, 3]) N0 5 s_GaussTells := by
  refine goodL (l := [0, 1, 2, 3]) (tab := [(33, s_known8), (34, s_fewC), (35, s_few8), (36, s_vCplx), (37, s_qNeg), (38, s_qScale), (40, s_uOf), (41, s_vOf), (39, s_vEqual), (42, s_uAdd), (43, s_vAdd), (44, s_uSub), (45, s_vSub), (46, s_uMul), (47, s_vMul), (48, s_uNeg), (49, s_vNeg), (50, s_uConj), (51, s_uNorm), (52, s_vNorm), (31, s_qEqual), (53, s_uScale), (54, s_uTimes), (13, s_qMake), (55, s_vTimes), (56, s_uPow), (57, s_vPow), (58, s_uZero), (59, s_vZero), (60, s_uSame)]) (shs := [(33, .one .b), (34, .one .b), (35, .one .b), (36, .agg [.I, .i .i64, .I, .i .i64]), (37, .agg [.I, .i .i64]), (38, .agg [.I, .i .i64]), (40, .agg [.I, .i .i64, .I, .i .i64]), (41, .agg [.I, .i .i64, .I, .i .i64]), (39, .one .b), (42, .agg [.I, .i .i64, .I, .i .i64]), (43, .agg [.I, .i .i64, .I, .i .i64]), (44, .agg [.I, .i .i64, .I, .i .i64]), (45, .agg [.I, .i .i64, .I, .i .i64]), (46, .agg [.I, .i .i64, .I, .i .i64]), (47, .agg [.I, .i .i64, .I, .i .i64]), (48, .agg [.I, .i .i64, .I, .i .i64]), (49, .agg [.I, .i .i64, .I, .i .i64]), (50, .agg [.I, .i .i64, .I, .i .i64]), (51, .agg [.I, .i .i64]), (52, .agg [.I, .i .i64]), (31, .one .b), (53, .agg [.I, .i .i64, .I, .i .i64]), (54, .agg [.I, .i .i64, .I, .i .i64]), (13, .agg [.I, .i .i64]), (55, .agg [.I, .i .i64, .I, .i .i64]), (56, .agg [.I, .i .i64, .I, .i .i64]), (57, .agg [.I, .i .i64, .I, .i .i64]), (58, .one .b), (59, .one .b), (60, .one .b)]) rfl ⟨good_known8, (good_fewC.lift (by decide)), (good_few8.lift (by decide)), (good_vCplx.lift (by decide)), (good_qNeg.lift (by decide)), (good_qScale.lift (by decide)), (good_uOf.lift (by decide)), (good_vOf.lift (by decide)), (good_vEqual.lift (by decide)), (good_uAdd.lift (by decide)), (good_vAdd.lift (by decide)), (good_uSub.lift (by decide)), (good_vSub.lift (by decide)), good_uMul, (good_vMul.lift (by decide)), (good_uNeg.lift (by decide)), (good_vNeg.lift (by decide)), (good_uConj.lift (by decide)), good_uNorm, (good_vNorm.lift (by decide)), (good_qEqual.lift (by decide)), (good_uScale.lift (by decide)), (good_uTimes.lift (by decide)), (good_qMake.lift (by decide)), (good_vTimes.lift (by decide)), good_uPow, (good_vPow.lift (by decide)), (good_uZero.lift (by decide)), (good_vZero.lift (by decide)), (good_uSame.lift (by decide)), trivial⟩ Tryz.f5 (by kernel_rfl) (by kernel_rfl) (by kernel_rfl) (fun ds hp F A Q hF hA hQ => ⟨0, ?_⟩)
  obtain ⟨x, y, d, c, c2, c3, rfl, hx, hy, hd, hc2, hc3⟩ := GaussTells_arg hp
  obtain ⟨s, n, cs, e, t, m, es, f, rfl, hw, hr, hw2, hr2⟩ := okX_arg hx
  obtain ⟨u, p, gs, g, v, q, hs, h, rfl, hv, hs1, hv2, hs2⟩ := okX_arg hy
  obtain ⟨a, i, is, j, rfl, hd, hd1, hd2⟩ := okW_arg hd
  clear hp hx hy
  rcases three8 (a := ((n ≤ 10 ∧ -1000 ≤ e ∧ e ≤ 1000) ∧ m ≤ 10 ∧ -1000 ≤ f ∧ f ≤ 1000)) (b := ((p ≤ 10 ∧ -1000 ≤ g ∧ g ≤ 1000) ∧ q ≤ 10 ∧ -1000 ≤ h ∧ h ≤ 1000)) (c := (i ≤ 10 ∧ -1000 ≤ j ∧ j ≤ 1000)) with kx | ⟨kx, ky⟩ | ⟨kx, ky, kd⟩ | ⟨kx, ky, kd⟩
  · have hfx : (((n ≤ 10 ∧ -1000 ≤ e ∧ e ≤ 1000) ∧ m ≤ 10 ∧ -1000 ≤ f ∧ f ≤ 1000)) = False := eq_false kx
    cbv
    repeat' (first | with_reducible refine And.intro ?_ ?_ | (with_reducible refine safe_lift hA ?_; kernel_rfl) | (intro hc_; (first | (with_reducible exfalso; clear hQ; subst hF hA; simp only [fnOf, find, std, reduceIte, Nat.reduceEqDiff, sp1, sp2, a1, a2, FnSpec.out, Shape.build, leafs, leafCells, tups, oneOf, List.cons_append, List.nil_append, List.length_cons, List.length_nil, s_GaussTells, s_known8, s_fewC, s_few8, s_vCplx, s_qNeg, s_qScale, s_uOf, s_vOf, s_vEqual, s_uAdd, s_vAdd, s_uSub, s_vSub, s_uMul, s_vMul, s_uNeg, s_vNeg, s_uConj, s_uNorm, s_vNorm, s_qEqual, s_uScale, s_uTimes, s_qMake, s_vTimes, s_uPow, s_vPow, s_uZero, s_vZero, s_uSame, re4, rv_raw, rv_N0, dv, dz, dx, dcn, dm_raw, dm_N0, vI_N0, raw6_is, Prod.eta, vI_nil, N0_neg0, N0_ln0, N0_lm0, max_if8, min_if, tmI_idem, teI_idem, add_ca, sub_ca, mul_ca, neg_ca, norm_ca, ca_ca, ca_add, ca_sub, ca_mul, ca_neg, ca_conj, ca_scl, ca_tms, ca_pw, sg_tm, sameI_N0, reduceIte, Int.reduceNeg, Int.reduceEq, Int.reduceLT, Int.reduceLE, Int.reduceBEq, beq_dec, Int.reduceAdd, Int.zero_add, Int.add_zero, s_uOf, s_yEqual, eq_self, Bool.not_eq_eq_eq_not, decide_eq_true_eq, decide_eq_false_iff_not, not_true_eq_false, not_false_eq_true, decide_true, decide_false, Bool.true_and, Bool.and_true, Bool.not_true, Bool.not_false, beq_self_eq_true, Bool.true_eq_false, Bool.false_eq_true, reduceCtorEq, gt_iff_lt, ge_iff_le, true_and, and_true, and_self, Bool.false_eq, Bool.and_self, hfx] at hc_; done) | (clear hc_; cbv))))
    all_goals subst hF hA
    all_goals (try simp only [fnOf, find, std, reduceIte, Nat.reduceEqDiff, sp1, sp2, a1, a2, FnSpec.out, Shape.build, leafs, leafCells, tups, oneOf, List.cons_append, List.nil_append, List.length_cons, List.length_nil, s_GaussTells, s_known8, s_fewC, s_few8, s_vCplx, s_qNeg, s_qScale, s_uOf, s_vOf, s_vEqual, s_uAdd, s_vAdd, s_uSub, s_vSub, s_uMul, s_vMul, s_uNeg, s_vNeg, s_uConj, s_uNorm, s_vNorm, s_qEqual, s_uScale, s_uTimes, s_qMake, s_vTimes, s_uPow, s_vPow, s_uZero, s_vZero, s_uSame, re4, rv_raw, rv_N0, dv, dz, dx, dcn, dm_raw, dm_N0, vI_N0, raw6_is, Prod.eta, vI_nil, N0_neg0, N0_ln0, N0_lm0, max_if8, min_if, tmI_idem, teI_idem, add_ca, sub_ca, mul_ca, neg_ca, norm_ca, ca_ca, ca_add, ca_sub, ca_mul, ca_neg, ca_conj, ca_scl, ca_tms, ca_pw, sg_tm, sameI_N0, reduceIte, Int.reduceNeg, Int.reduceEq, Int.reduceLT, Int.reduceLE, Int.reduceBEq, beq_dec, Int.reduceAdd, Int.zero_add, Int.add_zero, s_uOf, s_yEqual, eq_self, Bool.not_eq_eq_eq_not, decide_eq_true_eq, decide_eq_false_iff_not, not_true_eq_false, not_false_eq_true, decide_true, decide_false, Bool.true_and, Bool.and_true, Bool.not_true, Bool.not_false, beq_self_eq_true, Bool.true_eq_false, Bool.false_eq_true, reduceCtorEq, gt_iff_lt, ge_iff_le, true_and, and_true, and_self, Bool.false_eq, Bool.and_self, hfx] at hQ ⊢)
    all_goals (repeat' (first
      | with_reducible exact hQ
      | with_reducible assumption
      | with_reducible exact isi_int _ _
      | (with_reducible refine canR_c (r := ((_, _), (_, _))) ?_; with_reducible assumption)
      | (with_reducible refine okR_c (r := ((_, _), (_, _))) ?_; with_reducible assumption)
      | (with_reducible refine okM_fR (r := ((_, _), (_, _))) ?_; with_reducible assumption)
      | (with_reducible refine few20_fR (r := ((_, _), (_, _))) ?_; with_reducible assumption)
      | (with_reducible refine few30_fR (r := ((_, _), (_, _))) ?_; with_reducible assumption)
      | with_reducible exact True.intro
      | with_reducible exact powN_min8 _
      | (with_reducible refine few40_fR (r := ((_, _), (_, _))) ?_; with_reducible assumption)
      | (with_reducible refine canD_c (a := (_, _)) ?_; with_reducible assumption)
      | (with_reducible refine okT_c (a := (_, _)) ?_; with_reducible assumption)
      | (with_reducible refine okD_c (a := (_, _)) ?_; with_reducible assumption)
      | (with_reducible refine near_c (a := (_, _)) (b := (_, _)) ?_ ?_ <;> with_reducible assumption)
      | (with_reducible refine okE_fit ?_ (k := 10000) (by omega); with_reducible assumption)
      | with_reducible refine okX_mk ?_ ?_ ?_ ?_
      | with_reducible refine okW_mk ?_ ?_ ?_
      | with_reducible refine okE_mk ?_
      | with_reducible refine okI_mk ?_
      | with_reducible refine okD_mk ?_ ?_ ?_
      | (with_reducible refine near_mk ?_ ?_; (focus omega); (focus omega))
      | omega
      | with_reducible refine And.intro ?_ ?_))
    all_goals (first | exact canR_c r6b | trace_state)
  · have hfx : (((n ≤ 10 ∧ -1000 ≤ e ∧ e ≤ 1000) ∧ m ≤ 10 ∧ -1000 ≤ f ∧ f ≤ 1000)) = True := eq_true kx
    have hfy : (((p ≤ 10 ∧ -1000 ≤ g ∧ g ≤ 1000) ∧ q ≤ 10 ∧ -1000 ≤ h ∧ h ≤ 1000)) = False := eq_false ky
    cbv
    repeat' (first | with_reducible refine And.intro ?_ ?_ | (with_reducible refine safe_lift hA ?_; kernel_rfl) | (intro hc_; (first | (with_reducible exfalso; clear hQ; subst hF hA; simp only [fnOf, find, std, reduceIte, Nat.reduceEqDiff, sp1, sp2, a1, a2, FnSpec.out, Shape.build, leafs, leafCells, tups, oneOf, List.cons_append, List.nil_append, List.length_cons, List.length_nil, s_GaussTells, s_known8, s_fewC, s_few8, s_vCplx, s_qNeg, s_qScale, s_uOf, s_vOf, s_vEqual, s_uAdd, s_vAdd, s_uSub, s_vSub, s_uMul, s_vMul, s_uNeg, s_vNeg, s_uConj, s_uNorm, s_vNorm, s_qEqual, s_uScale, s_uTimes, s_qMake, s_vTimes, s_uPow, s_vPow, s_uZero, s_vZero, s_uSame, re4, rv_raw, rv_N0, dv, dz, dx, dcn, dm_raw, dm_N0, vI_N0, raw6_is, Prod.eta, vI_nil, N0_neg0, N0_ln0, N0_lm0, max_if8, min_if, tmI_idem, teI_idem, add_ca, sub_ca, mul_ca, neg_ca, norm_ca, ca_ca, ca_add, ca_sub, ca_mul, ca_neg, ca_conj, ca_scl, ca_tms, ca_pw, sg_tm, sameI_N0, reduceIte, Int.reduceNeg, Int.reduceEq, Int.reduceLT, Int.reduceLE, Int.reduceBEq, beq_dec, Int.reduceAdd, Int.zero_add, Int.add_zero, s_uOf, s_yEqual, eq_self, Bool.not_eq_eq_eq_not, decide_eq_true_eq, decide_eq_false_iff_not, not_true_eq_false, not_false_eq_true, decide_true, decide_false, Bool.true_and, Bool.and_true, Bool.not_true, Bool.not_false, beq_self_eq_true, Bool.true_eq_false, Bool.false_eq_true, reduceCtorEq, gt_iff_lt, ge_iff_le, true_and, and_true, and_self, Bool.false_eq, Bool.and_self, hfx, hfy] at hc_; done) | (clear hc_; cbv))))
    all_goals subst hF hA
    all_goals (try simp only [fnOf, find, std, reduceIte, Nat.reduceEqDiff, sp1, sp2, a1, a2, FnSpec.out, Shape.build, leafs, leafCells, tups, oneOf, List.cons_append, List.nil_append, List.length_cons, List.length_nil, s_GaussTells, s_known8, s_fewC, s_few8, s_vCplx, s_qNeg, s_qScale, s_uOf, s_vOf, s_vEqual, s_uAdd, s_vAdd, s_uSub, s_vSub, s_uMul, s_vMul, s_uNeg, s_vNeg, s_uConj, s_uNorm, s_vNorm, s_qEqual, s_uScale, s_uTimes, s_qMake, s_vTimes, s_uPow, s_vPow, s_uZero, s_vZero, s_uSame, re4, rv_raw, rv_N0, dv, dz, dx, dcn, dm_raw, dm_N0, vI_N0, raw6_is, Prod.eta, vI_nil, N0_neg0, N0_ln0, N0_lm0, max_if8, min_if, tmI_idem, teI_idem, add_ca, sub_ca, mul_ca, neg_ca, norm_ca, ca_ca, ca_add, ca_sub, ca_mul, ca_neg, ca_conj, ca_scl, ca_tms, ca_pw, sg_tm, sameI_N0, reduceIte, Int.reduceNeg, Int.reduceEq, Int.reduceLT, Int.reduceLE, Int.reduceBEq, beq_dec, Int.reduceAdd, Int.zero_add, Int.add_zero, s_uOf, s_yEqual, eq_self, Bool.not_eq_eq_eq_not, decide_eq_true_eq, decide_eq_false_iff_not, not_true_eq_false, not_false_eq_true, decide_true, decide_false, Bool.true_and, Bool.and_true, Bool.not_true, Bool.not_false, beq_self_eq_true, Bool.true_eq_false, Bool.false_eq_true, reduceCtorEq, gt_iff_lt, ge_iff_le, true_and, and_true, and_self, Bool.false_eq, Bool.and_self, hfx, hfy] at hQ ⊢)
    all_goals (repeat' (first
      | with_reducible exact hQ
      | with_reducible assumption
      | with_reducible exact isi_int _ _
      | (with_reducible refine canR_c (r := ((_, _), (_, _))) ?_; with_reducible assumption)
      | (with_reducible refine okR_c (r := ((_, _), (_, _))) ?_; with_reducible assumption)
      | (with_reducible refine okM_fR (r := ((_, _), (_, _))) ?_; with_reducible assumption)
      | (with_reducible refine few20_fR (r := ((_, _), (_, _))) ?_; with_reducible assumption)
      | (with_reducible refine few30_fR (r := ((_, _), (_, _))) ?_; with_reducible assumption)
      | with_reducible exact True.intro
      | with_reducible exact powN_min8 _
      | (with_reducible refine few40_fR (r := ((_, _), (_, _))) ?_; with_reducible assumption)
      | (with_reducible refine canD_c (a := (_, _)) ?_; with_reducible assumption)
      | (with_reducible refine okT_c (a := (_, _)) ?_; with_reducible assumption)
      | (with_reducible refine okD_c (a := (_, _)) ?_; with_reducible assumption)
      | (with_reducible refine near_c (a := (_, _)) (b := (_, _)) ?_ ?_ <;> with_reducible assumption)
      | (with_reducible refine okE_fit ?_ (k := 10000) (by omega); with_reducible assumption)
      | with_reducible refine okX_mk ?_ ?_ ?_ ?_
      | with_reducible refine okW_mk ?_ ?_ ?_
      | with_reducible refine okE_mk ?_
      | with_reducible refine okI_mk ?_
      | with_reducible refine okD_mk ?_ ?_ ?_
      | (with_reducible refine near_mk ?_ ?_; (focus omega); (focus omega))
      | omega
      | with_reducible refine And.intro ?_ ?_))
    all_goals (first | exact canR_c r6b | trace_state)
  · have hfx : (((n ≤ 10 ∧ -1000 ≤ e ∧ e ≤ 1000) ∧ m ≤ 10 ∧ -1000 ≤ f ∧ f ≤ 1000)) = True := eq_true kx
    have hfy : (((p ≤ 10 ∧ -1000 ≤ g ∧ g ≤ 1000) ∧ q ≤ 10 ∧ -1000 ≤ h ∧ h ≤ 1000)) = True := eq_true ky
    have hfd : ((i ≤ 10 ∧ -1000 ≤ j ∧ j ≤ 1000)) = False := eq_false kd
    cbv
    repeat' (first | with_reducible refine And.intro ?_ ?_ | (with_reducible refine safe_lift hA ?_; kernel_rfl) | (intro hc_; (first | (with_reducible exfalso; clear hQ; subst hF hA; simp only [fnOf, find, std, reduceIte, Nat.reduceEqDiff, sp1, sp2, a1, a2, FnSpec.out, Shape.build, leafs, leafCells, tups, oneOf, List.cons_append, List.nil_append, List.length_cons, List.length_nil, s_GaussTells, s_known8, s_fewC, s_few8, s_vCplx, s_qNeg, s_qScale, s_uOf, s_vOf, s_vEqual, s_uAdd, s_vAdd, s_uSub, s_vSub, s_uMul, s_vMul, s_uNeg, s_vNeg, s_uConj, s_uNorm, s_vNorm, s_qEqual, s_uScale, s_uTimes, s_qMake, s_vTimes, s_uPow, s_vPow, s_uZero, s_vZero, s_uSame, re4, rv_raw, rv_N0, dv, dz, dx, dcn, dm_raw, dm_N0, vI_N0, raw6_is, Prod.eta, vI_nil, N0_neg0, N0_ln0, N0_lm0, max_if8, min_if, tmI_idem, teI_idem, add_ca, sub_ca, mul_ca, neg_ca, norm_ca, ca_ca, ca_add, ca_sub, ca_mul, ca_neg, ca_conj, ca_scl, ca_tms, ca_pw, sg_tm, sameI_N0, reduceIte, Int.reduceNeg, Int.reduceEq, Int.reduceLT, Int.reduceLE, Int.reduceBEq, beq_dec, Int.reduceAdd, Int.zero_add, Int.add_zero, s_uOf, s_yEqual, eq_self, Bool.not_eq_eq_eq_not, decide_eq_true_eq, decide_eq_false_iff_not, not_true_eq_false, not_false_eq_true, decide_true, decide_false, Bool.true_and, Bool.and_true, Bool.not_true, Bool.not_false, beq_self_eq_true, Bool.true_eq_false, Bool.false_eq_true, reduceCtorEq, gt_iff_lt, ge_iff_le, true_and, and_true, and_self, Bool.false_eq, Bool.and_self, hfx, hfy, hfd] at hc_; done) | (clear hc_; cbv))))
    all_goals subst hF hA
    all_goals (try simp only [fnOf, find, std, reduceIte, Nat.reduceEqDiff, sp1, sp2, a1, a2, FnSpec.out, Shape.build, leafs, leafCells, tups, oneOf, List.cons_append, List.nil_append, List.length_cons, List.length_nil, s_GaussTells, s_known8, s_fewC, s_few8, s_vCplx, s_qNeg, s_qScale, s_uOf, s_vOf, s_vEqual, s_uAdd, s_vAdd, s_uSub, s_vSub, s_uMul, s_vMul, s_uNeg, s_vNeg, s_uConj, s_uNorm, s_vNorm, s_qEqual, s_uScale, s_uTimes, s_qMake, s_vTimes, s_uPow, s_vPow, s_uZero, s_vZero, s_uSame, re4, rv_raw, rv_N0, dv, dz, dx, dcn, dm_raw, dm_N0, vI_N0, raw6_is, Prod.eta, vI_nil, N0_neg0, N0_ln0, N0_lm0, max_if8, min_if, tmI_idem, teI_idem, add_ca, sub_ca, mul_ca, neg_ca, norm_ca, ca_ca, ca_add, ca_sub, ca_mul, ca_neg, ca_conj, ca_scl, ca_tms, ca_pw, sg_tm, sameI_N0, reduceIte, Int.reduceNeg, Int.reduceEq, Int.reduceLT, Int.reduceLE, Int.reduceBEq, beq_dec, Int.reduceAdd, Int.zero_add, Int.add_zero, s_uOf, s_yEqual, eq_self, Bool.not_eq_eq_eq_not, decide_eq_true_eq, decide_eq_false_iff_not, not_true_eq_false, not_false_eq_true, decide_true, decide_false, Bool.true_and, Bool.and_true, Bool.not_true, Bool.not_false, beq_self_eq_true, Bool.true_eq_false, Bool.false_eq_true, reduceCtorEq, gt_iff_lt, ge_iff_le, true_and, and_true, and_self, Bool.false_eq, Bool.and_self, hfx, hfy, hfd] at hQ ⊢)
    all_goals (repeat' (first
      | with_reducible exact hQ
      | with_reducible assumption
      | with_reducible exact isi_int _ _
      | (with_reducible refine canR_c (r := ((_, _), (_, _))) ?_; with_reducible assumption)
      | (with_reducible refine okR_c (r := ((_, _), (_, _))) ?_; with_reducible assumption)
      | (with_reducible refine okM_fR (r := ((_, _), (_, _))) ?_; with_reducible assumption)
      | (with_reducible refine few20_fR (r := ((_, _), (_, _))) ?_; with_reducible assumption)
      | (with_reducible refine few30_fR (r := ((_, _), (_, _))) ?_; with_reducible assumption)
      | with_reducible exact True.intro
      | with_reducible exact powN_min8 _
      | (with_reducible refine few40_fR (r := ((_, _), (_, _))) ?_; with_reducible assumption)
      | (with_reducible refine canD_c (a := (_, _)) ?_; with_reducible assumption)
      | (with_reducible refine okT_c (a := (_, _)) ?_; with_reducible assumption)
      | (with_reducible refine okD_c (a := (_, _)) ?_; with_reducible assumption)
      | (with_reducible refine near_c (a := (_, _)) (b := (_, _)) ?_ ?_ <;> with_reducible assumption)
      | (with_reducible refine okE_fit ?_ (k := 10000) (by omega); with_reducible assumption)
      | with_reducible refine okX_mk ?_ ?_ ?_ ?_
      | with_reducible refine okW_mk ?_ ?_ ?_
      | with_reducible refine okE_mk ?_
      | with_reducible refine okI_mk ?_
      | with_reducible refine okD_mk ?_ ?_ ?_
      | (with_reducible refine near_mk ?_ ?_; (focus omega); (focus omega))
      | omega
      | with_reducible refine And.intro ?_ ?_))
    all_goals (first | exact canR_c r6b | trace_state)
  · have hfx : (((n ≤ 10 ∧ -1000 ≤ e ∧ e ≤ 1000) ∧ m ≤ 10 ∧ -1000 ≤ f ∧ f ≤ 1000)) = True := eq_true kx
    have hfy : (((p ≤ 10 ∧ -1000 ≤ g ∧ g ≤ 1000) ∧ q ≤ 10 ∧ -1000 ≤ h ∧ h ≤ 1000)) = True := eq_true ky
    have hfd : ((i ≤ 10 ∧ -1000 ≤ j ∧ j ≤ 1000)) = True := eq_true kd
    obtain ⟨x1, x2, x3, x4, x5, x6, x7, x8, x9⟩ := few_facts (s := s) (t := t) (cs := cs) (es := es) hw hw2 kx
    obtain ⟨X, hX⟩ : ∃ X : Re, ((vI s cs, e), (vI t es, f)) = X := ⟨_, rfl⟩
    rw [hX] at x6
    obtain ⟨y1, y2, y3, y4, y5, y6, y7, y8, y9⟩ := few_facts (s := u) (t := v) (cs := gs) (es := hs) hv hv2 ky
    obtain ⟨Y, hY⟩ : ∃ Y : Re, ((vI u gs, g), (vI v hs, h)) = Y := ⟨_, rfl⟩
    rw [hY] at y6
    have zX : cz X 1000 1320 := ⟨sz_fD x6.1, sz_fD x6.2⟩
    have bX : fR X 320 1320 := x6.mono (by omega) (by omega)
    have rX : rC (ca X) := rC_cz (ccan_ca _) (cz_ca zX) (by omega)
    have rX1 := dC_1 rX
    have rX2 := dC_2 rX
    have bX1 : fR (ca X) 320 1640 := ⟨fD_n bX.1, fD_n bX.2⟩
    have zXa := cz_ca zX
    have zY : cz Y 1000 1320 := ⟨sz_fD y6.1, sz_fD y6.2⟩
    have bY : fR Y 320 1320 := y6.mono (by omega) (by omega)
    have rY : rC (ca Y) := rC_cz (ccan_ca _) (cz_ca zY) (by omega)
    have rY1 := dC_1 rY
    have rY2 := dC_2 rY
    have bY1 : fR (ca Y) 320 1640 := ⟨fD_n bY.1, fD_n bY.2⟩
    have zYa := cz_ca zY
    obtain ⟨d1, d2, d3, d4, d5, d6⟩ := few_d (s := a) hd kd
    have d7 : dC (tmI (vI a is), teI (vI a is) j) := d4
    have d8 : -20000 ≤ teI (vI a is) j ∧ teI (vI a is) j ≤ 20000 := dC_b d4
    obtain ⟨S, hS⟩ : ∃ S, max (-2000) (min c 2000) = S := ⟨_, rfl⟩
    have hS1 : -2000 ≤ S := by omega
    have hS2 : S ≤ 2000 := by omega
    obtain ⟨T, hT⟩ : ∃ T : Dy, ((vI a is, j) : Dy) = T := ⟨_, rfl⟩
    rw [hT] at d3
    have zT : sz T 1000 1320 := sz_fD d3
    have r0 := of_rC hc2 hc3
    have r2 : rC (cadd X Y) := rC_cz ⟨add_n _ _, add_n _ _⟩ (cz_add zX zY) (by omega)
    have r3 : rC (csub X Y) := rC_cz ⟨sub_n _ _, sub_n _ _⟩ (cz_sub zX zY) (by omega)
    have r4 : rC (cmul X Y) := rC_cz (ccan_mul _ _) (cz_mul zX zY) (by omega)
    have r5 : rC (cneg X) := rC_cz ⟨neg_n _, neg_n _⟩ (cz_neg zX) (by omega)
    have r6 : rC (cconj X) := rC_cz ⟨n_n _, neg_n _⟩ (cz_conj zX) (by omega)
    have r6b : rC ((ca X).1, (cconj X).2) := r6
    have r7 : dC (cnorm X) := dC_sz (norm_n _) (cz_norm zX) (by omega)
    have s1 : sg (ca X).1.1 = sg X.1.1 := sg_tm _
    have s2 : sg (ca X).2.1 = sg X.2.1 := sg_tm _
    have o7 := okC_fitN r7.2.1 (by omega)
    have r8 : rC (cscl X S) := rC_cz ⟨scl_n _ _, scl_n _ _⟩ (cz_scl x6 hS1 hS2) (by omega)
    have r9 : rC (ctms X T) := rC_cz ⟨mul_n _ _, mul_n _ _⟩ (cz_tms zX zT) (by omega)
    have hpk := powN_min8 c
    have r10 : rC (cpw (ca X) (powN (min c 8))) := rC_cz (ccan_pw _ _) (cz_mono (cz_pw zXa _) (show 1000 * powN (min c 8) ≤ 8000 by omega) (show (1320 + 1) * powN (min c 8) + 1 ≤ 10569 by omega)) (by omega)
    have m1 : smallM (ca X) (ca Y) := ⟨_, _, _, _, zXa, zYa, by omega⟩
    have m2 : smallM (ca X) (ca X) := ⟨_, _, _, _, zXa, zXa, by omega⟩
    have fT : Fit (tmI (vI a is)) 19200 := by have h9 := d3.1; rw [← hT] at h9; exact (fit_tm h9).mono (by omega)
    obtain ⟨g1, g2, g3, g4, g5, g6, g7⟩ := cell_facts X S
    have e1 := tms_ca9 X (vI a is) j
    rw [hT] at e1
    cbv
    repeat' (first | with_reducible refine And.intro ?_ ?_ | (with_reducible refine safe_lift hA ?_; kernel_rfl) | (intro hc_; (first | (with_reducible exfalso; clear hQ; subst hF hA; simp only [fnOf, find, std, reduceIte, Nat.reduceEqDiff, sp1, sp2, a1, a2, FnSpec.out, Shape.build, leafs, leafCells, tups, oneOf, List.cons_append, List.nil_append, List.length_cons, List.length_nil, s_GaussTells, s_known8, s_fewC, s_few8, s_vCplx, s_qNeg, s_qScale, s_uOf, s_vOf, s_vEqual, s_uAdd, s_vAdd, s_uSub, s_vSub, s_uMul, s_vMul, s_uNeg, s_vNeg, s_uConj, s_uNorm, s_vNorm, s_qEqual, s_uScale, s_uTimes, s_qMake, s_vTimes, s_uPow, s_vPow, s_uZero, s_vZero, s_uSame, re4, rv_raw, rv_N0, dv, dz, dx, dcn, dm_raw, dm_N0, vI_N0, raw6_is, Prod.eta, vI_nil, N0_neg0, N0_ln0, N0_lm0, max_if8, min_if, tmI_idem, teI_idem, add_ca, sub_ca, mul_ca, neg_ca, norm_ca, ca_ca, ca_add, ca_sub, ca_mul, ca_neg, ca_conj, ca_scl, ca_tms, ca_pw, sg_tm, sameI_N0, reduceIte, Int.reduceNeg, Int.reduceEq, Int.reduceLT, Int.reduceLE, Int.reduceBEq, beq_dec, Int.reduceAdd, Int.zero_add, Int.add_zero, s_uOf, s_yEqual, eq_self, Bool.not_eq_eq_eq_not, decide_eq_true_eq, decide_eq_false_iff_not, not_true_eq_false, not_false_eq_true, decide_true, decide_false, Bool.true_and, Bool.and_true, Bool.not_true, Bool.not_false, beq_self_eq_true, Bool.true_eq_false, Bool.false_eq_true, reduceCtorEq, gt_iff_lt, ge_iff_le, true_and, and_true, and_self, Bool.false_eq, Bool.and_self, hfx, hfy, hfd, hX, hY, s1, s2, g1, g2, g3, g4, g5, g6, g7, e1, hS, hT, d6] at hc_; done) | (clear hc_; cbv))))
    all_goals subst hF hA
    all_goals (try simp only [fnOf, find, std, reduceIte, Nat.reduceEqDiff, sp1, sp2, a1, a2, FnSpec.out, Shape.build, leafs, leafCells, tups, oneOf, List.cons_append, List.nil_append, List.length_cons, List.length_nil, s_GaussTells, s_known8, s_fewC, s_few8, s_vCplx, s_qNeg, s_qScale, s_uOf, s_vOf, s_vEqual, s_uAdd, s_vAdd, s_uSub, s_vSub, s_uMul, s_vMul, s_uNeg, s_vNeg, s_uConj, s_uNorm, s_vNorm, s_qEqual, s_uScale, s_uTimes, s_qMake, s_vTimes, s_uPow, s_vPow, s_uZero, s_vZero, s_uSame, re4, rv_raw, rv_N0, dv, dz, dx, dcn, dm_raw, dm_N0, vI_N0, raw6_is, Prod.eta, vI_nil, N0_neg0, N0_ln0, N0_lm0, max_if8, min_if, tmI_idem, teI_idem, add_ca, sub_ca, mul_ca, neg_ca, norm_ca, ca_ca, ca_add, ca_sub, ca_mul, ca_neg, ca_conj, ca_scl, ca_tms, ca_pw, sg_tm, sameI_N0, reduceIte, Int.reduceNeg, Int.reduceEq, Int.reduceLT, Int.reduceLE, Int.reduceBEq, beq_dec, Int.reduceAdd, Int.zero_add, Int.add_zero, s_uOf, s_yEqual, eq_self, Bool.not_eq_eq_eq_not, decide_eq_true_eq, decide_eq_false_iff_not, not_true_eq_false, not_false_eq_true, decide_true, decide_false, Bool.true_and, Bool.and_true, Bool.not_true, Bool.not_false, beq_self_eq_true, Bool.true_eq_false, Bool.false_eq_true, reduceCtorEq, gt_iff_lt, ge_iff_le, true_and, and_true, and_self, Bool.false_eq, Bool.and_self, hfx, hfy, hfd, hX, hY, s1, s2, g1, g2, g3, g4, g5, g6, g7, e1, hS, hT, d6] at hQ ⊢)
    all_goals (repeat' (first
      | with_reducible exact hQ
      | with_reducible assumption
      | with_reducible exact isi_int _ _
      | (with_reducible refine canR_c (r := ((_, _), (_, _))) ?_; with_reducible assumption)
      | (with_reducible refine okR_c (r := ((_, _), (_, _))) ?_; with_reducible assumption)
      | (with_reducible refine okM_fR (r := ((_, _), (_, _))) ?_; with_reducible assumption)
      | (with_reducible refine few20_fR (r := ((_, _), (_, _))) ?_; with_reducible assumption)
      | (with_reducible refine few30_fR (r := ((_, _), (_, _))) ?_; with_reducible assumption)
      | with_reducible exact True.intro
      | with_reducible exact powN_min8 _
      | (with_reducible refine few40_fR (r := ((_, _), (_, _))) ?_; with_reducible assumption)
      | (with_reducible refine canD_c (a := (_, _)) ?_; with_reducible assumption)
      | (with_reducible refine okT_c (a := (_, _)) ?_; with_reducible assumption)
      | (with_reducible refine okD_c (a := (_, _)) ?_; with_reducible assumption)
      | (with_reducible refine near_c (a := (_, _)) (b := (_, _)) ?_ ?_ <;> with_reducible assumption)
      | (with_reducible refine okE_fit ?_ (k := 10000) (by omega); with_reducible assumption)
      | with_reducible refine okX_mk ?_ ?_ ?_ ?_
      | with_reducible refine okW_mk ?_ ?_ ?_
      | with_reducible refine okE_mk ?_
      | with_reducible refine okI_mk ?_
      | with_reducible refine okD_mk ?_ ?_ ?_
      | (with_reducible refine near_mk ?_ ?_; (focus omega); (focus omega))
      | omega
      | with_reducible refine And.intro ?_ ?_))
    all_goals (first | exact canR_c r6b | trace_state)
end Go.Proofs.YtcamkbphognoaaaGreatDoor.Ev
