/- A law of dyads: DyadTells. -/
import Derived.Test.YtglmnhjkmdpefaaDoorEvh
namespace Go.Proofs.YtglmnhjkmdpefaaDoor.Ev
open Go Go.RowKit
set_option linter.unusedSimpArgs false
set_option linter.unusedVariables false
set_option maxRecDepth 100000 in
set_option maxHeartbeats 16000000 in
theorem good_DyadTells : Good Tryd.prog GWM N0 3 s_DyadTells := by
  refine goodM (tab := [(13, s_known4), (14, s_few), (15, s_qMake), (16, s_dIs), (17, s_qIs), (18, s_qEqual), (19, s_dMake), (20, s_dOf), (21, s_qOf), (22, s_dSign), (23, s_qSign), (24, s_dCmp), (25, s_qCmp), (26, s_dAdd), (27, s_qAdd), (28, s_dSub), (29, s_qSub), (30, s_dMul), (31, s_qMul), (32, s_dNeg), (33, s_qNeg), (34, s_dAbs), (35, s_qAbs), (36, s_dScale), (37, s_qScale), (38, s_dTop), (39, s_qTop), (40, s_dSame)]) (shs := [(13, .one .b), (14, .one .b), (15, .agg [.I, .i .i64]), (16, .one .b), (17, .one .b), (18, .one .b), (19, .agg [.I, .i .i64]), (20, .agg [.I, .i .i64]), (21, .agg [.I, .i .i64]), (22, .one (.i .i64)), (23, .one (.i .i64)), (24, .one (.i .i64)), (25, .one (.i .i64)), (26, .agg [.I, .i .i64]), (27, .agg [.I, .i .i64]), (28, .agg [.I, .i .i64]), (29, .agg [.I, .i .i64]), (30, .agg [.I, .i .i64]), (31, .agg [.I, .i .i64]), (32, .agg [.I, .i .i64]), (33, .agg [.I, .i .i64]), (34, .agg [.I, .i .i64]), (35, .agg [.I, .i .i64]), (36, .agg [.I, .i .i64]), (37, .agg [.I, .i .i64]), (38, .one (.i .i64)), (39, .one (.i .i64)), (40, .one .b)]) rfl ⟨good_known4, (good_few.mono fun _ h => h.base), (good_qMake.mono fun _ h => h.base), (good_dIs.mono fun _ h => h.base), (good_qIs.mono fun _ h => h.base), (good_qEqual.mono fun _ h => h.base), (good_dMake.mono fun _ h => h.base), (good_dOf.mono fun _ h => h.base), (good_qOf.mono fun _ h => h.base), (good_dSign.mono fun _ h => h.base), (good_qSign.mono fun _ h => h.base), (good_dCmp.mono fun _ h => h.base), (good_qCmp.mono fun _ h => h.base), (good_dAdd.mono fun _ h => h.base), (good_qAdd.mono fun _ h => h.base), (good_dSub.mono fun _ h => h.base), (good_qSub.mono fun _ h => h.base), good_dMul, (good_qMul.mono fun _ h => h.base), (good_dNeg.mono fun _ h => h.base), (good_qNeg.mono fun _ h => h.base), (good_dAbs.mono fun _ h => h.base), (good_qAbs.mono fun _ h => h.base), (good_dScale.mono fun _ h => h.base), (good_qScale.mono fun _ h => h.base), (good_dTop.mono fun _ h => h.base), (good_qTop.mono fun _ h => h.base), (good_dSame.mono fun _ h => h.base), trivial⟩ Tryd.f3 (by kernel_rfl) (by kernel_rfl) (by kernel_rfl) (fun ds hp F A Q hF hA hQ => ⟨0, ?_⟩)
  obtain ⟨x, y, k, v, rfl, hx, hy, hv1, hv2⟩ := tells4_arg hp
  obtain ⟨s, n, cs, e, rfl, hw, hr1, hr2⟩ := okW_arg hx
  obtain ⟨t, m, es, f, rfl, hw2, hs1, hs2⟩ := okW_arg hy
  clear hp hx hy
  rcases three (a := n ≤ 20 ∧ -2000 ≤ e ∧ e ≤ 2000) (b := m ≤ 20 ∧ -2000 ≤ f ∧ f ≤ 2000) with h1 | ⟨h1, h2⟩ | ⟨h1, h2⟩
  · have hfx : ¬(n ≤ 20 ∧ -2000 ≤ e ∧ e ≤ 2000) := h1
    cbv
    repeat' (first | with_reducible refine And.intro ?_ ?_ | (refine safe_lift hA ?_; kernel_rfl) | (intro hc_; (first | (exfalso; clear hQ; subst hF hA; simp only [fnOf, find, std, reduceIte, Nat.reduceEqDiff, sp1, sp2, a1, a2, FnSpec.out, Shape.build, leafs, leafCells, tups, oneOf, List.cons_append, List.nil_append, List.length_cons, List.length_nil, s_DyadTells, s_known4, s_few, s_qMake, s_dIs, s_qIs, s_qEqual, s_dMake, s_dOf, s_qOf, s_dSign, s_qSign, s_dCmp, s_qCmp, s_dAdd, s_qAdd, s_dSub, s_qSub, s_dMul, s_qMul, s_dNeg, s_qNeg, s_dAbs, s_qAbs, s_dScale, s_qScale, s_dTop, s_qTop, s_dSame, dm_raw, dm_N0, dz, dx, dcn, dMof, tmI_idem, teI_idem, tmI_addL, teI_addL, tmI_addR, teI_addR, tmI_addN, teI_addN, tmI_mulL, teI_mulL, tmI_mulR, teI_mulR, tmI_neg, teI_neg, tmI_abs, teI_abs, Int.natAbs_natCast, teI_scale, topI_nrm, cmpD_nrm, sg_tmI, sameI_N0, cmp0d, beq_dec, clamp30e, min_if, clamp30b, clamp30c, vI_N0, Int.natAbs_neg, eq_self, Bool.not_eq_eq_eq_not, decide_eq_true_eq, decide_eq_false_iff_not, not_true_eq_false, not_false_eq_true, decide_true, decide_false, Bool.true_and, Bool.and_true, Bool.not_true, Bool.not_false, beq_self_eq_true, Bool.true_eq_false, Bool.false_eq_true, reduceCtorEq, hfx] at hc_; done) | (clear hc_; cbv))))
    all_goals subst hF hA
    all_goals (try simp only [fnOf, find, std, reduceIte, Nat.reduceEqDiff, sp1, sp2, a1, a2, FnSpec.out, Shape.build, leafs, leafCells, tups, oneOf, List.cons_append, List.nil_append, List.length_cons, List.length_nil, s_DyadTells, s_known4, s_few, s_qMake, s_dIs, s_qIs, s_qEqual, s_dMake, s_dOf, s_qOf, s_dSign, s_qSign, s_dCmp, s_qCmp, s_dAdd, s_qAdd, s_dSub, s_qSub, s_dMul, s_qMul, s_dNeg, s_qNeg, s_dAbs, s_qAbs, s_dScale, s_qScale, s_dTop, s_qTop, s_dSame, dm_raw, dm_N0, dz, dx, dcn, dMof, tmI_idem, teI_idem, tmI_addL, teI_addL, tmI_addR, teI_addR, tmI_addN, teI_addN, tmI_mulL, teI_mulL, tmI_mulR, teI_mulR, tmI_neg, teI_neg, tmI_abs, teI_abs, Int.natAbs_natCast, teI_scale, topI_nrm, cmpD_nrm, sg_tmI, sameI_N0, cmp0d, beq_dec, clamp30e, min_if, clamp30b, clamp30c, vI_N0, Int.natAbs_neg, hfx] at hQ ⊢)
    all_goals (repeat' (first
      | with_reducible exact hQ
      | with_reducible exact Post.b hQ (beq_self_eq_true _).symm
      | with_reducible exact isi_int _ _
      | with_reducible exact fit_0
      | with_reducible exact fit_1
      | with_reducible assumption
      | with_reducible refine okI_mk ?_
      | with_reducible refine okW_mk ?_ ?_ ?_
      | with_reducible refine okE_mk ?_
      | with_reducible refine okD_mk ?_ ?_ ?_
      | (with_reducible refine canD_mk ?_ ?_ ?_ ?_ ?_; (focus simp only [tmI_idem, teI_idem, tmI_neg, teI_neg, tmI_abs, teI_abs, Int.natAbs_natCast]); (focus simp only [tmI_idem, teI_idem, tmI_neg, teI_neg, tmI_abs, teI_abs, Int.natAbs_natCast]))
      | (with_reducible refine okC_fit6 ?_; (repeat' (first | (with_reducible refine Fit.mono (by with_reducible assumption) ?_; omega) | with_reducible refine Fit.neg ?_ | with_reducible refine fit_abs ?_ | (with_reducible refine fit_mul4 ?_ ?_ ?_; (focus omega)) | with_reducible refine fit_tm ?_)))
      | (with_reducible refine ln_fit6 ?_ ?_; focus (repeat' (first | (with_reducible refine Fit.mono (by with_reducible assumption) ?_; omega) | with_reducible refine Fit.neg ?_ | with_reducible refine fit_abs ?_ | (with_reducible refine fit_mul4 ?_ ?_ ?_; (focus omega)) | with_reducible refine fit_tm ?_)))
      | (with_reducible refine near_mk ?_ ?_; (focus omega); (focus omega))
      | omega
      | ((repeat' (first | (with_reducible refine Fit.mono (by with_reducible assumption) ?_; omega) | with_reducible refine Fit.neg ?_ | with_reducible refine fit_abs ?_ | (with_reducible refine fit_mul4 ?_ ?_ ?_; (focus omega)) | with_reducible refine fit_tm ?_)); done)
      | with_reducible refine And.intro ?_ ?_))
    all_goals exact hQ
  · have hfx : (n ≤ 20 ∧ -2000 ≤ e ∧ e ≤ 2000) := h1
    have hfy : ¬(m ≤ 20 ∧ -2000 ≤ f ∧ f ≤ 2000) := h2
    cbv
    repeat' (first | with_reducible refine And.intro ?_ ?_ | (refine safe_lift hA ?_; kernel_rfl) | (intro hc_; (first | (exfalso; clear hQ; subst hF hA; simp only [fnOf, find, std, reduceIte, Nat.reduceEqDiff, sp1, sp2, a1, a2, FnSpec.out, Shape.build, leafs, leafCells, tups, oneOf, List.cons_append, List.nil_append, List.length_cons, List.length_nil, s_DyadTells, s_known4, s_few, s_qMake, s_dIs, s_qIs, s_qEqual, s_dMake, s_dOf, s_qOf, s_dSign, s_qSign, s_dCmp, s_qCmp, s_dAdd, s_qAdd, s_dSub, s_qSub, s_dMul, s_qMul, s_dNeg, s_qNeg, s_dAbs, s_qAbs, s_dScale, s_qScale, s_dTop, s_qTop, s_dSame, dm_raw, dm_N0, dz, dx, dcn, dMof, tmI_idem, teI_idem, tmI_addL, teI_addL, tmI_addR, teI_addR, tmI_addN, teI_addN, tmI_mulL, teI_mulL, tmI_mulR, teI_mulR, tmI_neg, teI_neg, tmI_abs, teI_abs, Int.natAbs_natCast, teI_scale, topI_nrm, cmpD_nrm, sg_tmI, sameI_N0, cmp0d, beq_dec, clamp30e, min_if, clamp30b, clamp30c, vI_N0, Int.natAbs_neg, eq_self, Bool.not_eq_eq_eq_not, decide_eq_true_eq, decide_eq_false_iff_not, not_true_eq_false, not_false_eq_true, decide_true, decide_false, Bool.true_and, Bool.and_true, Bool.not_true, Bool.not_false, beq_self_eq_true, Bool.true_eq_false, Bool.false_eq_true, reduceCtorEq, hfx, hfy] at hc_; done) | (clear hc_; cbv))))
    all_goals subst hF hA
    all_goals (try simp only [fnOf, find, std, reduceIte, Nat.reduceEqDiff, sp1, sp2, a1, a2, FnSpec.out, Shape.build, leafs, leafCells, tups, oneOf, List.cons_append, List.nil_append, List.length_cons, List.length_nil, s_DyadTells, s_known4, s_few, s_qMake, s_dIs, s_qIs, s_qEqual, s_dMake, s_dOf, s_qOf, s_dSign, s_qSign, s_dCmp, s_qCmp, s_dAdd, s_qAdd, s_dSub, s_qSub, s_dMul, s_qMul, s_dNeg, s_qNeg, s_dAbs, s_qAbs, s_dScale, s_qScale, s_dTop, s_qTop, s_dSame, dm_raw, dm_N0, dz, dx, dcn, dMof, tmI_idem, teI_idem, tmI_addL, teI_addL, tmI_addR, teI_addR, tmI_addN, teI_addN, tmI_mulL, teI_mulL, tmI_mulR, teI_mulR, tmI_neg, teI_neg, tmI_abs, teI_abs, Int.natAbs_natCast, teI_scale, topI_nrm, cmpD_nrm, sg_tmI, sameI_N0, cmp0d, beq_dec, clamp30e, min_if, clamp30b, clamp30c, vI_N0, Int.natAbs_neg, hfx, hfy] at hQ ⊢)
    all_goals (repeat' (first
      | with_reducible exact hQ
      | with_reducible exact Post.b hQ (beq_self_eq_true _).symm
      | with_reducible exact isi_int _ _
      | with_reducible exact fit_0
      | with_reducible exact fit_1
      | with_reducible assumption
      | with_reducible refine okI_mk ?_
      | with_reducible refine okW_mk ?_ ?_ ?_
      | with_reducible refine okE_mk ?_
      | with_reducible refine okD_mk ?_ ?_ ?_
      | (with_reducible refine canD_mk ?_ ?_ ?_ ?_ ?_; (focus simp only [tmI_idem, teI_idem, tmI_neg, teI_neg, tmI_abs, teI_abs, Int.natAbs_natCast]); (focus simp only [tmI_idem, teI_idem, tmI_neg, teI_neg, tmI_abs, teI_abs, Int.natAbs_natCast]))
      | (with_reducible refine okC_fit6 ?_; (repeat' (first | (with_reducible refine Fit.mono (by with_reducible assumption) ?_; omega) | with_reducible refine Fit.neg ?_ | with_reducible refine fit_abs ?_ | (with_reducible refine fit_mul4 ?_ ?_ ?_; (focus omega)) | with_reducible refine fit_tm ?_)))
      | (with_reducible refine ln_fit6 ?_ ?_; focus (repeat' (first | (with_reducible refine Fit.mono (by with_reducible assumption) ?_; omega) | with_reducible refine Fit.neg ?_ | with_reducible refine fit_abs ?_ | (with_reducible refine fit_mul4 ?_ ?_ ?_; (focus omega)) | with_reducible refine fit_tm ?_)))
      | (with_reducible refine near_mk ?_ ?_; (focus omega); (focus omega))
      | omega
      | ((repeat' (first | (with_reducible refine Fit.mono (by with_reducible assumption) ?_; omega) | with_reducible refine Fit.neg ?_ | with_reducible refine fit_abs ?_ | (with_reducible refine fit_mul4 ?_ ?_ ?_; (focus omega)) | with_reducible refine fit_tm ?_)); done)
      | with_reducible refine And.intro ?_ ?_))
    all_goals exact hQ
  · have hfx : (n ≤ 20 ∧ -2000 ≤ e ∧ e ≤ 2000) := h1
    have hfy : (m ≤ 20 ∧ -2000 ≤ f ∧ f ≤ 2000) := h2
    have hme := held_few h1.2.1 h1.2.2
    have hmf := held_few h2.2.1 h2.2.2
    have fv : Fit v 64 := (by unfold Fit; omega)
    have gv : Fit (tmI v) 64 := fv.le (tmI_le _)
    have hc : okC n cs := hw (by omega)
    have fX : Fit (vI s cs) 640 := (okC_fit hc s).mono (by omega)
    have gX : Fit (tmI (vI s cs)) 640 := fX.le (tmI_le _)
    have bX : -2000 ≤ teI (vI s cs) e ∧ teI (vI s cs) e ≤ 2640 := te_few fX h1.2.1 h1.2.2
    have hc2 : okC m es := hw2 (by omega)
    have fY : Fit (vI t es) 640 := (okC_fit hc2 t).mono (by omega)
    have gY : Fit (tmI (vI t es)) 640 := fY.le (tmI_le _)
    have bY : -2000 ≤ teI (vI t es) f ∧ teI (vI t es) f ≤ 2640 := te_few fY h2.2.1 h2.2.2
    have fS : Fit (tmI (addM (vI s cs) e (vI t es) f)) 6000 := sum_few fX fY h1.2.1 h1.2.2 h2.2.1 h2.2.2
    have fD : Fit (tmI (addM (vI s cs) e (-vI t es) f)) 6000 := sum_few fX fY.neg h1.2.1 h1.2.2 h2.2.1 h2.2.2
    have fM : Fit (tmI (vI s cs * vI t es)) 1280 := (fX.mul fY (by omega)).le (tmI_le _)
    cbv
    repeat' (first | with_reducible refine And.intro ?_ ?_ | (refine safe_lift hA ?_; kernel_rfl) | (intro hc_; (first | (exfalso; clear hQ; subst hF hA; simp only [fnOf, find, std, reduceIte, Nat.reduceEqDiff, sp1, sp2, a1, a2, FnSpec.out, Shape.build, leafs, leafCells, tups, oneOf, List.cons_append, List.nil_append, List.length_cons, List.length_nil, s_DyadTells, s_known4, s_few, s_qMake, s_dIs, s_qIs, s_qEqual, s_dMake, s_dOf, s_qOf, s_dSign, s_qSign, s_dCmp, s_qCmp, s_dAdd, s_qAdd, s_dSub, s_qSub, s_dMul, s_qMul, s_dNeg, s_qNeg, s_dAbs, s_qAbs, s_dScale, s_qScale, s_dTop, s_qTop, s_dSame, dm_raw, dm_N0, dz, dx, dcn, dMof, tmI_idem, teI_idem, tmI_addL, teI_addL, tmI_addR, teI_addR, tmI_addN, teI_addN, tmI_mulL, teI_mulL, tmI_mulR, teI_mulR, tmI_neg, teI_neg, tmI_abs, teI_abs, Int.natAbs_natCast, teI_scale, topI_nrm, cmpD_nrm, sg_tmI, sameI_N0, cmp0d, beq_dec, clamp30e, min_if, clamp30b, clamp30c, vI_N0, Int.natAbs_neg, eq_self, Bool.not_eq_eq_eq_not, decide_eq_true_eq, decide_eq_false_iff_not, not_true_eq_false, not_false_eq_true, decide_true, decide_false, Bool.true_and, Bool.and_true, Bool.not_true, Bool.not_false, beq_self_eq_true, Bool.true_eq_false, Bool.false_eq_true, reduceCtorEq, hfx, hfy, hme, hmf] at hc_; done) | (clear hc_; cbv))))
    all_goals subst hF hA
    all_goals (try simp only [fnOf, find, std, reduceIte, Nat.reduceEqDiff, sp1, sp2, a1, a2, FnSpec.out, Shape.build, leafs, leafCells, tups, oneOf, List.cons_append, List.nil_append, List.length_cons, List.length_nil, s_DyadTells, s_known4, s_few, s_qMake, s_dIs, s_qIs, s_qEqual, s_dMake, s_dOf, s_qOf, s_dSign, s_qSign, s_dCmp, s_qCmp, s_dAdd, s_qAdd, s_dSub, s_qSub, s_dMul, s_qMul, s_dNeg, s_qNeg, s_dAbs, s_qAbs, s_dScale, s_qScale, s_dTop, s_qTop, s_dSame, dm_raw, dm_N0, dz, dx, dcn, dMof, tmI_idem, teI_idem, tmI_addL, teI_addL, tmI_addR, teI_addR, tmI_addN, teI_addN, tmI_mulL, teI_mulL, tmI_mulR, teI_mulR, tmI_neg, teI_neg, tmI_abs, teI_abs, Int.natAbs_natCast, teI_scale, topI_nrm, cmpD_nrm, sg_tmI, sameI_N0, cmp0d, beq_dec, clamp30e, min_if, clamp30b, clamp30c, vI_N0, Int.natAbs_neg, hfx, hfy, hme, hmf] at hQ ⊢)
    all_goals (repeat' (first
      | with_reducible exact hQ
      | with_reducible exact Post.b hQ (beq_self_eq_true _).symm
      | with_reducible exact isi_int _ _
      | with_reducible exact fit_0
      | with_reducible exact fit_1
      | with_reducible assumption
      | with_reducible refine okI_mk ?_
      | with_reducible refine okW_mk ?_ ?_ ?_
      | with_reducible refine okE_mk ?_
      | with_reducible refine okD_mk ?_ ?_ ?_
      | (with_reducible refine canD_mk ?_ ?_ ?_ ?_ ?_; (focus simp only [tmI_idem, teI_idem, tmI_neg, teI_neg, tmI_abs, teI_abs, Int.natAbs_natCast]); (focus simp only [tmI_idem, teI_idem, tmI_neg, teI_neg, tmI_abs, teI_abs, Int.natAbs_natCast]))
      | (with_reducible refine okC_fit6 ?_; (repeat' (first | (with_reducible refine Fit.mono (by with_reducible assumption) ?_; omega) | with_reducible refine Fit.neg ?_ | with_reducible refine fit_abs ?_ | (with_reducible refine fit_mul4 ?_ ?_ ?_; (focus omega)) | with_reducible refine fit_tm ?_)))
      | (with_reducible refine ln_fit6 ?_ ?_; focus (repeat' (first | (with_reducible refine Fit.mono (by with_reducible assumption) ?_; omega) | with_reducible refine Fit.neg ?_ | with_reducible refine fit_abs ?_ | (with_reducible refine fit_mul4 ?_ ?_ ?_; (focus omega)) | with_reducible refine fit_tm ?_)))
      | (with_reducible refine near_mk ?_ ?_; (focus omega); (focus omega))
      | omega
      | ((repeat' (first | (with_reducible refine Fit.mono (by with_reducible assumption) ?_; omega) | with_reducible refine Fit.neg ?_ | with_reducible refine fit_abs ?_ | (with_reducible refine fit_mul4 ?_ ?_ ?_; (focus omega)) | with_reducible refine fit_tm ?_)); done)
      | with_reducible refine And.intro ?_ ?_))
    all_goals exact hQ
end Go.Proofs.YtglmnhjkmdpefaaDoor.Ev
