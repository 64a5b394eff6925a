/- A law of quotients: QuotSides. -/
import Derived.Test.YtbamplgleeofhaaDoorX6
namespace Go.Proofs.YtbamplgleeofhaaDoor.Ev
open Go Go.RowKit
set_option linter.unusedSimpArgs false
set_option linter.unusedVariables false
set_option maxRecDepth 100000 in
set_option maxHeartbeats 16000000 in
theorem good_QuotSides : Good Tryd.prog (GWL [0, 1, 2, 3]) N0 3 s_QuotSides := by
  refine goodL (l := [0, 1, 2, 3]) (tab := [(7, s_known6), (8, s_few6), (9, s_dSign), (10, s_kDiv), (12, s_dMul), (11, s_dCmp), (13, s_oFits), (14, s_dSame), (15, s_dAbs), (16, s_kSqrt), (17, s_dSub), (18, s_oUlp)]) (shs := [(7, .one .b), (8, .one .b), (9, .one (.i .i64)), (10, .tup [(true, [.I, .i .i64]), (false, [.i .i64])]), (12, .agg [.I, .i .i64]), (11, .one (.i .i64)), (13, .one .b), (14, .one .b), (15, .agg [.I, .i .i64]), (16, .tup [(true, [.I, .i .i64]), (false, [.i .i64])]), (17, .agg [.I, .i .i64]), (18, .agg [.I, .i .i64])]) rfl ⟨(good_known6.lift (by decide)), (good_few6.lift (by decide)), (good_dSign.lift (by decide)), (good_kDiv.lift (by decide)), (good_dMul.lift (by decide)), (good_dCmp.lift (by decide)), (good_oFits.lift (by decide)), (good_dSame.lift (by decide)), (good_dAbs.lift (by decide)), (good_kSqrt.lift (by decide)), (good_dSub.lift (by decide)), (good_oUlp.lift (by decide)), trivial⟩ Tryd.f3 (by kernel_rfl) (by kernel_rfl) (by kernel_rfl) (fun ds hp F A Q hF hA hQ => ⟨0, ?_⟩)
  obtain ⟨x, y, b, rfl, hx, hy, hbb1, hbb2⟩ := sides6_arg hp
  obtain ⟨s, n, cs, e, rfl, hw, hr1, hr2⟩ := okW_arg hx
  obtain ⟨t, m, es, f, rfl, hw2, hs1, hs2⟩ := okW_arg hy
  clear hp hx hy
  have htb1 : 0 ≤ b.tmod 200 ∧ b.tmod 200 ≤ 199 := by rw [Int.tmod_eq_emod_of_nonneg hbb1]; omega
  rcases six_cases (a := n ≤ 20 ∧ -2000 ≤ e ∧ e ≤ 2000) (b := m ≤ 20 ∧ -2000 ≤ f ∧ f ≤ 2000) (y := vI t es = 0) (z := vI s cs = 0) (w := (qm (vI s cs) e (vI t es) f (qE (vI s cs) e (vI t es) f (b.tmod 200 + 1)) 1) = (qm (vI s cs) e (vI t es) f (qE (vI s cs) e (vI t es) f (b.tmod 200 + 1)) 0)) with h1 | ⟨h1, h2⟩ | ⟨h1, h2, hY⟩ | ⟨h1, h2, hY, hX⟩ | ⟨h1, h2, hY, hX, hq0⟩ | ⟨h1, h2, hY, hX, hq0⟩
  · have hfx : ¬(n ≤ 20 ∧ -2000 ≤ e ∧ e ≤ 2000) := h1
    cbv
    repeat' (first | with_reducible refine And.intro ?_ ?_ | (with_reducible refine safe_lift hA ?_; kernel_rfl) | (intro hc_; (first | (with_reducible exfalso; clear hQ; subst hF hA; simp only [fnOf, find, std, reduceIte, Nat.reduceEqDiff, sp1, sp2, a1, a2, FnSpec.out, Shape.build, leafs, leafCells, tups, oneOf, List.cons_append, List.nil_append, List.length_cons, List.length_nil, s_QuotSides, s_known6, s_few6, s_dSign, s_kDiv, s_dMul, s_dCmp, s_oFits, s_dSame, s_dAbs, s_kSqrt, s_dSub, s_oUlp, dm_raw, dm_N0, dz, dx, dcn, dMof, tmI_idem, teI_idem, tmI_addL, teI_addL, tmI_addR, teI_addR, tmI_addN, teI_addN, tmI_mulL, teI_mulL, tmI_mulR, teI_mulR, tmI_neg, teI_neg, Int.natAbs_natCast, teI_scale, topI_nrm, cmpD_nrm, sg_tmI, sameI_N0, beq_dec, clamp30e, min_if, clamp30b, clamp30c, vI_N0, Int.natAbs_neg, sg_eq, and_self, and_true, true_and, gm_nrm, ge_nrm, stepI_nrm, tm_gm, te_gm, tmI_eq0, smD, cmpD_nrmL, cmpD_nrmR, cmpD_self, Int.reduceLT, Int.reduceLE, Int.reduceNeg, Int.reduceEq, reduceIte, Int.reduceBEq, sub_cmp, sg_beq, qm_nrmL, qr_nrm, rE_nrm, fits_nrm, tmI_zero, teI_zero, qm_zX, qr_z, cmpD_00, fits_0, wrap_0, addM_00, Int.zero_mul, Int.natAbs_zero, Int.natCast_zero, Int.mul_zero, Int.neg_zero, stepI_nrm, tmI_eq0, eq_self, Bool.not_eq_eq_eq_not, decide_eq_true_eq, decide_eq_false_iff_not, not_true_eq_false, not_false_eq_true, decide_true, decide_false, Bool.true_and, Bool.and_true, Bool.not_true, Bool.not_false, beq_self_eq_true, Bool.true_eq_false, Bool.false_eq_true, reduceCtorEq, s_few, hfx] at hc_; done) | (clear hc_; cbv))))
    all_goals subst hF hA
    all_goals (try simp only [fnOf, find, std, reduceIte, Nat.reduceEqDiff, sp1, sp2, a1, a2, FnSpec.out, Shape.build, leafs, leafCells, tups, oneOf, List.cons_append, List.nil_append, List.length_cons, List.length_nil, s_QuotSides, s_known6, s_few6, s_dSign, s_kDiv, s_dMul, s_dCmp, s_oFits, s_dSame, s_dAbs, s_kSqrt, s_dSub, s_oUlp, dm_raw, dm_N0, dz, dx, dcn, dMof, tmI_idem, teI_idem, tmI_addL, teI_addL, tmI_addR, teI_addR, tmI_addN, teI_addN, tmI_mulL, teI_mulL, tmI_mulR, teI_mulR, tmI_neg, teI_neg, Int.natAbs_natCast, teI_scale, topI_nrm, cmpD_nrm, sg_tmI, sameI_N0, beq_dec, clamp30e, min_if, clamp30b, clamp30c, vI_N0, Int.natAbs_neg, sg_eq, and_self, and_true, true_and, gm_nrm, ge_nrm, stepI_nrm, tm_gm, te_gm, tmI_eq0, smD, cmpD_nrmL, cmpD_nrmR, cmpD_self, Int.reduceLT, Int.reduceLE, Int.reduceNeg, Int.reduceEq, reduceIte, Int.reduceBEq, sub_cmp, sg_beq, qm_nrmL, qr_nrm, rE_nrm, fits_nrm, tmI_zero, teI_zero, qm_zX, qr_z, cmpD_00, fits_0, wrap_0, addM_00, Int.zero_mul, Int.natAbs_zero, Int.natCast_zero, Int.mul_zero, Int.neg_zero, stepI_nrm, tmI_eq0, s_few, hfx] at hQ ⊢)
    all_goals (repeat' (first
      | with_reducible exact hQ
      | with_reducible exact Post.b hQ (beq_self_eq_true _).symm
      | with_reducible exact isi_int _ _
      | with_reducible exact fit_0
      | with_reducible exact fit_1
      | with_reducible assumption
      | with_reducible refine okI_mk ?_
      | with_reducible refine okW_mk ?_ ?_ ?_
      | with_reducible refine okE_mk ?_
      | with_reducible refine okD_mk ?_ ?_ ?_
      | (with_reducible refine canD_mk ?_ ?_ ?_ ?_ ?_; (focus simp only [tmI_idem, teI_idem, tmI_neg, teI_neg, tmI_abs, teI_abs, Int.natAbs_natCast]); (focus simp only [tmI_idem, teI_idem, tmI_neg, teI_neg, tmI_abs, teI_abs, Int.natAbs_natCast]))
      | (with_reducible refine okC_fit6 ?_; (repeat' (first | (with_reducible refine Fit.mono (by with_reducible assumption) ?_; omega) | with_reducible refine Fit.neg ?_ | with_reducible refine fit_abs ?_ | (with_reducible refine fit_mul4 ?_ ?_ ?_; (focus omega)) | with_reducible refine fit_tm ?_)))
      | (with_reducible refine ln_fit6 ?_ ?_; focus (repeat' (first | (with_reducible refine Fit.mono (by with_reducible assumption) ?_; omega) | with_reducible refine Fit.neg ?_ | with_reducible refine fit_abs ?_ | (with_reducible refine fit_mul4 ?_ ?_ ?_; (focus omega)) | with_reducible refine fit_tm ?_)))
      | (with_reducible refine near_mk ?_ ?_; (focus omega); (focus omega))
      | omega
      | ((repeat' (first | (with_reducible refine Fit.mono (by with_reducible assumption) ?_; omega) | with_reducible refine Fit.neg ?_ | with_reducible refine fit_abs ?_ | (with_reducible refine fit_mul4 ?_ ?_ ?_; (focus omega)) | with_reducible refine fit_tm ?_)); done)
      | with_reducible refine And.intro ?_ ?_))
    all_goals exact hQ
  · have hfx : (n ≤ 20 ∧ -2000 ≤ e ∧ e ≤ 2000) := h1
    have hfy : ¬(m ≤ 20 ∧ -2000 ≤ f ∧ f ≤ 2000) := h2
    cbv
    repeat' (first | with_reducible refine And.intro ?_ ?_ | (with_reducible refine safe_lift hA ?_; kernel_rfl) | (intro hc_; (first | (with_reducible exfalso; clear hQ; subst hF hA; simp only [fnOf, find, std, reduceIte, Nat.reduceEqDiff, sp1, sp2, a1, a2, FnSpec.out, Shape.build, leafs, leafCells, tups, oneOf, List.cons_append, List.nil_append, List.length_cons, List.length_nil, s_QuotSides, s_known6, s_few6, s_dSign, s_kDiv, s_dMul, s_dCmp, s_oFits, s_dSame, s_dAbs, s_kSqrt, s_dSub, s_oUlp, dm_raw, dm_N0, dz, dx, dcn, dMof, tmI_idem, teI_idem, tmI_addL, teI_addL, tmI_addR, teI_addR, tmI_addN, teI_addN, tmI_mulL, teI_mulL, tmI_mulR, teI_mulR, tmI_neg, teI_neg, Int.natAbs_natCast, teI_scale, topI_nrm, cmpD_nrm, sg_tmI, sameI_N0, beq_dec, clamp30e, min_if, clamp30b, clamp30c, vI_N0, Int.natAbs_neg, sg_eq, and_self, and_true, true_and, gm_nrm, ge_nrm, stepI_nrm, tm_gm, te_gm, tmI_eq0, smD, cmpD_nrmL, cmpD_nrmR, cmpD_self, Int.reduceLT, Int.reduceLE, Int.reduceNeg, Int.reduceEq, reduceIte, Int.reduceBEq, sub_cmp, sg_beq, qm_nrmL, qr_nrm, rE_nrm, fits_nrm, tmI_zero, teI_zero, qm_zX, qr_z, cmpD_00, fits_0, wrap_0, addM_00, Int.zero_mul, Int.natAbs_zero, Int.natCast_zero, Int.mul_zero, Int.neg_zero, stepI_nrm, tmI_eq0, eq_self, Bool.not_eq_eq_eq_not, decide_eq_true_eq, decide_eq_false_iff_not, not_true_eq_false, not_false_eq_true, decide_true, decide_false, Bool.true_and, Bool.and_true, Bool.not_true, Bool.not_false, beq_self_eq_true, Bool.true_eq_false, Bool.false_eq_true, reduceCtorEq, s_few, hfx, hfy] at hc_; done) | (clear hc_; cbv))))
    all_goals subst hF hA
    all_goals (try simp only [fnOf, find, std, reduceIte, Nat.reduceEqDiff, sp1, sp2, a1, a2, FnSpec.out, Shape.build, leafs, leafCells, tups, oneOf, List.cons_append, List.nil_append, List.length_cons, List.length_nil, s_QuotSides, s_known6, s_few6, s_dSign, s_kDiv, s_dMul, s_dCmp, s_oFits, s_dSame, s_dAbs, s_kSqrt, s_dSub, s_oUlp, dm_raw, dm_N0, dz, dx, dcn, dMof, tmI_idem, teI_idem, tmI_addL, teI_addL, tmI_addR, teI_addR, tmI_addN, teI_addN, tmI_mulL, teI_mulL, tmI_mulR, teI_mulR, tmI_neg, teI_neg, Int.natAbs_natCast, teI_scale, topI_nrm, cmpD_nrm, sg_tmI, sameI_N0, beq_dec, clamp30e, min_if, clamp30b, clamp30c, vI_N0, Int.natAbs_neg, sg_eq, and_self, and_true, true_and, gm_nrm, ge_nrm, stepI_nrm, tm_gm, te_gm, tmI_eq0, smD, cmpD_nrmL, cmpD_nrmR, cmpD_self, Int.reduceLT, Int.reduceLE, Int.reduceNeg, Int.reduceEq, reduceIte, Int.reduceBEq, sub_cmp, sg_beq, qm_nrmL, qr_nrm, rE_nrm, fits_nrm, tmI_zero, teI_zero, qm_zX, qr_z, cmpD_00, fits_0, wrap_0, addM_00, Int.zero_mul, Int.natAbs_zero, Int.natCast_zero, Int.mul_zero, Int.neg_zero, stepI_nrm, tmI_eq0, s_few, hfx, hfy] at hQ ⊢)
    all_goals (repeat' (first
      | with_reducible exact hQ
      | with_reducible exact Post.b hQ (beq_self_eq_true _).symm
      | with_reducible exact isi_int _ _
      | with_reducible exact fit_0
      | with_reducible exact fit_1
      | with_reducible assumption
      | with_reducible refine okI_mk ?_
      | with_reducible refine okW_mk ?_ ?_ ?_
      | with_reducible refine okE_mk ?_
      | with_reducible refine okD_mk ?_ ?_ ?_
      | (with_reducible refine canD_mk ?_ ?_ ?_ ?_ ?_; (focus simp only [tmI_idem, teI_idem, tmI_neg, teI_neg, tmI_abs, teI_abs, Int.natAbs_natCast]); (focus simp only [tmI_idem, teI_idem, tmI_neg, teI_neg, tmI_abs, teI_abs, Int.natAbs_natCast]))
      | (with_reducible refine okC_fit6 ?_; (repeat' (first | (with_reducible refine Fit.mono (by with_reducible assumption) ?_; omega) | with_reducible refine Fit.neg ?_ | with_reducible refine fit_abs ?_ | (with_reducible refine fit_mul4 ?_ ?_ ?_; (focus omega)) | with_reducible refine fit_tm ?_)))
      | (with_reducible refine ln_fit6 ?_ ?_; focus (repeat' (first | (with_reducible refine Fit.mono (by with_reducible assumption) ?_; omega) | with_reducible refine Fit.neg ?_ | with_reducible refine fit_abs ?_ | (with_reducible refine fit_mul4 ?_ ?_ ?_; (focus omega)) | with_reducible refine fit_tm ?_)))
      | (with_reducible refine near_mk ?_ ?_; (focus omega); (focus omega))
      | omega
      | ((repeat' (first | (with_reducible refine Fit.mono (by with_reducible assumption) ?_; omega) | with_reducible refine Fit.neg ?_ | with_reducible refine fit_abs ?_ | (with_reducible refine fit_mul4 ?_ ?_ ?_; (focus omega)) | with_reducible refine fit_tm ?_)); done)
      | with_reducible refine And.intro ?_ ?_))
    all_goals exact hQ
  · have hfx : (n ≤ 20 ∧ -2000 ≤ e ∧ e ≤ 2000) := h1
    have hfy : (m ≤ 20 ∧ -2000 ≤ f ∧ f ≤ 2000) := h2
    have hc : okC n cs := hw (by omega)
    have fX : Fit (vI s cs) 640 := (okC_fit hc s).mono (by omega)
    have gX : Fit (tmI (vI s cs)) 640 := fX.le (tmI_le _)
    have bX : -2000 ≤ teI (vI s cs) e ∧ teI (vI s cs) e ≤ 2640 := te_few fX h1.2.1 h1.2.2
    have hc2 : okC m es := hw2 (by omega)
    have fY : Fit (vI t es) 640 := (okC_fit hc2 t).mono (by omega)
    have gY : Fit (tmI (vI t es)) 640 := fY.le (tmI_le _)
    have bY : -2000 ≤ teI (vI t es) f ∧ teI (vI t es) f ≤ 2640 := te_few fY h2.2.1 h2.2.2
    have hY0 : (vI t es = 0) = True := eq_true hY
    cbv
    repeat' (first | with_reducible refine And.intro ?_ ?_ | (with_reducible refine safe_lift hA ?_; kernel_rfl) | (intro hc_; (first | (with_reducible exfalso; clear hQ; subst hF hA; simp only [fnOf, find, std, reduceIte, Nat.reduceEqDiff, sp1, sp2, a1, a2, FnSpec.out, Shape.build, leafs, leafCells, tups, oneOf, List.cons_append, List.nil_append, List.length_cons, List.length_nil, s_QuotSides, s_known6, s_few6, s_dSign, s_kDiv, s_dMul, s_dCmp, s_oFits, s_dSame, s_dAbs, s_kSqrt, s_dSub, s_oUlp, dm_raw, dm_N0, dz, dx, dcn, dMof, tmI_idem, teI_idem, tmI_addL, teI_addL, tmI_addR, teI_addR, tmI_addN, teI_addN, tmI_mulL, teI_mulL, tmI_mulR, teI_mulR, tmI_neg, teI_neg, Int.natAbs_natCast, teI_scale, topI_nrm, cmpD_nrm, sg_tmI, sameI_N0, beq_dec, clamp30e, min_if, clamp30b, clamp30c, vI_N0, Int.natAbs_neg, sg_eq, and_self, and_true, true_and, gm_nrm, ge_nrm, stepI_nrm, tm_gm, te_gm, tmI_eq0, smD, cmpD_nrmL, cmpD_nrmR, cmpD_self, Int.reduceLT, Int.reduceLE, Int.reduceNeg, Int.reduceEq, reduceIte, Int.reduceBEq, sub_cmp, sg_beq, qm_nrmL, qr_nrm, rE_nrm, fits_nrm, tmI_zero, teI_zero, qm_zX, qr_z, cmpD_00, fits_0, wrap_0, addM_00, Int.zero_mul, Int.natAbs_zero, Int.natCast_zero, Int.mul_zero, Int.neg_zero, stepI_nrm, tmI_eq0, eq_self, Bool.not_eq_eq_eq_not, decide_eq_true_eq, decide_eq_false_iff_not, not_true_eq_false, not_false_eq_true, decide_true, decide_false, Bool.true_and, Bool.and_true, Bool.not_true, Bool.not_false, beq_self_eq_true, Bool.true_eq_false, Bool.false_eq_true, reduceCtorEq, s_few, hfx, hfy, hY0] at hc_; done) | (clear hc_; cbv))))
    all_goals subst hF hA
    all_goals (try simp only [fnOf, find, std, reduceIte, Nat.reduceEqDiff, sp1, sp2, a1, a2, FnSpec.out, Shape.build, leafs, leafCells, tups, oneOf, List.cons_append, List.nil_append, List.length_cons, List.length_nil, s_QuotSides, s_known6, s_few6, s_dSign, s_kDiv, s_dMul, s_dCmp, s_oFits, s_dSame, s_dAbs, s_kSqrt, s_dSub, s_oUlp, dm_raw, dm_N0, dz, dx, dcn, dMof, tmI_idem, teI_idem, tmI_addL, teI_addL, tmI_addR, teI_addR, tmI_addN, teI_addN, tmI_mulL, teI_mulL, tmI_mulR, teI_mulR, tmI_neg, teI_neg, Int.natAbs_natCast, teI_scale, topI_nrm, cmpD_nrm, sg_tmI, sameI_N0, beq_dec, clamp30e, min_if, clamp30b, clamp30c, vI_N0, Int.natAbs_neg, sg_eq, and_self, and_true, true_and, gm_nrm, ge_nrm, stepI_nrm, tm_gm, te_gm, tmI_eq0, smD, cmpD_nrmL, cmpD_nrmR, cmpD_self, Int.reduceLT, Int.reduceLE, Int.reduceNeg, Int.reduceEq, reduceIte, Int.reduceBEq, sub_cmp, sg_beq, qm_nrmL, qr_nrm, rE_nrm, fits_nrm, tmI_zero, teI_zero, qm_zX, qr_z, cmpD_00, fits_0, wrap_0, addM_00, Int.zero_mul, Int.natAbs_zero, Int.natCast_zero, Int.mul_zero, Int.neg_zero, stepI_nrm, tmI_eq0, s_few, hfx, hfy, hY0] at hQ ⊢)
    all_goals (repeat' (first
      | with_reducible exact hQ
      | with_reducible exact Post.b hQ (beq_self_eq_true _).symm
      | with_reducible exact isi_int _ _
      | with_reducible exact fit_0
      | with_reducible exact fit_1
      | with_reducible assumption
      | with_reducible refine okI_mk ?_
      | with_reducible refine okW_mk ?_ ?_ ?_
      | with_reducible refine okE_mk ?_
      | with_reducible refine okD_mk ?_ ?_ ?_
      | (with_reducible refine canD_mk ?_ ?_ ?_ ?_ ?_; (focus simp only [tmI_idem, teI_idem, tmI_neg, teI_neg, tmI_abs, teI_abs, Int.natAbs_natCast]); (focus simp only [tmI_idem, teI_idem, tmI_neg, teI_neg, tmI_abs, teI_abs, Int.natAbs_natCast]))
      | (with_reducible refine okC_fit6 ?_; (repeat' (first | (with_reducible refine Fit.mono (by with_reducible assumption) ?_; omega) | with_reducible refine Fit.neg ?_ | with_reducible refine fit_abs ?_ | (with_reducible refine fit_mul4 ?_ ?_ ?_; (focus omega)) | with_reducible refine fit_tm ?_)))
      | (with_reducible refine ln_fit6 ?_ ?_; focus (repeat' (first | (with_reducible refine Fit.mono (by with_reducible assumption) ?_; omega) | with_reducible refine Fit.neg ?_ | with_reducible refine fit_abs ?_ | (with_reducible refine fit_mul4 ?_ ?_ ?_; (focus omega)) | with_reducible refine fit_tm ?_)))
      | (with_reducible refine near_mk ?_ ?_; (focus omega); (focus omega))
      | omega
      | ((repeat' (first | (with_reducible refine Fit.mono (by with_reducible assumption) ?_; omega) | with_reducible refine Fit.neg ?_ | with_reducible refine fit_abs ?_ | (with_reducible refine fit_mul4 ?_ ?_ ?_; (focus omega)) | with_reducible refine fit_tm ?_)); done)
      | with_reducible refine And.intro ?_ ?_))
    all_goals exact hQ
  · have hfx : (n ≤ 20 ∧ -2000 ≤ e ∧ e ≤ 2000) := h1
    have hfy : (m ≤ 20 ∧ -2000 ≤ f ∧ f ≤ 2000) := h2
    have hc : okC n cs := hw (by omega)
    have fX : Fit (vI s cs) 640 := (okC_fit hc s).mono (by omega)
    have gX : Fit (tmI (vI s cs)) 640 := fX.le (tmI_le _)
    have bX : -2000 ≤ teI (vI s cs) e ∧ teI (vI s cs) e ≤ 2640 := te_few fX h1.2.1 h1.2.2
    have hc2 : okC m es := hw2 (by omega)
    have fY : Fit (vI t es) 640 := (okC_fit hc2 t).mono (by omega)
    have gY : Fit (tmI (vI t es)) 640 := fY.le (tmI_le _)
    have bY : -2000 ≤ teI (vI t es) f ∧ teI (vI t es) f ≤ 2640 := te_few fY h2.2.1 h2.2.2
    have hY0 : (vI t es = 0) = False := eq_false hY
    have hw1 : IntKind.i64.wrap (b.tmod 200) = b.tmod 200 := wrap_in (by omega) (by omega)
    have hw2 : IntKind.i64.wrap (b.tmod 200 + 1) = b.tmod 200 + 1 := wrap_in (by omega) (by omega)
    cbv
    repeat' (first | with_reducible refine And.intro ?_ ?_ | (with_reducible refine safe_lift hA ?_; kernel_rfl) | (intro hc_; (first | (with_reducible exfalso; clear hQ; subst hF hA; simp only [fnOf, find, std, reduceIte, Nat.reduceEqDiff, sp1, sp2, a1, a2, FnSpec.out, Shape.build, leafs, leafCells, tups, oneOf, List.cons_append, List.nil_append, List.length_cons, List.length_nil, s_QuotSides, s_known6, s_few6, s_dSign, s_kDiv, s_dMul, s_dCmp, s_oFits, s_dSame, s_dAbs, s_kSqrt, s_dSub, s_oUlp, dm_raw, dm_N0, dz, dx, dcn, dMof, tmI_idem, teI_idem, tmI_addL, teI_addL, tmI_addR, teI_addR, tmI_addN, teI_addN, tmI_mulL, teI_mulL, tmI_mulR, teI_mulR, tmI_neg, teI_neg, Int.natAbs_natCast, teI_scale, topI_nrm, cmpD_nrm, sg_tmI, sameI_N0, beq_dec, clamp30e, min_if, clamp30b, clamp30c, vI_N0, Int.natAbs_neg, sg_eq, and_self, and_true, true_and, gm_nrm, ge_nrm, stepI_nrm, tm_gm, te_gm, tmI_eq0, smD, cmpD_nrmL, cmpD_nrmR, cmpD_self, Int.reduceLT, Int.reduceLE, Int.reduceNeg, Int.reduceEq, reduceIte, Int.reduceBEq, sub_cmp, sg_beq, qm_nrmL, qr_nrm, rE_nrm, fits_nrm, tmI_zero, teI_zero, qm_zX, qr_z, cmpD_00, fits_0, wrap_0, addM_00, Int.zero_mul, Int.natAbs_zero, Int.natCast_zero, Int.mul_zero, Int.neg_zero, stepI_nrm, tmI_eq0, eq_self, Bool.not_eq_eq_eq_not, decide_eq_true_eq, decide_eq_false_iff_not, not_true_eq_false, not_false_eq_true, decide_true, decide_false, Bool.true_and, Bool.and_true, Bool.not_true, Bool.not_false, beq_self_eq_true, Bool.true_eq_false, Bool.false_eq_true, reduceCtorEq, s_few, hfx, hfy, hY0, hX, hw1, hw2] at hc_; done) | (clear hc_; cbv))))
    all_goals subst hF hA
    all_goals (try simp only [fnOf, find, std, reduceIte, Nat.reduceEqDiff, sp1, sp2, a1, a2, FnSpec.out, Shape.build, leafs, leafCells, tups, oneOf, List.cons_append, List.nil_append, List.length_cons, List.length_nil, s_QuotSides, s_known6, s_few6, s_dSign, s_kDiv, s_dMul, s_dCmp, s_oFits, s_dSame, s_dAbs, s_kSqrt, s_dSub, s_oUlp, dm_raw, dm_N0, dz, dx, dcn, dMof, tmI_idem, teI_idem, tmI_addL, teI_addL, tmI_addR, teI_addR, tmI_addN, teI_addN, tmI_mulL, teI_mulL, tmI_mulR, teI_mulR, tmI_neg, teI_neg, Int.natAbs_natCast, teI_scale, topI_nrm, cmpD_nrm, sg_tmI, sameI_N0, beq_dec, clamp30e, min_if, clamp30b, clamp30c, vI_N0, Int.natAbs_neg, sg_eq, and_self, and_true, true_and, gm_nrm, ge_nrm, stepI_nrm, tm_gm, te_gm, tmI_eq0, smD, cmpD_nrmL, cmpD_nrmR, cmpD_self, Int.reduceLT, Int.reduceLE, Int.reduceNeg, Int.reduceEq, reduceIte, Int.reduceBEq, sub_cmp, sg_beq, qm_nrmL, qr_nrm, rE_nrm, fits_nrm, tmI_zero, teI_zero, qm_zX, qr_z, cmpD_00, fits_0, wrap_0, addM_00, Int.zero_mul, Int.natAbs_zero, Int.natCast_zero, Int.mul_zero, Int.neg_zero, stepI_nrm, tmI_eq0, s_few, hfx, hfy, hY0, hX, hw1, hw2] at hQ ⊢)
    all_goals (repeat' (first
      | with_reducible exact hQ
      | with_reducible exact Post.b hQ (beq_self_eq_true _).symm
      | with_reducible exact isi_int _ _
      | with_reducible exact fit_0
      | with_reducible exact fit_1
      | with_reducible assumption
      | with_reducible refine okI_mk ?_
      | with_reducible refine okW_mk ?_ ?_ ?_
      | with_reducible refine okE_mk ?_
      | with_reducible refine okD_mk ?_ ?_ ?_
      | (with_reducible refine canD_mk ?_ ?_ ?_ ?_ ?_; (focus simp only [tmI_idem, teI_idem, tmI_neg, teI_neg, tmI_abs, teI_abs, Int.natAbs_natCast]); (focus simp only [tmI_idem, teI_idem, tmI_neg, teI_neg, tmI_abs, teI_abs, Int.natAbs_natCast]))
      | (with_reducible refine okC_fit6 ?_; (repeat' (first | (with_reducible refine Fit.mono (by with_reducible assumption) ?_; omega) | with_reducible refine Fit.neg ?_ | with_reducible refine fit_abs ?_ | (with_reducible refine fit_mul4 ?_ ?_ ?_; (focus omega)) | with_reducible refine fit_tm ?_)))
      | (with_reducible refine ln_fit6 ?_ ?_; focus (repeat' (first | (with_reducible refine Fit.mono (by with_reducible assumption) ?_; omega) | with_reducible refine Fit.neg ?_ | with_reducible refine fit_abs ?_ | (with_reducible refine fit_mul4 ?_ ?_ ?_; (focus omega)) | with_reducible refine fit_tm ?_)))
      | (with_reducible refine near_mk ?_ ?_; (focus omega); (focus omega))
      | omega
      | ((repeat' (first | (with_reducible refine Fit.mono (by with_reducible assumption) ?_; omega) | with_reducible refine Fit.neg ?_ | with_reducible refine fit_abs ?_ | (with_reducible refine fit_mul4 ?_ ?_ ?_; (focus omega)) | with_reducible refine fit_tm ?_)); done)
      | with_reducible refine And.intro ?_ ?_))
    all_goals exact hQ
  · have hfx : (n ≤ 20 ∧ -2000 ≤ e ∧ e ≤ 2000) := h1
    have hfy : (m ≤ 20 ∧ -2000 ≤ f ∧ f ≤ 2000) := h2
    have hc : okC n cs := hw (by omega)
    have fX : Fit (vI s cs) 640 := (okC_fit hc s).mono (by omega)
    have gX : Fit (tmI (vI s cs)) 640 := fX.le (tmI_le _)
    have bX : -2000 ≤ teI (vI s cs) e ∧ teI (vI s cs) e ≤ 2640 := te_few fX h1.2.1 h1.2.2
    have hc2 : okC m es := hw2 (by omega)
    have fY : Fit (vI t es) 640 := (okC_fit hc2 t).mono (by omega)
    have gY : Fit (tmI (vI t es)) 640 := fY.le (tmI_le _)
    have bY : -2000 ≤ teI (vI t es) f ∧ teI (vI t es) f ≤ 2640 := te_few fY h2.2.1 h2.2.2
    have hY0 : (vI t es = 0) = False := eq_false hY
    have hw1 : IntKind.i64.wrap (b.tmod 200) = b.tmod 200 := wrap_in (by omega) (by omega)
    have hw2 : IntKind.i64.wrap (b.tmod 200 + 1) = b.tmod 200 + 1 := wrap_in (by omega) (by omega)
    have qA := qm_few (p := (b.tmod 200 + 1)) hY fX fY h1.2.1 h1.2.2 h2.2.1 h2.2.2 (by omega) (by omega) 0
    obtain ⟨fA, cA, dA, aA, bA, tA⟩ := qA
    have qB := qm_few (p := (b.tmod 200 + 1)) hY fX fY h1.2.1 h1.2.2 h2.2.1 h2.2.2 (by omega) (by omega) 1
    obtain ⟨fB, cB, dB, aB, bB, tB⟩ := qB
    have tA1 := tA
    have tB1 := tB
    have fxC : Fit ((qm (vI s cs) e (vI t es) f (qE (vI s cs) e (vI t es) f (b.tmod 200 + 1)) 0) * vI t es) 1041 := fA.mul fY (by omega)
    have bxC := te_in (e := ((qE (vI s cs) e (vI t es) f (b.tmod 200 + 1)) + f)) (a := -8000) (b := 8000) (c := 9041) fxC (by omega) (by omega) (by omega) (by omega) (by decide)
    have fxD : Fit ((qm (vI s cs) e (vI t es) f (qE (vI s cs) e (vI t es) f (b.tmod 200 + 1)) 1) * vI t es) 1041 := fB.mul fY (by omega)
    have bxD := te_in (e := ((qE (vI s cs) e (vI t es) f (b.tmod 200 + 1)) + f)) (a := -8000) (b := 8000) (c := 9041) fxD (by omega) (by omega) (by omega) (by omega) (by decide)
    obtain ⟨r1, r2, hcas⟩ := sides6 (X := vI s cs) (e := e) (f := f) (p := (b.tmod 200 + 1)) hY
    have hM : 0 < ((vI s cs).natAbs : Int) := by omega
    have fM := fit_abs fX
    have bAM := te_few fM h1.2.1 h1.2.2
    obtain ⟨s1, s2, s3, r8, s5, r9, r10, fR, fU, e1, e2, fS⟩ := qr_few (p := (b.tmod 200 + 1)) hM fM h1.2.1 h1.2.2 (by omega) (by omega)
    have r11 := eq_true s1
    have r12 := eq_true s2
    have r13 := eq_true s3
    have r14 := eq_false s5
    have r15 : (tmI ((vI s cs).natAbs : Int) < 0) = False := tm_neg (by omega)
    have fxR : Fit (qr ((vI s cs).natAbs : Int) e (rE ((vI s cs).natAbs : Int) e (b.tmod 200 + 1)) 0) 401 := fR
    have bxR := te_in (e := (rE ((vI s cs).natAbs : Int) e (b.tmod 200 + 1))) (a := -1500) (b := 1400) (c := 1801) fxR (by omega) (by omega) (by omega) (by omega) (by decide)
    have fxU : Fit (qr ((vI s cs).natAbs : Int) e (rE ((vI s cs).natAbs : Int) e (b.tmod 200 + 1)) 1) 401 := fU
    have bxU := te_in (e := (rE ((vI s cs).natAbs : Int) e (b.tmod 200 + 1))) (a := -1500) (b := 1400) (c := 1801) fxU (by omega) (by omega) (by omega) (by omega) (by decide)
    have fxV : Fit ((qr ((vI s cs).natAbs : Int) e (rE ((vI s cs).natAbs : Int) e (b.tmod 200 + 1)) 0) * (qr ((vI s cs).natAbs : Int) e (rE ((vI s cs).natAbs : Int) e (b.tmod 200 + 1)) 0)) 802 := fR.mul fR (by omega)
    have bxV := te_in (e := ((rE ((vI s cs).natAbs : Int) e (b.tmod 200 + 1)) + (rE ((vI s cs).natAbs : Int) e (b.tmod 200 + 1)))) (a := -3000) (b := 2800) (c := 3602) fxV (by omega) (by omega) (by omega) (by omega) (by decide)
    have fxW : Fit ((qr ((vI s cs).natAbs : Int) e (rE ((vI s cs).natAbs : Int) e (b.tmod 200 + 1)) 1) * (qr ((vI s cs).natAbs : Int) e (rE ((vI s cs).natAbs : Int) e (b.tmod 200 + 1)) 1)) 802 := fU.mul fU (by omega)
    have bxW := te_in (e := ((rE ((vI s cs).natAbs : Int) e (b.tmod 200 + 1)) + (rE ((vI s cs).natAbs : Int) e (b.tmod 200 + 1)))) (a := -3000) (b := 2800) (c := 3602) fxW (by omega) (by omega) (by omega) (by omega) (by decide)
    have fxS : Fit (addM (qr ((vI s cs).natAbs : Int) e (rE ((vI s cs).natAbs : Int) e (b.tmod 200 + 1)) 1) (rE ((vI s cs).natAbs : Int) e (b.tmod 200 + 1)) (-(qr ((vI s cs).natAbs : Int) e (rE ((vI s cs).natAbs : Int) e (b.tmod 200 + 1)) 0)) (rE ((vI s cs).natAbs : Int) e (b.tmod 200 + 1))) 401 := fS
    have bxS := te_in (e := (min (rE ((vI s cs).natAbs : Int) e (b.tmod 200 + 1)) (rE ((vI s cs).natAbs : Int) e (b.tmod 200 + 1)))) (a := -1500) (b := 1400) (c := 1801) fxS (by omega) (by omega) (by omega) (by omega) (by decide)
    have hLH : (qm (vI s cs) e (vI t es) f (qE (vI s cs) e (vI t es) f (b.tmod 200 + 1)) 1) = (qm (vI s cs) e (vI t es) f (qE (vI s cs) e (vI t es) f (b.tmod 200 + 1)) 0) := hq0
    have r2b := r2
    rw [hq0] at r2b
    cbv
    repeat' (first | with_reducible refine And.intro ?_ ?_ | (with_reducible refine safe_lift hA ?_; kernel_rfl) | (intro hc_; (first | (with_reducible exfalso; clear hQ; subst hF hA; simp only [fnOf, find, std, reduceIte, Nat.reduceEqDiff, sp1, sp2, a1, a2, FnSpec.out, Shape.build, leafs, leafCells, tups, oneOf, List.cons_append, List.nil_append, List.length_cons, List.length_nil, s_QuotSides, s_known6, s_few6, s_dSign, s_kDiv, s_dMul, s_dCmp, s_oFits, s_dSame, s_dAbs, s_kSqrt, s_dSub, s_oUlp, dm_raw, dm_N0, dz, dx, dcn, dMof, tmI_idem, teI_idem, tmI_addL, teI_addL, tmI_addR, teI_addR, tmI_addN, teI_addN, tmI_mulL, teI_mulL, tmI_mulR, teI_mulR, tmI_neg, teI_neg, Int.natAbs_natCast, teI_scale, topI_nrm, cmpD_nrm, sg_tmI, sameI_N0, beq_dec, clamp30e, min_if, clamp30b, clamp30c, vI_N0, Int.natAbs_neg, sg_eq, and_self, and_true, true_and, gm_nrm, ge_nrm, stepI_nrm, tm_gm, te_gm, tmI_eq0, smD, cmpD_nrmL, cmpD_nrmR, cmpD_self, Int.reduceLT, Int.reduceLE, Int.reduceNeg, Int.reduceEq, reduceIte, Int.reduceBEq, sub_cmp, sg_beq, qm_nrmL, qr_nrm, rE_nrm, fits_nrm, tmI_zero, teI_zero, qm_zX, qr_z, cmpD_00, fits_0, wrap_0, addM_00, Int.zero_mul, Int.natAbs_zero, Int.natCast_zero, Int.mul_zero, Int.neg_zero, stepI_nrm, tmI_eq0, eq_self, Bool.not_eq_eq_eq_not, decide_eq_true_eq, decide_eq_false_iff_not, not_true_eq_false, not_false_eq_true, decide_true, decide_false, Bool.true_and, Bool.and_true, Bool.not_true, Bool.not_false, beq_self_eq_true, Bool.true_eq_false, Bool.false_eq_true, reduceCtorEq, s_few, hfx, hfy, hY0, hw1, hw2, r1, r2, tA1, tB1, r8, r9, r10, r11, r12, r13, r14, r15, hLH, r2b] at hc_; done) | (clear hc_; cbv))))
    all_goals subst hF hA
    all_goals (try simp only [fnOf, find, std, reduceIte, Nat.reduceEqDiff, sp1, sp2, a1, a2, FnSpec.out, Shape.build, leafs, leafCells, tups, oneOf, List.cons_append, List.nil_append, List.length_cons, List.length_nil, s_QuotSides, s_known6, s_few6, s_dSign, s_kDiv, s_dMul, s_dCmp, s_oFits, s_dSame, s_dAbs, s_kSqrt, s_dSub, s_oUlp, dm_raw, dm_N0, dz, dx, dcn, dMof, tmI_idem, teI_idem, tmI_addL, teI_addL, tmI_addR, teI_addR, tmI_addN, teI_addN, tmI_mulL, teI_mulL, tmI_mulR, teI_mulR, tmI_neg, teI_neg, Int.natAbs_natCast, teI_scale, topI_nrm, cmpD_nrm, sg_tmI, sameI_N0, beq_dec, clamp30e, min_if, clamp30b, clamp30c, vI_N0, Int.natAbs_neg, sg_eq, and_self, and_true, true_and, gm_nrm, ge_nrm, stepI_nrm, tm_gm, te_gm, tmI_eq0, smD, cmpD_nrmL, cmpD_nrmR, cmpD_self, Int.reduceLT, Int.reduceLE, Int.reduceNeg, Int.reduceEq, reduceIte, Int.reduceBEq, sub_cmp, sg_beq, qm_nrmL, qr_nrm, rE_nrm, fits_nrm, tmI_zero, teI_zero, qm_zX, qr_z, cmpD_00, fits_0, wrap_0, addM_00, Int.zero_mul, Int.natAbs_zero, Int.natCast_zero, Int.mul_zero, Int.neg_zero, stepI_nrm, tmI_eq0, s_few, hfx, hfy, hY0, hw1, hw2, r1, r2, tA1, tB1, r8, r9, r10, r11, r12, r13, r14, r15, hLH, r2b] at hQ ⊢)
    all_goals (obtain ⟨MM, hMM⟩ : ∃ MM : Int, MM = ((vI s cs).natAbs : Int) := ⟨_, rfl⟩)
    all_goals (simp only [← hMM] at *)
    all_goals (repeat' (first
      | with_reducible exact hQ
      | with_reducible exact Post.b hQ (beq_self_eq_true _).symm
      | with_reducible exact isi_int _ _
      | with_reducible exact fit_0
      | with_reducible exact fit_1
      | with_reducible assumption
      | with_reducible refine okI_mk ?_
      | with_reducible refine okW_mk ?_ ?_ ?_
      | with_reducible refine okE_mk ?_
      | with_reducible refine okD_mk ?_ ?_ ?_
      | (with_reducible refine canD_mk ?_ ?_ ?_ ?_ ?_; (focus simp only [tmI_idem, teI_idem, tmI_neg, teI_neg, tmI_abs, teI_abs, Int.natAbs_natCast]); (focus simp only [tmI_idem, teI_idem, tmI_neg, teI_neg, tmI_abs, teI_abs, Int.natAbs_natCast]))
      | (with_reducible refine okC_fit6 ?_; (repeat' (first | (with_reducible refine Fit.mono (by with_reducible assumption) ?_; omega) | with_reducible refine Fit.neg ?_ | with_reducible refine fit_abs ?_ | (with_reducible refine fit_mul4 ?_ ?_ ?_; (focus omega)) | with_reducible refine fit_tm ?_)))
      | (with_reducible refine ln_fit6 ?_ ?_; focus (repeat' (first | (with_reducible refine Fit.mono (by with_reducible assumption) ?_; omega) | with_reducible refine Fit.neg ?_ | with_reducible refine fit_abs ?_ | (with_reducible refine fit_mul4 ?_ ?_ ?_; (focus omega)) | with_reducible refine fit_tm ?_)))
      | (with_reducible refine near_mk ?_ ?_; (focus omega); (focus omega))
      | with_reducible exact Int.le_trans (by decide) bAM.1
      | with_reducible exact Int.le_trans bAM.2 (by decide)
      | with_reducible exact Int.le_trans (by decide) bxR.1
      | with_reducible exact Int.le_trans bxR.2 (by decide)
      | with_reducible exact Int.le_trans (by decide) bxU.1
      | with_reducible exact Int.le_trans bxU.2 (by decide)
      | with_reducible exact Int.le_trans (by decide) bxV.1
      | with_reducible exact Int.le_trans bxV.2 (by decide)
      | with_reducible exact Int.le_trans (by decide) bxW.1
      | with_reducible exact Int.le_trans bxW.2 (by decide)
      | with_reducible exact Int.le_trans (by decide) bxS.1
      | with_reducible exact Int.le_trans bxS.2 (by decide)
      | omega
      | ((repeat' (first | (with_reducible refine Fit.mono (by with_reducible assumption) ?_; omega) | with_reducible refine Fit.neg ?_ | with_reducible refine fit_abs ?_ | (with_reducible refine fit_mul4 ?_ ?_ ?_; (focus omega)) | with_reducible refine fit_tm ?_)); done)
      | with_reducible refine And.intro ?_ ?_))
    all_goals exact hQ
  · have hfx : (n ≤ 20 ∧ -2000 ≤ e ∧ e ≤ 2000) := h1
    have hfy : (m ≤ 20 ∧ -2000 ≤ f ∧ f ≤ 2000) := h2
    have hc : okC n cs := hw (by omega)
    have fX : Fit (vI s cs) 640 := (okC_fit hc s).mono (by omega)
    have gX : Fit (tmI (vI s cs)) 640 := fX.le (tmI_le _)
    have bX : -2000 ≤ teI (vI s cs) e ∧ teI (vI s cs) e ≤ 2640 := te_few fX h1.2.1 h1.2.2
    have hc2 : okC m es := hw2 (by omega)
    have fY : Fit (vI t es) 640 := (okC_fit hc2 t).mono (by omega)
    have gY : Fit (tmI (vI t es)) 640 := fY.le (tmI_le _)
    have bY : -2000 ≤ teI (vI t es) f ∧ teI (vI t es) f ≤ 2640 := te_few fY h2.2.1 h2.2.2
    have hY0 : (vI t es = 0) = False := eq_false hY
    have hw1 : IntKind.i64.wrap (b.tmod 200) = b.tmod 200 := wrap_in (by omega) (by omega)
    have hw2 : IntKind.i64.wrap (b.tmod 200 + 1) = b.tmod 200 + 1 := wrap_in (by omega) (by omega)
    have qA := qm_few (p := (b.tmod 200 + 1)) hY fX fY h1.2.1 h1.2.2 h2.2.1 h2.2.2 (by omega) (by omega) 0
    obtain ⟨fA, cA, dA, aA, bA, tA⟩ := qA
    have qB := qm_few (p := (b.tmod 200 + 1)) hY fX fY h1.2.1 h1.2.2 h2.2.1 h2.2.2 (by omega) (by omega) 1
    obtain ⟨fB, cB, dB, aB, bB, tB⟩ := qB
    have tA1 := tA
    have tB1 := tB
    have fxC : Fit ((qm (vI s cs) e (vI t es) f (qE (vI s cs) e (vI t es) f (b.tmod 200 + 1)) 0) * vI t es) 1041 := fA.mul fY (by omega)
    have bxC := te_in (e := ((qE (vI s cs) e (vI t es) f (b.tmod 200 + 1)) + f)) (a := -8000) (b := 8000) (c := 9041) fxC (by omega) (by omega) (by omega) (by omega) (by decide)
    have fxD : Fit ((qm (vI s cs) e (vI t es) f (qE (vI s cs) e (vI t es) f (b.tmod 200 + 1)) 1) * vI t es) 1041 := fB.mul fY (by omega)
    have bxD := te_in (e := ((qE (vI s cs) e (vI t es) f (b.tmod 200 + 1)) + f)) (a := -8000) (b := 8000) (c := 9041) fxD (by omega) (by omega) (by omega) (by omega) (by decide)
    obtain ⟨r1, r2, hcas⟩ := sides6 (X := vI s cs) (e := e) (f := f) (p := (b.tmod 200 + 1)) hY
    have hM : 0 < ((vI s cs).natAbs : Int) := by omega
    have fM := fit_abs fX
    have bAM := te_few fM h1.2.1 h1.2.2
    obtain ⟨s1, s2, s3, r8, s5, r9, r10, fR, fU, e1, e2, fS⟩ := qr_few (p := (b.tmod 200 + 1)) hM fM h1.2.1 h1.2.2 (by omega) (by omega)
    have r11 := eq_true s1
    have r12 := eq_true s2
    have r13 := eq_true s3
    have r14 := eq_false s5
    have r15 : (tmI ((vI s cs).natAbs : Int) < 0) = False := tm_neg (by omega)
    have fxR : Fit (qr ((vI s cs).natAbs : Int) e (rE ((vI s cs).natAbs : Int) e (b.tmod 200 + 1)) 0) 401 := fR
    have bxR := te_in (e := (rE ((vI s cs).natAbs : Int) e (b.tmod 200 + 1))) (a := -1500) (b := 1400) (c := 1801) fxR (by omega) (by omega) (by omega) (by omega) (by decide)
    have fxU : Fit (qr ((vI s cs).natAbs : Int) e (rE ((vI s cs).natAbs : Int) e (b.tmod 200 + 1)) 1) 401 := fU
    have bxU := te_in (e := (rE ((vI s cs).natAbs : Int) e (b.tmod 200 + 1))) (a := -1500) (b := 1400) (c := 1801) fxU (by omega) (by omega) (by omega) (by omega) (by decide)
    have fxV : Fit ((qr ((vI s cs).natAbs : Int) e (rE ((vI s cs).natAbs : Int) e (b.tmod 200 + 1)) 0) * (qr ((vI s cs).natAbs : Int) e (rE ((vI s cs).natAbs : Int) e (b.tmod 200 + 1)) 0)) 802 := fR.mul fR (by omega)
    have bxV := te_in (e := ((rE ((vI s cs).natAbs : Int) e (b.tmod 200 + 1)) + (rE ((vI s cs).natAbs : Int) e (b.tmod 200 + 1)))) (a := -3000) (b := 2800) (c := 3602) fxV (by omega) (by omega) (by omega) (by omega) (by decide)
    have fxW : Fit ((qr ((vI s cs).natAbs : Int) e (rE ((vI s cs).natAbs : Int) e (b.tmod 200 + 1)) 1) * (qr ((vI s cs).natAbs : Int) e (rE ((vI s cs).natAbs : Int) e (b.tmod 200 + 1)) 1)) 802 := fU.mul fU (by omega)
    have bxW := te_in (e := ((rE ((vI s cs).natAbs : Int) e (b.tmod 200 + 1)) + (rE ((vI s cs).natAbs : Int) e (b.tmod 200 + 1)))) (a := -3000) (b := 2800) (c := 3602) fxW (by omega) (by omega) (by omega) (by omega) (by decide)
    have fxS : Fit (addM (qr ((vI s cs).natAbs : Int) e (rE ((vI s cs).natAbs : Int) e (b.tmod 200 + 1)) 1) (rE ((vI s cs).natAbs : Int) e (b.tmod 200 + 1)) (-(qr ((vI s cs).natAbs : Int) e (rE ((vI s cs).natAbs : Int) e (b.tmod 200 + 1)) 0)) (rE ((vI s cs).natAbs : Int) e (b.tmod 200 + 1))) 401 := fS
    have bxS := te_in (e := (min (rE ((vI s cs).natAbs : Int) e (b.tmod 200 + 1)) (rE ((vI s cs).natAbs : Int) e (b.tmod 200 + 1)))) (a := -1500) (b := 1400) (c := 1801) fxS (by omega) (by omega) (by omega) (by omega) (by decide)
    obtain ⟨n1, n2, n3⟩ := hcas.resolve_left hq0
    have r5 := eq_false n1
    have r6 := eq_false n2
    have r7 := eq_false n3
    cbv
    repeat' (first | with_reducible refine And.intro ?_ ?_ | (with_reducible refine safe_lift hA ?_; kernel_rfl) | (intro hc_; (first | (with_reducible exfalso; clear hQ; subst hF hA; simp only [fnOf, find, std, reduceIte, Nat.reduceEqDiff, sp1, sp2, a1, a2, FnSpec.out, Shape.build, leafs, leafCells, tups, oneOf, List.cons_append, List.nil_append, List.length_cons, List.length_nil, s_QuotSides, s_known6, s_few6, s_dSign, s_kDiv, s_dMul, s_dCmp, s_oFits, s_dSame, s_dAbs, s_kSqrt, s_dSub, s_oUlp, dm_raw, dm_N0, dz, dx, dcn, dMof, tmI_idem, teI_idem, tmI_addL, teI_addL, tmI_addR, teI_addR, tmI_addN, teI_addN, tmI_mulL, teI_mulL, tmI_mulR, teI_mulR, tmI_neg, teI_neg, Int.natAbs_natCast, teI_scale, topI_nrm, cmpD_nrm, sg_tmI, sameI_N0, beq_dec, clamp30e, min_if, clamp30b, clamp30c, vI_N0, Int.natAbs_neg, sg_eq, and_self, and_true, true_and, gm_nrm, ge_nrm, stepI_nrm, tm_gm, te_gm, tmI_eq0, smD, cmpD_nrmL, cmpD_nrmR, cmpD_self, Int.reduceLT, Int.reduceLE, Int.reduceNeg, Int.reduceEq, reduceIte, Int.reduceBEq, sub_cmp, sg_beq, qm_nrmL, qr_nrm, rE_nrm, fits_nrm, tmI_zero, teI_zero, qm_zX, qr_z, cmpD_00, fits_0, wrap_0, addM_00, Int.zero_mul, Int.natAbs_zero, Int.natCast_zero, Int.mul_zero, Int.neg_zero, stepI_nrm, tmI_eq0, eq_self, Bool.not_eq_eq_eq_not, decide_eq_true_eq, decide_eq_false_iff_not, not_true_eq_false, not_false_eq_true, decide_true, decide_false, Bool.true_and, Bool.and_true, Bool.not_true, Bool.not_false, beq_self_eq_true, Bool.true_eq_false, Bool.false_eq_true, reduceCtorEq, s_few, hfx, hfy, hY0, hw1, hw2, r1, r2, tA1, tB1, r8, r9, r10, r11, r12, r13, r14, r15, r5, r6, r7] at hc_; done) | (clear hc_; cbv))))
    all_goals subst hF hA
    all_goals (try simp only [fnOf, find, std, reduceIte, Nat.reduceEqDiff, sp1, sp2, a1, a2, FnSpec.out, Shape.build, leafs, leafCells, tups, oneOf, List.cons_append, List.nil_append, List.length_cons, List.length_nil, s_QuotSides, s_known6, s_few6, s_dSign, s_kDiv, s_dMul, s_dCmp, s_oFits, s_dSame, s_dAbs, s_kSqrt, s_dSub, s_oUlp, dm_raw, dm_N0, dz, dx, dcn, dMof, tmI_idem, teI_idem, tmI_addL, teI_addL, tmI_addR, teI_addR, tmI_addN, teI_addN, tmI_mulL, teI_mulL, tmI_mulR, teI_mulR, tmI_neg, teI_neg, Int.natAbs_natCast, teI_scale, topI_nrm, cmpD_nrm, sg_tmI, sameI_N0, beq_dec, clamp30e, min_if, clamp30b, clamp30c, vI_N0, Int.natAbs_neg, sg_eq, and_self, and_true, true_and, gm_nrm, ge_nrm, stepI_nrm, tm_gm, te_gm, tmI_eq0, smD, cmpD_nrmL, cmpD_nrmR, cmpD_self, Int.reduceLT, Int.reduceLE, Int.reduceNeg, Int.reduceEq, reduceIte, Int.reduceBEq, sub_cmp, sg_beq, qm_nrmL, qr_nrm, rE_nrm, fits_nrm, tmI_zero, teI_zero, qm_zX, qr_z, cmpD_00, fits_0, wrap_0, addM_00, Int.zero_mul, Int.natAbs_zero, Int.natCast_zero, Int.mul_zero, Int.neg_zero, stepI_nrm, tmI_eq0, s_few, hfx, hfy, hY0, hw1, hw2, r1, r2, tA1, tB1, r8, r9, r10, r11, r12, r13, r14, r15, r5, r6, r7] at hQ ⊢)
    all_goals (obtain ⟨MM, hMM⟩ : ∃ MM : Int, MM = ((vI s cs).natAbs : Int) := ⟨_, rfl⟩)
    all_goals (simp only [← hMM] at *)
    all_goals (repeat' (first
      | with_reducible exact hQ
      | with_reducible exact Post.b hQ (beq_self_eq_true _).symm
      | with_reducible exact isi_int _ _
      | with_reducible exact fit_0
      | with_reducible exact fit_1
      | with_reducible assumption
      | with_reducible refine okI_mk ?_
      | with_reducible refine okW_mk ?_ ?_ ?_
      | with_reducible refine okE_mk ?_
      | with_reducible refine okD_mk ?_ ?_ ?_
      | (with_reducible refine canD_mk ?_ ?_ ?_ ?_ ?_; (focus simp only [tmI_idem, teI_idem, tmI_neg, teI_neg, tmI_abs, teI_abs, Int.natAbs_natCast]); (focus simp only [tmI_idem, teI_idem, tmI_neg, teI_neg, tmI_abs, teI_abs, Int.natAbs_natCast]))
      | (with_reducible refine okC_fit6 ?_; (repeat' (first | (with_reducible refine Fit.mono (by with_reducible assumption) ?_; omega) | with_reducible refine Fit.neg ?_ | with_reducible refine fit_abs ?_ | (with_reducible refine fit_mul4 ?_ ?_ ?_; (focus omega)) | with_reducible refine fit_tm ?_)))
      | (with_reducible refine ln_fit6 ?_ ?_; focus (repeat' (first | (with_reducible refine Fit.mono (by with_reducible assumption) ?_; omega) | with_reducible refine Fit.neg ?_ | with_reducible refine fit_abs ?_ | (with_reducible refine fit_mul4 ?_ ?_ ?_; (focus omega)) | with_reducible refine fit_tm ?_)))
      | (with_reducible refine near_mk ?_ ?_; (focus omega); (focus omega))
      | with_reducible exact Int.le_trans (by decide) bAM.1
      | with_reducible exact Int.le_trans bAM.2 (by decide)
      | with_reducible exact Int.le_trans (by decide) bxR.1
      | with_reducible exact Int.le_trans bxR.2 (by decide)
      | with_reducible exact Int.le_trans (by decide) bxU.1
      | with_reducible exact Int.le_trans bxU.2 (by decide)
      | with_reducible exact Int.le_trans (by decide) bxV.1
      | with_reducible exact Int.le_trans bxV.2 (by decide)
      | with_reducible exact Int.le_trans (by decide) bxW.1
      | with_reducible exact Int.le_trans bxW.2 (by decide)
      | with_reducible exact Int.le_trans (by decide) bxS.1
      | with_reducible exact Int.le_trans bxS.2 (by decide)
      | omega
      | ((repeat' (first | (with_reducible refine Fit.mono (by with_reducible assumption) ?_; omega) | with_reducible refine Fit.neg ?_ | with_reducible refine fit_abs ?_ | (with_reducible refine fit_mul4 ?_ ?_ ?_; (focus omega)) | with_reducible refine fit_tm ?_)); done)
      | with_reducible refine And.intro ?_ ?_))
    all_goals exact hQ
end Go.Proofs.YtbamplgleeofhaaDoor.Ev
