/- A law of quotients: QuotExact. -/
import Derived.Test.YtbamplgleeofhaaDoorX6
namespace Go.Proofs.YtbamplgleeofhaaDoor.Ev
open Go Go.RowKit
set_option linter.unusedSimpArgs false
set_option linter.unusedVariables false
set_option maxRecDepth 100000 in
set_option maxHeartbeats 16000000 in
theorem good_QuotExact : Good Tryd.prog (GWL [0, 1, 3]) N0 4 s_QuotExact := by
  refine goodL (l := [0, 1, 3]) (tab := [(7, s_known6), (8, s_few6), (9, s_dSign), (12, s_dMul), (10, s_kDiv), (16, s_kSqrt), (14, s_dSame), (15, s_dAbs)]) (shs := [(7, .one .b), (8, .one .b), (9, .one (.i .i64)), (12, .agg [.I, .i .i64]), (10, .tup [(true, [.I, .i .i64]), (false, [.i .i64])]), (16, .tup [(true, [.I, .i .i64]), (false, [.i .i64])]), (14, .one .b), (15, .agg [.I, .i .i64])]) rfl ⟨(good_known6.lift (by decide)), (good_few6.lift (by decide)), (good_dSign.lift (by decide)), good_dMul, (good_kDiv.lift (by decide)), (good_kSqrt.lift (by decide)), (good_dSame.lift (by decide)), (good_dAbs.lift (by decide)), trivial⟩ Tryd.f4 (by kernel_rfl) (by kernel_rfl) (by kernel_rfl) (fun ds hp F A Q hF hA hQ => ⟨0, ?_⟩)
  obtain ⟨x, y, rfl, hx, hy⟩ := exact6_arg hp
  obtain ⟨s, n, cs, e, rfl, hw, hr1, hr2⟩ := okW_arg hx
  obtain ⟨t, m, es, f, rfl, hw2, hs1, hs2⟩ := okW_arg hy
  clear hp hx hy
  rcases seven (a := n ≤ 6) (b := m ≤ 6) (c := n ≤ 20 ∧ -2000 ≤ e ∧ e ≤ 2000) (d := m ≤ 20 ∧ -2000 ≤ f ∧ f ≤ 2000) (y := vI t es = 0) (z := vI s cs = 0) with g1 | ⟨g1, g2⟩ | ⟨g1, g2, h1⟩ | ⟨g1, g2, h1, h2⟩ | ⟨g1, g2, h1, h2, hY⟩ | ⟨g1, g2, h1, h2, hY, hX⟩ | ⟨g1, g2, h1, h2, hY, hX⟩
  · have h6x : (6 < ((n : Nat) : Int)) = True := eq_true (by omega)
    cbv
    repeat' (first | with_reducible refine And.intro ?_ ?_ | (with_reducible refine safe_lift hA ?_; kernel_rfl) | (intro hc_; (first | (with_reducible exfalso; clear hQ; subst hF hA; simp only [fnOf, find, std, reduceIte, Nat.reduceEqDiff, sp1, sp2, a1, a2, FnSpec.out, Shape.build, leafs, leafCells, tups, oneOf, List.cons_append, List.nil_append, List.length_cons, List.length_nil, s_QuotExact, s_known6, s_few6, s_dSign, s_dMul, s_kDiv, s_kSqrt, s_dSame, s_dAbs, dm_raw, dm_N0, dz, dx, dcn, dMof, tmI_idem, teI_idem, tmI_addL, teI_addL, tmI_addR, teI_addR, tmI_addN, teI_addN, tmI_mulL, teI_mulL, tmI_mulR, teI_mulR, tmI_neg, teI_neg, Int.natAbs_natCast, teI_scale, topI_nrm, cmpD_nrm, sg_tmI, sameI_N0, beq_dec, clamp30e, min_if, clamp30b, clamp30c, vI_N0, Int.natAbs_neg, sg_eq, and_self, and_true, true_and, gm_nrm, ge_nrm, stepI_nrm, tm_gm, te_gm, tmI_eq0, smD, cmpD_nrmL, cmpD_nrmR, cmpD_self, Int.reduceLT, Int.reduceLE, Int.reduceNeg, Int.reduceEq, reduceIte, Int.reduceBEq, sub_cmp, sg_beq, qm_nrmL, qr_nrm, rE_nrm, fits_nrm, tmI_zero, teI_zero, qm_zX, qr_z, cmpD_00, Int.zero_mul, Int.natAbs_zero, Int.natCast_zero, Int.mul_zero, eq_self, Bool.not_eq_eq_eq_not, decide_eq_true_eq, decide_eq_false_iff_not, not_true_eq_false, not_false_eq_true, decide_true, decide_false, Bool.true_and, Bool.and_true, Bool.not_true, Bool.not_false, beq_self_eq_true, Bool.true_eq_false, Bool.false_eq_true, reduceCtorEq, s_few, h6x] at hc_; done) | (clear hc_; cbv))))
    all_goals subst hF hA
    all_goals (try simp only [fnOf, find, std, reduceIte, Nat.reduceEqDiff, sp1, sp2, a1, a2, FnSpec.out, Shape.build, leafs, leafCells, tups, oneOf, List.cons_append, List.nil_append, List.length_cons, List.length_nil, s_QuotExact, s_known6, s_few6, s_dSign, s_dMul, s_kDiv, s_kSqrt, s_dSame, s_dAbs, dm_raw, dm_N0, dz, dx, dcn, dMof, tmI_idem, teI_idem, tmI_addL, teI_addL, tmI_addR, teI_addR, tmI_addN, teI_addN, tmI_mulL, teI_mulL, tmI_mulR, teI_mulR, tmI_neg, teI_neg, Int.natAbs_natCast, teI_scale, topI_nrm, cmpD_nrm, sg_tmI, sameI_N0, beq_dec, clamp30e, min_if, clamp30b, clamp30c, vI_N0, Int.natAbs_neg, sg_eq, and_self, and_true, true_and, gm_nrm, ge_nrm, stepI_nrm, tm_gm, te_gm, tmI_eq0, smD, cmpD_nrmL, cmpD_nrmR, cmpD_self, Int.reduceLT, Int.reduceLE, Int.reduceNeg, Int.reduceEq, reduceIte, Int.reduceBEq, sub_cmp, sg_beq, qm_nrmL, qr_nrm, rE_nrm, fits_nrm, tmI_zero, teI_zero, qm_zX, qr_z, cmpD_00, Int.zero_mul, Int.natAbs_zero, Int.natCast_zero, Int.mul_zero, s_few, h6x] at hQ ⊢)
    all_goals (repeat' (first
      | with_reducible exact hQ
      | with_reducible exact Post.b hQ (beq_self_eq_true _).symm
      | with_reducible exact isi_int _ _
      | with_reducible exact fit_0
      | with_reducible exact fit_1
      | with_reducible assumption
      | with_reducible refine okI_mk ?_
      | with_reducible refine okW_mk ?_ ?_ ?_
      | with_reducible refine okE_mk ?_
      | with_reducible refine okD_mk ?_ ?_ ?_
      | (with_reducible refine canD_mk ?_ ?_ ?_ ?_ ?_; (focus simp only [tmI_idem, teI_idem, tmI_neg, teI_neg, tmI_abs, teI_abs, Int.natAbs_natCast]); (focus simp only [tmI_idem, teI_idem, tmI_neg, teI_neg, tmI_abs, teI_abs, Int.natAbs_natCast]))
      | (with_reducible refine okC_fit6 ?_; (repeat' (first | (with_reducible refine Fit.mono (by with_reducible assumption) ?_; omega) | with_reducible refine Fit.neg ?_ | with_reducible refine fit_abs ?_ | (with_reducible refine fit_mul4 ?_ ?_ ?_; (focus omega)) | with_reducible refine fit_tm ?_)))
      | (with_reducible refine ln_fit6 ?_ ?_; focus (repeat' (first | (with_reducible refine Fit.mono (by with_reducible assumption) ?_; omega) | with_reducible refine Fit.neg ?_ | with_reducible refine fit_abs ?_ | (with_reducible refine fit_mul4 ?_ ?_ ?_; (focus omega)) | with_reducible refine fit_tm ?_)))
      | (with_reducible refine near_mk ?_ ?_; (focus omega); (focus omega))
      | omega
      | ((repeat' (first | (with_reducible refine Fit.mono (by with_reducible assumption) ?_; omega) | with_reducible refine Fit.neg ?_ | with_reducible refine fit_abs ?_ | (with_reducible refine fit_mul4 ?_ ?_ ?_; (focus omega)) | with_reducible refine fit_tm ?_)); done)
      | with_reducible refine And.intro ?_ ?_))
    all_goals exact hQ
  · have h6x : (6 < ((n : Nat) : Int)) = False := eq_false (by omega)
    have h6y : (6 < ((m : Nat) : Int)) = True := eq_true (by omega)
    cbv
    repeat' (first | with_reducible refine And.intro ?_ ?_ | (with_reducible refine safe_lift hA ?_; kernel_rfl) | (intro hc_; (first | (with_reducible exfalso; clear hQ; subst hF hA; simp only [fnOf, find, std, reduceIte, Nat.reduceEqDiff, sp1, sp2, a1, a2, FnSpec.out, Shape.build, leafs, leafCells, tups, oneOf, List.cons_append, List.nil_append, List.length_cons, List.length_nil, s_QuotExact, s_known6, s_few6, s_dSign, s_dMul, s_kDiv, s_kSqrt, s_dSame, s_dAbs, dm_raw, dm_N0, dz, dx, dcn, dMof, tmI_idem, teI_idem, tmI_addL, teI_addL, tmI_addR, teI_addR, tmI_addN, teI_addN, tmI_mulL, teI_mulL, tmI_mulR, teI_mulR, tmI_neg, teI_neg, Int.natAbs_natCast, teI_scale, topI_nrm, cmpD_nrm, sg_tmI, sameI_N0, beq_dec, clamp30e, min_if, clamp30b, clamp30c, vI_N0, Int.natAbs_neg, sg_eq, and_self, and_true, true_and, gm_nrm, ge_nrm, stepI_nrm, tm_gm, te_gm, tmI_eq0, smD, cmpD_nrmL, cmpD_nrmR, cmpD_self, Int.reduceLT, Int.reduceLE, Int.reduceNeg, Int.reduceEq, reduceIte, Int.reduceBEq, sub_cmp, sg_beq, qm_nrmL, qr_nrm, rE_nrm, fits_nrm, tmI_zero, teI_zero, qm_zX, qr_z, cmpD_00, Int.zero_mul, Int.natAbs_zero, Int.natCast_zero, Int.mul_zero, eq_self, Bool.not_eq_eq_eq_not, decide_eq_true_eq, decide_eq_false_iff_not, not_true_eq_false, not_false_eq_true, decide_true, decide_false, Bool.true_and, Bool.and_true, Bool.not_true, Bool.not_false, beq_self_eq_true, Bool.true_eq_false, Bool.false_eq_true, reduceCtorEq, s_few, h6x, h6y] at hc_; done) | (clear hc_; cbv))))
    all_goals subst hF hA
    all_goals (try simp only [fnOf, find, std, reduceIte, Nat.reduceEqDiff, sp1, sp2, a1, a2, FnSpec.out, Shape.build, leafs, leafCells, tups, oneOf, List.cons_append, List.nil_append, List.length_cons, List.length_nil, s_QuotExact, s_known6, s_few6, s_dSign, s_dMul, s_kDiv, s_kSqrt, s_dSame, s_dAbs, dm_raw, dm_N0, dz, dx, dcn, dMof, tmI_idem, teI_idem, tmI_addL, teI_addL, tmI_addR, teI_addR, tmI_addN, teI_addN, tmI_mulL, teI_mulL, tmI_mulR, teI_mulR, tmI_neg, teI_neg, Int.natAbs_natCast, teI_scale, topI_nrm, cmpD_nrm, sg_tmI, sameI_N0, beq_dec, clamp30e, min_if, clamp30b, clamp30c, vI_N0, Int.natAbs_neg, sg_eq, and_self, and_true, true_and, gm_nrm, ge_nrm, stepI_nrm, tm_gm, te_gm, tmI_eq0, smD, cmpD_nrmL, cmpD_nrmR, cmpD_self, Int.reduceLT, Int.reduceLE, Int.reduceNeg, Int.reduceEq, reduceIte, Int.reduceBEq, sub_cmp, sg_beq, qm_nrmL, qr_nrm, rE_nrm, fits_nrm, tmI_zero, teI_zero, qm_zX, qr_z, cmpD_00, Int.zero_mul, Int.natAbs_zero, Int.natCast_zero, Int.mul_zero, s_few, h6x, h6y] at hQ ⊢)
    all_goals (repeat' (first
      | with_reducible exact hQ
      | with_reducible exact Post.b hQ (beq_self_eq_true _).symm
      | with_reducible exact isi_int _ _
      | with_reducible exact fit_0
      | with_reducible exact fit_1
      | with_reducible assumption
      | with_reducible refine okI_mk ?_
      | with_reducible refine okW_mk ?_ ?_ ?_
      | with_reducible refine okE_mk ?_
      | with_reducible refine okD_mk ?_ ?_ ?_
      | (with_reducible refine canD_mk ?_ ?_ ?_ ?_ ?_; (focus simp only [tmI_idem, teI_idem, tmI_neg, teI_neg, tmI_abs, teI_abs, Int.natAbs_natCast]); (focus simp only [tmI_idem, teI_idem, tmI_neg, teI_neg, tmI_abs, teI_abs, Int.natAbs_natCast]))
      | (with_reducible refine okC_fit6 ?_; (repeat' (first | (with_reducible refine Fit.mono (by with_reducible assumption) ?_; omega) | with_reducible refine Fit.neg ?_ | with_reducible refine fit_abs ?_ | (with_reducible refine fit_mul4 ?_ ?_ ?_; (focus omega)) | with_reducible refine fit_tm ?_)))
      | (with_reducible refine ln_fit6 ?_ ?_; focus (repeat' (first | (with_reducible refine Fit.mono (by with_reducible assumption) ?_; omega) | with_reducible refine Fit.neg ?_ | with_reducible refine fit_abs ?_ | (with_reducible refine fit_mul4 ?_ ?_ ?_; (focus omega)) | with_reducible refine fit_tm ?_)))
      | (with_reducible refine near_mk ?_ ?_; (focus omega); (focus omega))
      | omega
      | ((repeat' (first | (with_reducible refine Fit.mono (by with_reducible assumption) ?_; omega) | with_reducible refine Fit.neg ?_ | with_reducible refine fit_abs ?_ | (with_reducible refine fit_mul4 ?_ ?_ ?_; (focus omega)) | with_reducible refine fit_tm ?_)); done)
      | with_reducible refine And.intro ?_ ?_))
    all_goals exact hQ
  · have h6x : (6 < ((n : Nat) : Int)) = False := eq_false (by omega)
    have h6y : (6 < ((m : Nat) : Int)) = False := eq_false (by omega)
    have hfx : ¬(n ≤ 20 ∧ -2000 ≤ e ∧ e ≤ 2000) := h1
    cbv
    repeat' (first | with_reducible refine And.intro ?_ ?_ | (with_reducible refine safe_lift hA ?_; kernel_rfl) | (intro hc_; (first | (with_reducible exfalso; clear hQ; subst hF hA; simp only [fnOf, find, std, reduceIte, Nat.reduceEqDiff, sp1, sp2, a1, a2, FnSpec.out, Shape.build, leafs, leafCells, tups, oneOf, List.cons_append, List.nil_append, List.length_cons, List.length_nil, s_QuotExact, s_known6, s_few6, s_dSign, s_dMul, s_kDiv, s_kSqrt, s_dSame, s_dAbs, dm_raw, dm_N0, dz, dx, dcn, dMof, tmI_idem, teI_idem, tmI_addL, teI_addL, tmI_addR, teI_addR, tmI_addN, teI_addN, tmI_mulL, teI_mulL, tmI_mulR, teI_mulR, tmI_neg, teI_neg, Int.natAbs_natCast, teI_scale, topI_nrm, cmpD_nrm, sg_tmI, sameI_N0, beq_dec, clamp30e, min_if, clamp30b, clamp30c, vI_N0, Int.natAbs_neg, sg_eq, and_self, and_true, true_and, gm_nrm, ge_nrm, stepI_nrm, tm_gm, te_gm, tmI_eq0, smD, cmpD_nrmL, cmpD_nrmR, cmpD_self, Int.reduceLT, Int.reduceLE, Int.reduceNeg, Int.reduceEq, reduceIte, Int.reduceBEq, sub_cmp, sg_beq, qm_nrmL, qr_nrm, rE_nrm, fits_nrm, tmI_zero, teI_zero, qm_zX, qr_z, cmpD_00, Int.zero_mul, Int.natAbs_zero, Int.natCast_zero, Int.mul_zero, eq_self, Bool.not_eq_eq_eq_not, decide_eq_true_eq, decide_eq_false_iff_not, not_true_eq_false, not_false_eq_true, decide_true, decide_false, Bool.true_and, Bool.and_true, Bool.not_true, Bool.not_false, beq_self_eq_true, Bool.true_eq_false, Bool.false_eq_true, reduceCtorEq, s_few, h6x, h6y, hfx] at hc_; done) | (clear hc_; cbv))))
    all_goals subst hF hA
    all_goals (try simp only [fnOf, find, std, reduceIte, Nat.reduceEqDiff, sp1, sp2, a1, a2, FnSpec.out, Shape.build, leafs, leafCells, tups, oneOf, List.cons_append, List.nil_append, List.length_cons, List.length_nil, s_QuotExact, s_known6, s_few6, s_dSign, s_dMul, s_kDiv, s_kSqrt, s_dSame, s_dAbs, dm_raw, dm_N0, dz, dx, dcn, dMof, tmI_idem, teI_idem, tmI_addL, teI_addL, tmI_addR, teI_addR, tmI_addN, teI_addN, tmI_mulL, teI_mulL, tmI_mulR, teI_mulR, tmI_neg, teI_neg, Int.natAbs_natCast, teI_scale, topI_nrm, cmpD_nrm, sg_tmI, sameI_N0, beq_dec, clamp30e, min_if, clamp30b, clamp30c, vI_N0, Int.natAbs_neg, sg_eq, and_self, and_true, true_and, gm_nrm, ge_nrm, stepI_nrm, tm_gm, te_gm, tmI_eq0, smD, cmpD_nrmL, cmpD_nrmR, cmpD_self, Int.reduceLT, Int.reduceLE, Int.reduceNeg, Int.reduceEq, reduceIte, Int.reduceBEq, sub_cmp, sg_beq, qm_nrmL, qr_nrm, rE_nrm, fits_nrm, tmI_zero, teI_zero, qm_zX, qr_z, cmpD_00, Int.zero_mul, Int.natAbs_zero, Int.natCast_zero, Int.mul_zero, s_few, h6x, h6y, hfx] at hQ ⊢)
    all_goals (repeat' (first
      | with_reducible exact hQ
      | with_reducible exact Post.b hQ (beq_self_eq_true _).symm
      | with_reducible exact isi_int _ _
      | with_reducible exact fit_0
      | with_reducible exact fit_1
      | with_reducible assumption
      | with_reducible refine okI_mk ?_
      | with_reducible refine okW_mk ?_ ?_ ?_
      | with_reducible refine okE_mk ?_
      | with_reducible refine okD_mk ?_ ?_ ?_
      | (with_reducible refine canD_mk ?_ ?_ ?_ ?_ ?_; (focus simp only [tmI_idem, teI_idem, tmI_neg, teI_neg, tmI_abs, teI_abs, Int.natAbs_natCast]); (focus simp only [tmI_idem, teI_idem, tmI_neg, teI_neg, tmI_abs, teI_abs, Int.natAbs_natCast]))
      | (with_reducible refine okC_fit6 ?_; (repeat' (first | (with_reducible refine Fit.mono (by with_reducible assumption) ?_; omega) | with_reducible refine Fit.neg ?_ | with_reducible refine fit_abs ?_ | (with_reducible refine fit_mul4 ?_ ?_ ?_; (focus omega)) | with_reducible refine fit_tm ?_)))
      | (with_reducible refine ln_fit6 ?_ ?_; focus (repeat' (first | (with_reducible refine Fit.mono (by with_reducible assumption) ?_; omega) | with_reducible refine Fit.neg ?_ | with_reducible refine fit_abs ?_ | (with_reducible refine fit_mul4 ?_ ?_ ?_; (focus omega)) | with_reducible refine fit_tm ?_)))
      | (with_reducible refine near_mk ?_ ?_; (focus omega); (focus omega))
      | omega
      | ((repeat' (first | (with_reducible refine Fit.mono (by with_reducible assumption) ?_; omega) | with_reducible refine Fit.neg ?_ | with_reducible refine fit_abs ?_ | (with_reducible refine fit_mul4 ?_ ?_ ?_; (focus omega)) | with_reducible refine fit_tm ?_)); done)
      | with_reducible refine And.intro ?_ ?_))
    all_goals exact hQ
  · have h6x : (6 < ((n : Nat) : Int)) = False := eq_false (by omega)
    have h6y : (6 < ((m : Nat) : Int)) = False := eq_false (by omega)
    have hfx : (n ≤ 20 ∧ -2000 ≤ e ∧ e ≤ 2000) := h1
    have hfy : ¬(m ≤ 20 ∧ -2000 ≤ f ∧ f ≤ 2000) := h2
    cbv
    repeat' (first | with_reducible refine And.intro ?_ ?_ | (with_reducible refine safe_lift hA ?_; kernel_rfl) | (intro hc_; (first | (with_reducible exfalso; clear hQ; subst hF hA; simp only [fnOf, find, std, reduceIte, Nat.reduceEqDiff, sp1, sp2, a1, a2, FnSpec.out, Shape.build, leafs, leafCells, tups, oneOf, List.cons_append, List.nil_append, List.length_cons, List.length_nil, s_QuotExact, s_known6, s_few6, s_dSign, s_dMul, s_kDiv, s_kSqrt, s_dSame, s_dAbs, dm_raw, dm_N0, dz, dx, dcn, dMof, tmI_idem, teI_idem, tmI_addL, teI_addL, tmI_addR, teI_addR, tmI_addN, teI_addN, tmI_mulL, teI_mulL, tmI_mulR, teI_mulR, tmI_neg, teI_neg, Int.natAbs_natCast, teI_scale, topI_nrm, cmpD_nrm, sg_tmI, sameI_N0, beq_dec, clamp30e, min_if, clamp30b, clamp30c, vI_N0, Int.natAbs_neg, sg_eq, and_self, and_true, true_and, gm_nrm, ge_nrm, stepI_nrm, tm_gm, te_gm, tmI_eq0, smD, cmpD_nrmL, cmpD_nrmR, cmpD_self, Int.reduceLT, Int.reduceLE, Int.reduceNeg, Int.reduceEq, reduceIte, Int.reduceBEq, sub_cmp, sg_beq, qm_nrmL, qr_nrm, rE_nrm, fits_nrm, tmI_zero, teI_zero, qm_zX, qr_z, cmpD_00, Int.zero_mul, Int.natAbs_zero, Int.natCast_zero, Int.mul_zero, eq_self, Bool.not_eq_eq_eq_not, decide_eq_true_eq, decide_eq_false_iff_not, not_true_eq_false, not_false_eq_true, decide_true, decide_false, Bool.true_and, Bool.and_true, Bool.not_true, Bool.not_false, beq_self_eq_true, Bool.true_eq_false, Bool.false_eq_true, reduceCtorEq, s_few, h6x, h6y, hfx, hfy] at hc_; done) | (clear hc_; cbv))))
    all_goals subst hF hA
    all_goals (try simp only [fnOf, find, std, reduceIte, Nat.reduceEqDiff, sp1, sp2, a1, a2, FnSpec.out, Shape.build, leafs, leafCells, tups, oneOf, List.cons_append, List.nil_append, List.length_cons, List.length_nil, s_QuotExact, s_known6, s_few6, s_dSign, s_dMul, s_kDiv, s_kSqrt, s_dSame, s_dAbs, dm_raw, dm_N0, dz, dx, dcn, dMof, tmI_idem, teI_idem, tmI_addL, teI_addL, tmI_addR, teI_addR, tmI_addN, teI_addN, tmI_mulL, teI_mulL, tmI_mulR, teI_mulR, tmI_neg, teI_neg, Int.natAbs_natCast, teI_scale, topI_nrm, cmpD_nrm, sg_tmI, sameI_N0, beq_dec, clamp30e, min_if, clamp30b, clamp30c, vI_N0, Int.natAbs_neg, sg_eq, and_self, and_true, true_and, gm_nrm, ge_nrm, stepI_nrm, tm_gm, te_gm, tmI_eq0, smD, cmpD_nrmL, cmpD_nrmR, cmpD_self, Int.reduceLT, Int.reduceLE, Int.reduceNeg, Int.reduceEq, reduceIte, Int.reduceBEq, sub_cmp, sg_beq, qm_nrmL, qr_nrm, rE_nrm, fits_nrm, tmI_zero, teI_zero, qm_zX, qr_z, cmpD_00, Int.zero_mul, Int.natAbs_zero, Int.natCast_zero, Int.mul_zero, s_few, h6x, h6y, hfx, hfy] at hQ ⊢)
    all_goals (repeat' (first
      | with_reducible exact hQ
      | with_reducible exact Post.b hQ (beq_self_eq_true _).symm
      | with_reducible exact isi_int _ _
      | with_reducible exact fit_0
      | with_reducible exact fit_1
      | with_reducible assumption
      | with_reducible refine okI_mk ?_
      | with_reducible refine okW_mk ?_ ?_ ?_
      | with_reducible refine okE_mk ?_
      | with_reducible refine okD_mk ?_ ?_ ?_
      | (with_reducible refine canD_mk ?_ ?_ ?_ ?_ ?_; (focus simp only [tmI_idem, teI_idem, tmI_neg, teI_neg, tmI_abs, teI_abs, Int.natAbs_natCast]); (focus simp only [tmI_idem, teI_idem, tmI_neg, teI_neg, tmI_abs, teI_abs, Int.natAbs_natCast]))
      | (with_reducible refine okC_fit6 ?_; (repeat' (first | (with_reducible refine Fit.mono (by with_reducible assumption) ?_; omega) | with_reducible refine Fit.neg ?_ | with_reducible refine fit_abs ?_ | (with_reducible refine fit_mul4 ?_ ?_ ?_; (focus omega)) | with_reducible refine fit_tm ?_)))
      | (with_reducible refine ln_fit6 ?_ ?_; focus (repeat' (first | (with_reducible refine Fit.mono (by with_reducible assumption) ?_; omega) | with_reducible refine Fit.neg ?_ | with_reducible refine fit_abs ?_ | (with_reducible refine fit_mul4 ?_ ?_ ?_; (focus omega)) | with_reducible refine fit_tm ?_)))
      | (with_reducible refine near_mk ?_ ?_; (focus omega); (focus omega))
      | omega
      | ((repeat' (first | (with_reducible refine Fit.mono (by with_reducible assumption) ?_; omega) | with_reducible refine Fit.neg ?_ | with_reducible refine fit_abs ?_ | (with_reducible refine fit_mul4 ?_ ?_ ?_; (focus omega)) | with_reducible refine fit_tm ?_)); done)
      | with_reducible refine And.intro ?_ ?_))
    all_goals exact hQ
  · have h6x : (6 < ((n : Nat) : Int)) = False := eq_false (by omega)
    have h6y : (6 < ((m : Nat) : Int)) = False := eq_false (by omega)
    have hfx : (n ≤ 20 ∧ -2000 ≤ e ∧ e ≤ 2000) := h1
    have hfy : (m ≤ 20 ∧ -2000 ≤ f ∧ f ≤ 2000) := h2
    have hc : okC n cs := hw (by omega)
    have fX : Fit (vI s cs) 640 := (okC_fit hc s).mono (by omega)
    have gX : Fit (tmI (vI s cs)) 640 := fX.le (tmI_le _)
    have bX : -2000 ≤ teI (vI s cs) e ∧ teI (vI s cs) e ≤ 2640 := te_few fX h1.2.1 h1.2.2
    have hc2 : okC m es := hw2 (by omega)
    have fY : Fit (vI t es) 640 := (okC_fit hc2 t).mono (by omega)
    have gY : Fit (tmI (vI t es)) 640 := fY.le (tmI_le _)
    have bY : -2000 ≤ teI (vI t es) f ∧ teI (vI t es) f ≤ 2640 := te_few fY h2.2.1 h2.2.2
    have hY0 : (vI t es = 0) = True := eq_true hY
    cbv
    repeat' (first | with_reducible refine And.intro ?_ ?_ | (with_reducible refine safe_lift hA ?_; kernel_rfl) | (intro hc_; (first | (with_reducible exfalso; clear hQ; subst hF hA; simp only [fnOf, find, std, reduceIte, Nat.reduceEqDiff, sp1, sp2, a1, a2, FnSpec.out, Shape.build, leafs, leafCells, tups, oneOf, List.cons_append, List.nil_append, List.length_cons, List.length_nil, s_QuotExact, s_known6, s_few6, s_dSign, s_dMul, s_kDiv, s_kSqrt, s_dSame, s_dAbs, dm_raw, dm_N0, dz, dx, dcn, dMof, tmI_idem, teI_idem, tmI_addL, teI_addL, tmI_addR, teI_addR, tmI_addN, teI_addN, tmI_mulL, teI_mulL, tmI_mulR, teI_mulR, tmI_neg, teI_neg, Int.natAbs_natCast, teI_scale, topI_nrm, cmpD_nrm, sg_tmI, sameI_N0, beq_dec, clamp30e, min_if, clamp30b, clamp30c, vI_N0, Int.natAbs_neg, sg_eq, and_self, and_true, true_and, gm_nrm, ge_nrm, stepI_nrm, tm_gm, te_gm, tmI_eq0, smD, cmpD_nrmL, cmpD_nrmR, cmpD_self, Int.reduceLT, Int.reduceLE, Int.reduceNeg, Int.reduceEq, reduceIte, Int.reduceBEq, sub_cmp, sg_beq, qm_nrmL, qr_nrm, rE_nrm, fits_nrm, tmI_zero, teI_zero, qm_zX, qr_z, cmpD_00, Int.zero_mul, Int.natAbs_zero, Int.natCast_zero, Int.mul_zero, eq_self, Bool.not_eq_eq_eq_not, decide_eq_true_eq, decide_eq_false_iff_not, not_true_eq_false, not_false_eq_true, decide_true, decide_false, Bool.true_and, Bool.and_true, Bool.not_true, Bool.not_false, beq_self_eq_true, Bool.true_eq_false, Bool.false_eq_true, reduceCtorEq, s_few, h6x, h6y, hfx, hfy, hY0] at hc_; done) | (clear hc_; cbv))))
    all_goals subst hF hA
    all_goals (try simp only [fnOf, find, std, reduceIte, Nat.reduceEqDiff, sp1, sp2, a1, a2, FnSpec.out, Shape.build, leafs, leafCells, tups, oneOf, List.cons_append, List.nil_append, List.length_cons, List.length_nil, s_QuotExact, s_known6, s_few6, s_dSign, s_dMul, s_kDiv, s_kSqrt, s_dSame, s_dAbs, dm_raw, dm_N0, dz, dx, dcn, dMof, tmI_idem, teI_idem, tmI_addL, teI_addL, tmI_addR, teI_addR, tmI_addN, teI_addN, tmI_mulL, teI_mulL, tmI_mulR, teI_mulR, tmI_neg, teI_neg, Int.natAbs_natCast, teI_scale, topI_nrm, cmpD_nrm, sg_tmI, sameI_N0, beq_dec, clamp30e, min_if, clamp30b, clamp30c, vI_N0, Int.natAbs_neg, sg_eq, and_self, and_true, true_and, gm_nrm, ge_nrm, stepI_nrm, tm_gm, te_gm, tmI_eq0, smD, cmpD_nrmL, cmpD_nrmR, cmpD_self, Int.reduceLT, Int.reduceLE, Int.reduceNeg, Int.reduceEq, reduceIte, Int.reduceBEq, sub_cmp, sg_beq, qm_nrmL, qr_nrm, rE_nrm, fits_nrm, tmI_zero, teI_zero, qm_zX, qr_z, cmpD_00, Int.zero_mul, Int.natAbs_zero, Int.natCast_zero, Int.mul_zero, s_few, h6x, h6y, hfx, hfy, hY0] at hQ ⊢)
    all_goals (repeat' (first
      | with_reducible exact hQ
      | with_reducible exact Post.b hQ (beq_self_eq_true _).symm
      | with_reducible exact isi_int _ _
      | with_reducible exact fit_0
      | with_reducible exact fit_1
      | with_reducible assumption
      | with_reducible refine okI_mk ?_
      | with_reducible refine okW_mk ?_ ?_ ?_
      | with_reducible refine okE_mk ?_
      | with_reducible refine okD_mk ?_ ?_ ?_
      | (with_reducible refine canD_mk ?_ ?_ ?_ ?_ ?_; (focus simp only [tmI_idem, teI_idem, tmI_neg, teI_neg, tmI_abs, teI_abs, Int.natAbs_natCast]); (focus simp only [tmI_idem, teI_idem, tmI_neg, teI_neg, tmI_abs, teI_abs, Int.natAbs_natCast]))
      | (with_reducible refine okC_fit6 ?_; (repeat' (first | (with_reducible refine Fit.mono (by with_reducible assumption) ?_; omega) | with_reducible refine Fit.neg ?_ | with_reducible refine fit_abs ?_ | (with_reducible refine fit_mul4 ?_ ?_ ?_; (focus omega)) | with_reducible refine fit_tm ?_)))
      | (with_reducible refine ln_fit6 ?_ ?_; focus (repeat' (first | (with_reducible refine Fit.mono (by with_reducible assumption) ?_; omega) | with_reducible refine Fit.neg ?_ | with_reducible refine fit_abs ?_ | (with_reducible refine fit_mul4 ?_ ?_ ?_; (focus omega)) | with_reducible refine fit_tm ?_)))
      | (with_reducible refine near_mk ?_ ?_; (focus omega); (focus omega))
      | omega
      | ((repeat' (first | (with_reducible refine Fit.mono (by with_reducible assumption) ?_; omega) | with_reducible refine Fit.neg ?_ | with_reducible refine fit_abs ?_ | (with_reducible refine fit_mul4 ?_ ?_ ?_; (focus omega)) | with_reducible refine fit_tm ?_)); done)
      | with_reducible refine And.intro ?_ ?_))
    all_goals exact hQ
  · have h6x : (6 < ((n : Nat) : Int)) = False := eq_false (by omega)
    have h6y : (6 < ((m : Nat) : Int)) = False := eq_false (by omega)
    have hfx : (n ≤ 20 ∧ -2000 ≤ e ∧ e ≤ 2000) := h1
    have hfy : (m ≤ 20 ∧ -2000 ≤ f ∧ f ≤ 2000) := h2
    have hc : okC n cs := hw (by omega)
    have fX : Fit (vI s cs) 640 := (okC_fit hc s).mono (by omega)
    have gX : Fit (tmI (vI s cs)) 640 := fX.le (tmI_le _)
    have bX : -2000 ≤ teI (vI s cs) e ∧ teI (vI s cs) e ≤ 2640 := te_few fX h1.2.1 h1.2.2
    have hc2 : okC m es := hw2 (by omega)
    have fY : Fit (vI t es) 640 := (okC_fit hc2 t).mono (by omega)
    have gY : Fit (tmI (vI t es)) 640 := fY.le (tmI_le _)
    have bY : -2000 ≤ teI (vI t es) f ∧ teI (vI t es) f ≤ 2640 := te_few fY h2.2.1 h2.2.2
    have hY0 : (vI t es = 0) = False := eq_false hY
    cbv
    repeat' (first | with_reducible refine And.intro ?_ ?_ | (with_reducible refine safe_lift hA ?_; kernel_rfl) | (intro hc_; (first | (with_reducible exfalso; clear hQ; subst hF hA; simp only [fnOf, find, std, reduceIte, Nat.reduceEqDiff, sp1, sp2, a1, a2, FnSpec.out, Shape.build, leafs, leafCells, tups, oneOf, List.cons_append, List.nil_append, List.length_cons, List.length_nil, s_QuotExact, s_known6, s_few6, s_dSign, s_dMul, s_kDiv, s_kSqrt, s_dSame, s_dAbs, dm_raw, dm_N0, dz, dx, dcn, dMof, tmI_idem, teI_idem, tmI_addL, teI_addL, tmI_addR, teI_addR, tmI_addN, teI_addN, tmI_mulL, teI_mulL, tmI_mulR, teI_mulR, tmI_neg, teI_neg, Int.natAbs_natCast, teI_scale, topI_nrm, cmpD_nrm, sg_tmI, sameI_N0, beq_dec, clamp30e, min_if, clamp30b, clamp30c, vI_N0, Int.natAbs_neg, sg_eq, and_self, and_true, true_and, gm_nrm, ge_nrm, stepI_nrm, tm_gm, te_gm, tmI_eq0, smD, cmpD_nrmL, cmpD_nrmR, cmpD_self, Int.reduceLT, Int.reduceLE, Int.reduceNeg, Int.reduceEq, reduceIte, Int.reduceBEq, sub_cmp, sg_beq, qm_nrmL, qr_nrm, rE_nrm, fits_nrm, tmI_zero, teI_zero, qm_zX, qr_z, cmpD_00, Int.zero_mul, Int.natAbs_zero, Int.natCast_zero, Int.mul_zero, eq_self, Bool.not_eq_eq_eq_not, decide_eq_true_eq, decide_eq_false_iff_not, not_true_eq_false, not_false_eq_true, decide_true, decide_false, Bool.true_and, Bool.and_true, Bool.not_true, Bool.not_false, beq_self_eq_true, Bool.true_eq_false, Bool.false_eq_true, reduceCtorEq, s_few, h6x, h6y, hfx, hfy, hY0, hX] at hc_; done) | (clear hc_; cbv))))
    all_goals subst hF hA
    all_goals (try simp only [fnOf, find, std, reduceIte, Nat.reduceEqDiff, sp1, sp2, a1, a2, FnSpec.out, Shape.build, leafs, leafCells, tups, oneOf, List.cons_append, List.nil_append, List.length_cons, List.length_nil, s_QuotExact, s_known6, s_few6, s_dSign, s_dMul, s_kDiv, s_kSqrt, s_dSame, s_dAbs, dm_raw, dm_N0, dz, dx, dcn, dMof, tmI_idem, teI_idem, tmI_addL, teI_addL, tmI_addR, teI_addR, tmI_addN, teI_addN, tmI_mulL, teI_mulL, tmI_mulR, teI_mulR, tmI_neg, teI_neg, Int.natAbs_natCast, teI_scale, topI_nrm, cmpD_nrm, sg_tmI, sameI_N0, beq_dec, clamp30e, min_if, clamp30b, clamp30c, vI_N0, Int.natAbs_neg, sg_eq, and_self, and_true, true_and, gm_nrm, ge_nrm, stepI_nrm, tm_gm, te_gm, tmI_eq0, smD, cmpD_nrmL, cmpD_nrmR, cmpD_self, Int.reduceLT, Int.reduceLE, Int.reduceNeg, Int.reduceEq, reduceIte, Int.reduceBEq, sub_cmp, sg_beq, qm_nrmL, qr_nrm, rE_nrm, fits_nrm, tmI_zero, teI_zero, qm_zX, qr_z, cmpD_00, Int.zero_mul, Int.natAbs_zero, Int.natCast_zero, Int.mul_zero, s_few, h6x, h6y, hfx, hfy, hY0, hX] at hQ ⊢)
    all_goals (repeat' (first
      | with_reducible exact hQ
      | with_reducible exact Post.b hQ (beq_self_eq_true _).symm
      | with_reducible exact isi_int _ _
      | with_reducible exact fit_0
      | with_reducible exact fit_1
      | with_reducible assumption
      | with_reducible refine okI_mk ?_
      | with_reducible refine okW_mk ?_ ?_ ?_
      | with_reducible refine okE_mk ?_
      | with_reducible refine okD_mk ?_ ?_ ?_
      | (with_reducible refine canD_mk ?_ ?_ ?_ ?_ ?_; (focus simp only [tmI_idem, teI_idem, tmI_neg, teI_neg, tmI_abs, teI_abs, Int.natAbs_natCast]); (focus simp only [tmI_idem, teI_idem, tmI_neg, teI_neg, tmI_abs, teI_abs, Int.natAbs_natCast]))
      | (with_reducible refine okC_fit6 ?_; (repeat' (first | (with_reducible refine Fit.mono (by with_reducible assumption) ?_; omega) | with_reducible refine Fit.neg ?_ | with_reducible refine fit_abs ?_ | (with_reducible refine fit_mul4 ?_ ?_ ?_; (focus omega)) | with_reducible refine fit_tm ?_)))
      | (with_reducible refine ln_fit6 ?_ ?_; focus (repeat' (first | (with_reducible refine Fit.mono (by with_reducible assumption) ?_; omega) | with_reducible refine Fit.neg ?_ | with_reducible refine fit_abs ?_ | (with_reducible refine fit_mul4 ?_ ?_ ?_; (focus omega)) | with_reducible refine fit_tm ?_)))
      | (with_reducible refine near_mk ?_ ?_; (focus omega); (focus omega))
      | omega
      | ((repeat' (first | (with_reducible refine Fit.mono (by with_reducible assumption) ?_; omega) | with_reducible refine Fit.neg ?_ | with_reducible refine fit_abs ?_ | (with_reducible refine fit_mul4 ?_ ?_ ?_; (focus omega)) | with_reducible refine fit_tm ?_)); done)
      | with_reducible refine And.intro ?_ ?_))
    all_goals exact hQ
  · have h6x : (6 < ((n : Nat) : Int)) = False := eq_false (by omega)
    have h6y : (6 < ((m : Nat) : Int)) = False := eq_false (by omega)
    have hfx : (n ≤ 20 ∧ -2000 ≤ e ∧ e ≤ 2000) := h1
    have hfy : (m ≤ 20 ∧ -2000 ≤ f ∧ f ≤ 2000) := h2
    have hc : okC n cs := hw (by omega)
    have fX : Fit (vI s cs) 640 := (okC_fit hc s).mono (by omega)
    have gX : Fit (tmI (vI s cs)) 640 := fX.le (tmI_le _)
    have bX : -2000 ≤ teI (vI s cs) e ∧ teI (vI s cs) e ≤ 2640 := te_few fX h1.2.1 h1.2.2
    have hc2 : okC m es := hw2 (by omega)
    have fY : Fit (vI t es) 640 := (okC_fit hc2 t).mono (by omega)
    have gY : Fit (tmI (vI t es)) 640 := fY.le (tmI_le _)
    have bY : -2000 ≤ teI (vI t es) f ∧ teI (vI t es) f ≤ 2640 := te_few fY h2.2.1 h2.2.2
    have hY0 : (vI t es = 0) = False := eq_false hY
    have f6X : Fit (vI s cs) 192 := (okC_fit hc s).mono (by omega)
    have f6Y : Fit (vI t es) 192 := (okC_fit hc2 t).mono (by omega)
    have hmul : -4000 ≤ e + f ∧ e + f ≤ 4000 := by omega
    have fM : Fit (vI s cs * vI t es) 384 := f6X.mul f6Y (by omega)
    have bM := te_in (a := -4000) (b := 4000) (c := 4384) fM (e := e + f) (by omega) (by omega) (by omega) (by omega) (by decide)
    have fS : Fit (vI s cs * vI s cs) 384 := f6X.mul f6X (by omega)
    have bS := te_in (a := -4000) (b := 4000) (c := 4384) fS (e := e + e) (by omega) (by omega) (by omega) (by omega) (by decide)
    have bAX := te_few (fit_abs fX) h1.2.1 h1.2.2
    obtain ⟨E, hE⟩ : ∃ E, E = topI (vI s cs) e - 199 := ⟨_, rfl⟩
    obtain ⟨r0, r2, r1, r3, r5, qf, qg, hE1, hE2⟩ := exact6 hX hY f6X f6Y h1.2.1 h1.2.2 h2.2.1 h2.2.2 hE
    have bq := fun md => te_in (a := -2300) (b := 2000) (c := 2201) (qf md) (e := E) (by omega) (by omega) (by omega) (by omega) (by decide)
    have br := fun md => te_in (a := -2300) (b := 2000) (c := 2201) (qg md) (e := E) (by omega) (by omega) (by omega) (by omega) (by decide)
    have qf0 := qf 0
    have qf1 := qf 1
    have qg0 := qg 0
    have bq0 := bq 0
    have bq1 := bq 1
    have br0 := br 0
    have r6 : (tmI (vI s cs * vI s cs) < 0) = False := tm_neg (Int.le_of_lt (sq_pos hX))
    cbv
    repeat' (first | with_reducible refine And.intro ?_ ?_ | (with_reducible refine safe_lift hA ?_; kernel_rfl) | (intro hc_; (first | (with_reducible exfalso; clear hQ; subst hF hA; simp only [fnOf, find, std, reduceIte, Nat.reduceEqDiff, sp1, sp2, a1, a2, FnSpec.out, Shape.build, leafs, leafCells, tups, oneOf, List.cons_append, List.nil_append, List.length_cons, List.length_nil, s_QuotExact, s_known6, s_few6, s_dSign, s_dMul, s_kDiv, s_kSqrt, s_dSame, s_dAbs, dm_raw, dm_N0, dz, dx, dcn, dMof, tmI_idem, teI_idem, tmI_addL, teI_addL, tmI_addR, teI_addR, tmI_addN, teI_addN, tmI_mulL, teI_mulL, tmI_mulR, teI_mulR, tmI_neg, teI_neg, Int.natAbs_natCast, teI_scale, topI_nrm, cmpD_nrm, sg_tmI, sameI_N0, beq_dec, clamp30e, min_if, clamp30b, clamp30c, vI_N0, Int.natAbs_neg, sg_eq, and_self, and_true, true_and, gm_nrm, ge_nrm, stepI_nrm, tm_gm, te_gm, tmI_eq0, smD, cmpD_nrmL, cmpD_nrmR, cmpD_self, Int.reduceLT, Int.reduceLE, Int.reduceNeg, Int.reduceEq, reduceIte, Int.reduceBEq, sub_cmp, sg_beq, qm_nrmL, qr_nrm, rE_nrm, fits_nrm, tmI_zero, teI_zero, qm_zX, qr_z, cmpD_00, Int.zero_mul, Int.natAbs_zero, Int.natCast_zero, Int.mul_zero, eq_self, Bool.not_eq_eq_eq_not, decide_eq_true_eq, decide_eq_false_iff_not, not_true_eq_false, not_false_eq_true, decide_true, decide_false, Bool.true_and, Bool.and_true, Bool.not_true, Bool.not_false, beq_self_eq_true, Bool.true_eq_false, Bool.false_eq_true, reduceCtorEq, s_few, h6x, h6y, hfx, hfy, hY0, r0, r1, r2, r3, r5, r6] at hc_; done) | (clear hc_; cbv))))
    all_goals subst hF hA
    all_goals (try simp only [fnOf, find, std, reduceIte, Nat.reduceEqDiff, sp1, sp2, a1, a2, FnSpec.out, Shape.build, leafs, leafCells, tups, oneOf, List.cons_append, List.nil_append, List.length_cons, List.length_nil, s_QuotExact, s_known6, s_few6, s_dSign, s_dMul, s_kDiv, s_kSqrt, s_dSame, s_dAbs, dm_raw, dm_N0, dz, dx, dcn, dMof, tmI_idem, teI_idem, tmI_addL, teI_addL, tmI_addR, teI_addR, tmI_addN, teI_addN, tmI_mulL, teI_mulL, tmI_mulR, teI_mulR, tmI_neg, teI_neg, Int.natAbs_natCast, teI_scale, topI_nrm, cmpD_nrm, sg_tmI, sameI_N0, beq_dec, clamp30e, min_if, clamp30b, clamp30c, vI_N0, Int.natAbs_neg, sg_eq, and_self, and_true, true_and, gm_nrm, ge_nrm, stepI_nrm, tm_gm, te_gm, tmI_eq0, smD, cmpD_nrmL, cmpD_nrmR, cmpD_self, Int.reduceLT, Int.reduceLE, Int.reduceNeg, Int.reduceEq, reduceIte, Int.reduceBEq, sub_cmp, sg_beq, qm_nrmL, qr_nrm, rE_nrm, fits_nrm, tmI_zero, teI_zero, qm_zX, qr_z, cmpD_00, Int.zero_mul, Int.natAbs_zero, Int.natCast_zero, Int.mul_zero, s_few, h6x, h6y, hfx, hfy, hY0, r0, r1, r2, r3, r5, r6] at hQ ⊢)
    all_goals (repeat' (first
      | with_reducible exact hQ
      | with_reducible exact Post.b hQ (beq_self_eq_true _).symm
      | with_reducible exact isi_int _ _
      | with_reducible exact fit_0
      | with_reducible exact fit_1
      | with_reducible assumption
      | with_reducible refine okI_mk ?_
      | with_reducible refine okW_mk ?_ ?_ ?_
      | with_reducible refine okE_mk ?_
      | with_reducible refine okD_mk ?_ ?_ ?_
      | (with_reducible refine canD_mk ?_ ?_ ?_ ?_ ?_; (focus simp only [tmI_idem, teI_idem, tmI_neg, teI_neg, tmI_abs, teI_abs, Int.natAbs_natCast]); (focus simp only [tmI_idem, teI_idem, tmI_neg, teI_neg, tmI_abs, teI_abs, Int.natAbs_natCast]))
      | (with_reducible refine okC_fit6 ?_; (repeat' (first | (with_reducible refine Fit.mono (by with_reducible assumption) ?_; omega) | with_reducible refine Fit.neg ?_ | with_reducible refine fit_abs ?_ | (with_reducible refine fit_mul4 ?_ ?_ ?_; (focus omega)) | with_reducible refine fit_tm ?_)))
      | (with_reducible refine ln_fit6 ?_ ?_; focus (repeat' (first | (with_reducible refine Fit.mono (by with_reducible assumption) ?_; omega) | with_reducible refine Fit.neg ?_ | with_reducible refine fit_abs ?_ | (with_reducible refine fit_mul4 ?_ ?_ ?_; (focus omega)) | with_reducible refine fit_tm ?_)))
      | (with_reducible refine near_mk ?_ ?_; (focus omega); (focus omega))
      | exact Int.le_trans (by decide) bAX.1
      | exact Int.le_trans bAX.2 (by decide)
      | omega
      | ((repeat' (first | (with_reducible refine Fit.mono (by with_reducible assumption) ?_; omega) | with_reducible refine Fit.neg ?_ | with_reducible refine fit_abs ?_ | (with_reducible refine fit_mul4 ?_ ?_ ?_; (focus omega)) | with_reducible refine fit_tm ?_)); done)
      | with_reducible refine And.intro ?_ ?_))
    all_goals exact hQ
end Go.Proofs.YtbamplgleeofhaaDoor.Ev
