/- A law of dyads: DyadTops. -/
import Derived.Test.YtglmnhjkmdpefaaDoorEvh
namespace Go.Proofs.YtglmnhjkmdpefaaDoor.Ev
open Go Go.RowKit
set_option linter.unusedSimpArgs false
set_option linter.unusedVariables false
theorem sg_at0 : sg 0 = 0 := rfl
set_option maxRecDepth 100000 in
set_option maxHeartbeats 16000000 in
theorem good_DyadTops : Good Tryd.prog GWM N0 7 s_DyadTops := by
  refine goodM (tab := [(13, s_known4), (14, s_few), (22, s_dSign), (38, s_dTop), (34, s_dAbs), (30, s_dMul), (20, s_dOf), (24, s_dCmp), (36, s_dScale), (32, s_dNeg)]) (shs := [(13, .one .b), (14, .one .b), (22, .one (.i .i64)), (38, .one (.i .i64)), (34, .agg [.I, .i .i64]), (30, .agg [.I, .i .i64]), (20, .agg [.I, .i .i64]), (24, .one (.i .i64)), (36, .agg [.I, .i .i64]), (32, .agg [.I, .i .i64])]) rfl ⟨good_known4, (good_few.mono fun _ h => h.base), (good_dSign.mono fun _ h => h.base), (good_dTop.mono fun _ h => h.base), (good_dAbs.mono fun _ h => h.base), good_dMul, (good_dOf.mono fun _ h => h.base), (good_dCmp.mono fun _ h => h.base), (good_dScale.mono fun _ h => h.base), (good_dNeg.mono fun _ h => h.base), trivial⟩ Tryd.f7 (by kernel_rfl) (by kernel_rfl) (by kernel_rfl) (fun ds hp F A Q hF hA hQ => ⟨0, ?_⟩)
  obtain ⟨x, y, rfl, hx, hy⟩ := tops4_arg hp
  obtain ⟨s, n, cs, e, rfl, hw, hr1, hr2⟩ := okW_arg hx
  obtain ⟨t, m, es, f, rfl, hw2, hs1, hs2⟩ := okW_arg hy
  clear hp hx hy
  rcases five (a := n ≤ 20 ∧ -2000 ≤ e ∧ e ≤ 2000) (b := m ≤ 20 ∧ -2000 ≤ f ∧ f ≤ 2000) (c := vI s cs = 0) (d := vI t es = 0) with h1 | ⟨h1, h2⟩ | ⟨h1, h2, h3⟩ | ⟨h1, h2, h3, h4⟩ | ⟨h1, h2, h3, h4⟩
  skip
  · have hfx : ¬(n ≤ 20 ∧ -2000 ≤ e ∧ e ≤ 2000) := h1
    cbv
    repeat' (first | with_reducible refine And.intro ?_ ?_ | (refine safe_lift hA ?_; kernel_rfl) | (intro hc_; (first | (exfalso; clear hQ; subst hF hA; simp only [fnOf, find, std, reduceIte, Nat.reduceEqDiff, sp1, sp2, a1, a2, FnSpec.out, Shape.build, leafs, leafCells, tups, oneOf, List.cons_append, List.nil_append, List.length_cons, List.length_nil, s_DyadTops, s_known4, s_few, s_dSign, s_dTop, s_dAbs, s_dMul, s_dOf, s_dCmp, s_dScale, s_dNeg, dm_raw, dm_N0, dz, dx, dcn, dMof, tmI_idem, teI_idem, tmI_addL, teI_addL, tmI_addR, teI_addR, tmI_addN, teI_addN, tmI_mulL, teI_mulL, tmI_mulR, teI_mulR, tmI_neg, teI_neg, tmI_abs, teI_abs, Int.natAbs_natCast, teI_scale, topI_nrm, cmpD_nrm, cmpD_nrmL, cmpD_nrmR, sg_tmI, sameI_N0, sub_cmp, mul_addM, min_addl, min_addr, addM_shift, cmp_addsub, cmp_comm, cmpD_self, sg_abs0, sg_mulW, Int.add_neg_cancel_right, beq_dec, clamp30e, min_if, clamp30b, clamp30c, vI_N0, Int.natAbs_neg, k1, k1e, topI_neg, Int.zero_add, eq_self, Bool.not_eq_eq_eq_not, decide_eq_true_eq, decide_eq_false_iff_not, not_true_eq_false, not_false_eq_true, decide_true, decide_false, Bool.true_and, Bool.and_true, Bool.not_true, Bool.not_false, beq_self_eq_true, Bool.true_eq_false, Bool.false_eq_true, reduceCtorEq, hfx] at hc_; done) | (clear hc_; cbv))))
    all_goals subst hF hA
    all_goals (try simp only [fnOf, find, std, reduceIte, Nat.reduceEqDiff, sp1, sp2, a1, a2, FnSpec.out, Shape.build, leafs, leafCells, tups, oneOf, List.cons_append, List.nil_append, List.length_cons, List.length_nil, s_DyadTops, s_known4, s_few, s_dSign, s_dTop, s_dAbs, s_dMul, s_dOf, s_dCmp, s_dScale, s_dNeg, dm_raw, dm_N0, dz, dx, dcn, dMof, tmI_idem, teI_idem, tmI_addL, teI_addL, tmI_addR, teI_addR, tmI_addN, teI_addN, tmI_mulL, teI_mulL, tmI_mulR, teI_mulR, tmI_neg, teI_neg, tmI_abs, teI_abs, Int.natAbs_natCast, teI_scale, topI_nrm, cmpD_nrm, cmpD_nrmL, cmpD_nrmR, sg_tmI, sameI_N0, sub_cmp, mul_addM, min_addl, min_addr, addM_shift, cmp_addsub, cmp_comm, cmpD_self, sg_abs0, sg_mulW, Int.add_neg_cancel_right, beq_dec, clamp30e, min_if, clamp30b, clamp30c, vI_N0, Int.natAbs_neg, k1, k1e, topI_neg, Int.zero_add, hfx] at hQ ⊢)
    all_goals (repeat' (first
      | with_reducible exact hQ
      | with_reducible exact Post.b hQ (beq_self_eq_true _).symm
      | with_reducible exact isi_int _ _
      | with_reducible exact fit_0
      | with_reducible exact fit_1
      | with_reducible assumption
      | with_reducible refine okI_mk ?_
      | with_reducible refine okW_mk ?_ ?_ ?_
      | with_reducible refine okE_mk ?_
      | with_reducible refine okD_mk ?_ ?_ ?_
      | (with_reducible refine canD_mk ?_ ?_ ?_ ?_ ?_; (focus simp only [tmI_idem, teI_idem, tmI_neg, teI_neg, tmI_abs, teI_abs, Int.natAbs_natCast]); (focus simp only [tmI_idem, teI_idem, tmI_neg, teI_neg, tmI_abs, teI_abs, Int.natAbs_natCast]))
      | (with_reducible refine okC_fit6 ?_; (repeat' (first | (with_reducible refine Fit.mono (by with_reducible assumption) ?_; omega) | with_reducible refine Fit.neg ?_ | with_reducible refine fit_abs ?_ | (with_reducible refine fit_mul4 ?_ ?_ ?_; (focus omega)) | with_reducible refine fit_tm ?_)))
      | (with_reducible refine ln_fit6 ?_ ?_; focus (repeat' (first | (with_reducible refine Fit.mono (by with_reducible assumption) ?_; omega) | with_reducible refine Fit.neg ?_ | with_reducible refine fit_abs ?_ | (with_reducible refine fit_mul4 ?_ ?_ ?_; (focus omega)) | with_reducible refine fit_tm ?_)))
      | (with_reducible refine near_mk ?_ ?_; (focus omega); (focus omega))
      | omega
      | ((repeat' (first | (with_reducible refine Fit.mono (by with_reducible assumption) ?_; omega) | with_reducible refine Fit.neg ?_ | with_reducible refine fit_abs ?_ | (with_reducible refine fit_mul4 ?_ ?_ ?_; (focus omega)) | with_reducible refine fit_tm ?_)); done)
      | with_reducible refine And.intro ?_ ?_))
    all_goals exact hQ
  · have hfx : (n ≤ 20 ∧ -2000 ≤ e ∧ e ≤ 2000) := h1
    have hfy : ¬(m ≤ 20 ∧ -2000 ≤ f ∧ f ≤ 2000) := h2
    cbv
    repeat' (first | with_reducible refine And.intro ?_ ?_ | (refine safe_lift hA ?_; kernel_rfl) | (intro hc_; (first | (exfalso; clear hQ; subst hF hA; simp only [fnOf, find, std, reduceIte, Nat.reduceEqDiff, sp1, sp2, a1, a2, FnSpec.out, Shape.build, leafs, leafCells, tups, oneOf, List.cons_append, List.nil_append, List.length_cons, List.length_nil, s_DyadTops, s_known4, s_few, s_dSign, s_dTop, s_dAbs, s_dMul, s_dOf, s_dCmp, s_dScale, s_dNeg, dm_raw, dm_N0, dz, dx, dcn, dMof, tmI_idem, teI_idem, tmI_addL, teI_addL, tmI_addR, teI_addR, tmI_addN, teI_addN, tmI_mulL, teI_mulL, tmI_mulR, teI_mulR, tmI_neg, teI_neg, tmI_abs, teI_abs, Int.natAbs_natCast, teI_scale, topI_nrm, cmpD_nrm, cmpD_nrmL, cmpD_nrmR, sg_tmI, sameI_N0, sub_cmp, mul_addM, min_addl, min_addr, addM_shift, cmp_addsub, cmp_comm, cmpD_self, sg_abs0, sg_mulW, Int.add_neg_cancel_right, beq_dec, clamp30e, min_if, clamp30b, clamp30c, vI_N0, Int.natAbs_neg, k1, k1e, topI_neg, Int.zero_add, eq_self, Bool.not_eq_eq_eq_not, decide_eq_true_eq, decide_eq_false_iff_not, not_true_eq_false, not_false_eq_true, decide_true, decide_false, Bool.true_and, Bool.and_true, Bool.not_true, Bool.not_false, beq_self_eq_true, Bool.true_eq_false, Bool.false_eq_true, reduceCtorEq, hfx, hfy] at hc_; done) | (clear hc_; cbv))))
    all_goals subst hF hA
    all_goals (try simp only [fnOf, find, std, reduceIte, Nat.reduceEqDiff, sp1, sp2, a1, a2, FnSpec.out, Shape.build, leafs, leafCells, tups, oneOf, List.cons_append, List.nil_append, List.length_cons, List.length_nil, s_DyadTops, s_known4, s_few, s_dSign, s_dTop, s_dAbs, s_dMul, s_dOf, s_dCmp, s_dScale, s_dNeg, dm_raw, dm_N0, dz, dx, dcn, dMof, tmI_idem, teI_idem, tmI_addL, teI_addL, tmI_addR, teI_addR, tmI_addN, teI_addN, tmI_mulL, teI_mulL, tmI_mulR, teI_mulR, tmI_neg, teI_neg, tmI_abs, teI_abs, Int.natAbs_natCast, teI_scale, topI_nrm, cmpD_nrm, cmpD_nrmL, cmpD_nrmR, sg_tmI, sameI_N0, sub_cmp, mul_addM, min_addl, min_addr, addM_shift, cmp_addsub, cmp_comm, cmpD_self, sg_abs0, sg_mulW, Int.add_neg_cancel_right, beq_dec, clamp30e, min_if, clamp30b, clamp30c, vI_N0, Int.natAbs_neg, k1, k1e, topI_neg, Int.zero_add, hfx, hfy] at hQ ⊢)
    all_goals (repeat' (first
      | with_reducible exact hQ
      | with_reducible exact Post.b hQ (beq_self_eq_true _).symm
      | with_reducible exact isi_int _ _
      | with_reducible exact fit_0
      | with_reducible exact fit_1
      | with_reducible assumption
      | with_reducible refine okI_mk ?_
      | with_reducible refine okW_mk ?_ ?_ ?_
      | with_reducible refine okE_mk ?_
      | with_reducible refine okD_mk ?_ ?_ ?_
      | (with_reducible refine canD_mk ?_ ?_ ?_ ?_ ?_; (focus simp only [tmI_idem, teI_idem, tmI_neg, teI_neg, tmI_abs, teI_abs, Int.natAbs_natCast]); (focus simp only [tmI_idem, teI_idem, tmI_neg, teI_neg, tmI_abs, teI_abs, Int.natAbs_natCast]))
      | (with_reducible refine okC_fit6 ?_; (repeat' (first | (with_reducible refine Fit.mono (by with_reducible assumption) ?_; omega) | with_reducible refine Fit.neg ?_ | with_reducible refine fit_abs ?_ | (with_reducible refine fit_mul4 ?_ ?_ ?_; (focus omega)) | with_reducible refine fit_tm ?_)))
      | (with_reducible refine ln_fit6 ?_ ?_; focus (repeat' (first | (with_reducible refine Fit.mono (by with_reducible assumption) ?_; omega) | with_reducible refine Fit.neg ?_ | with_reducible refine fit_abs ?_ | (with_reducible refine fit_mul4 ?_ ?_ ?_; (focus omega)) | with_reducible refine fit_tm ?_)))
      | (with_reducible refine near_mk ?_ ?_; (focus omega); (focus omega))
      | omega
      | ((repeat' (first | (with_reducible refine Fit.mono (by with_reducible assumption) ?_; omega) | with_reducible refine Fit.neg ?_ | with_reducible refine fit_abs ?_ | (with_reducible refine fit_mul4 ?_ ?_ ?_; (focus omega)) | with_reducible refine fit_tm ?_)); done)
      | with_reducible refine And.intro ?_ ?_))
    all_goals exact hQ
  · have hfx : (n ≤ 20 ∧ -2000 ≤ e ∧ e ≤ 2000) := h1
    have hfy : (m ≤ 20 ∧ -2000 ≤ f ∧ f ≤ 2000) := h2
    have hc : okC n cs := hw (by omega)
    have fX : Fit (vI s cs) 640 := (okC_fit hc s).mono (by omega)
    have gX : Fit (tmI (vI s cs)) 640 := fX.le (tmI_le _)
    have bX : -2000 ≤ teI (vI s cs) e ∧ teI (vI s cs) e ≤ 2640 := te_few fX h1.2.1 h1.2.2
    have hc2 : okC m es := hw2 (by omega)
    have fY : Fit (vI t es) 640 := (okC_fit hc2 t).mono (by omega)
    have gY : Fit (tmI (vI t es)) 640 := fY.le (tmI_le _)
    have bY : -2000 ≤ teI (vI t es) f ∧ teI (vI t es) f ≤ 2640 := te_few fY h2.2.1 h2.2.2
    have hX0 := h3
    cbv
    repeat' (first | with_reducible refine And.intro ?_ ?_ | (refine safe_lift hA ?_; kernel_rfl) | (intro hc_; (first | (exfalso; clear hQ; subst hF hA; simp only [fnOf, find, std, reduceIte, Nat.reduceEqDiff, sp1, sp2, a1, a2, FnSpec.out, Shape.build, leafs, leafCells, tups, oneOf, List.cons_append, List.nil_append, List.length_cons, List.length_nil, s_DyadTops, s_known4, s_few, s_dSign, s_dTop, s_dAbs, s_dMul, s_dOf, s_dCmp, s_dScale, s_dNeg, dm_raw, dm_N0, dz, dx, dcn, dMof, tmI_idem, teI_idem, tmI_addL, teI_addL, tmI_addR, teI_addR, tmI_addN, teI_addN, tmI_mulL, teI_mulL, tmI_mulR, teI_mulR, tmI_neg, teI_neg, tmI_abs, teI_abs, Int.natAbs_natCast, teI_scale, topI_nrm, cmpD_nrm, cmpD_nrmL, cmpD_nrmR, sg_tmI, sameI_N0, sub_cmp, mul_addM, min_addl, min_addr, addM_shift, cmp_addsub, cmp_comm, cmpD_self, sg_abs0, sg_mulW, Int.add_neg_cancel_right, beq_dec, clamp30e, min_if, clamp30b, clamp30c, vI_N0, Int.natAbs_neg, k1, k1e, topI_neg, Int.zero_add, eq_self, Bool.not_eq_eq_eq_not, decide_eq_true_eq, decide_eq_false_iff_not, not_true_eq_false, not_false_eq_true, decide_true, decide_false, Bool.true_and, Bool.and_true, Bool.not_true, Bool.not_false, beq_self_eq_true, Bool.true_eq_false, Bool.false_eq_true, reduceCtorEq, hfx, hfy, sg_beq, sg_at0, hX0] at hc_; done) | (clear hc_; cbv))))
    all_goals subst hF hA
    all_goals (try simp only [fnOf, find, std, reduceIte, Nat.reduceEqDiff, sp1, sp2, a1, a2, FnSpec.out, Shape.build, leafs, leafCells, tups, oneOf, List.cons_append, List.nil_append, List.length_cons, List.length_nil, s_DyadTops, s_known4, s_few, s_dSign, s_dTop, s_dAbs, s_dMul, s_dOf, s_dCmp, s_dScale, s_dNeg, dm_raw, dm_N0, dz, dx, dcn, dMof, tmI_idem, teI_idem, tmI_addL, teI_addL, tmI_addR, teI_addR, tmI_addN, teI_addN, tmI_mulL, teI_mulL, tmI_mulR, teI_mulR, tmI_neg, teI_neg, tmI_abs, teI_abs, Int.natAbs_natCast, teI_scale, topI_nrm, cmpD_nrm, cmpD_nrmL, cmpD_nrmR, sg_tmI, sameI_N0, sub_cmp, mul_addM, min_addl, min_addr, addM_shift, cmp_addsub, cmp_comm, cmpD_self, sg_abs0, sg_mulW, Int.add_neg_cancel_right, beq_dec, clamp30e, min_if, clamp30b, clamp30c, vI_N0, Int.natAbs_neg, k1, k1e, topI_neg, Int.zero_add, hfx, hfy] at hQ ⊢)
    all_goals (repeat' (first
      | with_reducible exact hQ
      | with_reducible exact Post.b hQ (beq_self_eq_true _).symm
      | with_reducible exact isi_int _ _
      | with_reducible exact fit_0
      | with_reducible exact fit_1
      | with_reducible assumption
      | with_reducible refine okI_mk ?_
      | with_reducible refine okW_mk ?_ ?_ ?_
      | with_reducible refine okE_mk ?_
      | with_reducible refine okD_mk ?_ ?_ ?_
      | (with_reducible refine canD_mk ?_ ?_ ?_ ?_ ?_; (focus simp only [tmI_idem, teI_idem, tmI_neg, teI_neg, tmI_abs, teI_abs, Int.natAbs_natCast]); (focus simp only [tmI_idem, teI_idem, tmI_neg, teI_neg, tmI_abs, teI_abs, Int.natAbs_natCast]))
      | (with_reducible refine okC_fit6 ?_; (repeat' (first | (with_reducible refine Fit.mono (by with_reducible assumption) ?_; omega) | with_reducible refine Fit.neg ?_ | with_reducible refine fit_abs ?_ | (with_reducible refine fit_mul4 ?_ ?_ ?_; (focus omega)) | with_reducible refine fit_tm ?_)))
      | (with_reducible refine ln_fit6 ?_ ?_; focus (repeat' (first | (with_reducible refine Fit.mono (by with_reducible assumption) ?_; omega) | with_reducible refine Fit.neg ?_ | with_reducible refine fit_abs ?_ | (with_reducible refine fit_mul4 ?_ ?_ ?_; (focus omega)) | with_reducible refine fit_tm ?_)))
      | (with_reducible refine near_mk ?_ ?_; (focus omega); (focus omega))
      | omega
      | ((repeat' (first | (with_reducible refine Fit.mono (by with_reducible assumption) ?_; omega) | with_reducible refine Fit.neg ?_ | with_reducible refine fit_abs ?_ | (with_reducible refine fit_mul4 ?_ ?_ ?_; (focus omega)) | with_reducible refine fit_tm ?_)); done)
      | with_reducible refine And.intro ?_ ?_))
    all_goals exact hQ
  · have hfx : (n ≤ 20 ∧ -2000 ≤ e ∧ e ≤ 2000) := h1
    have hfy : (m ≤ 20 ∧ -2000 ≤ f ∧ f ≤ 2000) := h2
    have hc : okC n cs := hw (by omega)
    have fX : Fit (vI s cs) 640 := (okC_fit hc s).mono (by omega)
    have gX : Fit (tmI (vI s cs)) 640 := fX.le (tmI_le _)
    have bX : -2000 ≤ teI (vI s cs) e ∧ teI (vI s cs) e ≤ 2640 := te_few fX h1.2.1 h1.2.2
    have hc2 : okC m es := hw2 (by omega)
    have fY : Fit (vI t es) 640 := (okC_fit hc2 t).mono (by omega)
    have gY : Fit (tmI (vI t es)) 640 := fY.le (tmI_le _)
    have bY : -2000 ≤ teI (vI t es) f ∧ teI (vI t es) f ≤ 2640 := te_few fY h2.2.1 h2.2.2
    have hX0 := h3
    have hY0 := h4
    cbv
    repeat' (first | with_reducible refine And.intro ?_ ?_ | (refine safe_lift hA ?_; kernel_rfl) | (intro hc_; (first | (exfalso; clear hQ; subst hF hA; simp only [fnOf, find, std, reduceIte, Nat.reduceEqDiff, sp1, sp2, a1, a2, FnSpec.out, Shape.build, leafs, leafCells, tups, oneOf, List.cons_append, List.nil_append, List.length_cons, List.length_nil, s_DyadTops, s_known4, s_few, s_dSign, s_dTop, s_dAbs, s_dMul, s_dOf, s_dCmp, s_dScale, s_dNeg, dm_raw, dm_N0, dz, dx, dcn, dMof, tmI_idem, teI_idem, tmI_addL, teI_addL, tmI_addR, teI_addR, tmI_addN, teI_addN, tmI_mulL, teI_mulL, tmI_mulR, teI_mulR, tmI_neg, teI_neg, tmI_abs, teI_abs, Int.natAbs_natCast, teI_scale, topI_nrm, cmpD_nrm, cmpD_nrmL, cmpD_nrmR, sg_tmI, sameI_N0, sub_cmp, mul_addM, min_addl, min_addr, addM_shift, cmp_addsub, cmp_comm, cmpD_self, sg_abs0, sg_mulW, Int.add_neg_cancel_right, beq_dec, clamp30e, min_if, clamp30b, clamp30c, vI_N0, Int.natAbs_neg, k1, k1e, topI_neg, Int.zero_add, eq_self, Bool.not_eq_eq_eq_not, decide_eq_true_eq, decide_eq_false_iff_not, not_true_eq_false, not_false_eq_true, decide_true, decide_false, Bool.true_and, Bool.and_true, Bool.not_true, Bool.not_false, beq_self_eq_true, Bool.true_eq_false, Bool.false_eq_true, reduceCtorEq, hfx, hfy, sg_beq, sg_at0, hX0, hY0] at hc_; done) | (clear hc_; cbv))))
    all_goals subst hF hA
    all_goals (try simp only [fnOf, find, std, reduceIte, Nat.reduceEqDiff, sp1, sp2, a1, a2, FnSpec.out, Shape.build, leafs, leafCells, tups, oneOf, List.cons_append, List.nil_append, List.length_cons, List.length_nil, s_DyadTops, s_known4, s_few, s_dSign, s_dTop, s_dAbs, s_dMul, s_dOf, s_dCmp, s_dScale, s_dNeg, dm_raw, dm_N0, dz, dx, dcn, dMof, tmI_idem, teI_idem, tmI_addL, teI_addL, tmI_addR, teI_addR, tmI_addN, teI_addN, tmI_mulL, teI_mulL, tmI_mulR, teI_mulR, tmI_neg, teI_neg, tmI_abs, teI_abs, Int.natAbs_natCast, teI_scale, topI_nrm, cmpD_nrm, cmpD_nrmL, cmpD_nrmR, sg_tmI, sameI_N0, sub_cmp, mul_addM, min_addl, min_addr, addM_shift, cmp_addsub, cmp_comm, cmpD_self, sg_abs0, sg_mulW, Int.add_neg_cancel_right, beq_dec, clamp30e, min_if, clamp30b, clamp30c, vI_N0, Int.natAbs_neg, k1, k1e, topI_neg, Int.zero_add, hfx, hfy] at hQ ⊢)
    all_goals (repeat' (first
      | with_reducible exact hQ
      | with_reducible exact Post.b hQ (beq_self_eq_true _).symm
      | with_reducible exact isi_int _ _
      | with_reducible exact fit_0
      | with_reducible exact fit_1
      | with_reducible assumption
      | with_reducible refine okI_mk ?_
      | with_reducible refine okW_mk ?_ ?_ ?_
      | with_reducible refine okE_mk ?_
      | with_reducible refine okD_mk ?_ ?_ ?_
      | (with_reducible refine canD_mk ?_ ?_ ?_ ?_ ?_; (focus simp only [tmI_idem, teI_idem, tmI_neg, teI_neg, tmI_abs, teI_abs, Int.natAbs_natCast]); (focus simp only [tmI_idem, teI_idem, tmI_neg, teI_neg, tmI_abs, teI_abs, Int.natAbs_natCast]))
      | (with_reducible refine okC_fit6 ?_; (repeat' (first | (with_reducible refine Fit.mono (by with_reducible assumption) ?_; omega) | with_reducible refine Fit.neg ?_ | with_reducible refine fit_abs ?_ | (with_reducible refine fit_mul4 ?_ ?_ ?_; (focus omega)) | with_reducible refine fit_tm ?_)))
      | (with_reducible refine ln_fit6 ?_ ?_; focus (repeat' (first | (with_reducible refine Fit.mono (by with_reducible assumption) ?_; omega) | with_reducible refine Fit.neg ?_ | with_reducible refine fit_abs ?_ | (with_reducible refine fit_mul4 ?_ ?_ ?_; (focus omega)) | with_reducible refine fit_tm ?_)))
      | (with_reducible refine near_mk ?_ ?_; (focus omega); (focus omega))
      | omega
      | ((repeat' (first | (with_reducible refine Fit.mono (by with_reducible assumption) ?_; omega) | with_reducible refine Fit.neg ?_ | with_reducible refine fit_abs ?_ | (with_reducible refine fit_mul4 ?_ ?_ ?_; (focus omega)) | with_reducible refine fit_tm ?_)); done)
      | with_reducible refine And.intro ?_ ?_))
    all_goals exact hQ
  · rcases top_mul (e := e) (f := f) h3 h4 with h5 | h5
    · have hfx : (n ≤ 20 ∧ -2000 ≤ e ∧ e ≤ 2000) := h1
      have hfy : (m ≤ 20 ∧ -2000 ≤ f ∧ f ≤ 2000) := h2
      have hc : okC n cs := hw (by omega)
      have fX : Fit (vI s cs) 640 := (okC_fit hc s).mono (by omega)
      have gX : Fit (tmI (vI s cs)) 640 := fX.le (tmI_le _)
      have bX : -2000 ≤ teI (vI s cs) e ∧ teI (vI s cs) e ≤ 2640 := te_few fX h1.2.1 h1.2.2
      have hc2 : okC m es := hw2 (by omega)
      have fY : Fit (vI t es) 640 := (okC_fit hc2 t).mono (by omega)
      have gY : Fit (tmI (vI t es)) 640 := fY.le (tmI_le _)
      have bY : -2000 ≤ teI (vI t es) f ∧ teI (vI t es) f ≤ 2640 := te_few fY h2.2.1 h2.2.2
      have fP : Fit ((vI s cs) * (vI t es)) 1280 := (fX.mul fY (by omega))
      have gP : Fit (tmI ((vI s cs) * (vI t es))) 1280 := fP.le (tmI_le _)
      have bP := te_in (e := (e + f)) (a := -4000) (b := 4000) (c := 5280) fP (by omega) (by omega) (by omega) (by omega) (by decide)
      have hX0 := h3
      have hY0 := h4
      have hT := topI_in fX h1.2.1 h1.2.2
      have hU := topI_in fY h2.2.1 h2.2.2
      have hcl := top_le (e := e) hX0
      have hcr := top_lt (e := e) hX0
      have hm1 : min (max (topI (vI s cs) e) (-20000)) 20000 = (topI (vI s cs) e) := by omega
      have hw1 : IntKind.i64.wrap ((topI (vI s cs) e) + 1) = (topI (vI s cs) e) + 1 := wrap_in (by omega) (by omega)
      have hm2 : min (max ((topI (vI s cs) e) + 1) (-20000)) 20000 = (topI (vI s cs) e) + 1 := by omega
      have hP : IntKind.i64.wrap (IntKind.i64.wrap ((topI (vI s cs * vI t es) (e + f)) - (topI (vI s cs) e)) - (topI (vI t es) f)) = 0 := (by rw [wrap_in (z := (topI (vI s cs * vI t es) (e + f)) - (topI (vI s cs) e)) (by omega) (by omega), wrap_in (by omega) (by omega)]; omega)
      cbv
      repeat' (first | with_reducible refine And.intro ?_ ?_ | (refine safe_lift hA ?_; kernel_rfl) | (intro hc_; (first | (exfalso; clear hQ; subst hF hA; simp only [fnOf, find, std, reduceIte, Nat.reduceEqDiff, sp1, sp2, a1, a2, FnSpec.out, Shape.build, leafs, leafCells, tups, oneOf, List.cons_append, List.nil_append, List.length_cons, List.length_nil, s_DyadTops, s_known4, s_few, s_dSign, s_dTop, s_dAbs, s_dMul, s_dOf, s_dCmp, s_dScale, s_dNeg, dm_raw, dm_N0, dz, dx, dcn, dMof, tmI_idem, teI_idem, tmI_addL, teI_addL, tmI_addR, teI_addR, tmI_addN, teI_addN, tmI_mulL, teI_mulL, tmI_mulR, teI_mulR, tmI_neg, teI_neg, tmI_abs, teI_abs, Int.natAbs_natCast, teI_scale, topI_nrm, cmpD_nrm, cmpD_nrmL, cmpD_nrmR, sg_tmI, sameI_N0, sub_cmp, mul_addM, min_addl, min_addr, addM_shift, cmp_addsub, cmp_comm, cmpD_self, sg_abs0, sg_mulW, Int.add_neg_cancel_right, beq_dec, clamp30e, min_if, clamp30b, clamp30c, vI_N0, Int.natAbs_neg, k1, k1e, topI_neg, Int.zero_add, eq_self, Bool.not_eq_eq_eq_not, decide_eq_true_eq, decide_eq_false_iff_not, not_true_eq_false, not_false_eq_true, decide_true, decide_false, Bool.true_and, Bool.and_true, Bool.not_true, Bool.not_false, beq_self_eq_true, Bool.true_eq_false, Bool.false_eq_true, reduceCtorEq, hfx, hfy, sg_beq, hX0, hY0, hcl, hcr, hm1, hw1, hm2, hP] at hc_; done) | (clear hc_; cbv))))
      all_goals subst hF hA
      all_goals (try simp only [fnOf, find, std, reduceIte, Nat.reduceEqDiff, sp1, sp2, a1, a2, FnSpec.out, Shape.build, leafs, leafCells, tups, oneOf, List.cons_append, List.nil_append, List.length_cons, List.length_nil, s_DyadTops, s_known4, s_few, s_dSign, s_dTop, s_dAbs, s_dMul, s_dOf, s_dCmp, s_dScale, s_dNeg, dm_raw, dm_N0, dz, dx, dcn, dMof, tmI_idem, teI_idem, tmI_addL, teI_addL, tmI_addR, teI_addR, tmI_addN, teI_addN, tmI_mulL, teI_mulL, tmI_mulR, teI_mulR, tmI_neg, teI_neg, tmI_abs, teI_abs, Int.natAbs_natCast, teI_scale, topI_nrm, cmpD_nrm, cmpD_nrmL, cmpD_nrmR, sg_tmI, sameI_N0, sub_cmp, mul_addM, min_addl, min_addr, addM_shift, cmp_addsub, cmp_comm, cmpD_self, sg_abs0, sg_mulW, Int.add_neg_cancel_right, beq_dec, clamp30e, min_if, clamp30b, clamp30c, vI_N0, Int.natAbs_neg, k1, k1e, topI_neg, Int.zero_add, hfx, hfy, hm1, hw1, hm2, hP] at hQ ⊢)
      all_goals (repeat' (first
        | with_reducible exact hQ
        | with_reducible exact Post.b hQ (beq_self_eq_true _).symm
        | with_reducible exact isi_int _ _
        | with_reducible exact fit_0
        | with_reducible exact fit_1
        | with_reducible assumption
        | with_reducible refine okI_mk ?_
        | with_reducible refine okW_mk ?_ ?_ ?_
        | with_reducible refine okE_mk ?_
        | with_reducible refine okD_mk ?_ ?_ ?_
        | (with_reducible refine canD_mk ?_ ?_ ?_ ?_ ?_; (focus simp only [tmI_idem, teI_idem, tmI_neg, teI_neg, tmI_abs, teI_abs, Int.natAbs_natCast]); (focus simp only [tmI_idem, teI_idem, tmI_neg, teI_neg, tmI_abs, teI_abs, Int.natAbs_natCast]))
        | (with_reducible refine okC_fit6 ?_; (repeat' (first | (with_reducible refine Fit.mono (by with_reducible assumption) ?_; omega) | with_reducible refine Fit.neg ?_ | with_reducible refine fit_abs ?_ | (with_reducible refine fit_mul4 ?_ ?_ ?_; (focus omega)) | with_reducible refine fit_tm ?_)))
        | (with_reducible refine ln_fit6 ?_ ?_; focus (repeat' (first | (with_reducible refine Fit.mono (by with_reducible assumption) ?_; omega) | with_reducible refine Fit.neg ?_ | with_reducible refine fit_abs ?_ | (with_reducible refine fit_mul4 ?_ ?_ ?_; (focus omega)) | with_reducible refine fit_tm ?_)))
        | (with_reducible refine near_mk ?_ ?_; (focus omega); (focus omega))
        | omega
        | ((repeat' (first | (with_reducible refine Fit.mono (by with_reducible assumption) ?_; omega) | with_reducible refine Fit.neg ?_ | with_reducible refine fit_abs ?_ | (with_reducible refine fit_mul4 ?_ ?_ ?_; (focus omega)) | with_reducible refine fit_tm ?_)); done)
        | with_reducible refine And.intro ?_ ?_))
      all_goals exact hQ
    · have hfx : (n ≤ 20 ∧ -2000 ≤ e ∧ e ≤ 2000) := h1
      have hfy : (m ≤ 20 ∧ -2000 ≤ f ∧ f ≤ 2000) := h2
      have hc : okC n cs := hw (by omega)
      have fX : Fit (vI s cs) 640 := (okC_fit hc s).mono (by omega)
      have gX : Fit (tmI (vI s cs)) 640 := fX.le (tmI_le _)
      have bX : -2000 ≤ teI (vI s cs) e ∧ teI (vI s cs) e ≤ 2640 := te_few fX h1.2.1 h1.2.2
      have hc2 : okC m es := hw2 (by omega)
      have fY : Fit (vI t es) 640 := (okC_fit hc2 t).mono (by omega)
      have gY : Fit (tmI (vI t es)) 640 := fY.le (tmI_le _)
      have bY : -2000 ≤ teI (vI t es) f ∧ teI (vI t es) f ≤ 2640 := te_few fY h2.2.1 h2.2.2
      have fP : Fit ((vI s cs) * (vI t es)) 1280 := (fX.mul fY (by omega))
      have gP : Fit (tmI ((vI s cs) * (vI t es))) 1280 := fP.le (tmI_le _)
      have bP := te_in (e := (e + f)) (a := -4000) (b := 4000) (c := 5280) fP (by omega) (by omega) (by omega) (by omega) (by decide)
      have hX0 := h3
      have hY0 := h4
      have hT := topI_in fX h1.2.1 h1.2.2
      have hU := topI_in fY h2.2.1 h2.2.2
      have hcl := top_le (e := e) hX0
      have hcr := top_lt (e := e) hX0
      have hm1 : min (max (topI (vI s cs) e) (-20000)) 20000 = (topI (vI s cs) e) := by omega
      have hw1 : IntKind.i64.wrap ((topI (vI s cs) e) + 1) = (topI (vI s cs) e) + 1 := wrap_in (by omega) (by omega)
      have hm2 : min (max ((topI (vI s cs) e) + 1) (-20000)) 20000 = (topI (vI s cs) e) + 1 := by omega
      have hP : IntKind.i64.wrap (IntKind.i64.wrap ((topI (vI s cs * vI t es) (e + f)) - (topI (vI s cs) e)) - (topI (vI t es) f)) = 1 := (by rw [wrap_in (z := (topI (vI s cs * vI t es) (e + f)) - (topI (vI s cs) e)) (by omega) (by omega), wrap_in (by omega) (by omega)]; omega)
      cbv
      repeat' (first | with_reducible refine And.intro ?_ ?_ | (refine safe_lift hA ?_; kernel_rfl) | (intro hc_; (first | (exfalso; clear hQ; subst hF hA; simp only [fnOf, find, std, reduceIte, Nat.reduceEqDiff, sp1, sp2, a1, a2, FnSpec.out, Shape.build, leafs, leafCells, tups, oneOf, List.cons_append, List.nil_append, List.length_cons, List.length_nil, s_DyadTops, s_known4, s_few, s_dSign, s_dTop, s_dAbs, s_dMul, s_dOf, s_dCmp, s_dScale, s_dNeg, dm_raw, dm_N0, dz, dx, dcn, dMof, tmI_idem, teI_idem, tmI_addL, teI_addL, tmI_addR, teI_addR, tmI_addN, teI_addN, tmI_mulL, teI_mulL, tmI_mulR, teI_mulR, tmI_neg, teI_neg, tmI_abs, teI_abs, Int.natAbs_natCast, teI_scale, topI_nrm, cmpD_nrm, cmpD_nrmL, cmpD_nrmR, sg_tmI, sameI_N0, sub_cmp, mul_addM, min_addl, min_addr, addM_shift, cmp_addsub, cmp_comm, cmpD_self, sg_abs0, sg_mulW, Int.add_neg_cancel_right, beq_dec, clamp30e, min_if, clamp30b, clamp30c, vI_N0, Int.natAbs_neg, k1, k1e, topI_neg, Int.zero_add, eq_self, Bool.not_eq_eq_eq_not, decide_eq_true_eq, decide_eq_false_iff_not, not_true_eq_false, not_false_eq_true, decide_true, decide_false, Bool.true_and, Bool.and_true, Bool.not_true, Bool.not_false, beq_self_eq_true, Bool.true_eq_false, Bool.false_eq_true, reduceCtorEq, hfx, hfy, sg_beq, hX0, hY0, hcl, hcr, hm1, hw1, hm2, hP] at hc_; done) | (clear hc_; cbv))))
      all_goals subst hF hA
      all_goals (try simp only [fnOf, find, std, reduceIte, Nat.reduceEqDiff, sp1, sp2, a1, a2, FnSpec.out, Shape.build, leafs, leafCells, tups, oneOf, List.cons_append, List.nil_append, List.length_cons, List.length_nil, s_DyadTops, s_known4, s_few, s_dSign, s_dTop, s_dAbs, s_dMul, s_dOf, s_dCmp, s_dScale, s_dNeg, dm_raw, dm_N0, dz, dx, dcn, dMof, tmI_idem, teI_idem, tmI_addL, teI_addL, tmI_addR, teI_addR, tmI_addN, teI_addN, tmI_mulL, teI_mulL, tmI_mulR, teI_mulR, tmI_neg, teI_neg, tmI_abs, teI_abs, Int.natAbs_natCast, teI_scale, topI_nrm, cmpD_nrm, cmpD_nrmL, cmpD_nrmR, sg_tmI, sameI_N0, sub_cmp, mul_addM, min_addl, min_addr, addM_shift, cmp_addsub, cmp_comm, cmpD_self, sg_abs0, sg_mulW, Int.add_neg_cancel_right, beq_dec, clamp30e, min_if, clamp30b, clamp30c, vI_N0, Int.natAbs_neg, k1, k1e, topI_neg, Int.zero_add, hfx, hfy, hm1, hw1, hm2, hP] at hQ ⊢)
      all_goals (repeat' (first
        | with_reducible exact hQ
        | with_reducible exact Post.b hQ (beq_self_eq_true _).symm
        | with_reducible exact isi_int _ _
        | with_reducible exact fit_0
        | with_reducible exact fit_1
        | with_reducible assumption
        | with_reducible refine okI_mk ?_
        | with_reducible refine okW_mk ?_ ?_ ?_
        | with_reducible refine okE_mk ?_
        | with_reducible refine okD_mk ?_ ?_ ?_
        | (with_reducible refine canD_mk ?_ ?_ ?_ ?_ ?_; (focus simp only [tmI_idem, teI_idem, tmI_neg, teI_neg, tmI_abs, teI_abs, Int.natAbs_natCast]); (focus simp only [tmI_idem, teI_idem, tmI_neg, teI_neg, tmI_abs, teI_abs, Int.natAbs_natCast]))
        | (with_reducible refine okC_fit6 ?_; (repeat' (first | (with_reducible refine Fit.mono (by with_reducible assumption) ?_; omega) | with_reducible refine Fit.neg ?_ | with_reducible refine fit_abs ?_ | (with_reducible refine fit_mul4 ?_ ?_ ?_; (focus omega)) | with_reducible refine fit_tm ?_)))
        | (with_reducible refine ln_fit6 ?_ ?_; focus (repeat' (first | (with_reducible refine Fit.mono (by with_reducible assumption) ?_; omega) | with_reducible refine Fit.neg ?_ | with_reducible refine fit_abs ?_ | (with_reducible refine fit_mul4 ?_ ?_ ?_; (focus omega)) | with_reducible refine fit_tm ?_)))
        | (with_reducible refine near_mk ?_ ?_; (focus omega); (focus omega))
        | omega
        | ((repeat' (first | (with_reducible refine Fit.mono (by with_reducible assumption) ?_; omega) | with_reducible refine Fit.neg ?_ | with_reducible refine fit_abs ?_ | (with_reducible refine fit_mul4 ?_ ?_ ?_; (focus omega)) | with_reducible refine fit_tm ?_)); done)
        | with_reducible refine And.intro ?_ ?_))
      all_goals exact hQ
end Go.Proofs.YtglmnhjkmdpefaaDoor.Ev
