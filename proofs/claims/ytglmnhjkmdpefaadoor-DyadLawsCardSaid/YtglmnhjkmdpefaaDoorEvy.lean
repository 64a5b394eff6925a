/- A law of dyads: DyadLaws. -/
import Derived.Test.YtglmnhjkmdpefaaDoorEvh
namespace Go.Proofs.YtglmnhjkmdpefaaDoor.Ev
open Go Go.RowKit
set_option linter.unusedSimpArgs false
set_option linter.unusedVariables false
set_option maxRecDepth 100000 in
set_option maxHeartbeats 16000000 in
theorem good_DyadLaws : Good Tryd.prog GWM N0 5 s_DyadLaws := by
  refine goodM (tab := [(13, s_known4), (14, s_few), (30, s_dMul), (26, s_dAdd), (40, s_dSame), (28, s_dSub), (36, s_dScale), (22, s_dSign), (24, s_dCmp), (34, s_dAbs), (16, s_dIs)]) (shs := [(13, .one .b), (14, .one .b), (30, .agg [.I, .i .i64]), (26, .agg [.I, .i .i64]), (40, .one .b), (28, .agg [.I, .i .i64]), (36, .agg [.I, .i .i64]), (22, .one (.i .i64)), (24, .one (.i .i64)), (34, .agg [.I, .i .i64]), (16, .one .b)]) rfl ⟨good_known4, (good_few.mono fun _ h => h.base), good_dMul, (good_dAdd.mono fun _ h => h.base), (good_dSame.mono fun _ h => h.base), (good_dSub.mono fun _ h => h.base), (good_dScale.mono fun _ h => h.base), (good_dSign.mono fun _ h => h.base), (good_dCmp.mono fun _ h => h.base), (good_dAbs.mono fun _ h => h.base), (good_dIs.mono fun _ h => h.base), trivial⟩ Tryd.f5 (by kernel_rfl) (by kernel_rfl) (by kernel_rfl) (fun ds hp F A Q hF hA hQ => ⟨0, ?_⟩)
  obtain ⟨x, y, z, k, rfl, hx, hy, hz, hk1, hk2⟩ := laws4_arg hp
  obtain ⟨s, n, cs, e, rfl, hw, hr1, hr2⟩ := okW_arg hx
  obtain ⟨t, m, es, f, rfl, hw2, hs1, hs2⟩ := okW_arg hy
  obtain ⟨u, p, gs, g, rfl, hw3, ht1, ht2⟩ := okW_arg hz
  clear hp hx hy hz
  rcases four (a := n ≤ 20 ∧ -2000 ≤ e ∧ e ≤ 2000) (b := m ≤ 20 ∧ -2000 ≤ f ∧ f ≤ 2000) (c := p ≤ 20 ∧ -2000 ≤ g ∧ g ≤ 2000) with h1 | ⟨h1, h2⟩ | ⟨h1, h2, h3⟩ | ⟨h1, h2, h3⟩
  · have hfx : ¬(n ≤ 20 ∧ -2000 ≤ e ∧ e ≤ 2000) := h1
    cbv
    repeat' (first | with_reducible refine And.intro ?_ ?_ | (refine safe_lift hA ?_; kernel_rfl) | (intro hc_; (first | (exfalso; clear hQ; subst hF hA; simp only [fnOf, find, std, reduceIte, Nat.reduceEqDiff, sp1, sp2, a1, a2, FnSpec.out, Shape.build, leafs, leafCells, tups, oneOf, List.cons_append, List.nil_append, List.length_cons, List.length_nil, s_DyadLaws, s_known4, s_few, s_dMul, s_dAdd, s_dSame, s_dSub, s_dScale, s_dSign, s_dCmp, s_dAbs, s_dIs, dm_raw, dm_N0, dz, dx, dcn, dMof, tmI_idem, teI_idem, tmI_addL, teI_addL, tmI_addR, teI_addR, tmI_addN, teI_addN, tmI_mulL, teI_mulL, tmI_mulR, teI_mulR, tmI_neg, teI_neg, tmI_abs, teI_abs, Int.natAbs_natCast, teI_scale, topI_nrm, cmpD_nrm, cmpD_nrmL, cmpD_nrmR, sg_tmI, sameI_N0, sub_cmp, mul_addM, min_addl, min_addr, addM_shift, cmp_addsub, cmp_comm, cmpD_self, sg_abs0, sg_mulW, Int.add_neg_cancel_right, beq_dec, clamp30e, min_if, clamp30b, clamp30c, vI_N0, Int.natAbs_neg, eq_self, Bool.not_eq_eq_eq_not, decide_eq_true_eq, decide_eq_false_iff_not, not_true_eq_false, not_false_eq_true, decide_true, decide_false, Bool.true_and, Bool.and_true, Bool.not_true, Bool.not_false, beq_self_eq_true, Bool.true_eq_false, Bool.false_eq_true, reduceCtorEq, hfx] at hc_; done) | (clear hc_; cbv))))
    all_goals subst hF hA
    all_goals (try simp only [fnOf, find, std, reduceIte, Nat.reduceEqDiff, sp1, sp2, a1, a2, FnSpec.out, Shape.build, leafs, leafCells, tups, oneOf, List.cons_append, List.nil_append, List.length_cons, List.length_nil, s_DyadLaws, s_known4, s_few, s_dMul, s_dAdd, s_dSame, s_dSub, s_dScale, s_dSign, s_dCmp, s_dAbs, s_dIs, dm_raw, dm_N0, dz, dx, dcn, dMof, tmI_idem, teI_idem, tmI_addL, teI_addL, tmI_addR, teI_addR, tmI_addN, teI_addN, tmI_mulL, teI_mulL, tmI_mulR, teI_mulR, tmI_neg, teI_neg, tmI_abs, teI_abs, Int.natAbs_natCast, teI_scale, topI_nrm, cmpD_nrm, cmpD_nrmL, cmpD_nrmR, sg_tmI, sameI_N0, sub_cmp, mul_addM, min_addl, min_addr, addM_shift, cmp_addsub, cmp_comm, cmpD_self, sg_abs0, sg_mulW, Int.add_neg_cancel_right, beq_dec, clamp30e, min_if, clamp30b, clamp30c, vI_N0, Int.natAbs_neg, hfx] at hQ ⊢)
    all_goals (repeat' (first
      | with_reducible exact hQ
      | with_reducible exact Post.b hQ (beq_self_eq_true _).symm
      | with_reducible exact isi_int _ _
      | with_reducible exact fit_0
      | with_reducible exact fit_1
      | with_reducible assumption
      | with_reducible refine okI_mk ?_
      | with_reducible refine okW_mk ?_ ?_ ?_
      | with_reducible refine okE_mk ?_
      | with_reducible refine okD_mk ?_ ?_ ?_
      | (with_reducible refine canD_mk ?_ ?_ ?_ ?_ ?_; (focus simp only [tmI_idem, teI_idem, tmI_neg, teI_neg, tmI_abs, teI_abs, Int.natAbs_natCast]); (focus simp only [tmI_idem, teI_idem, tmI_neg, teI_neg, tmI_abs, teI_abs, Int.natAbs_natCast]))
      | (with_reducible refine okC_fit6 ?_; (repeat' (first | (with_reducible refine Fit.mono (by with_reducible assumption) ?_; omega) | with_reducible refine Fit.neg ?_ | with_reducible refine fit_abs ?_ | (with_reducible refine fit_mul4 ?_ ?_ ?_; (focus omega)) | with_reducible refine fit_tm ?_)))
      | (with_reducible refine ln_fit6 ?_ ?_; focus (repeat' (first | (with_reducible refine Fit.mono (by with_reducible assumption) ?_; omega) | with_reducible refine Fit.neg ?_ | with_reducible refine fit_abs ?_ | (with_reducible refine fit_mul4 ?_ ?_ ?_; (focus omega)) | with_reducible refine fit_tm ?_)))
      | (with_reducible refine near_mk ?_ ?_; (focus omega); (focus omega))
      | omega
      | ((repeat' (first | (with_reducible refine Fit.mono (by with_reducible assumption) ?_; omega) | with_reducible refine Fit.neg ?_ | with_reducible refine fit_abs ?_ | (with_reducible refine fit_mul4 ?_ ?_ ?_; (focus omega)) | with_reducible refine fit_tm ?_)); done)
      | with_reducible refine And.intro ?_ ?_))
    all_goals exact hQ
  · have hfx : (n ≤ 20 ∧ -2000 ≤ e ∧ e ≤ 2000) := h1
    have hfy : ¬(m ≤ 20 ∧ -2000 ≤ f ∧ f ≤ 2000) := h2
    cbv
    repeat' (first | with_reducible refine And.intro ?_ ?_ | (refine safe_lift hA ?_; kernel_rfl) | (intro hc_; (first | (exfalso; clear hQ; subst hF hA; simp only [fnOf, find, std, reduceIte, Nat.reduceEqDiff, sp1, sp2, a1, a2, FnSpec.out, Shape.build, leafs, leafCells, tups, oneOf, List.cons_append, List.nil_append, List.length_cons, List.length_nil, s_DyadLaws, s_known4, s_few, s_dMul, s_dAdd, s_dSame, s_dSub, s_dScale, s_dSign, s_dCmp, s_dAbs, s_dIs, dm_raw, dm_N0, dz, dx, dcn, dMof, tmI_idem, teI_idem, tmI_addL, teI_addL, tmI_addR, teI_addR, tmI_addN, teI_addN, tmI_mulL, teI_mulL, tmI_mulR, teI_mulR, tmI_neg, teI_neg, tmI_abs, teI_abs, Int.natAbs_natCast, teI_scale, topI_nrm, cmpD_nrm, cmpD_nrmL, cmpD_nrmR, sg_tmI, sameI_N0, sub_cmp, mul_addM, min_addl, min_addr, addM_shift, cmp_addsub, cmp_comm, cmpD_self, sg_abs0, sg_mulW, Int.add_neg_cancel_right, beq_dec, clamp30e, min_if, clamp30b, clamp30c, vI_N0, Int.natAbs_neg, eq_self, Bool.not_eq_eq_eq_not, decide_eq_true_eq, decide_eq_false_iff_not, not_true_eq_false, not_false_eq_true, decide_true, decide_false, Bool.true_and, Bool.and_true, Bool.not_true, Bool.not_false, beq_self_eq_true, Bool.true_eq_false, Bool.false_eq_true, reduceCtorEq, hfx, hfy] at hc_; done) | (clear hc_; cbv))))
    all_goals subst hF hA
    all_goals (try simp only [fnOf, find, std, reduceIte, Nat.reduceEqDiff, sp1, sp2, a1, a2, FnSpec.out, Shape.build, leafs, leafCells, tups, oneOf, List.cons_append, List.nil_append, List.length_cons, List.length_nil, s_DyadLaws, s_known4, s_few, s_dMul, s_dAdd, s_dSame, s_dSub, s_dScale, s_dSign, s_dCmp, s_dAbs, s_dIs, dm_raw, dm_N0, dz, dx, dcn, dMof, tmI_idem, teI_idem, tmI_addL, teI_addL, tmI_addR, teI_addR, tmI_addN, teI_addN, tmI_mulL, teI_mulL, tmI_mulR, teI_mulR, tmI_neg, teI_neg, tmI_abs, teI_abs, Int.natAbs_natCast, teI_scale, topI_nrm, cmpD_nrm, cmpD_nrmL, cmpD_nrmR, sg_tmI, sameI_N0, sub_cmp, mul_addM, min_addl, min_addr, addM_shift, cmp_addsub, cmp_comm, cmpD_self, sg_abs0, sg_mulW, Int.add_neg_cancel_right, beq_dec, clamp30e, min_if, clamp30b, clamp30c, vI_N0, Int.natAbs_neg, hfx, hfy] at hQ ⊢)
    all_goals (repeat' (first
      | with_reducible exact hQ
      | with_reducible exact Post.b hQ (beq_self_eq_true _).symm
      | with_reducible exact isi_int _ _
      | with_reducible exact fit_0
      | with_reducible exact fit_1
      | with_reducible assumption
      | with_reducible refine okI_mk ?_
      | with_reducible refine okW_mk ?_ ?_ ?_
      | with_reducible refine okE_mk ?_
      | with_reducible refine okD_mk ?_ ?_ ?_
      | (with_reducible refine canD_mk ?_ ?_ ?_ ?_ ?_; (focus simp only [tmI_idem, teI_idem, tmI_neg, teI_neg, tmI_abs, teI_abs, Int.natAbs_natCast]); (focus simp only [tmI_idem, teI_idem, tmI_neg, teI_neg, tmI_abs, teI_abs, Int.natAbs_natCast]))
      | (with_reducible refine okC_fit6 ?_; (repeat' (first | (with_reducible refine Fit.mono (by with_reducible assumption) ?_; omega) | with_reducible refine Fit.neg ?_ | with_reducible refine fit_abs ?_ | (with_reducible refine fit_mul4 ?_ ?_ ?_; (focus omega)) | with_reducible refine fit_tm ?_)))
      | (with_reducible refine ln_fit6 ?_ ?_; focus (repeat' (first | (with_reducible refine Fit.mono (by with_reducible assumption) ?_; omega) | with_reducible refine Fit.neg ?_ | with_reducible refine fit_abs ?_ | (with_reducible refine fit_mul4 ?_ ?_ ?_; (focus omega)) | with_reducible refine fit_tm ?_)))
      | (with_reducible refine near_mk ?_ ?_; (focus omega); (focus omega))
      | omega
      | ((repeat' (first | (with_reducible refine Fit.mono (by with_reducible assumption) ?_; omega) | with_reducible refine Fit.neg ?_ | with_reducible refine fit_abs ?_ | (with_reducible refine fit_mul4 ?_ ?_ ?_; (focus omega)) | with_reducible refine fit_tm ?_)); done)
      | with_reducible refine And.intro ?_ ?_))
    all_goals exact hQ
  · have hfx : (n ≤ 20 ∧ -2000 ≤ e ∧ e ≤ 2000) := h1
    have hfy : (m ≤ 20 ∧ -2000 ≤ f ∧ f ≤ 2000) := h2
    have hfz : ¬(p ≤ 20 ∧ -2000 ≤ g ∧ g ≤ 2000) := h3
    cbv
    repeat' (first | with_reducible refine And.intro ?_ ?_ | (refine safe_lift hA ?_; kernel_rfl) | (intro hc_; (first | (exfalso; clear hQ; subst hF hA; simp only [fnOf, find, std, reduceIte, Nat.reduceEqDiff, sp1, sp2, a1, a2, FnSpec.out, Shape.build, leafs, leafCells, tups, oneOf, List.cons_append, List.nil_append, List.length_cons, List.length_nil, s_DyadLaws, s_known4, s_few, s_dMul, s_dAdd, s_dSame, s_dSub, s_dScale, s_dSign, s_dCmp, s_dAbs, s_dIs, dm_raw, dm_N0, dz, dx, dcn, dMof, tmI_idem, teI_idem, tmI_addL, teI_addL, tmI_addR, teI_addR, tmI_addN, teI_addN, tmI_mulL, teI_mulL, tmI_mulR, teI_mulR, tmI_neg, teI_neg, tmI_abs, teI_abs, Int.natAbs_natCast, teI_scale, topI_nrm, cmpD_nrm, cmpD_nrmL, cmpD_nrmR, sg_tmI, sameI_N0, sub_cmp, mul_addM, min_addl, min_addr, addM_shift, cmp_addsub, cmp_comm, cmpD_self, sg_abs0, sg_mulW, Int.add_neg_cancel_right, beq_dec, clamp30e, min_if, clamp30b, clamp30c, vI_N0, Int.natAbs_neg, eq_self, Bool.not_eq_eq_eq_not, decide_eq_true_eq, decide_eq_false_iff_not, not_true_eq_false, not_false_eq_true, decide_true, decide_false, Bool.true_and, Bool.and_true, Bool.not_true, Bool.not_false, beq_self_eq_true, Bool.true_eq_false, Bool.false_eq_true, reduceCtorEq, hfx, hfy, hfz] at hc_; done) | (clear hc_; cbv))))
    all_goals subst hF hA
    all_goals (try simp only [fnOf, find, std, reduceIte, Nat.reduceEqDiff, sp1, sp2, a1, a2, FnSpec.out, Shape.build, leafs, leafCells, tups, oneOf, List.cons_append, List.nil_append, List.length_cons, List.length_nil, s_DyadLaws, s_known4, s_few, s_dMul, s_dAdd, s_dSame, s_dSub, s_dScale, s_dSign, s_dCmp, s_dAbs, s_dIs, dm_raw, dm_N0, dz, dx, dcn, dMof, tmI_idem, teI_idem, tmI_addL, teI_addL, tmI_addR, teI_addR, tmI_addN, teI_addN, tmI_mulL, teI_mulL, tmI_mulR, teI_mulR, tmI_neg, teI_neg, tmI_abs, teI_abs, Int.natAbs_natCast, teI_scale, topI_nrm, cmpD_nrm, cmpD_nrmL, cmpD_nrmR, sg_tmI, sameI_N0, sub_cmp, mul_addM, min_addl, min_addr, addM_shift, cmp_addsub, cmp_comm, cmpD_self, sg_abs0, sg_mulW, Int.add_neg_cancel_right, beq_dec, clamp30e, min_if, clamp30b, clamp30c, vI_N0, Int.natAbs_neg, hfx, hfy, hfz] at hQ ⊢)
    all_goals (repeat' (first
      | with_reducible exact hQ
      | with_reducible exact Post.b hQ (beq_self_eq_true _).symm
      | with_reducible exact isi_int _ _
      | with_reducible exact fit_0
      | with_reducible exact fit_1
      | with_reducible assumption
      | with_reducible refine okI_mk ?_
      | with_reducible refine okW_mk ?_ ?_ ?_
      | with_reducible refine okE_mk ?_
      | with_reducible refine okD_mk ?_ ?_ ?_
      | (with_reducible refine canD_mk ?_ ?_ ?_ ?_ ?_; (focus simp only [tmI_idem, teI_idem, tmI_neg, teI_neg, tmI_abs, teI_abs, Int.natAbs_natCast]); (focus simp only [tmI_idem, teI_idem, tmI_neg, teI_neg, tmI_abs, teI_abs, Int.natAbs_natCast]))
      | (with_reducible refine okC_fit6 ?_; (repeat' (first | (with_reducible refine Fit.mono (by with_reducible assumption) ?_; omega) | with_reducible refine Fit.neg ?_ | with_reducible refine fit_abs ?_ | (with_reducible refine fit_mul4 ?_ ?_ ?_; (focus omega)) | with_reducible refine fit_tm ?_)))
      | (with_reducible refine ln_fit6 ?_ ?_; focus (repeat' (first | (with_reducible refine Fit.mono (by with_reducible assumption) ?_; omega) | with_reducible refine Fit.neg ?_ | with_reducible refine fit_abs ?_ | (with_reducible refine fit_mul4 ?_ ?_ ?_; (focus omega)) | with_reducible refine fit_tm ?_)))
      | (with_reducible refine near_mk ?_ ?_; (focus omega); (focus omega))
      | omega
      | ((repeat' (first | (with_reducible refine Fit.mono (by with_reducible assumption) ?_; omega) | with_reducible refine Fit.neg ?_ | with_reducible refine fit_abs ?_ | (with_reducible refine fit_mul4 ?_ ?_ ?_; (focus omega)) | with_reducible refine fit_tm ?_)); done)
      | with_reducible refine And.intro ?_ ?_))
    all_goals exact hQ
  · have hfx : (n ≤ 20 ∧ -2000 ≤ e ∧ e ≤ 2000) := h1
    have hfy : (m ≤ 20 ∧ -2000 ≤ f ∧ f ≤ 2000) := h2
    have hfz : (p ≤ 20 ∧ -2000 ≤ g ∧ g ≤ 2000) := h3
    have hc : okC n cs := hw (by omega)
    have fX : Fit (vI s cs) 640 := (okC_fit hc s).mono (by omega)
    have gX : Fit (tmI (vI s cs)) 640 := fX.le (tmI_le _)
    have bX : -2000 ≤ teI (vI s cs) e ∧ teI (vI s cs) e ≤ 2640 := te_few fX h1.2.1 h1.2.2
    have hc2 : okC m es := hw2 (by omega)
    have fY : Fit (vI t es) 640 := (okC_fit hc2 t).mono (by omega)
    have gY : Fit (tmI (vI t es)) 640 := fY.le (tmI_le _)
    have bY : -2000 ≤ teI (vI t es) f ∧ teI (vI t es) f ≤ 2640 := te_few fY h2.2.1 h2.2.2
    have hc3 : okC p gs := hw3 (by omega)
    have fZ : Fit (vI u gs) 640 := (okC_fit hc3 u).mono (by omega)
    have gZ : Fit (tmI (vI u gs)) 640 := fZ.le (tmI_le _)
    have bZ : -2000 ≤ teI (vI u gs) g ∧ teI (vI u gs) g ≤ 2640 := te_few fZ h3.2.1 h3.2.2
    have fA : Fit (addM (vI t es) f (vI u gs) g) 4642 := (Fit.add (fY.shl (m := 4641) (by omega)) (fZ.shl (m := 4641) (by omega)) (by omega) (by omega))
    have gA : Fit (tmI (addM (vI t es) f (vI u gs) g)) 4642 := fA.le (tmI_le _)
    have bA := te_in (e := (min f g)) (a := -2000) (b := 2000) (c := 6642) fA (by omega) (by omega) (by omega) (by omega) (by decide)
    have fM : Fit ((vI s cs) * addM (vI t es) f (vI u gs) g) 5282 := (fX.mul fA (by omega))
    have gM : Fit (tmI ((vI s cs) * addM (vI t es) f (vI u gs) g)) 5282 := fM.le (tmI_le _)
    have bM := te_in (e := (e + min f g)) (a := -4000) (b := 4000) (c := 9282) fM (by omega) (by omega) (by omega) (by omega) (by decide)
    have fP : Fit ((vI s cs) * (vI t es)) 1280 := (fX.mul fY (by omega))
    have gP : Fit (tmI ((vI s cs) * (vI t es))) 1280 := fP.le (tmI_le _)
    have bP := te_in (e := (e + f)) (a := -4000) (b := 4000) (c := 5280) fP (by omega) (by omega) (by omega) (by omega) (by decide)
    have fR : Fit ((vI s cs) * (vI u gs)) 1280 := (fX.mul fZ (by omega))
    have gR : Fit (tmI ((vI s cs) * (vI u gs))) 1280 := fR.le (tmI_le _)
    have bR := te_in (e := (e + g)) (a := -4000) (b := 4000) (c := 5280) fR (by omega) (by omega) (by omega) (by omega) (by decide)
    have fB : Fit (addM (vI s cs) e (vI t es) f) 4642 := (Fit.add (fX.shl (m := 4641) (by omega)) (fY.shl (m := 4641) (by omega)) (by omega) (by omega))
    have gB : Fit (tmI (addM (vI s cs) e (vI t es) f)) 4642 := fB.le (tmI_le _)
    have bB := te_in (e := (min e f)) (a := -2000) (b := 2000) (c := 6642) fB (by omega) (by omega) (by omega) (by omega) (by decide)
    have fC : Fit (addM (vI t es) f (vI s cs) e) 4642 := (Fit.add (fY.shl (m := 4641) (by omega)) (fX.shl (m := 4641) (by omega)) (by omega) (by omega))
    have gC : Fit (tmI (addM (vI t es) f (vI s cs) e)) 4642 := fC.le (tmI_le _)
    have bC := te_in (e := (min f e)) (a := -2000) (b := 2000) (c := 6642) fC (by omega) (by omega) (by omega) (by omega) (by decide)
    have fD : Fit (addM (addM (vI s cs) e (vI t es) f) (min e f) (-(vI t es)) f) 8644 := (Fit.add (fB.shl (m := 8643) (by omega)) (fY.neg.shl (m := 8643) (by omega)) (by omega) (by omega))
    have gD : Fit (tmI (addM (addM (vI s cs) e (vI t es) f) (min e f) (-(vI t es)) f)) 8644 := fD.le (tmI_le _)
    have bD := te_in (e := (min (min e f) f)) (a := -2000) (b := 2000) (c := 10644) fD (by omega) (by omega) (by omega) (by omega) (by decide)
    have fK : Fit (vI s cs) 640 := (fX)
    have gK : Fit (tmI (vI s cs)) 640 := fK.le (tmI_le _)
    have bK := te_in (e := (e + k)) (a := -2128) (b := 2127) (c := 2767) fK (by omega) (by omega) (by omega) (by omega) (by decide)
    have fL : Fit (vI t es) 640 := (fY)
    have gL : Fit (tmI (vI t es)) 640 := fL.le (tmI_le _)
    have bL := te_in (e := (f + k)) (a := -2128) (b := 2127) (c := 2767) fL (by omega) (by omega) (by omega) (by omega) (by decide)
    have fN : Fit (addM (vI s cs) e (vI t es) f) 4642 := (fB)
    have gN : Fit (tmI (addM (vI s cs) e (vI t es) f)) 4642 := fN.le (tmI_le _)
    have bN := te_in (e := (min e f + k)) (a := -2128) (b := 2127) (c := 6769) fN (by omega) (by omega) (by omega) (by omega) (by decide)
    have fE : Fit (addM (vI s cs) e (-(vI t es)) f) 4642 := (Fit.add (fX.shl (m := 4641) (by omega)) (fY.neg.shl (m := 4641) (by omega)) (by omega) (by omega))
    have gE : Fit (tmI (addM (vI s cs) e (-(vI t es)) f)) 4642 := fE.le (tmI_le _)
    have bE := te_in (e := (min e f)) (a := -2000) (b := 2000) (c := 6642) fE (by omega) (by omega) (by omega) (by omega) (by decide)
    have hIs := isD_N0 (M := ((vI s cs) * addM (vI t es) f (vI u gs) g)) (E := e + min f g) (by omega) (by omega)
    have hcv : IntKind.i64.wrap k = k := wrap_in (by omega) (by omega)
    have hng : IntKind.i64.wrap (0 - k) = -k := (by rw [wrap_in (by omega) (by omega)]; omega)
    have hmk : min (max k (-20000)) 20000 = k := by omega
    have hmn : min (max (-k) (-20000)) 20000 = -k := by omega
    cbv
    repeat' (first | with_reducible refine And.intro ?_ ?_ | (refine safe_lift hA ?_; kernel_rfl) | (intro hc_; (first | (exfalso; clear hQ; subst hF hA; simp only [fnOf, find, std, reduceIte, Nat.reduceEqDiff, sp1, sp2, a1, a2, FnSpec.out, Shape.build, leafs, leafCells, tups, oneOf, List.cons_append, List.nil_append, List.length_cons, List.length_nil, s_DyadLaws, s_known4, s_few, s_dMul, s_dAdd, s_dSame, s_dSub, s_dScale, s_dSign, s_dCmp, s_dAbs, s_dIs, dm_raw, dm_N0, dz, dx, dcn, dMof, tmI_idem, teI_idem, tmI_addL, teI_addL, tmI_addR, teI_addR, tmI_addN, teI_addN, tmI_mulL, teI_mulL, tmI_mulR, teI_mulR, tmI_neg, teI_neg, tmI_abs, teI_abs, Int.natAbs_natCast, teI_scale, topI_nrm, cmpD_nrm, cmpD_nrmL, cmpD_nrmR, sg_tmI, sameI_N0, sub_cmp, mul_addM, min_addl, min_addr, addM_shift, cmp_addsub, cmp_comm, cmpD_self, sg_abs0, sg_mulW, Int.add_neg_cancel_right, beq_dec, clamp30e, min_if, clamp30b, clamp30c, vI_N0, Int.natAbs_neg, eq_self, Bool.not_eq_eq_eq_not, decide_eq_true_eq, decide_eq_false_iff_not, not_true_eq_false, not_false_eq_true, decide_true, decide_false, Bool.true_and, Bool.and_true, Bool.not_true, Bool.not_false, beq_self_eq_true, Bool.true_eq_false, Bool.false_eq_true, reduceCtorEq, hfx, hfy, hfz, hIs, hcv, hng, hmk, hmn] at hc_; done) | (clear hc_; cbv))))
    all_goals subst hF hA
    all_goals (try simp only [fnOf, find, std, reduceIte, Nat.reduceEqDiff, sp1, sp2, a1, a2, FnSpec.out, Shape.build, leafs, leafCells, tups, oneOf, List.cons_append, List.nil_append, List.length_cons, List.length_nil, s_DyadLaws, s_known4, s_few, s_dMul, s_dAdd, s_dSame, s_dSub, s_dScale, s_dSign, s_dCmp, s_dAbs, s_dIs, dm_raw, dm_N0, dz, dx, dcn, dMof, tmI_idem, teI_idem, tmI_addL, teI_addL, tmI_addR, teI_addR, tmI_addN, teI_addN, tmI_mulL, teI_mulL, tmI_mulR, teI_mulR, tmI_neg, teI_neg, tmI_abs, teI_abs, Int.natAbs_natCast, teI_scale, topI_nrm, cmpD_nrm, cmpD_nrmL, cmpD_nrmR, sg_tmI, sameI_N0, sub_cmp, mul_addM, min_addl, min_addr, addM_shift, cmp_addsub, cmp_comm, cmpD_self, sg_abs0, sg_mulW, Int.add_neg_cancel_right, beq_dec, clamp30e, min_if, clamp30b, clamp30c, vI_N0, Int.natAbs_neg, hfx, hfy, hfz, hIs, hcv, hng, hmk, hmn] at hQ ⊢)
    all_goals (repeat' (first
      | with_reducible exact hQ
      | with_reducible exact Post.b hQ (beq_self_eq_true _).symm
      | with_reducible exact isi_int _ _
      | with_reducible exact fit_0
      | with_reducible exact fit_1
      | with_reducible assumption
      | with_reducible refine okI_mk ?_
      | with_reducible refine okW_mk ?_ ?_ ?_
      | with_reducible refine okE_mk ?_
      | with_reducible refine okD_mk ?_ ?_ ?_
      | (with_reducible refine canD_mk ?_ ?_ ?_ ?_ ?_; (focus simp only [tmI_idem, teI_idem, tmI_neg, teI_neg, tmI_abs, teI_abs, Int.natAbs_natCast]); (focus simp only [tmI_idem, teI_idem, tmI_neg, teI_neg, tmI_abs, teI_abs, Int.natAbs_natCast]))
      | (with_reducible refine okC_fit6 ?_; (repeat' (first | (with_reducible refine Fit.mono (by with_reducible assumption) ?_; omega) | with_reducible refine Fit.neg ?_ | with_reducible refine fit_abs ?_ | (with_reducible refine fit_mul4 ?_ ?_ ?_; (focus omega)) | with_reducible refine fit_tm ?_)))
      | (with_reducible refine ln_fit6 ?_ ?_; focus (repeat' (first | (with_reducible refine Fit.mono (by with_reducible assumption) ?_; omega) | with_reducible refine Fit.neg ?_ | with_reducible refine fit_abs ?_ | (with_reducible refine fit_mul4 ?_ ?_ ?_; (focus omega)) | with_reducible refine fit_tm ?_)))
      | (with_reducible refine near_mk ?_ ?_; (focus omega); (focus omega))
      | omega
      | ((repeat' (first | (with_reducible refine Fit.mono (by with_reducible assumption) ?_; omega) | with_reducible refine Fit.neg ?_ | with_reducible refine fit_abs ?_ | (with_reducible refine fit_mul4 ?_ ?_ ?_; (focus omega)) | with_reducible refine fit_tm ?_)); done)
      | with_reducible refine And.intro ?_ ?_))
    all_goals exact hQ
end Go.Proofs.YtglmnhjkmdpefaaDoor.Ev
