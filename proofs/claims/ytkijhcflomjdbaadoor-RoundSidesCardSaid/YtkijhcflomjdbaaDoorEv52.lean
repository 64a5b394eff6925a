/- A law of rounding: RoundSides. -/
import Derived.Test.YtkijhcflomjdbaaDoorEvv
namespace Go.Proofs.YtkijhcflomjdbaaDoor.Ev
open Go Go.RowKit
set_option linter.unusedSimpArgs false
set_option linter.unusedVariables false
set_option maxRecDepth 100000 in
set_option maxHeartbeats 16000000 in
theorem good_RoundSides : Good Tryd.prog GWR N0 4 s_RoundSides := by
  refine goodR (tab := [(12, s_known5), (13, s_few5), (16, s_oTo), (20, s_oUlp), (23, s_dSub), (24, s_dSign), (25, s_dCmp), (26, s_dSame), (22, s_oFits)]) (shs := [(12, .one .b), (13, .one .b), (16, .agg [.I, .i .i64]), (20, .agg [.I, .i .i64]), (23, .agg [.I, .i .i64]), (24, .one (.i .i64)), (25, .one (.i .i64)), (26, .one .b), (22, .one .b)]) rfl ⟨good_known5, (good_few5.mono fun _ h => h.base), good_oTo, (good_oUlp.mono fun _ h => h.base), (good_dSub.mono fun _ h => h.base), (good_dSign.mono fun _ h => h.base), (good_dCmp.mono fun _ h => h.base), (good_dSame.mono fun _ h => h.base), (good_oFits.mono fun _ h => h.base), trivial⟩ Tryd.f4 (by kernel_rfl) (by kernel_rfl) (by kernel_rfl) (fun ds hp F A Q hF hA hQ => ⟨0, ?_⟩)
  obtain ⟨x, b, rfl, hx, hbb1, hbb2⟩ := sides5_arg hp
  obtain ⟨s, n, cs, e, rfl, hw, hr1, hr2⟩ := okW_arg hx
  clear hp hx
  rcases sides_all (few := n ≤ 20 ∧ -2000 ≤ e ∧ e ≤ 2000) (X := vI s cs) (e := e) (p := b + 1) (fun h1 => ⟨(okC_fit (hw (by omega)) s).mono (by omega), h1.2⟩) with h1 | ⟨h1, hX0, r10, r1, r2, r3, r4, r5, r6, r7, r11⟩ | ⟨h1, hX0, r10, r1, r2, r3, r4, r5, r6, r7, r11⟩ | ⟨h1, hX0, r10, r1, r2, r3, r4, r5, r6, r7, r11⟩ | ⟨h1, hX0, r10, r1, r2, r3, r4, r5, r6, r7, r11⟩ | ⟨h1, hX0, r10, r1, r2, r3, r4, r5, r6, r7, r11⟩ | ⟨h1, hX0, r10, r1, r2, r3, r4, r5, r6, r7, r11⟩
  · have hfx : ¬(n ≤ 20 ∧ -2000 ≤ e ∧ e ≤ 2000) := h1
    cbv
    repeat' (first | with_reducible refine And.intro ?_ ?_ | (with_reducible refine safe_lift hA ?_; kernel_rfl) | (intro hc_; (first | (with_reducible exfalso; clear hQ; subst hF hA; simp only [fnOf, find, std, reduceIte, Nat.reduceEqDiff, sp1, sp2, a1, a2, FnSpec.out, Shape.build, leafs, leafCells, tups, oneOf, List.cons_append, List.nil_append, List.length_cons, List.length_nil, s_RoundSides, s_known5, s_few5, s_oTo, s_oUlp, s_dSub, s_dSign, s_dCmp, s_dSame, s_oFits, dm_raw, dm_N0, dz, dx, dcn, dMof, tmI_idem, teI_idem, tmI_addL, teI_addL, tmI_addR, teI_addR, tmI_addN, teI_addN, tmI_mulL, teI_mulL, tmI_mulR, teI_mulR, tmI_neg, teI_neg, tmI_abs, teI_abs, Int.natAbs_natCast, teI_scale, topI_nrm, cmpD_nrm, sg_tmI, sameI_N0, beq_dec, clamp30e, min_if, clamp30b, clamp30c, vI_N0, Int.natAbs_neg, sg_eq, and_self, and_true, true_and, gm_nrm, ge_nrm, stepI_nrm, tm_gm, te_gm, tmI_eq0, Int.reduceLT, Int.reduceLE, Int.reduceNeg, Int.reduceEq, reduceIte, sub_cmp, cmpD_nrmL, cmpD_nrmR, cmpD_self, Int.reduceBEq, eq_self, Bool.not_eq_eq_eq_not, decide_eq_true_eq, decide_eq_false_iff_not, not_true_eq_false, not_false_eq_true, decide_true, decide_false, Bool.true_and, Bool.and_true, Bool.not_true, Bool.not_false, beq_self_eq_true, Bool.true_eq_false, Bool.false_eq_true, reduceCtorEq, s_few, hfx] at hc_; done) | (clear hc_; cbv))))
    all_goals subst hF hA
    all_goals (try simp only [fnOf, find, std, reduceIte, Nat.reduceEqDiff, sp1, sp2, a1, a2, FnSpec.out, Shape.build, leafs, leafCells, tups, oneOf, List.cons_append, List.nil_append, List.length_cons, List.length_nil, s_RoundSides, s_known5, s_few5, s_oTo, s_oUlp, s_dSub, s_dSign, s_dCmp, s_dSame, s_oFits, dm_raw, dm_N0, dz, dx, dcn, dMof, tmI_idem, teI_idem, tmI_addL, teI_addL, tmI_addR, teI_addR, tmI_addN, teI_addN, tmI_mulL, teI_mulL, tmI_mulR, teI_mulR, tmI_neg, teI_neg, tmI_abs, teI_abs, Int.natAbs_natCast, teI_scale, topI_nrm, cmpD_nrm, sg_tmI, sameI_N0, beq_dec, clamp30e, min_if, clamp30b, clamp30c, vI_N0, Int.natAbs_neg, sg_eq, and_self, and_true, true_and, gm_nrm, ge_nrm, stepI_nrm, tm_gm, te_gm, tmI_eq0, Int.reduceLT, Int.reduceLE, Int.reduceNeg, Int.reduceEq, reduceIte, sub_cmp, cmpD_nrmL, cmpD_nrmR, cmpD_self, Int.reduceBEq, s_few, hfx] at hQ ⊢)
    all_goals (repeat' (first
      | with_reducible exact hQ
      | with_reducible exact Post.b hQ (beq_self_eq_true _).symm
      | with_reducible exact isi_int _ _
      | with_reducible exact fit_0
      | with_reducible exact fit_1
      | with_reducible assumption
      | with_reducible refine okI_mk ?_
      | with_reducible refine okW_mk ?_ ?_ ?_
      | with_reducible refine okE_mk ?_
      | with_reducible refine okD_mk ?_ ?_ ?_
      | (with_reducible refine canD_mk ?_ ?_ ?_ ?_ ?_; (focus simp only [tmI_idem, teI_idem, tmI_neg, teI_neg, tmI_abs, teI_abs, Int.natAbs_natCast]); (focus simp only [tmI_idem, teI_idem, tmI_neg, teI_neg, tmI_abs, teI_abs, Int.natAbs_natCast]))
      | (with_reducible refine okC_fit6 ?_; (repeat' (first | (with_reducible refine Fit.mono (by with_reducible assumption) ?_; omega) | with_reducible refine Fit.neg ?_ | with_reducible refine fit_abs ?_ | (with_reducible refine fit_mul4 ?_ ?_ ?_; (focus omega)) | with_reducible refine fit_tm ?_)))
      | (with_reducible refine ln_fit6 ?_ ?_; focus (repeat' (first | (with_reducible refine Fit.mono (by with_reducible assumption) ?_; omega) | with_reducible refine Fit.neg ?_ | with_reducible refine fit_abs ?_ | (with_reducible refine fit_mul4 ?_ ?_ ?_; (focus omega)) | with_reducible refine fit_tm ?_)))
      | (with_reducible refine near_mk ?_ ?_; (focus omega); (focus omega))
      | omega
      | ((repeat' (first | (with_reducible refine Fit.mono (by with_reducible assumption) ?_; omega) | with_reducible refine Fit.neg ?_ | with_reducible refine fit_abs ?_ | (with_reducible refine fit_mul4 ?_ ?_ ?_; (focus omega)) | with_reducible refine fit_tm ?_)); done)
      | with_reducible refine And.intro ?_ ?_))
    all_goals exact hQ
  · have hfx : (n ≤ 20 ∧ -2000 ≤ e ∧ e ≤ 2000) := h1
    have hc : okC n cs := hw (by omega)
    have fX : Fit (vI s cs) 640 := (okC_fit hc s).mono (by omega)
    have gX : Fit (tmI (vI s cs)) 640 := fX.le (tmI_le _)
    have bX : -2000 ≤ teI (vI s cs) e ∧ teI (vI s cs) e ≤ 2640 := te_few fX h1.2.1 h1.2.2
    have hst := stepI_in (p := b + 1) fX h1.2.1 h1.2.2
    have hge := fun md => ge_inc (e := e) (E := stepI (vI s cs) e (b + 1)) (mode := md) (a := -6000) (b := 2641) (c := 3282) fX (by omega) (by omega) (by omega) (by omega) (by omega) (by omega) (by decide)
    have hg0 := hge 0
    have hg1 := hge 1
    have hg2 := hge 2
    have hfg := fun E md => fit_gm (m := vI s cs) (e := e) (E := E) (mode := md) fX
    have hb1 : IntKind.i64.wrap b = b := wrap_in (by omega) (by omega)
    have hb2 : IntKind.i64.wrap (b + 1) = b + 1 := wrap_in (by omega) (by omega)
    have htb := topI_in fX h1.2.1 h1.2.2
    have fL := (hfg (stepI (vI s cs) e (b + 1)) 0).mono (show 641 ≤ 700 by decide)
    have fH := (hfg (stepI (vI s cs) e (b + 1)) 1).mono (show 641 ≤ 700 by decide)
    have fD : Fit (addM (vI s cs) e (-(gm (vI s cs) e (stepI (vI s cs) e (b + 1)) 0)) (ge (vI s cs) e (stepI (vI s cs) e (b + 1)) 0)) 9702 := (Fit.add (fX.shl (m := 9701) (by omega)) (fL.neg.shl (m := 9701) (by omega)) (by omega) (by omega))
    have gD : Fit (tmI (addM (vI s cs) e (-(gm (vI s cs) e (stepI (vI s cs) e (b + 1)) 0)) (ge (vI s cs) e (stepI (vI s cs) e (b + 1)) 0))) 9702 := fD.le (tmI_le _)
    have bD := te_in (e := (min e (ge (vI s cs) e (stepI (vI s cs) e (b + 1)) 0))) (a := -6000) (b := 3400) (c := 13102) fD (by omega) (by omega) (by omega) (by omega) (by decide)
    have fE : Fit (addM (gm (vI s cs) e (stepI (vI s cs) e (b + 1)) 1) (ge (vI s cs) e (stepI (vI s cs) e (b + 1)) 1) (-(vI s cs)) e) 9702 := (Fit.add (fH.shl (m := 9701) (by omega)) (fX.neg.shl (m := 9701) (by omega)) (by omega) (by omega))
    have gE : Fit (tmI (addM (gm (vI s cs) e (stepI (vI s cs) e (b + 1)) 1) (ge (vI s cs) e (stepI (vI s cs) e (b + 1)) 1) (-(vI s cs)) e)) 9702 := fE.le (tmI_le _)
    have bE := te_in (e := (min (ge (vI s cs) e (stepI (vI s cs) e (b + 1)) 1) e)) (a := -6000) (b := 3400) (c := 13102) fE (by omega) (by omega) (by omega) (by omega) (by decide)
    have r8 := fits_gm (m := vI s cs) (e := e) (p := b + 1) 0 (by omega) (by omega) (by omega) (by omega)
    have r9 := fits_gm (m := vI s cs) (e := e) (p := b + 1) 1 (by omega) (by omega) (by omega) (by omega)
    have hX1 : (vI s cs = 0) = True := eq_true hX0
    cbv
    repeat' (first | with_reducible refine And.intro ?_ ?_ | (with_reducible refine safe_lift hA ?_; kernel_rfl) | (intro hc_; (first | (with_reducible exfalso; clear hQ; subst hF hA; simp only [fnOf, find, std, reduceIte, Nat.reduceEqDiff, sp1, sp2, a1, a2, FnSpec.out, Shape.build, leafs, leafCells, tups, oneOf, List.cons_append, List.nil_append, List.length_cons, List.length_nil, s_RoundSides, s_known5, s_few5, s_oTo, s_oUlp, s_dSub, s_dSign, s_dCmp, s_dSame, s_oFits, dm_raw, dm_N0, dz, dx, dcn, dMof, tmI_idem, teI_idem, tmI_addL, teI_addL, tmI_addR, teI_addR, tmI_addN, teI_addN, tmI_mulL, teI_mulL, tmI_mulR, teI_mulR, tmI_neg, teI_neg, tmI_abs, teI_abs, Int.natAbs_natCast, teI_scale, topI_nrm, cmpD_nrm, sg_tmI, sameI_N0, beq_dec, clamp30e, min_if, clamp30b, clamp30c, vI_N0, Int.natAbs_neg, sg_eq, and_self, and_true, true_and, gm_nrm, ge_nrm, stepI_nrm, tm_gm, te_gm, tmI_eq0, Int.reduceLT, Int.reduceLE, Int.reduceNeg, Int.reduceEq, reduceIte, sub_cmp, cmpD_nrmL, cmpD_nrmR, cmpD_self, Int.reduceBEq, eq_self, Bool.not_eq_eq_eq_not, decide_eq_true_eq, decide_eq_false_iff_not, not_true_eq_false, not_false_eq_true, decide_true, decide_false, Bool.true_and, Bool.and_true, Bool.not_true, Bool.not_false, beq_self_eq_true, Bool.true_eq_false, Bool.false_eq_true, reduceCtorEq, s_few, hfx, hb1, hb2, r1, r2, r5, r6, r7, r11, r8, r9, r10, hX1] at hc_; done) | (clear hc_; cbv))))
    all_goals subst hF hA
    all_goals (try simp only [fnOf, find, std, reduceIte, Nat.reduceEqDiff, sp1, sp2, a1, a2, FnSpec.out, Shape.build, leafs, leafCells, tups, oneOf, List.cons_append, List.nil_append, List.length_cons, List.length_nil, s_RoundSides, s_known5, s_few5, s_oTo, s_oUlp, s_dSub, s_dSign, s_dCmp, s_dSame, s_oFits, dm_raw, dm_N0, dz, dx, dcn, dMof, tmI_idem, teI_idem, tmI_addL, teI_addL, tmI_addR, teI_addR, tmI_addN, teI_addN, tmI_mulL, teI_mulL, tmI_mulR, teI_mulR, tmI_neg, teI_neg, tmI_abs, teI_abs, Int.natAbs_natCast, teI_scale, topI_nrm, cmpD_nrm, sg_tmI, sameI_N0, beq_dec, clamp30e, min_if, clamp30b, clamp30c, vI_N0, Int.natAbs_neg, sg_eq, and_self, and_true, true_and, gm_nrm, ge_nrm, stepI_nrm, tm_gm, te_gm, tmI_eq0, Int.reduceLT, Int.reduceLE, Int.reduceNeg, Int.reduceEq, reduceIte, sub_cmp, cmpD_nrmL, cmpD_nrmR, cmpD_self, Int.reduceBEq, s_few, hfx, hb1, hb2, r1, r2, r5, r6, r7, r11, r8, r9, r10, hX1] at hQ ⊢)
    all_goals (repeat' (first
      | with_reducible exact hQ
      | with_reducible exact Post.b hQ (beq_self_eq_true _).symm
      | with_reducible exact isi_int _ _
      | with_reducible exact fit_0
      | with_reducible exact fit_1
      | with_reducible assumption
      | with_reducible refine okI_mk ?_
      | with_reducible refine okW_mk ?_ ?_ ?_
      | with_reducible refine okE_mk ?_
      | with_reducible refine okD_mk ?_ ?_ ?_
      | (with_reducible refine canD_mk ?_ ?_ ?_ ?_ ?_; (focus simp only [tmI_idem, teI_idem, tmI_neg, teI_neg, tmI_abs, teI_abs, Int.natAbs_natCast]); (focus simp only [tmI_idem, teI_idem, tmI_neg, teI_neg, tmI_abs, teI_abs, Int.natAbs_natCast]))
      | (with_reducible refine okC_fit6 ?_; (repeat' (first | (with_reducible refine Fit.mono (by with_reducible assumption) ?_; omega) | with_reducible refine Fit.neg ?_ | with_reducible refine fit_abs ?_ | (with_reducible refine fit_mul4 ?_ ?_ ?_; (focus omega)) | with_reducible refine fit_tm ?_)))
      | (with_reducible refine ln_fit6 ?_ ?_; focus (repeat' (first | (with_reducible refine Fit.mono (by with_reducible assumption) ?_; omega) | with_reducible refine Fit.neg ?_ | with_reducible refine fit_abs ?_ | (with_reducible refine fit_mul4 ?_ ?_ ?_; (focus omega)) | with_reducible refine fit_tm ?_)))
      | (with_reducible refine near_mk ?_ ?_; (focus omega); (focus omega))
      | with_reducible exact okC_fit6 ((hfg _ _).mono (by decide))
      | with_reducible exact (hfg _ _).mono (by decide)
      | (with_reducible refine canD_mk (tm_gm _ _ _ _) (te_gm _ _ _ _) ((hfg _ _).mono (by decide)) ?_ ?_)
      | with_reducible exact fit_if01
      | exact (hge _).1 | exact (hge _).2
      | omega
      | ((repeat' (first | (with_reducible refine Fit.mono (by with_reducible assumption) ?_; omega) | with_reducible refine Fit.neg ?_ | with_reducible refine fit_abs ?_ | (with_reducible refine fit_mul4 ?_ ?_ ?_; (focus omega)) | with_reducible refine fit_tm ?_)); done)
      | with_reducible refine And.intro ?_ ?_))
    all_goals exact hQ
  · have hfx : (n ≤ 20 ∧ -2000 ≤ e ∧ e ≤ 2000) := h1
    have hc : okC n cs := hw (by omega)
    have fX : Fit (vI s cs) 640 := (okC_fit hc s).mono (by omega)
    have gX : Fit (tmI (vI s cs)) 640 := fX.le (tmI_le _)
    have bX : -2000 ≤ teI (vI s cs) e ∧ teI (vI s cs) e ≤ 2640 := te_few fX h1.2.1 h1.2.2
    have hst := stepI_in (p := b + 1) fX h1.2.1 h1.2.2
    have hge := fun md => ge_inc (e := e) (E := stepI (vI s cs) e (b + 1)) (mode := md) (a := -6000) (b := 2641) (c := 3282) fX (by omega) (by omega) (by omega) (by omega) (by omega) (by omega) (by decide)
    have hg0 := hge 0
    have hg1 := hge 1
    have hg2 := hge 2
    have hfg := fun E md => fit_gm (m := vI s cs) (e := e) (E := E) (mode := md) fX
    have hb1 : IntKind.i64.wrap b = b := wrap_in (by omega) (by omega)
    have hb2 : IntKind.i64.wrap (b + 1) = b + 1 := wrap_in (by omega) (by omega)
    have htb := topI_in fX h1.2.1 h1.2.2
    have fL := (hfg (stepI (vI s cs) e (b + 1)) 0).mono (show 641 ≤ 700 by decide)
    have fH := (hfg (stepI (vI s cs) e (b + 1)) 1).mono (show 641 ≤ 700 by decide)
    have fD : Fit (addM (vI s cs) e (-(gm (vI s cs) e (stepI (vI s cs) e (b + 1)) 0)) (ge (vI s cs) e (stepI (vI s cs) e (b + 1)) 0)) 9702 := (Fit.add (fX.shl (m := 9701) (by omega)) (fL.neg.shl (m := 9701) (by omega)) (by omega) (by omega))
    have gD : Fit (tmI (addM (vI s cs) e (-(gm (vI s cs) e (stepI (vI s cs) e (b + 1)) 0)) (ge (vI s cs) e (stepI (vI s cs) e (b + 1)) 0))) 9702 := fD.le (tmI_le _)
    have bD := te_in (e := (min e (ge (vI s cs) e (stepI (vI s cs) e (b + 1)) 0))) (a := -6000) (b := 3400) (c := 13102) fD (by omega) (by omega) (by omega) (by omega) (by decide)
    have fE : Fit (addM (gm (vI s cs) e (stepI (vI s cs) e (b + 1)) 1) (ge (vI s cs) e (stepI (vI s cs) e (b + 1)) 1) (-(vI s cs)) e) 9702 := (Fit.add (fH.shl (m := 9701) (by omega)) (fX.neg.shl (m := 9701) (by omega)) (by omega) (by omega))
    have gE : Fit (tmI (addM (gm (vI s cs) e (stepI (vI s cs) e (b + 1)) 1) (ge (vI s cs) e (stepI (vI s cs) e (b + 1)) 1) (-(vI s cs)) e)) 9702 := fE.le (tmI_le _)
    have bE := te_in (e := (min (ge (vI s cs) e (stepI (vI s cs) e (b + 1)) 1) e)) (a := -6000) (b := 3400) (c := 13102) fE (by omega) (by omega) (by omega) (by omega) (by decide)
    have r8 := fits_gm (m := vI s cs) (e := e) (p := b + 1) 0 (by omega) (by omega) (by omega) (by omega)
    have r9 := fits_gm (m := vI s cs) (e := e) (p := b + 1) 1 (by omega) (by omega) (by omega) (by omega)
    cbv
    repeat' (first | with_reducible refine And.intro ?_ ?_ | (with_reducible refine safe_lift hA ?_; kernel_rfl) | (intro hc_; (first | (with_reducible exfalso; clear hQ; subst hF hA; simp only [fnOf, find, std, reduceIte, Nat.reduceEqDiff, sp1, sp2, a1, a2, FnSpec.out, Shape.build, leafs, leafCells, tups, oneOf, List.cons_append, List.nil_append, List.length_cons, List.length_nil, s_RoundSides, s_known5, s_few5, s_oTo, s_oUlp, s_dSub, s_dSign, s_dCmp, s_dSame, s_oFits, dm_raw, dm_N0, dz, dx, dcn, dMof, tmI_idem, teI_idem, tmI_addL, teI_addL, tmI_addR, teI_addR, tmI_addN, teI_addN, tmI_mulL, teI_mulL, tmI_mulR, teI_mulR, tmI_neg, teI_neg, tmI_abs, teI_abs, Int.natAbs_natCast, teI_scale, topI_nrm, cmpD_nrm, sg_tmI, sameI_N0, beq_dec, clamp30e, min_if, clamp30b, clamp30c, vI_N0, Int.natAbs_neg, sg_eq, and_self, and_true, true_and, gm_nrm, ge_nrm, stepI_nrm, tm_gm, te_gm, tmI_eq0, Int.reduceLT, Int.reduceLE, Int.reduceNeg, Int.reduceEq, reduceIte, sub_cmp, cmpD_nrmL, cmpD_nrmR, cmpD_self, Int.reduceBEq, eq_self, Bool.not_eq_eq_eq_not, decide_eq_true_eq, decide_eq_false_iff_not, not_true_eq_false, not_false_eq_true, decide_true, decide_false, Bool.true_and, Bool.and_true, Bool.not_true, Bool.not_false, beq_self_eq_true, Bool.true_eq_false, Bool.false_eq_true, reduceCtorEq, s_few, hfx, hb1, hb2, r1, r2, r5, r6, r7, r11, r8, r9, r10, hX0, r3, r4] at hc_; done) | (clear hc_; cbv))))
    all_goals subst hF hA
    all_goals (try simp only [fnOf, find, std, reduceIte, Nat.reduceEqDiff, sp1, sp2, a1, a2, FnSpec.out, Shape.build, leafs, leafCells, tups, oneOf, List.cons_append, List.nil_append, List.length_cons, List.length_nil, s_RoundSides, s_known5, s_few5, s_oTo, s_oUlp, s_dSub, s_dSign, s_dCmp, s_dSame, s_oFits, dm_raw, dm_N0, dz, dx, dcn, dMof, tmI_idem, teI_idem, tmI_addL, teI_addL, tmI_addR, teI_addR, tmI_addN, teI_addN, tmI_mulL, teI_mulL, tmI_mulR, teI_mulR, tmI_neg, teI_neg, tmI_abs, teI_abs, Int.natAbs_natCast, teI_scale, topI_nrm, cmpD_nrm, sg_tmI, sameI_N0, beq_dec, clamp30e, min_if, clamp30b, clamp30c, vI_N0, Int.natAbs_neg, sg_eq, and_self, and_true, true_and, gm_nrm, ge_nrm, stepI_nrm, tm_gm, te_gm, tmI_eq0, Int.reduceLT, Int.reduceLE, Int.reduceNeg, Int.reduceEq, reduceIte, sub_cmp, cmpD_nrmL, cmpD_nrmR, cmpD_self, Int.reduceBEq, s_few, hfx, hb1, hb2, r1, r2, r5, r6, r7, r11, r8, r9, r10, hX0, r3, r4] at hQ ⊢)
    all_goals (repeat' (first
      | with_reducible exact hQ
      | with_reducible exact Post.b hQ (beq_self_eq_true _).symm
      | with_reducible exact isi_int _ _
      | with_reducible exact fit_0
      | with_reducible exact fit_1
      | with_reducible assumption
      | with_reducible refine okI_mk ?_
      | with_reducible refine okW_mk ?_ ?_ ?_
      | with_reducible refine okE_mk ?_
      | with_reducible refine okD_mk ?_ ?_ ?_
      | (with_reducible refine canD_mk ?_ ?_ ?_ ?_ ?_; (focus simp only [tmI_idem, teI_idem, tmI_neg, teI_neg, tmI_abs, teI_abs, Int.natAbs_natCast]); (focus simp only [tmI_idem, teI_idem, tmI_neg, teI_neg, tmI_abs, teI_abs, Int.natAbs_natCast]))
      | (with_reducible refine okC_fit6 ?_; (repeat' (first | (with_reducible refine Fit.mono (by with_reducible assumption) ?_; omega) | with_reducible refine Fit.neg ?_ | with_reducible refine fit_abs ?_ | (with_reducible refine fit_mul4 ?_ ?_ ?_; (focus omega)) | with_reducible refine fit_tm ?_)))
      | (with_reducible refine ln_fit6 ?_ ?_; focus (repeat' (first | (with_reducible refine Fit.mono (by with_reducible assumption) ?_; omega) | with_reducible refine Fit.neg ?_ | with_reducible refine fit_abs ?_ | (with_reducible refine fit_mul4 ?_ ?_ ?_; (focus omega)) | with_reducible refine fit_tm ?_)))
      | (with_reducible refine near_mk ?_ ?_; (focus omega); (focus omega))
      | with_reducible exact okC_fit6 ((hfg _ _).mono (by decide))
      | with_reducible exact (hfg _ _).mono (by decide)
      | (with_reducible refine canD_mk (tm_gm _ _ _ _) (te_gm _ _ _ _) ((hfg _ _).mono (by decide)) ?_ ?_)
      | with_reducible exact fit_if01
      | exact (hge _).1 | exact (hge _).2
      | omega
      | ((repeat' (first | (with_reducible refine Fit.mono (by with_reducible assumption) ?_; omega) | with_reducible refine Fit.neg ?_ | with_reducible refine fit_abs ?_ | (with_reducible refine fit_mul4 ?_ ?_ ?_; (focus omega)) | with_reducible refine fit_tm ?_)); done)
      | with_reducible refine And.intro ?_ ?_))
    all_goals exact hQ
  · have hfx : (n ≤ 20 ∧ -2000 ≤ e ∧ e ≤ 2000) := h1
    have hc : okC n cs := hw (by omega)
    have fX : Fit (vI s cs) 640 := (okC_fit hc s).mono (by omega)
    have gX : Fit (tmI (vI s cs)) 640 := fX.le (tmI_le _)
    have bX : -2000 ≤ teI (vI s cs) e ∧ teI (vI s cs) e ≤ 2640 := te_few fX h1.2.1 h1.2.2
    have hst := stepI_in (p := b + 1) fX h1.2.1 h1.2.2
    have hge := fun md => ge_inc (e := e) (E := stepI (vI s cs) e (b + 1)) (mode := md) (a := -6000) (b := 2641) (c := 3282) fX (by omega) (by omega) (by omega) (by omega) (by omega) (by omega) (by decide)
    have hg0 := hge 0
    have hg1 := hge 1
    have hg2 := hge 2
    have hfg := fun E md => fit_gm (m := vI s cs) (e := e) (E := E) (mode := md) fX
    have hb1 : IntKind.i64.wrap b = b := wrap_in (by omega) (by omega)
    have hb2 : IntKind.i64.wrap (b + 1) = b + 1 := wrap_in (by omega) (by omega)
    have htb := topI_in fX h1.2.1 h1.2.2
    have fL := (hfg (stepI (vI s cs) e (b + 1)) 0).mono (show 641 ≤ 700 by decide)
    have fH := (hfg (stepI (vI s cs) e (b + 1)) 1).mono (show 641 ≤ 700 by decide)
    have fD : Fit (addM (vI s cs) e (-(gm (vI s cs) e (stepI (vI s cs) e (b + 1)) 0)) (ge (vI s cs) e (stepI (vI s cs) e (b + 1)) 0)) 9702 := (Fit.add (fX.shl (m := 9701) (by omega)) (fL.neg.shl (m := 9701) (by omega)) (by omega) (by omega))
    have gD : Fit (tmI (addM (vI s cs) e (-(gm (vI s cs) e (stepI (vI s cs) e (b + 1)) 0)) (ge (vI s cs) e (stepI (vI s cs) e (b + 1)) 0))) 9702 := fD.le (tmI_le _)
    have bD := te_in (e := (min e (ge (vI s cs) e (stepI (vI s cs) e (b + 1)) 0))) (a := -6000) (b := 3400) (c := 13102) fD (by omega) (by omega) (by omega) (by omega) (by decide)
    have fE : Fit (addM (gm (vI s cs) e (stepI (vI s cs) e (b + 1)) 1) (ge (vI s cs) e (stepI (vI s cs) e (b + 1)) 1) (-(vI s cs)) e) 9702 := (Fit.add (fH.shl (m := 9701) (by omega)) (fX.neg.shl (m := 9701) (by omega)) (by omega) (by omega))
    have gE : Fit (tmI (addM (gm (vI s cs) e (stepI (vI s cs) e (b + 1)) 1) (ge (vI s cs) e (stepI (vI s cs) e (b + 1)) 1) (-(vI s cs)) e)) 9702 := fE.le (tmI_le _)
    have bE := te_in (e := (min (ge (vI s cs) e (stepI (vI s cs) e (b + 1)) 1) e)) (a := -6000) (b := 3400) (c := 13102) fE (by omega) (by omega) (by omega) (by omega) (by decide)
    have r8 := fits_gm (m := vI s cs) (e := e) (p := b + 1) 0 (by omega) (by omega) (by omega) (by omega)
    have r9 := fits_gm (m := vI s cs) (e := e) (p := b + 1) 1 (by omega) (by omega) (by omega) (by omega)
    cbv
    repeat' (first | with_reducible refine And.intro ?_ ?_ | (with_reducible refine safe_lift hA ?_; kernel_rfl) | (intro hc_; (first | (with_reducible exfalso; clear hQ; subst hF hA; simp only [fnOf, find, std, reduceIte, Nat.reduceEqDiff, sp1, sp2, a1, a2, FnSpec.out, Shape.build, leafs, leafCells, tups, oneOf, List.cons_append, List.nil_append, List.length_cons, List.length_nil, s_RoundSides, s_known5, s_few5, s_oTo, s_oUlp, s_dSub, s_dSign, s_dCmp, s_dSame, s_oFits, dm_raw, dm_N0, dz, dx, dcn, dMof, tmI_idem, teI_idem, tmI_addL, teI_addL, tmI_addR, teI_addR, tmI_addN, teI_addN, tmI_mulL, teI_mulL, tmI_mulR, teI_mulR, tmI_neg, teI_neg, tmI_abs, teI_abs, Int.natAbs_natCast, teI_scale, topI_nrm, cmpD_nrm, sg_tmI, sameI_N0, beq_dec, clamp30e, min_if, clamp30b, clamp30c, vI_N0, Int.natAbs_neg, sg_eq, and_self, and_true, true_and, gm_nrm, ge_nrm, stepI_nrm, tm_gm, te_gm, tmI_eq0, Int.reduceLT, Int.reduceLE, Int.reduceNeg, Int.reduceEq, reduceIte, sub_cmp, cmpD_nrmL, cmpD_nrmR, cmpD_self, Int.reduceBEq, eq_self, Bool.not_eq_eq_eq_not, decide_eq_true_eq, decide_eq_false_iff_not, not_true_eq_false, not_false_eq_true, decide_true, decide_false, Bool.true_and, Bool.and_true, Bool.not_true, Bool.not_false, beq_self_eq_true, Bool.true_eq_false, Bool.false_eq_true, reduceCtorEq, s_few, hfx, hb1, hb2, r1, r2, r5, r6, r7, r11, r8, r9, r10, hX0, r3, r4] at hc_; done) | (clear hc_; cbv))))
    all_goals subst hF hA
    all_goals (try simp only [fnOf, find, std, reduceIte, Nat.reduceEqDiff, sp1, sp2, a1, a2, FnSpec.out, Shape.build, leafs, leafCells, tups, oneOf, List.cons_append, List.nil_append, List.length_cons, List.length_nil, s_RoundSides, s_known5, s_few5, s_oTo, s_oUlp, s_dSub, s_dSign, s_dCmp, s_dSame, s_oFits, dm_raw, dm_N0, dz, dx, dcn, dMof, tmI_idem, teI_idem, tmI_addL, teI_addL, tmI_addR, teI_addR, tmI_addN, teI_addN, tmI_mulL, teI_mulL, tmI_mulR, teI_mulR, tmI_neg, teI_neg, tmI_abs, teI_abs, Int.natAbs_natCast, teI_scale, topI_nrm, cmpD_nrm, sg_tmI, sameI_N0, beq_dec, clamp30e, min_if, clamp30b, clamp30c, vI_N0, Int.natAbs_neg, sg_eq, and_self, and_true, true_and, gm_nrm, ge_nrm, stepI_nrm, tm_gm, te_gm, tmI_eq0, Int.reduceLT, Int.reduceLE, Int.reduceNeg, Int.reduceEq, reduceIte, sub_cmp, cmpD_nrmL, cmpD_nrmR, cmpD_self, Int.reduceBEq, s_few, hfx, hb1, hb2, r1, r2, r5, r6, r7, r11, r8, r9, r10, hX0, r3, r4] at hQ ⊢)
    all_goals (repeat' (first
      | with_reducible exact hQ
      | with_reducible exact Post.b hQ (beq_self_eq_true _).symm
      | with_reducible exact isi_int _ _
      | with_reducible exact fit_0
      | with_reducible exact fit_1
      | with_reducible assumption
      | with_reducible refine okI_mk ?_
      | with_reducible refine okW_mk ?_ ?_ ?_
      | with_reducible refine okE_mk ?_
      | with_reducible refine okD_mk ?_ ?_ ?_
      | (with_reducible refine canD_mk ?_ ?_ ?_ ?_ ?_; (focus simp only [tmI_idem, teI_idem, tmI_neg, teI_neg, tmI_abs, teI_abs, Int.natAbs_natCast]); (focus simp only [tmI_idem, teI_idem, tmI_neg, teI_neg, tmI_abs, teI_abs, Int.natAbs_natCast]))
      | (with_reducible refine okC_fit6 ?_; (repeat' (first | (with_reducible refine Fit.mono (by with_reducible assumption) ?_; omega) | with_reducible refine Fit.neg ?_ | with_reducible refine fit_abs ?_ | (with_reducible refine fit_mul4 ?_ ?_ ?_; (focus omega)) | with_reducible refine fit_tm ?_)))
      | (with_reducible refine ln_fit6 ?_ ?_; focus (repeat' (first | (with_reducible refine Fit.mono (by with_reducible assumption) ?_; omega) | with_reducible refine Fit.neg ?_ | with_reducible refine fit_abs ?_ | (with_reducible refine fit_mul4 ?_ ?_ ?_; (focus omega)) | with_reducible refine fit_tm ?_)))
      | (with_reducible refine near_mk ?_ ?_; (focus omega); (focus omega))
      | with_reducible exact okC_fit6 ((hfg _ _).mono (by decide))
      | with_reducible exact (hfg _ _).mono (by decide)
      | (with_reducible refine canD_mk (tm_gm _ _ _ _) (te_gm _ _ _ _) ((hfg _ _).mono (by decide)) ?_ ?_)
      | with_reducible exact fit_if01
      | exact (hge _).1 | exact (hge _).2
      | omega
      | ((repeat' (first | (with_reducible refine Fit.mono (by with_reducible assumption) ?_; omega) | with_reducible refine Fit.neg ?_ | with_reducible refine fit_abs ?_ | (with_reducible refine fit_mul4 ?_ ?_ ?_; (focus omega)) | with_reducible refine fit_tm ?_)); done)
      | with_reducible refine And.intro ?_ ?_))
    all_goals exact hQ
  · have hfx : (n ≤ 20 ∧ -2000 ≤ e ∧ e ≤ 2000) := h1
    have hc : okC n cs := hw (by omega)
    have fX : Fit (vI s cs) 640 := (okC_fit hc s).mono (by omega)
    have gX : Fit (tmI (vI s cs)) 640 := fX.le (tmI_le _)
    have bX : -2000 ≤ teI (vI s cs) e ∧ teI (vI s cs) e ≤ 2640 := te_few fX h1.2.1 h1.2.2
    have hst := stepI_in (p := b + 1) fX h1.2.1 h1.2.2
    have hge := fun md => ge_inc (e := e) (E := stepI (vI s cs) e (b + 1)) (mode := md) (a := -6000) (b := 2641) (c := 3282) fX (by omega) (by omega) (by omega) (by omega) (by omega) (by omega) (by decide)
    have hg0 := hge 0
    have hg1 := hge 1
    have hg2 := hge 2
    have hfg := fun E md => fit_gm (m := vI s cs) (e := e) (E := E) (mode := md) fX
    have hb1 : IntKind.i64.wrap b = b := wrap_in (by omega) (by omega)
    have hb2 : IntKind.i64.wrap (b + 1) = b + 1 := wrap_in (by omega) (by omega)
    have htb := topI_in fX h1.2.1 h1.2.2
    have fL := (hfg (stepI (vI s cs) e (b + 1)) 0).mono (show 641 ≤ 700 by decide)
    have fH := (hfg (stepI (vI s cs) e (b + 1)) 1).mono (show 641 ≤ 700 by decide)
    have fD : Fit (addM (vI s cs) e (-(gm (vI s cs) e (stepI (vI s cs) e (b + 1)) 0)) (ge (vI s cs) e (stepI (vI s cs) e (b + 1)) 0)) 9702 := (Fit.add (fX.shl (m := 9701) (by omega)) (fL.neg.shl (m := 9701) (by omega)) (by omega) (by omega))
    have gD : Fit (tmI (addM (vI s cs) e (-(gm (vI s cs) e (stepI (vI s cs) e (b + 1)) 0)) (ge (vI s cs) e (stepI (vI s cs) e (b + 1)) 0))) 9702 := fD.le (tmI_le _)
    have bD := te_in (e := (min e (ge (vI s cs) e (stepI (vI s cs) e (b + 1)) 0))) (a := -6000) (b := 3400) (c := 13102) fD (by omega) (by omega) (by omega) (by omega) (by decide)
    have fE : Fit (addM (gm (vI s cs) e (stepI (vI s cs) e (b + 1)) 1) (ge (vI s cs) e (stepI (vI s cs) e (b + 1)) 1) (-(vI s cs)) e) 9702 := (Fit.add (fH.shl (m := 9701) (by omega)) (fX.neg.shl (m := 9701) (by omega)) (by omega) (by omega))
    have gE : Fit (tmI (addM (gm (vI s cs) e (stepI (vI s cs) e (b + 1)) 1) (ge (vI s cs) e (stepI (vI s cs) e (b + 1)) 1) (-(vI s cs)) e)) 9702 := fE.le (tmI_le _)
    have bE := te_in (e := (min (ge (vI s cs) e (stepI (vI s cs) e (b + 1)) 1) e)) (a := -6000) (b := 3400) (c := 13102) fE (by omega) (by omega) (by omega) (by omega) (by decide)
    have r8 := fits_gm (m := vI s cs) (e := e) (p := b + 1) 0 (by omega) (by omega) (by omega) (by omega)
    have r9 := fits_gm (m := vI s cs) (e := e) (p := b + 1) 1 (by omega) (by omega) (by omega) (by omega)
    cbv
    repeat' (first | with_reducible refine And.intro ?_ ?_ | (with_reducible refine safe_lift hA ?_; kernel_rfl) | (intro hc_; (first | (with_reducible exfalso; clear hQ; subst hF hA; simp only [fnOf, find, std, reduceIte, Nat.reduceEqDiff, sp1, sp2, a1, a2, FnSpec.out, Shape.build, leafs, leafCells, tups, oneOf, List.cons_append, List.nil_append, List.length_cons, List.length_nil, s_RoundSides, s_known5, s_few5, s_oTo, s_oUlp, s_dSub, s_dSign, s_dCmp, s_dSame, s_oFits, dm_raw, dm_N0, dz, dx, dcn, dMof, tmI_idem, teI_idem, tmI_addL, teI_addL, tmI_addR, teI_addR, tmI_addN, teI_addN, tmI_mulL, teI_mulL, tmI_mulR, teI_mulR, tmI_neg, teI_neg, tmI_abs, teI_abs, Int.natAbs_natCast, teI_scale, topI_nrm, cmpD_nrm, sg_tmI, sameI_N0, beq_dec, clamp30e, min_if, clamp30b, clamp30c, vI_N0, Int.natAbs_neg, sg_eq, and_self, and_true, true_and, gm_nrm, ge_nrm, stepI_nrm, tm_gm, te_gm, tmI_eq0, Int.reduceLT, Int.reduceLE, Int.reduceNeg, Int.reduceEq, reduceIte, sub_cmp, cmpD_nrmL, cmpD_nrmR, cmpD_self, Int.reduceBEq, eq_self, Bool.not_eq_eq_eq_not, decide_eq_true_eq, decide_eq_false_iff_not, not_true_eq_false, not_false_eq_true, decide_true, decide_false, Bool.true_and, Bool.and_true, Bool.not_true, Bool.not_false, beq_self_eq_true, Bool.true_eq_false, Bool.false_eq_true, reduceCtorEq, s_few, hfx, hb1, hb2, r1, r2, r5, r6, r7, r11, r8, r9, r10, hX0, r3, r4] at hc_; done) | (clear hc_; cbv))))
    all_goals subst hF hA
    all_goals (try simp only [fnOf, find, std, reduceIte, Nat.reduceEqDiff, sp1, sp2, a1, a2, FnSpec.out, Shape.build, leafs, leafCells, tups, oneOf, List.cons_append, List.nil_append, List.length_cons, List.length_nil, s_RoundSides, s_known5, s_few5, s_oTo, s_oUlp, s_dSub, s_dSign, s_dCmp, s_dSame, s_oFits, dm_raw, dm_N0, dz, dx, dcn, dMof, tmI_idem, teI_idem, tmI_addL, teI_addL, tmI_addR, teI_addR, tmI_addN, teI_addN, tmI_mulL, teI_mulL, tmI_mulR, teI_mulR, tmI_neg, teI_neg, tmI_abs, teI_abs, Int.natAbs_natCast, teI_scale, topI_nrm, cmpD_nrm, sg_tmI, sameI_N0, beq_dec, clamp30e, min_if, clamp30b, clamp30c, vI_N0, Int.natAbs_neg, sg_eq, and_self, and_true, true_and, gm_nrm, ge_nrm, stepI_nrm, tm_gm, te_gm, tmI_eq0, Int.reduceLT, Int.reduceLE, Int.reduceNeg, Int.reduceEq, reduceIte, sub_cmp, cmpD_nrmL, cmpD_nrmR, cmpD_self, Int.reduceBEq, s_few, hfx, hb1, hb2, r1, r2, r5, r6, r7, r11, r8, r9, r10, hX0, r3, r4] at hQ ⊢)
    all_goals (repeat' (first
      | with_reducible exact hQ
      | with_reducible exact Post.b hQ (beq_self_eq_true _).symm
      | with_reducible exact isi_int _ _
      | with_reducible exact fit_0
      | with_reducible exact fit_1
      | with_reducible assumption
      | with_reducible refine okI_mk ?_
      | with_reducible refine okW_mk ?_ ?_ ?_
      | with_reducible refine okE_mk ?_
      | with_reducible refine okD_mk ?_ ?_ ?_
      | (with_reducible refine canD_mk ?_ ?_ ?_ ?_ ?_; (focus simp only [tmI_idem, teI_idem, tmI_neg, teI_neg, tmI_abs, teI_abs, Int.natAbs_natCast]); (focus simp only [tmI_idem, teI_idem, tmI_neg, teI_neg, tmI_abs, teI_abs, Int.natAbs_natCast]))
      | (with_reducible refine okC_fit6 ?_; (repeat' (first | (with_reducible refine Fit.mono (by with_reducible assumption) ?_; omega) | with_reducible refine Fit.neg ?_ | with_reducible refine fit_abs ?_ | (with_reducible refine fit_mul4 ?_ ?_ ?_; (focus omega)) | with_reducible refine fit_tm ?_)))
      | (with_reducible refine ln_fit6 ?_ ?_; focus (repeat' (first | (with_reducible refine Fit.mono (by with_reducible assumption) ?_; omega) | with_reducible refine Fit.neg ?_ | with_reducible refine fit_abs ?_ | (with_reducible refine fit_mul4 ?_ ?_ ?_; (focus omega)) | with_reducible refine fit_tm ?_)))
      | (with_reducible refine near_mk ?_ ?_; (focus omega); (focus omega))
      | with_reducible exact okC_fit6 ((hfg _ _).mono (by decide))
      | with_reducible exact (hfg _ _).mono (by decide)
      | (with_reducible refine canD_mk (tm_gm _ _ _ _) (te_gm _ _ _ _) ((hfg _ _).mono (by decide)) ?_ ?_)
      | with_reducible exact fit_if01
      | exact (hge _).1 | exact (hge _).2
      | omega
      | ((repeat' (first | (with_reducible refine Fit.mono (by with_reducible assumption) ?_; omega) | with_reducible refine Fit.neg ?_ | with_reducible refine fit_abs ?_ | (with_reducible refine fit_mul4 ?_ ?_ ?_; (focus omega)) | with_reducible refine fit_tm ?_)); done)
      | with_reducible refine And.intro ?_ ?_))
    all_goals exact hQ
  · have hfx : (n ≤ 20 ∧ -2000 ≤ e ∧ e ≤ 2000) := h1
    have hc : okC n cs := hw (by omega)
    have fX : Fit (vI s cs) 640 := (okC_fit hc s).mono (by omega)
    have gX : Fit (tmI (vI s cs)) 640 := fX.le (tmI_le _)
    have bX : -2000 ≤ teI (vI s cs) e ∧ teI (vI s cs) e ≤ 2640 := te_few fX h1.2.1 h1.2.2
    have hst := stepI_in (p := b + 1) fX h1.2.1 h1.2.2
    have hge := fun md => ge_inc (e := e) (E := stepI (vI s cs) e (b + 1)) (mode := md) (a := -6000) (b := 2641) (c := 3282) fX (by omega) (by omega) (by omega) (by omega) (by omega) (by omega) (by decide)
    have hg0 := hge 0
    have hg1 := hge 1
    have hg2 := hge 2
    have hfg := fun E md => fit_gm (m := vI s cs) (e := e) (E := E) (mode := md) fX
    have hb1 : IntKind.i64.wrap b = b := wrap_in (by omega) (by omega)
    have hb2 : IntKind.i64.wrap (b + 1) = b + 1 := wrap_in (by omega) (by omega)
    have htb := topI_in fX h1.2.1 h1.2.2
    have fL := (hfg (stepI (vI s cs) e (b + 1)) 0).mono (show 641 ≤ 700 by decide)
    have fH := (hfg (stepI (vI s cs) e (b + 1)) 1).mono (show 641 ≤ 700 by decide)
    have fD : Fit (addM (vI s cs) e (-(gm (vI s cs) e (stepI (vI s cs) e (b + 1)) 0)) (ge (vI s cs) e (stepI (vI s cs) e (b + 1)) 0)) 9702 := (Fit.add (fX.shl (m := 9701) (by omega)) (fL.neg.shl (m := 9701) (by omega)) (by omega) (by omega))
    have gD : Fit (tmI (addM (vI s cs) e (-(gm (vI s cs) e (stepI (vI s cs) e (b + 1)) 0)) (ge (vI s cs) e (stepI (vI s cs) e (b + 1)) 0))) 9702 := fD.le (tmI_le _)
    have bD := te_in (e := (min e (ge (vI s cs) e (stepI (vI s cs) e (b + 1)) 0))) (a := -6000) (b := 3400) (c := 13102) fD (by omega) (by omega) (by omega) (by omega) (by decide)
    have fE : Fit (addM (gm (vI s cs) e (stepI (vI s cs) e (b + 1)) 1) (ge (vI s cs) e (stepI (vI s cs) e (b + 1)) 1) (-(vI s cs)) e) 9702 := (Fit.add (fH.shl (m := 9701) (by omega)) (fX.neg.shl (m := 9701) (by omega)) (by omega) (by omega))
    have gE : Fit (tmI (addM (gm (vI s cs) e (stepI (vI s cs) e (b + 1)) 1) (ge (vI s cs) e (stepI (vI s cs) e (b + 1)) 1) (-(vI s cs)) e)) 9702 := fE.le (tmI_le _)
    have bE := te_in (e := (min (ge (vI s cs) e (stepI (vI s cs) e (b + 1)) 1) e)) (a := -6000) (b := 3400) (c := 13102) fE (by omega) (by omega) (by omega) (by omega) (by decide)
    have r8 := fits_gm (m := vI s cs) (e := e) (p := b + 1) 0 (by omega) (by omega) (by omega) (by omega)
    have r9 := fits_gm (m := vI s cs) (e := e) (p := b + 1) 1 (by omega) (by omega) (by omega) (by omega)
    cbv
    repeat' (first | with_reducible refine And.intro ?_ ?_ | (with_reducible refine safe_lift hA ?_; kernel_rfl) | (intro hc_; (first | (with_reducible exfalso; clear hQ; subst hF hA; simp only [fnOf, find, std, reduceIte, Nat.reduceEqDiff, sp1, sp2, a1, a2, FnSpec.out, Shape.build, leafs, leafCells, tups, oneOf, List.cons_append, List.nil_append, List.length_cons, List.length_nil, s_RoundSides, s_known5, s_few5, s_oTo, s_oUlp, s_dSub, s_dSign, s_dCmp, s_dSame, s_oFits, dm_raw, dm_N0, dz, dx, dcn, dMof, tmI_idem, teI_idem, tmI_addL, teI_addL, tmI_addR, teI_addR, tmI_addN, teI_addN, tmI_mulL, teI_mulL, tmI_mulR, teI_mulR, tmI_neg, teI_neg, tmI_abs, teI_abs, Int.natAbs_natCast, teI_scale, topI_nrm, cmpD_nrm, sg_tmI, sameI_N0, beq_dec, clamp30e, min_if, clamp30b, clamp30c, vI_N0, Int.natAbs_neg, sg_eq, and_self, and_true, true_and, gm_nrm, ge_nrm, stepI_nrm, tm_gm, te_gm, tmI_eq0, Int.reduceLT, Int.reduceLE, Int.reduceNeg, Int.reduceEq, reduceIte, sub_cmp, cmpD_nrmL, cmpD_nrmR, cmpD_self, Int.reduceBEq, eq_self, Bool.not_eq_eq_eq_not, decide_eq_true_eq, decide_eq_false_iff_not, not_true_eq_false, not_false_eq_true, decide_true, decide_false, Bool.true_and, Bool.and_true, Bool.not_true, Bool.not_false, beq_self_eq_true, Bool.true_eq_false, Bool.false_eq_true, reduceCtorEq, s_few, hfx, hb1, hb2, r1, r2, r5, r6, r7, r11, r8, r9, r10, hX0, r3, r4] at hc_; done) | (clear hc_; cbv))))
    all_goals subst hF hA
    all_goals (try simp only [fnOf, find, std, reduceIte, Nat.reduceEqDiff, sp1, sp2, a1, a2, FnSpec.out, Shape.build, leafs, leafCells, tups, oneOf, List.cons_append, List.nil_append, List.length_cons, List.length_nil, s_RoundSides, s_known5, s_few5, s_oTo, s_oUlp, s_dSub, s_dSign, s_dCmp, s_dSame, s_oFits, dm_raw, dm_N0, dz, dx, dcn, dMof, tmI_idem, teI_idem, tmI_addL, teI_addL, tmI_addR, teI_addR, tmI_addN, teI_addN, tmI_mulL, teI_mulL, tmI_mulR, teI_mulR, tmI_neg, teI_neg, tmI_abs, teI_abs, Int.natAbs_natCast, teI_scale, topI_nrm, cmpD_nrm, sg_tmI, sameI_N0, beq_dec, clamp30e, min_if, clamp30b, clamp30c, vI_N0, Int.natAbs_neg, sg_eq, and_self, and_true, true_and, gm_nrm, ge_nrm, stepI_nrm, tm_gm, te_gm, tmI_eq0, Int.reduceLT, Int.reduceLE, Int.reduceNeg, Int.reduceEq, reduceIte, sub_cmp, cmpD_nrmL, cmpD_nrmR, cmpD_self, Int.reduceBEq, s_few, hfx, hb1, hb2, r1, r2, r5, r6, r7, r11, r8, r9, r10, hX0, r3, r4] at hQ ⊢)
    all_goals (repeat' (first
      | with_reducible exact hQ
      | with_reducible exact Post.b hQ (beq_self_eq_true _).symm
      | with_reducible exact isi_int _ _
      | with_reducible exact fit_0
      | with_reducible exact fit_1
      | with_reducible assumption
      | with_reducible refine okI_mk ?_
      | with_reducible refine okW_mk ?_ ?_ ?_
      | with_reducible refine okE_mk ?_
      | with_reducible refine okD_mk ?_ ?_ ?_
      | (with_reducible refine canD_mk ?_ ?_ ?_ ?_ ?_; (focus simp only [tmI_idem, teI_idem, tmI_neg, teI_neg, tmI_abs, teI_abs, Int.natAbs_natCast]); (focus simp only [tmI_idem, teI_idem, tmI_neg, teI_neg, tmI_abs, teI_abs, Int.natAbs_natCast]))
      | (with_reducible refine okC_fit6 ?_; (repeat' (first | (with_reducible refine Fit.mono (by with_reducible assumption) ?_; omega) | with_reducible refine Fit.neg ?_ | with_reducible refine fit_abs ?_ | (with_reducible refine fit_mul4 ?_ ?_ ?_; (focus omega)) | with_reducible refine fit_tm ?_)))
      | (with_reducible refine ln_fit6 ?_ ?_; focus (repeat' (first | (with_reducible refine Fit.mono (by with_reducible assumption) ?_; omega) | with_reducible refine Fit.neg ?_ | with_reducible refine fit_abs ?_ | (with_reducible refine fit_mul4 ?_ ?_ ?_; (focus omega)) | with_reducible refine fit_tm ?_)))
      | (with_reducible refine near_mk ?_ ?_; (focus omega); (focus omega))
      | with_reducible exact okC_fit6 ((hfg _ _).mono (by decide))
      | with_reducible exact (hfg _ _).mono (by decide)
      | (with_reducible refine canD_mk (tm_gm _ _ _ _) (te_gm _ _ _ _) ((hfg _ _).mono (by decide)) ?_ ?_)
      | with_reducible exact fit_if01
      | exact (hge _).1 | exact (hge _).2
      | omega
      | ((repeat' (first | (with_reducible refine Fit.mono (by with_reducible assumption) ?_; omega) | with_reducible refine Fit.neg ?_ | with_reducible refine fit_abs ?_ | (with_reducible refine fit_mul4 ?_ ?_ ?_; (focus omega)) | with_reducible refine fit_tm ?_)); done)
      | with_reducible refine And.intro ?_ ?_))
    all_goals exact hQ
  · have hfx : (n ≤ 20 ∧ -2000 ≤ e ∧ e ≤ 2000) := h1
    have hc : okC n cs := hw (by omega)
    have fX : Fit (vI s cs) 640 := (okC_fit hc s).mono (by omega)
    have gX : Fit (tmI (vI s cs)) 640 := fX.le (tmI_le _)
    have bX : -2000 ≤ teI (vI s cs) e ∧ teI (vI s cs) e ≤ 2640 := te_few fX h1.2.1 h1.2.2
    have hst := stepI_in (p := b + 1) fX h1.2.1 h1.2.2
    have hge := fun md => ge_inc (e := e) (E := stepI (vI s cs) e (b + 1)) (mode := md) (a := -6000) (b := 2641) (c := 3282) fX (by omega) (by omega) (by omega) (by omega) (by omega) (by omega) (by decide)
    have hg0 := hge 0
    have hg1 := hge 1
    have hg2 := hge 2
    have hfg := fun E md => fit_gm (m := vI s cs) (e := e) (E := E) (mode := md) fX
    have hb1 : IntKind.i64.wrap b = b := wrap_in (by omega) (by omega)
    have hb2 : IntKind.i64.wrap (b + 1) = b + 1 := wrap_in (by omega) (by omega)
    have htb := topI_in fX h1.2.1 h1.2.2
    have fL := (hfg (stepI (vI s cs) e (b + 1)) 0).mono (show 641 ≤ 700 by decide)
    have fH := (hfg (stepI (vI s cs) e (b + 1)) 1).mono (show 641 ≤ 700 by decide)
    have fD : Fit (addM (vI s cs) e (-(gm (vI s cs) e (stepI (vI s cs) e (b + 1)) 0)) (ge (vI s cs) e (stepI (vI s cs) e (b + 1)) 0)) 9702 := (Fit.add (fX.shl (m := 9701) (by omega)) (fL.neg.shl (m := 9701) (by omega)) (by omega) (by omega))
    have gD : Fit (tmI (addM (vI s cs) e (-(gm (vI s cs) e (stepI (vI s cs) e (b + 1)) 0)) (ge (vI s cs) e (stepI (vI s cs) e (b + 1)) 0))) 9702 := fD.le (tmI_le _)
    have bD := te_in (e := (min e (ge (vI s cs) e (stepI (vI s cs) e (b + 1)) 0))) (a := -6000) (b := 3400) (c := 13102) fD (by omega) (by omega) (by omega) (by omega) (by decide)
    have fE : Fit (addM (gm (vI s cs) e (stepI (vI s cs) e (b + 1)) 1) (ge (vI s cs) e (stepI (vI s cs) e (b + 1)) 1) (-(vI s cs)) e) 9702 := (Fit.add (fH.shl (m := 9701) (by omega)) (fX.neg.shl (m := 9701) (by omega)) (by omega) (by omega))
    have gE : Fit (tmI (addM (gm (vI s cs) e (stepI (vI s cs) e (b + 1)) 1) (ge (vI s cs) e (stepI (vI s cs) e (b + 1)) 1) (-(vI s cs)) e)) 9702 := fE.le (tmI_le _)
    have bE := te_in (e := (min (ge (vI s cs) e (stepI (vI s cs) e (b + 1)) 1) e)) (a := -6000) (b := 3400) (c := 13102) fE (by omega) (by omega) (by omega) (by omega) (by decide)
    have r8 := fits_gm (m := vI s cs) (e := e) (p := b + 1) 0 (by omega) (by omega) (by omega) (by omega)
    have r9 := fits_gm (m := vI s cs) (e := e) (p := b + 1) 1 (by omega) (by omega) (by omega) (by omega)
    cbv
    repeat' (first | with_reducible refine And.intro ?_ ?_ | (with_reducible refine safe_lift hA ?_; kernel_rfl) | (intro hc_; (first | (with_reducible exfalso; clear hQ; subst hF hA; simp only [fnOf, find, std, reduceIte, Nat.reduceEqDiff, sp1, sp2, a1, a2, FnSpec.out, Shape.build, leafs, leafCells, tups, oneOf, List.cons_append, List.nil_append, List.length_cons, List.length_nil, s_RoundSides, s_known5, s_few5, s_oTo, s_oUlp, s_dSub, s_dSign, s_dCmp, s_dSame, s_oFits, dm_raw, dm_N0, dz, dx, dcn, dMof, tmI_idem, teI_idem, tmI_addL, teI_addL, tmI_addR, teI_addR, tmI_addN, teI_addN, tmI_mulL, teI_mulL, tmI_mulR, teI_mulR, tmI_neg, teI_neg, tmI_abs, teI_abs, Int.natAbs_natCast, teI_scale, topI_nrm, cmpD_nrm, sg_tmI, sameI_N0, beq_dec, clamp30e, min_if, clamp30b, clamp30c, vI_N0, Int.natAbs_neg, sg_eq, and_self, and_true, true_and, gm_nrm, ge_nrm, stepI_nrm, tm_gm, te_gm, tmI_eq0, Int.reduceLT, Int.reduceLE, Int.reduceNeg, Int.reduceEq, reduceIte, sub_cmp, cmpD_nrmL, cmpD_nrmR, cmpD_self, Int.reduceBEq, eq_self, Bool.not_eq_eq_eq_not, decide_eq_true_eq, decide_eq_false_iff_not, not_true_eq_false, not_false_eq_true, decide_true, decide_false, Bool.true_and, Bool.and_true, Bool.not_true, Bool.not_false, beq_self_eq_true, Bool.true_eq_false, Bool.false_eq_true, reduceCtorEq, s_few, hfx, hb1, hb2, r1, r2, r5, r6, r7, r11, r8, r9, r10, hX0, r3, r4] at hc_; done) | (clear hc_; cbv))))
    all_goals subst hF hA
    all_goals (try simp only [fnOf, find, std, reduceIte, Nat.reduceEqDiff, sp1, sp2, a1, a2, FnSpec.out, Shape.build, leafs, leafCells, tups, oneOf, List.cons_append, List.nil_append, List.length_cons, List.length_nil, s_RoundSides, s_known5, s_few5, s_oTo, s_oUlp, s_dSub, s_dSign, s_dCmp, s_dSame, s_oFits, dm_raw, dm_N0, dz, dx, dcn, dMof, tmI_idem, teI_idem, tmI_addL, teI_addL, tmI_addR, teI_addR, tmI_addN, teI_addN, tmI_mulL, teI_mulL, tmI_mulR, teI_mulR, tmI_neg, teI_neg, tmI_abs, teI_abs, Int.natAbs_natCast, teI_scale, topI_nrm, cmpD_nrm, sg_tmI, sameI_N0, beq_dec, clamp30e, min_if, clamp30b, clamp30c, vI_N0, Int.natAbs_neg, sg_eq, and_self, and_true, true_and, gm_nrm, ge_nrm, stepI_nrm, tm_gm, te_gm, tmI_eq0, Int.reduceLT, Int.reduceLE, Int.reduceNeg, Int.reduceEq, reduceIte, sub_cmp, cmpD_nrmL, cmpD_nrmR, cmpD_self, Int.reduceBEq, s_few, hfx, hb1, hb2, r1, r2, r5, r6, r7, r11, r8, r9, r10, hX0, r3, r4] at hQ ⊢)
    all_goals (repeat' (first
      | with_reducible exact hQ
      | with_reducible exact Post.b hQ (beq_self_eq_true _).symm
      | with_reducible exact isi_int _ _
      | with_reducible exact fit_0
      | with_reducible exact fit_1
      | with_reducible assumption
      | with_reducible refine okI_mk ?_
      | with_reducible refine okW_mk ?_ ?_ ?_
      | with_reducible refine okE_mk ?_
      | with_reducible refine okD_mk ?_ ?_ ?_
      | (with_reducible refine canD_mk ?_ ?_ ?_ ?_ ?_; (focus simp only [tmI_idem, teI_idem, tmI_neg, teI_neg, tmI_abs, teI_abs, Int.natAbs_natCast]); (focus simp only [tmI_idem, teI_idem, tmI_neg, teI_neg, tmI_abs, teI_abs, Int.natAbs_natCast]))
      | (with_reducible refine okC_fit6 ?_; (repeat' (first | (with_reducible refine Fit.mono (by with_reducible assumption) ?_; omega) | with_reducible refine Fit.neg ?_ | with_reducible refine fit_abs ?_ | (with_reducible refine fit_mul4 ?_ ?_ ?_; (focus omega)) | with_reducible refine fit_tm ?_)))
      | (with_reducible refine ln_fit6 ?_ ?_; focus (repeat' (first | (with_reducible refine Fit.mono (by with_reducible assumption) ?_; omega) | with_reducible refine Fit.neg ?_ | with_reducible refine fit_abs ?_ | (with_reducible refine fit_mul4 ?_ ?_ ?_; (focus omega)) | with_reducible refine fit_tm ?_)))
      | (with_reducible refine near_mk ?_ ?_; (focus omega); (focus omega))
      | with_reducible exact okC_fit6 ((hfg _ _).mono (by decide))
      | with_reducible exact (hfg _ _).mono (by decide)
      | (with_reducible refine canD_mk (tm_gm _ _ _ _) (te_gm _ _ _ _) ((hfg _ _).mono (by decide)) ?_ ?_)
      | with_reducible exact fit_if01
      | exact (hge _).1 | exact (hge _).2
      | omega
      | ((repeat' (first | (with_reducible refine Fit.mono (by with_reducible assumption) ?_; omega) | with_reducible refine Fit.neg ?_ | with_reducible refine fit_abs ?_ | (with_reducible refine fit_mul4 ?_ ?_ ?_; (focus omega)) | with_reducible refine fit_tm ?_)); done)
      | with_reducible refine And.intro ?_ ?_))
    all_goals exact hQ
end Go.Proofs.YtkijhcflomjdbaaDoor.Ev
