/- A law of rounding: RoundGrid. -/
import Derived.Test.YtkijhcflomjdbaaDoorEv5h
namespace Go.Proofs.YtkijhcflomjdbaaDoor.Ev
open Go Go.RowKit
set_option linter.unusedSimpArgs false
set_option linter.unusedVariables false
set_option maxRecDepth 100000 in
set_option maxHeartbeats 16000000 in
theorem good_RoundGrid : Good Tryd.prog GWR N0 6 s_RoundGrid := by
  refine goodR (tab := [(12, s_known5), (13, s_few5), (18, s_oGrid), (23, s_dSub), (31, s_qOf), (30, s_qScale), (25, s_dCmp), (24, s_dSign), (26, s_dSame)]) (shs := [(12, .one .b), (13, .one .b), (18, .agg [.I, .i .i64]), (23, .agg [.I, .i .i64]), (31, .agg [.I, .i .i64]), (30, .agg [.I, .i .i64]), (25, .one (.i .i64)), (24, .one (.i .i64)), (26, .one .b)]) rfl ⟨good_known5, (good_few5.mono fun _ h => h.base), good_oGrid, (good_dSub.mono fun _ h => h.base), (good_qOf.mono fun _ h => h.base), (good_qScale.mono fun _ h => h.base), (good_dCmp.mono fun _ h => h.base), (good_dSign.mono fun _ h => h.base), (good_dSame.mono fun _ h => h.base), trivial⟩ Tryd.f6 (by kernel_rfl) (by kernel_rfl) (by kernel_rfl) (fun ds hp F A Q hF hA hQ => ⟨0, ?_⟩)
  obtain ⟨x, k, b, rfl, hx, ⟨hkk1, hkk2⟩, hbb1, hbb2⟩ := grid5_arg hp
  obtain ⟨s, n, cs, e, rfl, hw, hr1, hr2⟩ := okW_arg hx
  clear hp hx
  rcases grid_all (few := n ≤ 20 ∧ -2000 ≤ e ∧ e ≤ 2000) (X := vI s cs) (e := e) (K := k) with h1 | ⟨h1, r5, r1, r2, r3⟩ | ⟨h1, r5, r1, r2, r3⟩ | ⟨h1, r5, r1, r2, r3, r4⟩ | ⟨h1, r5, r1, r2, r3, r4⟩
  · have hfx : ¬(n ≤ 20 ∧ -2000 ≤ e ∧ e ≤ 2000) := h1
    cbv
    repeat' (first | with_reducible refine And.intro ?_ ?_ | (with_reducible refine safe_lift hA ?_; kernel_rfl) | (intro hc_; (first | (with_reducible exfalso; clear hQ; subst hF hA; simp only [fnOf, find, std, reduceIte, Nat.reduceEqDiff, sp1, sp2, a1, a2, FnSpec.out, Shape.build, leafs, leafCells, tups, oneOf, List.cons_append, List.nil_append, List.length_cons, List.length_nil, s_RoundGrid, s_known5, s_few5, s_oGrid, s_dSub, s_qOf, s_qScale, s_dCmp, s_dSign, s_dSame, dm_raw, dm_N0, dz, dx, dcn, dMof, tmI_idem, teI_idem, tmI_addL, teI_addL, tmI_addR, teI_addR, tmI_addN, teI_addN, tmI_mulL, teI_mulL, tmI_mulR, teI_mulR, tmI_neg, teI_neg, tmI_abs, teI_abs, Int.natAbs_natCast, teI_scale, topI_nrm, cmpD_nrm, sg_tmI, sameI_N0, beq_dec, clamp30e, min_if, clamp30b, clamp30c, vI_N0, Int.natAbs_neg, sg_eq, and_self, and_true, true_and, gm_nrm, ge_nrm, stepI_nrm, tm_gm, te_gm, tmI_eq0, Int.zero_add, k1, k1e, sub_cmp, cmp_teR, cmpD_nrmL, cmpD_nrmR, cmpD_self, Int.reduceLE, Int.reduceLT, Int.reduceNeg, Int.reduceEq, Int.reduceBEq, sg_beq, reduceIte, eq_self, Bool.not_eq_eq_eq_not, decide_eq_true_eq, decide_eq_false_iff_not, not_true_eq_false, not_false_eq_true, decide_true, decide_false, Bool.true_and, Bool.and_true, Bool.not_true, Bool.not_false, beq_self_eq_true, Bool.true_eq_false, Bool.false_eq_true, reduceCtorEq, s_few, hfx] at hc_; done) | (clear hc_; cbv))))
    all_goals subst hF hA
    all_goals (try simp only [fnOf, find, std, reduceIte, Nat.reduceEqDiff, sp1, sp2, a1, a2, FnSpec.out, Shape.build, leafs, leafCells, tups, oneOf, List.cons_append, List.nil_append, List.length_cons, List.length_nil, s_RoundGrid, s_known5, s_few5, s_oGrid, s_dSub, s_qOf, s_qScale, s_dCmp, s_dSign, s_dSame, dm_raw, dm_N0, dz, dx, dcn, dMof, tmI_idem, teI_idem, tmI_addL, teI_addL, tmI_addR, teI_addR, tmI_addN, teI_addN, tmI_mulL, teI_mulL, tmI_mulR, teI_mulR, tmI_neg, teI_neg, tmI_abs, teI_abs, Int.natAbs_natCast, teI_scale, topI_nrm, cmpD_nrm, sg_tmI, sameI_N0, beq_dec, clamp30e, min_if, clamp30b, clamp30c, vI_N0, Int.natAbs_neg, sg_eq, and_self, and_true, true_and, gm_nrm, ge_nrm, stepI_nrm, tm_gm, te_gm, tmI_eq0, Int.zero_add, k1, k1e, sub_cmp, cmp_teR, cmpD_nrmL, cmpD_nrmR, cmpD_self, Int.reduceLE, Int.reduceLT, Int.reduceNeg, Int.reduceEq, Int.reduceBEq, sg_beq, reduceIte, s_few, hfx] at hQ ⊢)
    all_goals (repeat' (first
      | with_reducible exact hQ
      | with_reducible exact Post.b hQ (beq_self_eq_true _).symm
      | with_reducible exact isi_int _ _
      | with_reducible exact fit_0
      | with_reducible exact fit_1
      | with_reducible assumption
      | with_reducible refine okI_mk ?_
      | with_reducible refine okW_mk ?_ ?_ ?_
      | with_reducible refine okE_mk ?_
      | with_reducible refine okD_mk ?_ ?_ ?_
      | (with_reducible refine canD_mk ?_ ?_ ?_ ?_ ?_; (focus simp only [tmI_idem, teI_idem, tmI_neg, teI_neg, tmI_abs, teI_abs, Int.natAbs_natCast]); (focus simp only [tmI_idem, teI_idem, tmI_neg, teI_neg, tmI_abs, teI_abs, Int.natAbs_natCast]))
      | (with_reducible refine okC_fit6 ?_; (repeat' (first | (with_reducible refine Fit.mono (by with_reducible assumption) ?_; omega) | with_reducible refine Fit.neg ?_ | with_reducible refine fit_abs ?_ | (with_reducible refine fit_mul4 ?_ ?_ ?_; (focus omega)) | with_reducible refine fit_tm ?_)))
      | (with_reducible refine ln_fit6 ?_ ?_; focus (repeat' (first | (with_reducible refine Fit.mono (by with_reducible assumption) ?_; omega) | with_reducible refine Fit.neg ?_ | with_reducible refine fit_abs ?_ | (with_reducible refine fit_mul4 ?_ ?_ ?_; (focus omega)) | with_reducible refine fit_tm ?_)))
      | (with_reducible refine near_mk ?_ ?_; (focus omega); (focus omega))
      | omega
      | ((repeat' (first | (with_reducible refine Fit.mono (by with_reducible assumption) ?_; omega) | with_reducible refine Fit.neg ?_ | with_reducible refine fit_abs ?_ | (with_reducible refine fit_mul4 ?_ ?_ ?_; (focus omega)) | with_reducible refine fit_tm ?_)); done)
      | with_reducible refine And.intro ?_ ?_))
    all_goals exact hQ
  · have hfx : (n ≤ 20 ∧ -2000 ≤ e ∧ e ≤ 2000) := h1
    have hc : okC n cs := hw (by omega)
    have fX : Fit (vI s cs) 640 := (okC_fit hc s).mono (by omega)
    have gX : Fit (tmI (vI s cs)) 640 := fX.le (tmI_le _)
    have bX : -2000 ≤ teI (vI s cs) e ∧ teI (vI s cs) e ≤ 2640 := te_few fX h1.2.1 h1.2.2
    have hk0 : IntKind.i64.wrap k = k := wrap_in (by omega) (by omega)
    have hb0 : IntKind.i64.wrap b = b := wrap_in (by omega) (by omega)
    have hb1 : IntKind.i64.wrap (k - b) = k - b := wrap_in (by omega) (by omega)
    have hk1 : min (max k (-20000)) 20000 = k := by omega
    have hk2 : clampE k = k := hk1
    have hk3 : clampE (k - b) = k - b := by unfold clampE; omega
    have hge := fun E md (h1 : -6000 ≤ E) (h2 : E ≤ 2641) => ge_inc (e := e) (E := E) (mode := md) (a := -6000) (b := 2641) (c := 3282) fX (by omega) (by omega) h1 h2 (by omega) (by omega) (by decide)
    have hg0 := hge k 0 (by omega) (by omega)
    have hg1 := hge k 1 (by omega) (by omega)
    have hg2 := hge (k - b) 0 (by omega) (by omega)
    have hfg := fun e E md => fit_gm (m := vI s cs) (e := e) (E := E) (mode := md) fX
    have fL := (hfg e k 0).mono (show 641 ≤ 700 by decide)
    have fH := (hfg e k 1).mono (show 641 ≤ 700 by decide)
    have fE : Fit (addM (gm (vI s cs) e k 1) (ge (vI s cs) e k 1) (-(gm (vI s cs) e k 0)) (ge (vI s cs) e k 0)) 10202 := (Fit.add (fH.shl (m := 10201) (by omega)) (fL.neg.shl (m := 10201) (by omega)) (by omega) (by omega))
    have gE : Fit (tmI (addM (gm (vI s cs) e k 1) (ge (vI s cs) e k 1) (-(gm (vI s cs) e k 0)) (ge (vI s cs) e k 0))) 10202 := fE.le (tmI_le _)
    have bE := te_in (e := (min (ge (vI s cs) e k 1) (ge (vI s cs) e k 0))) (a := -6000) (b := 3400) (c := 13602) fE (by omega) (by omega) (by omega) (by omega) (by decide)
    have r8 := (grid_fine (X := vI s cs) (e := e) (show k - b ≤ k by omega)).1
    have r9 := (grid_fine (X := vI s cs) (e := e) (show k - b ≤ k by omega)).2
    have bO : teI 1 k = k := k1e k
    have r5t : (gm (vI s cs) e k 0 = 0) = True := eq_true r5
    cbv
    repeat' (first | with_reducible refine And.intro ?_ ?_ | (with_reducible refine safe_lift hA ?_; kernel_rfl) | (intro hc_; (first | (with_reducible exfalso; clear hQ; subst hF hA; simp only [fnOf, find, std, reduceIte, Nat.reduceEqDiff, sp1, sp2, a1, a2, FnSpec.out, Shape.build, leafs, leafCells, tups, oneOf, List.cons_append, List.nil_append, List.length_cons, List.length_nil, s_RoundGrid, s_known5, s_few5, s_oGrid, s_dSub, s_qOf, s_qScale, s_dCmp, s_dSign, s_dSame, dm_raw, dm_N0, dz, dx, dcn, dMof, tmI_idem, teI_idem, tmI_addL, teI_addL, tmI_addR, teI_addR, tmI_addN, teI_addN, tmI_mulL, teI_mulL, tmI_mulR, teI_mulR, tmI_neg, teI_neg, tmI_abs, teI_abs, Int.natAbs_natCast, teI_scale, topI_nrm, cmpD_nrm, sg_tmI, sameI_N0, beq_dec, clamp30e, min_if, clamp30b, clamp30c, vI_N0, Int.natAbs_neg, sg_eq, and_self, and_true, true_and, gm_nrm, ge_nrm, stepI_nrm, tm_gm, te_gm, tmI_eq0, Int.zero_add, k1, k1e, sub_cmp, cmp_teR, cmpD_nrmL, cmpD_nrmR, cmpD_self, Int.reduceLE, Int.reduceLT, Int.reduceNeg, Int.reduceEq, Int.reduceBEq, sg_beq, reduceIte, eq_self, Bool.not_eq_eq_eq_not, decide_eq_true_eq, decide_eq_false_iff_not, not_true_eq_false, not_false_eq_true, decide_true, decide_false, Bool.true_and, Bool.and_true, Bool.not_true, Bool.not_false, beq_self_eq_true, Bool.true_eq_false, Bool.false_eq_true, reduceCtorEq, s_few, hfx, hk0, hb0, hb1, hk1, hk2, hk3, r8, r9, r1, r2, r3, r5t] at hc_; done) | (clear hc_; cbv))))
    all_goals subst hF hA
    all_goals (try simp only [fnOf, find, std, reduceIte, Nat.reduceEqDiff, sp1, sp2, a1, a2, FnSpec.out, Shape.build, leafs, leafCells, tups, oneOf, List.cons_append, List.nil_append, List.length_cons, List.length_nil, s_RoundGrid, s_known5, s_few5, s_oGrid, s_dSub, s_qOf, s_qScale, s_dCmp, s_dSign, s_dSame, dm_raw, dm_N0, dz, dx, dcn, dMof, tmI_idem, teI_idem, tmI_addL, teI_addL, tmI_addR, teI_addR, tmI_addN, teI_addN, tmI_mulL, teI_mulL, tmI_mulR, teI_mulR, tmI_neg, teI_neg, tmI_abs, teI_abs, Int.natAbs_natCast, teI_scale, topI_nrm, cmpD_nrm, sg_tmI, sameI_N0, beq_dec, clamp30e, min_if, clamp30b, clamp30c, vI_N0, Int.natAbs_neg, sg_eq, and_self, and_true, true_and, gm_nrm, ge_nrm, stepI_nrm, tm_gm, te_gm, tmI_eq0, Int.zero_add, k1, k1e, sub_cmp, cmp_teR, cmpD_nrmL, cmpD_nrmR, cmpD_self, Int.reduceLE, Int.reduceLT, Int.reduceNeg, Int.reduceEq, Int.reduceBEq, sg_beq, reduceIte, s_few, hfx, hk0, hb0, hb1, hk1, hk2, hk3, r8, r9, r1, r2, r3, r5t] at hQ ⊢)
    all_goals (repeat' (first
      | with_reducible exact hQ
      | with_reducible exact Post.b hQ (beq_self_eq_true _).symm
      | with_reducible exact isi_int _ _
      | with_reducible exact fit_0
      | with_reducible exact fit_1
      | with_reducible assumption
      | with_reducible refine okI_mk ?_
      | with_reducible refine okW_mk ?_ ?_ ?_
      | with_reducible refine okE_mk ?_
      | with_reducible refine okD_mk ?_ ?_ ?_
      | (with_reducible refine canD_mk ?_ ?_ ?_ ?_ ?_; (focus simp only [tmI_idem, teI_idem, tmI_neg, teI_neg, tmI_abs, teI_abs, Int.natAbs_natCast]); (focus simp only [tmI_idem, teI_idem, tmI_neg, teI_neg, tmI_abs, teI_abs, Int.natAbs_natCast]))
      | (with_reducible refine okC_fit6 ?_; (repeat' (first | (with_reducible refine Fit.mono (by with_reducible assumption) ?_; omega) | with_reducible refine Fit.neg ?_ | with_reducible refine fit_abs ?_ | (with_reducible refine fit_mul4 ?_ ?_ ?_; (focus omega)) | with_reducible refine fit_tm ?_)))
      | (with_reducible refine ln_fit6 ?_ ?_; focus (repeat' (first | (with_reducible refine Fit.mono (by with_reducible assumption) ?_; omega) | with_reducible refine Fit.neg ?_ | with_reducible refine fit_abs ?_ | (with_reducible refine fit_mul4 ?_ ?_ ?_; (focus omega)) | with_reducible refine fit_tm ?_)))
      | (with_reducible refine near_mk ?_ ?_; (focus omega); (focus omega))
      | with_reducible exact okC_fit6 ((hfg _ _ _).mono (by decide))
      | with_reducible exact (hfg _ _ _).mono (by decide)
      | (with_reducible refine canD_mk (tm_gm _ _ _ _) (te_gm _ _ _ _) ((hfg _ _ _).mono (by decide)) ?_ ?_)
      | with_reducible exact canD_mk k1 (k1e 0) fit_1 (by decide) (by decide)
      | omega
      | ((repeat' (first | (with_reducible refine Fit.mono (by with_reducible assumption) ?_; omega) | with_reducible refine Fit.neg ?_ | with_reducible refine fit_abs ?_ | (with_reducible refine fit_mul4 ?_ ?_ ?_; (focus omega)) | with_reducible refine fit_tm ?_)); done)
      | with_reducible refine And.intro ?_ ?_))
    all_goals exact hQ
  · have hfx : (n ≤ 20 ∧ -2000 ≤ e ∧ e ≤ 2000) := h1
    have hc : okC n cs := hw (by omega)
    have fX : Fit (vI s cs) 640 := (okC_fit hc s).mono (by omega)
    have gX : Fit (tmI (vI s cs)) 640 := fX.le (tmI_le _)
    have bX : -2000 ≤ teI (vI s cs) e ∧ teI (vI s cs) e ≤ 2640 := te_few fX h1.2.1 h1.2.2
    have hk0 : IntKind.i64.wrap k = k := wrap_in (by omega) (by omega)
    have hb0 : IntKind.i64.wrap b = b := wrap_in (by omega) (by omega)
    have hb1 : IntKind.i64.wrap (k - b) = k - b := wrap_in (by omega) (by omega)
    have hk1 : min (max k (-20000)) 20000 = k := by omega
    have hk2 : clampE k = k := hk1
    have hk3 : clampE (k - b) = k - b := by unfold clampE; omega
    have hge := fun E md (h1 : -6000 ≤ E) (h2 : E ≤ 2641) => ge_inc (e := e) (E := E) (mode := md) (a := -6000) (b := 2641) (c := 3282) fX (by omega) (by omega) h1 h2 (by omega) (by omega) (by decide)
    have hg0 := hge k 0 (by omega) (by omega)
    have hg1 := hge k 1 (by omega) (by omega)
    have hg2 := hge (k - b) 0 (by omega) (by omega)
    have hfg := fun e E md => fit_gm (m := vI s cs) (e := e) (E := E) (mode := md) fX
    have fL := (hfg e k 0).mono (show 641 ≤ 700 by decide)
    have fH := (hfg e k 1).mono (show 641 ≤ 700 by decide)
    have fE : Fit (addM (gm (vI s cs) e k 1) (ge (vI s cs) e k 1) (-(gm (vI s cs) e k 0)) (ge (vI s cs) e k 0)) 10202 := (Fit.add (fH.shl (m := 10201) (by omega)) (fL.neg.shl (m := 10201) (by omega)) (by omega) (by omega))
    have gE : Fit (tmI (addM (gm (vI s cs) e k 1) (ge (vI s cs) e k 1) (-(gm (vI s cs) e k 0)) (ge (vI s cs) e k 0))) 10202 := fE.le (tmI_le _)
    have bE := te_in (e := (min (ge (vI s cs) e k 1) (ge (vI s cs) e k 0))) (a := -6000) (b := 3400) (c := 13602) fE (by omega) (by omega) (by omega) (by omega) (by decide)
    have r8 := (grid_fine (X := vI s cs) (e := e) (show k - b ≤ k by omega)).1
    have r9 := (grid_fine (X := vI s cs) (e := e) (show k - b ≤ k by omega)).2
    have bO : teI 1 k = k := k1e k
    have r5t : (gm (vI s cs) e k 0 = 0) = False := eq_false r5
    have r6 := ge_ge r5
    cbv
    repeat' (first | with_reducible refine And.intro ?_ ?_ | (with_reducible refine safe_lift hA ?_; kernel_rfl) | (intro hc_; (first | (with_reducible exfalso; clear hQ; subst hF hA; simp only [fnOf, find, std, reduceIte, Nat.reduceEqDiff, sp1, sp2, a1, a2, FnSpec.out, Shape.build, leafs, leafCells, tups, oneOf, List.cons_append, List.nil_append, List.length_cons, List.length_nil, s_RoundGrid, s_known5, s_few5, s_oGrid, s_dSub, s_qOf, s_qScale, s_dCmp, s_dSign, s_dSame, dm_raw, dm_N0, dz, dx, dcn, dMof, tmI_idem, teI_idem, tmI_addL, teI_addL, tmI_addR, teI_addR, tmI_addN, teI_addN, tmI_mulL, teI_mulL, tmI_mulR, teI_mulR, tmI_neg, teI_neg, tmI_abs, teI_abs, Int.natAbs_natCast, teI_scale, topI_nrm, cmpD_nrm, sg_tmI, sameI_N0, beq_dec, clamp30e, min_if, clamp30b, clamp30c, vI_N0, Int.natAbs_neg, sg_eq, and_self, and_true, true_and, gm_nrm, ge_nrm, stepI_nrm, tm_gm, te_gm, tmI_eq0, Int.zero_add, k1, k1e, sub_cmp, cmp_teR, cmpD_nrmL, cmpD_nrmR, cmpD_self, Int.reduceLE, Int.reduceLT, Int.reduceNeg, Int.reduceEq, Int.reduceBEq, sg_beq, reduceIte, eq_self, Bool.not_eq_eq_eq_not, decide_eq_true_eq, decide_eq_false_iff_not, not_true_eq_false, not_false_eq_true, decide_true, decide_false, Bool.true_and, Bool.and_true, Bool.not_true, Bool.not_false, beq_self_eq_true, Bool.true_eq_false, Bool.false_eq_true, reduceCtorEq, s_few, hfx, hk0, hb0, hb1, hk1, hk2, hk3, r8, r9, r1, r2, r3, r5t, r6] at hc_; done) | (clear hc_; cbv))))
    all_goals subst hF hA
    all_goals (try simp only [fnOf, find, std, reduceIte, Nat.reduceEqDiff, sp1, sp2, a1, a2, FnSpec.out, Shape.build, leafs, leafCells, tups, oneOf, List.cons_append, List.nil_append, List.length_cons, List.length_nil, s_RoundGrid, s_known5, s_few5, s_oGrid, s_dSub, s_qOf, s_qScale, s_dCmp, s_dSign, s_dSame, dm_raw, dm_N0, dz, dx, dcn, dMof, tmI_idem, teI_idem, tmI_addL, teI_addL, tmI_addR, teI_addR, tmI_addN, teI_addN, tmI_mulL, teI_mulL, tmI_mulR, teI_mulR, tmI_neg, teI_neg, tmI_abs, teI_abs, Int.natAbs_natCast, teI_scale, topI_nrm, cmpD_nrm, sg_tmI, sameI_N0, beq_dec, clamp30e, min_if, clamp30b, clamp30c, vI_N0, Int.natAbs_neg, sg_eq, and_self, and_true, true_and, gm_nrm, ge_nrm, stepI_nrm, tm_gm, te_gm, tmI_eq0, Int.zero_add, k1, k1e, sub_cmp, cmp_teR, cmpD_nrmL, cmpD_nrmR, cmpD_self, Int.reduceLE, Int.reduceLT, Int.reduceNeg, Int.reduceEq, Int.reduceBEq, sg_beq, reduceIte, s_few, hfx, hk0, hb0, hb1, hk1, hk2, hk3, r8, r9, r1, r2, r3, r5t, r6] at hQ ⊢)
    all_goals (repeat' (first
      | with_reducible exact hQ
      | with_reducible exact Post.b hQ (beq_self_eq_true _).symm
      | with_reducible exact isi_int _ _
      | with_reducible exact fit_0
      | with_reducible exact fit_1
      | with_reducible assumption
      | with_reducible refine okI_mk ?_
      | with_reducible refine okW_mk ?_ ?_ ?_
      | with_reducible refine okE_mk ?_
      | with_reducible refine okD_mk ?_ ?_ ?_
      | (with_reducible refine canD_mk ?_ ?_ ?_ ?_ ?_; (focus simp only [tmI_idem, teI_idem, tmI_neg, teI_neg, tmI_abs, teI_abs, Int.natAbs_natCast]); (focus simp only [tmI_idem, teI_idem, tmI_neg, teI_neg, tmI_abs, teI_abs, Int.natAbs_natCast]))
      | (with_reducible refine okC_fit6 ?_; (repeat' (first | (with_reducible refine Fit.mono (by with_reducible assumption) ?_; omega) | with_reducible refine Fit.neg ?_ | with_reducible refine fit_abs ?_ | (with_reducible refine fit_mul4 ?_ ?_ ?_; (focus omega)) | with_reducible refine fit_tm ?_)))
      | (with_reducible refine ln_fit6 ?_ ?_; focus (repeat' (first | (with_reducible refine Fit.mono (by with_reducible assumption) ?_; omega) | with_reducible refine Fit.neg ?_ | with_reducible refine fit_abs ?_ | (with_reducible refine fit_mul4 ?_ ?_ ?_; (focus omega)) | with_reducible refine fit_tm ?_)))
      | (with_reducible refine near_mk ?_ ?_; (focus omega); (focus omega))
      | with_reducible exact okC_fit6 ((hfg _ _ _).mono (by decide))
      | with_reducible exact (hfg _ _ _).mono (by decide)
      | (with_reducible refine canD_mk (tm_gm _ _ _ _) (te_gm _ _ _ _) ((hfg _ _ _).mono (by decide)) ?_ ?_)
      | with_reducible exact canD_mk k1 (k1e 0) fit_1 (by decide) (by decide)
      | omega
      | ((repeat' (first | (with_reducible refine Fit.mono (by with_reducible assumption) ?_; omega) | with_reducible refine Fit.neg ?_ | with_reducible refine fit_abs ?_ | (with_reducible refine fit_mul4 ?_ ?_ ?_; (focus omega)) | with_reducible refine fit_tm ?_)); done)
      | with_reducible refine And.intro ?_ ?_))
    all_goals exact hQ
  · have hfx : (n ≤ 20 ∧ -2000 ≤ e ∧ e ≤ 2000) := h1
    have hc : okC n cs := hw (by omega)
    have fX : Fit (vI s cs) 640 := (okC_fit hc s).mono (by omega)
    have gX : Fit (tmI (vI s cs)) 640 := fX.le (tmI_le _)
    have bX : -2000 ≤ teI (vI s cs) e ∧ teI (vI s cs) e ≤ 2640 := te_few fX h1.2.1 h1.2.2
    have hk0 : IntKind.i64.wrap k = k := wrap_in (by omega) (by omega)
    have hb0 : IntKind.i64.wrap b = b := wrap_in (by omega) (by omega)
    have hb1 : IntKind.i64.wrap (k - b) = k - b := wrap_in (by omega) (by omega)
    have hk1 : min (max k (-20000)) 20000 = k := by omega
    have hk2 : clampE k = k := hk1
    have hk3 : clampE (k - b) = k - b := by unfold clampE; omega
    have hge := fun E md (h1 : -6000 ≤ E) (h2 : E ≤ 2641) => ge_inc (e := e) (E := E) (mode := md) (a := -6000) (b := 2641) (c := 3282) fX (by omega) (by omega) h1 h2 (by omega) (by omega) (by decide)
    have hg0 := hge k 0 (by omega) (by omega)
    have hg1 := hge k 1 (by omega) (by omega)
    have hg2 := hge (k - b) 0 (by omega) (by omega)
    have hfg := fun e E md => fit_gm (m := vI s cs) (e := e) (E := E) (mode := md) fX
    have fL := (hfg e k 0).mono (show 641 ≤ 700 by decide)
    have fH := (hfg e k 1).mono (show 641 ≤ 700 by decide)
    have fE : Fit (addM (gm (vI s cs) e k 1) (ge (vI s cs) e k 1) (-(gm (vI s cs) e k 0)) (ge (vI s cs) e k 0)) 10202 := (Fit.add (fH.shl (m := 10201) (by omega)) (fL.neg.shl (m := 10201) (by omega)) (by omega) (by omega))
    have gE : Fit (tmI (addM (gm (vI s cs) e k 1) (ge (vI s cs) e k 1) (-(gm (vI s cs) e k 0)) (ge (vI s cs) e k 0))) 10202 := fE.le (tmI_le _)
    have bE := te_in (e := (min (ge (vI s cs) e k 1) (ge (vI s cs) e k 0))) (a := -6000) (b := 3400) (c := 13602) fE (by omega) (by omega) (by omega) (by omega) (by decide)
    have r8 := (grid_fine (X := vI s cs) (e := e) (show k - b ≤ k by omega)).1
    have r9 := (grid_fine (X := vI s cs) (e := e) (show k - b ≤ k by omega)).2
    have bO : teI 1 k = k := k1e k
    have r5t : (gm (vI s cs) e k 0 = 0) = True := eq_true r5
    cbv
    repeat' (first | with_reducible refine And.intro ?_ ?_ | (with_reducible refine safe_lift hA ?_; kernel_rfl) | (intro hc_; (first | (with_reducible exfalso; clear hQ; subst hF hA; simp only [fnOf, find, std, reduceIte, Nat.reduceEqDiff, sp1, sp2, a1, a2, FnSpec.out, Shape.build, leafs, leafCells, tups, oneOf, List.cons_append, List.nil_append, List.length_cons, List.length_nil, s_RoundGrid, s_known5, s_few5, s_oGrid, s_dSub, s_qOf, s_qScale, s_dCmp, s_dSign, s_dSame, dm_raw, dm_N0, dz, dx, dcn, dMof, tmI_idem, teI_idem, tmI_addL, teI_addL, tmI_addR, teI_addR, tmI_addN, teI_addN, tmI_mulL, teI_mulL, tmI_mulR, teI_mulR, tmI_neg, teI_neg, tmI_abs, teI_abs, Int.natAbs_natCast, teI_scale, topI_nrm, cmpD_nrm, sg_tmI, sameI_N0, beq_dec, clamp30e, min_if, clamp30b, clamp30c, vI_N0, Int.natAbs_neg, sg_eq, and_self, and_true, true_and, gm_nrm, ge_nrm, stepI_nrm, tm_gm, te_gm, tmI_eq0, Int.zero_add, k1, k1e, sub_cmp, cmp_teR, cmpD_nrmL, cmpD_nrmR, cmpD_self, Int.reduceLE, Int.reduceLT, Int.reduceNeg, Int.reduceEq, Int.reduceBEq, sg_beq, reduceIte, eq_self, Bool.not_eq_eq_eq_not, decide_eq_true_eq, decide_eq_false_iff_not, not_true_eq_false, not_false_eq_true, decide_true, decide_false, Bool.true_and, Bool.and_true, Bool.not_true, Bool.not_false, beq_self_eq_true, Bool.true_eq_false, Bool.false_eq_true, reduceCtorEq, s_few, hfx, hk0, hb0, hb1, hk1, hk2, hk3, r8, r9, r1, r2, r3, r5t, r4] at hc_; done) | (clear hc_; cbv))))
    all_goals subst hF hA
    all_goals (try simp only [fnOf, find, std, reduceIte, Nat.reduceEqDiff, sp1, sp2, a1, a2, FnSpec.out, Shape.build, leafs, leafCells, tups, oneOf, List.cons_append, List.nil_append, List.length_cons, List.length_nil, s_RoundGrid, s_known5, s_few5, s_oGrid, s_dSub, s_qOf, s_qScale, s_dCmp, s_dSign, s_dSame, dm_raw, dm_N0, dz, dx, dcn, dMof, tmI_idem, teI_idem, tmI_addL, teI_addL, tmI_addR, teI_addR, tmI_addN, teI_addN, tmI_mulL, teI_mulL, tmI_mulR, teI_mulR, tmI_neg, teI_neg, tmI_abs, teI_abs, Int.natAbs_natCast, teI_scale, topI_nrm, cmpD_nrm, sg_tmI, sameI_N0, beq_dec, clamp30e, min_if, clamp30b, clamp30c, vI_N0, Int.natAbs_neg, sg_eq, and_self, and_true, true_and, gm_nrm, ge_nrm, stepI_nrm, tm_gm, te_gm, tmI_eq0, Int.zero_add, k1, k1e, sub_cmp, cmp_teR, cmpD_nrmL, cmpD_nrmR, cmpD_self, Int.reduceLE, Int.reduceLT, Int.reduceNeg, Int.reduceEq, Int.reduceBEq, sg_beq, reduceIte, s_few, hfx, hk0, hb0, hb1, hk1, hk2, hk3, r8, r9, r1, r2, r3, r5t, r4] at hQ ⊢)
    all_goals (repeat' (first
      | with_reducible exact hQ
      | with_reducible exact Post.b hQ (beq_self_eq_true _).symm
      | with_reducible exact isi_int _ _
      | with_reducible exact fit_0
      | with_reducible exact fit_1
      | with_reducible assumption
      | with_reducible refine okI_mk ?_
      | with_reducible refine okW_mk ?_ ?_ ?_
      | with_reducible refine okE_mk ?_
      | with_reducible refine okD_mk ?_ ?_ ?_
      | (with_reducible refine canD_mk ?_ ?_ ?_ ?_ ?_; (focus simp only [tmI_idem, teI_idem, tmI_neg, teI_neg, tmI_abs, teI_abs, Int.natAbs_natCast]); (focus simp only [tmI_idem, teI_idem, tmI_neg, teI_neg, tmI_abs, teI_abs, Int.natAbs_natCast]))
      | (with_reducible refine okC_fit6 ?_; (repeat' (first | (with_reducible refine Fit.mono (by with_reducible assumption) ?_; omega) | with_reducible refine Fit.neg ?_ | with_reducible refine fit_abs ?_ | (with_reducible refine fit_mul4 ?_ ?_ ?_; (focus omega)) | with_reducible refine fit_tm ?_)))
      | (with_reducible refine ln_fit6 ?_ ?_; focus (repeat' (first | (with_reducible refine Fit.mono (by with_reducible assumption) ?_; omega) | with_reducible refine Fit.neg ?_ | with_reducible refine fit_abs ?_ | (with_reducible refine fit_mul4 ?_ ?_ ?_; (focus omega)) | with_reducible refine fit_tm ?_)))
      | (with_reducible refine near_mk ?_ ?_; (focus omega); (focus omega))
      | with_reducible exact okC_fit6 ((hfg _ _ _).mono (by decide))
      | with_reducible exact (hfg _ _ _).mono (by decide)
      | (with_reducible refine canD_mk (tm_gm _ _ _ _) (te_gm _ _ _ _) ((hfg _ _ _).mono (by decide)) ?_ ?_)
      | with_reducible exact canD_mk k1 (k1e 0) fit_1 (by decide) (by decide)
      | omega
      | ((repeat' (first | (with_reducible refine Fit.mono (by with_reducible assumption) ?_; omega) | with_reducible refine Fit.neg ?_ | with_reducible refine fit_abs ?_ | (with_reducible refine fit_mul4 ?_ ?_ ?_; (focus omega)) | with_reducible refine fit_tm ?_)); done)
      | with_reducible refine And.intro ?_ ?_))
    all_goals exact hQ
  · have hfx : (n ≤ 20 ∧ -2000 ≤ e ∧ e ≤ 2000) := h1
    have hc : okC n cs := hw (by omega)
    have fX : Fit (vI s cs) 640 := (okC_fit hc s).mono (by omega)
    have gX : Fit (tmI (vI s cs)) 640 := fX.le (tmI_le _)
    have bX : -2000 ≤ teI (vI s cs) e ∧ teI (vI s cs) e ≤ 2640 := te_few fX h1.2.1 h1.2.2
    have hk0 : IntKind.i64.wrap k = k := wrap_in (by omega) (by omega)
    have hb0 : IntKind.i64.wrap b = b := wrap_in (by omega) (by omega)
    have hb1 : IntKind.i64.wrap (k - b) = k - b := wrap_in (by omega) (by omega)
    have hk1 : min (max k (-20000)) 20000 = k := by omega
    have hk2 : clampE k = k := hk1
    have hk3 : clampE (k - b) = k - b := by unfold clampE; omega
    have hge := fun E md (h1 : -6000 ≤ E) (h2 : E ≤ 2641) => ge_inc (e := e) (E := E) (mode := md) (a := -6000) (b := 2641) (c := 3282) fX (by omega) (by omega) h1 h2 (by omega) (by omega) (by decide)
    have hg0 := hge k 0 (by omega) (by omega)
    have hg1 := hge k 1 (by omega) (by omega)
    have hg2 := hge (k - b) 0 (by omega) (by omega)
    have hfg := fun e E md => fit_gm (m := vI s cs) (e := e) (E := E) (mode := md) fX
    have fL := (hfg e k 0).mono (show 641 ≤ 700 by decide)
    have fH := (hfg e k 1).mono (show 641 ≤ 700 by decide)
    have fE : Fit (addM (gm (vI s cs) e k 1) (ge (vI s cs) e k 1) (-(gm (vI s cs) e k 0)) (ge (vI s cs) e k 0)) 10202 := (Fit.add (fH.shl (m := 10201) (by omega)) (fL.neg.shl (m := 10201) (by omega)) (by omega) (by omega))
    have gE : Fit (tmI (addM (gm (vI s cs) e k 1) (ge (vI s cs) e k 1) (-(gm (vI s cs) e k 0)) (ge (vI s cs) e k 0))) 10202 := fE.le (tmI_le _)
    have bE := te_in (e := (min (ge (vI s cs) e k 1) (ge (vI s cs) e k 0))) (a := -6000) (b := 3400) (c := 13602) fE (by omega) (by omega) (by omega) (by omega) (by decide)
    have r8 := (grid_fine (X := vI s cs) (e := e) (show k - b ≤ k by omega)).1
    have r9 := (grid_fine (X := vI s cs) (e := e) (show k - b ≤ k by omega)).2
    have bO : teI 1 k = k := k1e k
    have r5t : (gm (vI s cs) e k 0 = 0) = False := eq_false r5
    have r6 := ge_ge r5
    cbv
    repeat' (first | with_reducible refine And.intro ?_ ?_ | (with_reducible refine safe_lift hA ?_; kernel_rfl) | (intro hc_; (first | (with_reducible exfalso; clear hQ; subst hF hA; simp only [fnOf, find, std, reduceIte, Nat.reduceEqDiff, sp1, sp2, a1, a2, FnSpec.out, Shape.build, leafs, leafCells, tups, oneOf, List.cons_append, List.nil_append, List.length_cons, List.length_nil, s_RoundGrid, s_known5, s_few5, s_oGrid, s_dSub, s_qOf, s_qScale, s_dCmp, s_dSign, s_dSame, dm_raw, dm_N0, dz, dx, dcn, dMof, tmI_idem, teI_idem, tmI_addL, teI_addL, tmI_addR, teI_addR, tmI_addN, teI_addN, tmI_mulL, teI_mulL, tmI_mulR, teI_mulR, tmI_neg, teI_neg, tmI_abs, teI_abs, Int.natAbs_natCast, teI_scale, topI_nrm, cmpD_nrm, sg_tmI, sameI_N0, beq_dec, clamp30e, min_if, clamp30b, clamp30c, vI_N0, Int.natAbs_neg, sg_eq, and_self, and_true, true_and, gm_nrm, ge_nrm, stepI_nrm, tm_gm, te_gm, tmI_eq0, Int.zero_add, k1, k1e, sub_cmp, cmp_teR, cmpD_nrmL, cmpD_nrmR, cmpD_self, Int.reduceLE, Int.reduceLT, Int.reduceNeg, Int.reduceEq, Int.reduceBEq, sg_beq, reduceIte, eq_self, Bool.not_eq_eq_eq_not, decide_eq_true_eq, decide_eq_false_iff_not, not_true_eq_false, not_false_eq_true, decide_true, decide_false, Bool.true_and, Bool.and_true, Bool.not_true, Bool.not_false, beq_self_eq_true, Bool.true_eq_false, Bool.false_eq_true, reduceCtorEq, s_few, hfx, hk0, hb0, hb1, hk1, hk2, hk3, r8, r9, r1, r2, r3, r5t, r4, r6] at hc_; done) | (clear hc_; cbv))))
    all_goals subst hF hA
    all_goals (try simp only [fnOf, find, std, reduceIte, Nat.reduceEqDiff, sp1, sp2, a1, a2, FnSpec.out, Shape.build, leafs, leafCells, tups, oneOf, List.cons_append, List.nil_append, List.length_cons, List.length_nil, s_RoundGrid, s_known5, s_few5, s_oGrid, s_dSub, s_qOf, s_qScale, s_dCmp, s_dSign, s_dSame, dm_raw, dm_N0, dz, dx, dcn, dMof, tmI_idem, teI_idem, tmI_addL, teI_addL, tmI_addR, teI_addR, tmI_addN, teI_addN, tmI_mulL, teI_mulL, tmI_mulR, teI_mulR, tmI_neg, teI_neg, tmI_abs, teI_abs, Int.natAbs_natCast, teI_scale, topI_nrm, cmpD_nrm, sg_tmI, sameI_N0, beq_dec, clamp30e, min_if, clamp30b, clamp30c, vI_N0, Int.natAbs_neg, sg_eq, and_self, and_true, true_and, gm_nrm, ge_nrm, stepI_nrm, tm_gm, te_gm, tmI_eq0, Int.zero_add, k1, k1e, sub_cmp, cmp_teR, cmpD_nrmL, cmpD_nrmR, cmpD_self, Int.reduceLE, Int.reduceLT, Int.reduceNeg, Int.reduceEq, Int.reduceBEq, sg_beq, reduceIte, s_few, hfx, hk0, hb0, hb1, hk1, hk2, hk3, r8, r9, r1, r2, r3, r5t, r4, r6] at hQ ⊢)
    all_goals (repeat' (first
      | with_reducible exact hQ
      | with_reducible exact Post.b hQ (beq_self_eq_true _).symm
      | with_reducible exact isi_int _ _
      | with_reducible exact fit_0
      | with_reducible exact fit_1
      | with_reducible assumption
      | with_reducible refine okI_mk ?_
      | with_reducible refine okW_mk ?_ ?_ ?_
      | with_reducible refine okE_mk ?_
      | with_reducible refine okD_mk ?_ ?_ ?_
      | (with_reducible refine canD_mk ?_ ?_ ?_ ?_ ?_; (focus simp only [tmI_idem, teI_idem, tmI_neg, teI_neg, tmI_abs, teI_abs, Int.natAbs_natCast]); (focus simp only [tmI_idem, teI_idem, tmI_neg, teI_neg, tmI_abs, teI_abs, Int.natAbs_natCast]))
      | (with_reducible refine okC_fit6 ?_; (repeat' (first | (with_reducible refine Fit.mono (by with_reducible assumption) ?_; omega) | with_reducible refine Fit.neg ?_ | with_reducible refine fit_abs ?_ | (with_reducible refine fit_mul4 ?_ ?_ ?_; (focus omega)) | with_reducible refine fit_tm ?_)))
      | (with_reducible refine ln_fit6 ?_ ?_; focus (repeat' (first | (with_reducible refine Fit.mono (by with_reducible assumption) ?_; omega) | with_reducible refine Fit.neg ?_ | with_reducible refine fit_abs ?_ | (with_reducible refine fit_mul4 ?_ ?_ ?_; (focus omega)) | with_reducible refine fit_tm ?_)))
      | (with_reducible refine near_mk ?_ ?_; (focus omega); (focus omega))
      | with_reducible exact okC_fit6 ((hfg _ _ _).mono (by decide))
      | with_reducible exact (hfg _ _ _).mono (by decide)
      | (with_reducible refine canD_mk (tm_gm _ _ _ _) (te_gm _ _ _ _) ((hfg _ _ _).mono (by decide)) ?_ ?_)
      | with_reducible exact canD_mk k1 (k1e 0) fit_1 (by decide) (by decide)
      | omega
      | ((repeat' (first | (with_reducible refine Fit.mono (by with_reducible assumption) ?_; omega) | with_reducible refine Fit.neg ?_ | with_reducible refine fit_abs ?_ | (with_reducible refine fit_mul4 ?_ ?_ ?_; (focus omega)) | with_reducible refine fit_tm ?_)); done)
      | with_reducible refine And.intro ?_ ?_))
    all_goals exact hQ
end Go.Proofs.YtkijhcflomjdbaaDoor.Ev
