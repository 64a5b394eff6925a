/- A law of rounding: RoundTells. -/
import Derived.Test.YtkijhcflomjdbaaDoorEvv
namespace Go.Proofs.YtkijhcflomjdbaaDoor.Ev
open Go Go.RowKit
set_option linter.unusedSimpArgs false
set_option linter.unusedVariables false
set_option maxRecDepth 100000 in
set_option maxHeartbeats 16000000 in
theorem good_RoundTells : Good Tryd.prog GWR N0 3 s_RoundTells := by
  refine goodR (tab := [(12, s_known5), (13, s_few5), (14, s_qMake), (16, s_oTo), (17, s_qTo), (15, s_qEqual), (18, s_oGrid), (19, s_qGrid), (20, s_oUlp), (21, s_qUlp), (22, s_oFits)]) (shs := [(12, .one .b), (13, .one .b), (14, .agg [.I, .i .i64]), (16, .agg [.I, .i .i64]), (17, .agg [.I, .i .i64]), (15, .one .b), (18, .agg [.I, .i .i64]), (19, .agg [.I, .i .i64]), (20, .agg [.I, .i .i64]), (21, .agg [.I, .i .i64]), (22, .one .b)]) rfl ⟨good_known5, (good_few5.mono fun _ h => h.base), (good_qMake.mono fun _ h => h.base), good_oTo, (good_qTo.mono fun _ h => h.base), (good_qEqual.mono fun _ h => h.base), good_oGrid, (good_qGrid.mono fun _ h => h.base), (good_oUlp.mono fun _ h => h.base), (good_qUlp.mono fun _ h => h.base), (good_oFits.mono fun _ h => h.base), trivial⟩ Tryd.f3 (by kernel_rfl) (by kernel_rfl) (by kernel_rfl) (fun ds hp F A Q hF hA hQ => ⟨0, ?_⟩)
  obtain ⟨x, p, k, md, rfl, hx⟩ := tells5_arg hp
  obtain ⟨s, n, cs, e, rfl, hw, hr1, hr2⟩ := okW_arg hx
  clear hp hx
  by_cases h1 : (n ≤ 20 ∧ -2000 ≤ e ∧ e ≤ 2000)
  · have hfx : (n ≤ 20 ∧ -2000 ≤ e ∧ e ≤ 2000) := h1
    have hme := held_few h1.2.1 h1.2.2
    have hc : okC n cs := hw (by omega)
    have fX : Fit (vI s cs) 640 := (okC_fit hc s).mono (by omega)
    have gX : Fit (tmI (vI s cs)) 640 := fX.le (tmI_le _)
    have bX : -2000 ≤ teI (vI s cs) e ∧ teI (vI s cs) e ≤ 2640 := te_few fX h1.2.1 h1.2.2
    have hst := stepI_in (p := p) fX h1.2.1 h1.2.2
    have hge := fun md => ge_in (e := e) (E := stepI (vI s cs) e p) (mode := md) (a := -6000) (b := 2641) fX (by omega) (by omega) (by omega) (by omega) (by omega) (by omega)
    have hgk := fun md => ge_in (e := e) (E := max (-4000) (min k 4000)) (mode := md) (a := -4000) (b := 4000) fX (by omega) (by omega) (by omega) (by omega) (by omega) (by omega)
    have hfg := fun E md => fit_gm (m := vI s cs) (e := e) (E := E) (mode := md) fX
    cbv
    repeat' (first | with_reducible refine And.intro ?_ ?_ | (with_reducible refine safe_lift hA ?_; kernel_rfl) | (intro hc_; (first | (exfalso; clear hQ; subst hF hA; simp only [fnOf, find, std, reduceIte, Nat.reduceEqDiff, sp1, sp2, a1, a2, FnSpec.out, Shape.build, leafs, leafCells, tups, oneOf, List.cons_append, List.nil_append, List.length_cons, List.length_nil, s_RoundTells, s_known5, s_few5, s_qMake, s_oTo, s_qTo, s_qEqual, s_oGrid, s_qGrid, s_oUlp, s_qUlp, s_oFits, dm_raw, dm_N0, dz, dx, dcn, dMof, tmI_idem, teI_idem, tmI_addL, teI_addL, tmI_addR, teI_addR, tmI_addN, teI_addN, tmI_mulL, teI_mulL, tmI_mulR, teI_mulR, tmI_neg, teI_neg, tmI_abs, teI_abs, Int.natAbs_natCast, teI_scale, topI_nrm, cmpD_nrm, sg_tmI, sameI_N0, cmp0d, beq_dec, clamp30e, min_if, clamp30b, clamp30c, vI_N0, Int.natAbs_neg, sg_eq, and_self, and_true, true_and, gm_nrm, ge_nrm, stepI_nrm, tm_gm, te_gm, tmI_eq0, clamp40, clamp40e, clampE40, fits_doc, eq_self, Bool.not_eq_eq_eq_not, decide_eq_true_eq, decide_eq_false_iff_not, not_true_eq_false, not_false_eq_true, decide_true, decide_false, Bool.true_and, Bool.and_true, Bool.not_true, Bool.not_false, beq_self_eq_true, Bool.true_eq_false, Bool.false_eq_true, reduceCtorEq, s_few, hfx, hme] at hc_; done) | (clear hc_; cbv))))
    all_goals subst hF hA
    all_goals (try simp only [fnOf, find, std, reduceIte, Nat.reduceEqDiff, sp1, sp2, a1, a2, FnSpec.out, Shape.build, leafs, leafCells, tups, oneOf, List.cons_append, List.nil_append, List.length_cons, List.length_nil, s_RoundTells, s_known5, s_few5, s_qMake, s_oTo, s_qTo, s_qEqual, s_oGrid, s_qGrid, s_oUlp, s_qUlp, s_oFits, dm_raw, dm_N0, dz, dx, dcn, dMof, tmI_idem, teI_idem, tmI_addL, teI_addL, tmI_addR, teI_addR, tmI_addN, teI_addN, tmI_mulL, teI_mulL, tmI_mulR, teI_mulR, tmI_neg, teI_neg, tmI_abs, teI_abs, Int.natAbs_natCast, teI_scale, topI_nrm, cmpD_nrm, sg_tmI, sameI_N0, cmp0d, beq_dec, clamp30e, min_if, clamp30b, clamp30c, vI_N0, Int.natAbs_neg, sg_eq, and_self, and_true, true_and, gm_nrm, ge_nrm, stepI_nrm, tm_gm, te_gm, tmI_eq0, clamp40, clamp40e, clampE40, fits_doc, s_few, hfx, hme] at hQ ⊢)
    all_goals (repeat' (first
      | with_reducible exact hQ
      | with_reducible exact Post.b hQ (beq_self_eq_true _).symm
      | with_reducible exact isi_int _ _
      | with_reducible exact fit_0
      | with_reducible exact fit_1
      | with_reducible assumption
      | with_reducible refine okI_mk ?_
      | with_reducible refine okW_mk ?_ ?_ ?_
      | with_reducible refine okE_mk ?_
      | with_reducible refine okD_mk ?_ ?_ ?_
      | (with_reducible refine canD_mk ?_ ?_ ?_ ?_ ?_; (focus simp only [tmI_idem, teI_idem, tmI_neg, teI_neg, tmI_abs, teI_abs, Int.natAbs_natCast]); (focus simp only [tmI_idem, teI_idem, tmI_neg, teI_neg, tmI_abs, teI_abs, Int.natAbs_natCast]))
      | (with_reducible refine okC_fit6 ?_; (repeat' (first | (with_reducible refine Fit.mono (by with_reducible assumption) ?_; omega) | with_reducible refine Fit.neg ?_ | with_reducible refine fit_abs ?_ | (with_reducible refine fit_mul4 ?_ ?_ ?_; (focus omega)) | with_reducible refine fit_tm ?_)))
      | (with_reducible refine ln_fit6 ?_ ?_; focus (repeat' (first | (with_reducible refine Fit.mono (by with_reducible assumption) ?_; omega) | with_reducible refine Fit.neg ?_ | with_reducible refine fit_abs ?_ | (with_reducible refine fit_mul4 ?_ ?_ ?_; (focus omega)) | with_reducible refine fit_tm ?_)))
      | (with_reducible refine near_mk ?_ ?_; (focus omega); (focus omega))
      | with_reducible exact okC_fit6 ((hfg _ _).mono (by decide))
      | with_reducible exact (hfg _ _).mono (by decide)
      | (with_reducible refine canD_mk (tm_gm _ _ _ _) (te_gm _ _ _ _) ((hfg _ _).mono (by decide)) ?_ ?_)
      | with_reducible exact fit_if01
      | exact (hge _).1 | exact (hge _).2 | exact (hgk _).1 | exact (hgk _).2
      | omega
      | ((repeat' (first | (with_reducible refine Fit.mono (by with_reducible assumption) ?_; omega) | with_reducible refine Fit.neg ?_ | with_reducible refine fit_abs ?_ | (with_reducible refine fit_mul4 ?_ ?_ ?_; (focus omega)) | with_reducible refine fit_tm ?_)); done)
      | with_reducible refine And.intro ?_ ?_))
    all_goals exact hQ
  · have hfx : ¬(n ≤ 20 ∧ -2000 ≤ e ∧ e ≤ 2000) := h1
    cbv
    repeat' (first | with_reducible refine And.intro ?_ ?_ | (with_reducible refine safe_lift hA ?_; kernel_rfl) | (intro hc_; (first | (exfalso; clear hQ; subst hF hA; simp only [fnOf, find, std, reduceIte, Nat.reduceEqDiff, sp1, sp2, a1, a2, FnSpec.out, Shape.build, leafs, leafCells, tups, oneOf, List.cons_append, List.nil_append, List.length_cons, List.length_nil, s_RoundTells, s_known5, s_few5, s_qMake, s_oTo, s_qTo, s_qEqual, s_oGrid, s_qGrid, s_oUlp, s_qUlp, s_oFits, dm_raw, dm_N0, dz, dx, dcn, dMof, tmI_idem, teI_idem, tmI_addL, teI_addL, tmI_addR, teI_addR, tmI_addN, teI_addN, tmI_mulL, teI_mulL, tmI_mulR, teI_mulR, tmI_neg, teI_neg, tmI_abs, teI_abs, Int.natAbs_natCast, teI_scale, topI_nrm, cmpD_nrm, sg_tmI, sameI_N0, cmp0d, beq_dec, clamp30e, min_if, clamp30b, clamp30c, vI_N0, Int.natAbs_neg, sg_eq, and_self, and_true, true_and, gm_nrm, ge_nrm, stepI_nrm, tm_gm, te_gm, tmI_eq0, clamp40, clamp40e, clampE40, fits_doc, eq_self, Bool.not_eq_eq_eq_not, decide_eq_true_eq, decide_eq_false_iff_not, not_true_eq_false, not_false_eq_true, decide_true, decide_false, Bool.true_and, Bool.and_true, Bool.not_true, Bool.not_false, beq_self_eq_true, Bool.true_eq_false, Bool.false_eq_true, reduceCtorEq, s_few, hfx] at hc_; done) | (clear hc_; cbv))))
    all_goals subst hF hA
    all_goals (try simp only [fnOf, find, std, reduceIte, Nat.reduceEqDiff, sp1, sp2, a1, a2, FnSpec.out, Shape.build, leafs, leafCells, tups, oneOf, List.cons_append, List.nil_append, List.length_cons, List.length_nil, s_RoundTells, s_known5, s_few5, s_qMake, s_oTo, s_qTo, s_qEqual, s_oGrid, s_qGrid, s_oUlp, s_qUlp, s_oFits, dm_raw, dm_N0, dz, dx, dcn, dMof, tmI_idem, teI_idem, tmI_addL, teI_addL, tmI_addR, teI_addR, tmI_addN, teI_addN, tmI_mulL, teI_mulL, tmI_mulR, teI_mulR, tmI_neg, teI_neg, tmI_abs, teI_abs, Int.natAbs_natCast, teI_scale, topI_nrm, cmpD_nrm, sg_tmI, sameI_N0, cmp0d, beq_dec, clamp30e, min_if, clamp30b, clamp30c, vI_N0, Int.natAbs_neg, sg_eq, and_self, and_true, true_and, gm_nrm, ge_nrm, stepI_nrm, tm_gm, te_gm, tmI_eq0, clamp40, clamp40e, clampE40, fits_doc, s_few, hfx] at hQ ⊢)
    all_goals (repeat' (first
      | with_reducible exact hQ
      | with_reducible exact Post.b hQ (beq_self_eq_true _).symm
      | with_reducible exact isi_int _ _
      | with_reducible exact fit_0
      | with_reducible exact fit_1
      | with_reducible assumption
      | with_reducible refine okI_mk ?_
      | with_reducible refine okW_mk ?_ ?_ ?_
      | with_reducible refine okE_mk ?_
      | with_reducible refine okD_mk ?_ ?_ ?_
      | (with_reducible refine canD_mk ?_ ?_ ?_ ?_ ?_; (focus simp only [tmI_idem, teI_idem, tmI_neg, teI_neg, tmI_abs, teI_abs, Int.natAbs_natCast]); (focus simp only [tmI_idem, teI_idem, tmI_neg, teI_neg, tmI_abs, teI_abs, Int.natAbs_natCast]))
      | (with_reducible refine okC_fit6 ?_; (repeat' (first | (with_reducible refine Fit.mono (by with_reducible assumption) ?_; omega) | with_reducible refine Fit.neg ?_ | with_reducible refine fit_abs ?_ | (with_reducible refine fit_mul4 ?_ ?_ ?_; (focus omega)) | with_reducible refine fit_tm ?_)))
      | (with_reducible refine ln_fit6 ?_ ?_; focus (repeat' (first | (with_reducible refine Fit.mono (by with_reducible assumption) ?_; omega) | with_reducible refine Fit.neg ?_ | with_reducible refine fit_abs ?_ | (with_reducible refine fit_mul4 ?_ ?_ ?_; (focus omega)) | with_reducible refine fit_tm ?_)))
      | (with_reducible refine near_mk ?_ ?_; (focus omega); (focus omega))
      | omega
      | ((repeat' (first | (with_reducible refine Fit.mono (by with_reducible assumption) ?_; omega) | with_reducible refine Fit.neg ?_ | with_reducible refine fit_abs ?_ | (with_reducible refine fit_mul4 ?_ ?_ ?_; (focus omega)) | with_reducible refine fit_tm ?_)); done)
      | with_reducible refine And.intro ?_ ?_))
    all_goals exact hQ
end Go.Proofs.YtkijhcflomjdbaaDoor.Ev
