/- A law of rounding: RoundTwice. -/
import Derived.Test.YtkijhcflomjdbaaDoorEv5h
namespace Go.Proofs.YtkijhcflomjdbaaDoor.Ev
open Go Go.RowKit
set_option linter.unusedSimpArgs false
set_option linter.unusedVariables false
set_option maxRecDepth 100000 in
set_option maxHeartbeats 16000000 in
theorem good_RoundTwice : Good Tryd.prog GWR N0 5 s_RoundTwice := by
  refine goodR (tab := [(12, s_known5), (13, s_few5), (16, s_oTo), (26, s_dSame), (27, s_dNeg), (28, s_dScale), (18, s_oGrid), (29, s_dTop)]) (shs := [(12, .one .b), (13, .one .b), (16, .agg [.I, .i .i64]), (26, .one .b), (27, .agg [.I, .i .i64]), (28, .agg [.I, .i .i64]), (18, .agg [.I, .i .i64]), (29, .one (.i .i64))]) rfl ⟨good_known5, (good_few5.mono fun _ h => h.base), good_oTo, (good_dSame.mono fun _ h => h.base), (good_dNeg.mono fun _ h => h.base), (good_dScale.mono fun _ h => h.base), good_oGrid, (good_dTop.mono fun _ h => h.base), trivial⟩ Tryd.f5 (by kernel_rfl) (by kernel_rfl) (by kernel_rfl) (fun ds hp F A Q hF hA hQ => ⟨0, ?_⟩)
  obtain ⟨x, b, k, rfl, hx, ⟨hbb1, hbb2⟩, hkk1, hkk2⟩ := twice5_arg hp
  obtain ⟨s, n, cs, e, rfl, hw, hr1, hr2⟩ := okW_arg hx
  clear hp hx
  by_cases h1 : (n ≤ 20 ∧ -2000 ≤ e ∧ e ≤ 2000)
  · have hfx : (n ≤ 20 ∧ -2000 ≤ e ∧ e ≤ 2000) := h1
    have hc : okC n cs := hw (by omega)
    have fX : Fit (vI s cs) 640 := (okC_fit hc s).mono (by omega)
    have gX : Fit (tmI (vI s cs)) 640 := fX.le (tmI_le _)
    have bX : -2000 ≤ teI (vI s cs) e ∧ teI (vI s cs) e ≤ 2640 := te_few fX h1.2.1 h1.2.2
    have hb1 : IntKind.i64.wrap b = b := wrap_in (by omega) (by omega)
    have hb2 : IntKind.i64.wrap (b + 1) = b + 1 := wrap_in (by omega) (by omega)
    have hk0 : IntKind.i64.wrap k = k := wrap_in (by omega) (by omega)
    have hk1 : min (max k (-20000)) 20000 = k := by omega
    have htb := topI_in fX h1.2.1 h1.2.2
    have hw1 : IntKind.i64.wrap (topI (vI s cs) e - (b + 1)) = topI (vI s cs) e - (b + 1) := wrap_in (by omega) (by omega)
    have hw2 : IntKind.i64.wrap (topI (vI s cs) e - (b + 1) + 1) = topI (vI s cs) e - (b + 1) + 1 := wrap_in (by omega) (by omega)
    have hcs := clamp_stp (m := vI s cs) (e := e) (b := b + 1) (by omega) (by omega)
    have hst : ∀ p, -6000 ≤ stepI (vI s cs) e p ∧ stepI (vI s cs) e p ≤ 2641 := fun p => stepI_in fX h1.2.1 h1.2.2
    have hge := fun E md (h1 : -6000 ≤ E) (h2 : E ≤ 2641) => ge_inc (e := e) (E := E) (mode := md) (a := -6000) (b := 2641) (c := 3282) fX (by omega) (by omega) h1 h2 (by omega) (by omega) (by decide)
    have hgs := fun p md => hge _ md (hst p).1 (hst p).2
    have hf0 := fits_gm (m := vI s cs) (e := e) (p := b + 1) 0 (by omega) (by omega) (by omega) (by omega)
    have r1 := gm_fit 1 hf0
    have r2 := gm_fit 2 hf0
    rw [tm_gm, te_gm] at r1 r2
    have r4 := twice_scale (m := vI s cs) (e := e) (p := b + 1) (k := k) (by omega) (by omega) (by omega) (by omega)
    have hsk : -6300 ≤ stepI (vI s cs) (e + k) (b + 1) ∧ stepI (vI s cs) (e + k) (b + 1) ≤ 3000 := stepI_in3 fX (by omega) (by omega)
    have bK := te_in (e := e + k) (a := -2200) (b := 2200) (c := 2840) fX (by omega) (by omega) (by omega) (by omega) (by decide)
    have hgk := fun md => ge_inc (e := e + k) (E := stepI (vI s cs) (e + k) (b + 1)) (mode := md) (a := -6300) (b := 3000) (c := 3641) fX (by omega) (by omega) (by omega) (by omega) (by omega) (by omega) (by decide)
    have hg0 := hgs (b + 1) 0
    have hg1 := hgs (b + 1) 1
    have hg2 := hgs (b + 1) 2
    have hg3 := hgs 1 1
    have hg4 := hgk 2
    have hbt := te_gmk (m := vI s cs) (e := e) (E := (stepI (vI s cs) e (b + 1))) (mode := 2) (k := k) fX hg2.1 hg2.2 (by omega) (by omega)
    have hfg := fun e E md => fit_gm (m := vI s cs) (e := e) (E := E) (mode := md) fX
    cbv
    repeat' (first | with_reducible refine And.intro ?_ ?_ | (with_reducible refine safe_lift hA ?_; kernel_rfl) | (intro hc_; (first | (exfalso; clear hQ; subst hF hA; simp only [fnOf, find, std, reduceIte, Nat.reduceEqDiff, sp1, sp2, a1, a2, FnSpec.out, Shape.build, leafs, leafCells, tups, oneOf, List.cons_append, List.nil_append, List.length_cons, List.length_nil, s_RoundTwice, s_known5, s_few5, s_oTo, s_dSame, s_dNeg, s_dScale, s_oGrid, s_dTop, dm_raw, dm_N0, dz, dx, dcn, dMof, tmI_idem, teI_idem, tmI_addL, teI_addL, tmI_addR, teI_addR, tmI_addN, teI_addN, tmI_mulL, teI_mulL, tmI_mulR, teI_mulR, tmI_neg, teI_neg, tmI_abs, teI_abs, Int.natAbs_natCast, teI_scale, topI_nrm, cmpD_nrm, sg_tmI, sameI_N0, beq_dec, clamp30e, min_if, clamp30b, clamp30c, vI_N0, Int.natAbs_neg, sg_eq, and_self, and_true, true_and, gm_nrm, ge_nrm, stepI_nrm, tm_gm, te_gm, tmI_eq0, stepI_0, cmp_teR, cmpD_nrmL, cmpD_nrmR, cmpD_self, Int.neg_neg, stepI_neg, gm_neg0, ge_neg0, gm_nrmN, ge_nrmN, stepI_nrmN, eq_self, Bool.not_eq_eq_eq_not, decide_eq_true_eq, decide_eq_false_iff_not, not_true_eq_false, not_false_eq_true, decide_true, decide_false, Bool.true_and, Bool.and_true, Bool.not_true, Bool.not_false, beq_self_eq_true, Bool.true_eq_false, Bool.false_eq_true, reduceCtorEq, s_few, hfx, hb1, hb2, hk0, hk1, hw1, hw2, hcs, r1.1, r1.2, r2.1, r2.2, r4] at hc_; done) | (clear hc_; cbv))))
    all_goals subst hF hA
    all_goals (try simp only [fnOf, find, std, reduceIte, Nat.reduceEqDiff, sp1, sp2, a1, a2, FnSpec.out, Shape.build, leafs, leafCells, tups, oneOf, List.cons_append, List.nil_append, List.length_cons, List.length_nil, s_RoundTwice, s_known5, s_few5, s_oTo, s_dSame, s_dNeg, s_dScale, s_oGrid, s_dTop, dm_raw, dm_N0, dz, dx, dcn, dMof, tmI_idem, teI_idem, tmI_addL, teI_addL, tmI_addR, teI_addR, tmI_addN, teI_addN, tmI_mulL, teI_mulL, tmI_mulR, teI_mulR, tmI_neg, teI_neg, tmI_abs, teI_abs, Int.natAbs_natCast, teI_scale, topI_nrm, cmpD_nrm, sg_tmI, sameI_N0, beq_dec, clamp30e, min_if, clamp30b, clamp30c, vI_N0, Int.natAbs_neg, sg_eq, and_self, and_true, true_and, gm_nrm, ge_nrm, stepI_nrm, tm_gm, te_gm, tmI_eq0, stepI_0, cmp_teR, cmpD_nrmL, cmpD_nrmR, cmpD_self, Int.neg_neg, stepI_neg, gm_neg0, ge_neg0, gm_nrmN, ge_nrmN, stepI_nrmN, s_few, hfx, hb1, hb2, hk0, hk1, hw1, hw2, hcs, r1.1, r1.2, r2.1, r2.2, r4] at hQ ⊢)
    all_goals (repeat' (first
      | with_reducible exact hQ
      | with_reducible exact Post.b hQ (beq_self_eq_true _).symm
      | with_reducible exact isi_int _ _
      | with_reducible exact fit_0
      | with_reducible exact fit_1
      | with_reducible assumption
      | with_reducible refine okI_mk ?_
      | with_reducible refine okW_mk ?_ ?_ ?_
      | with_reducible refine okE_mk ?_
      | with_reducible refine okD_mk ?_ ?_ ?_
      | (with_reducible refine canD_mk ?_ ?_ ?_ ?_ ?_; (focus simp only [tmI_idem, teI_idem, tmI_neg, teI_neg, tmI_abs, teI_abs, Int.natAbs_natCast]); (focus simp only [tmI_idem, teI_idem, tmI_neg, teI_neg, tmI_abs, teI_abs, Int.natAbs_natCast]))
      | (with_reducible refine okC_fit6 ?_; (repeat' (first | (with_reducible refine Fit.mono (by with_reducible assumption) ?_; omega) | with_reducible refine Fit.neg ?_ | with_reducible refine fit_abs ?_ | (with_reducible refine fit_mul4 ?_ ?_ ?_; (focus omega)) | with_reducible refine fit_tm ?_)))
      | (with_reducible refine ln_fit6 ?_ ?_; focus (repeat' (first | (with_reducible refine Fit.mono (by with_reducible assumption) ?_; omega) | with_reducible refine Fit.neg ?_ | with_reducible refine fit_abs ?_ | (with_reducible refine fit_mul4 ?_ ?_ ?_; (focus omega)) | with_reducible refine fit_tm ?_)))
      | (with_reducible refine near_mk ?_ ?_; (focus omega); (focus omega))
      | with_reducible exact okC_fit6 ((hfg _ _ _).mono (by decide))
      | with_reducible exact (hfg _ _ _).mono (by decide)
      | (with_reducible refine canD_mk (tm_gm _ _ _ _) (te_gm _ _ _ _) ((hfg _ _ _).mono (by decide)) ?_ ?_)
      | omega
      | ((repeat' (first | (with_reducible refine Fit.mono (by with_reducible assumption) ?_; omega) | with_reducible refine Fit.neg ?_ | with_reducible refine fit_abs ?_ | (with_reducible refine fit_mul4 ?_ ?_ ?_; (focus omega)) | with_reducible refine fit_tm ?_)); done)
      | with_reducible refine And.intro ?_ ?_))
    all_goals exact hQ
  · have hfx : ¬(n ≤ 20 ∧ -2000 ≤ e ∧ e ≤ 2000) := h1
    cbv
    repeat' (first | with_reducible refine And.intro ?_ ?_ | (with_reducible refine safe_lift hA ?_; kernel_rfl) | (intro hc_; (first | (exfalso; clear hQ; subst hF hA; simp only [fnOf, find, std, reduceIte, Nat.reduceEqDiff, sp1, sp2, a1, a2, FnSpec.out, Shape.build, leafs, leafCells, tups, oneOf, List.cons_append, List.nil_append, List.length_cons, List.length_nil, s_RoundTwice, s_known5, s_few5, s_oTo, s_dSame, s_dNeg, s_dScale, s_oGrid, s_dTop, dm_raw, dm_N0, dz, dx, dcn, dMof, tmI_idem, teI_idem, tmI_addL, teI_addL, tmI_addR, teI_addR, tmI_addN, teI_addN, tmI_mulL, teI_mulL, tmI_mulR, teI_mulR, tmI_neg, teI_neg, tmI_abs, teI_abs, Int.natAbs_natCast, teI_scale, topI_nrm, cmpD_nrm, sg_tmI, sameI_N0, beq_dec, clamp30e, min_if, clamp30b, clamp30c, vI_N0, Int.natAbs_neg, sg_eq, and_self, and_true, true_and, gm_nrm, ge_nrm, stepI_nrm, tm_gm, te_gm, tmI_eq0, stepI_0, cmp_teR, cmpD_nrmL, cmpD_nrmR, cmpD_self, Int.neg_neg, stepI_neg, gm_neg0, ge_neg0, gm_nrmN, ge_nrmN, stepI_nrmN, eq_self, Bool.not_eq_eq_eq_not, decide_eq_true_eq, decide_eq_false_iff_not, not_true_eq_false, not_false_eq_true, decide_true, decide_false, Bool.true_and, Bool.and_true, Bool.not_true, Bool.not_false, beq_self_eq_true, Bool.true_eq_false, Bool.false_eq_true, reduceCtorEq, s_few, hfx] at hc_; done) | (clear hc_; cbv))))
    all_goals subst hF hA
    all_goals (try simp only [fnOf, find, std, reduceIte, Nat.reduceEqDiff, sp1, sp2, a1, a2, FnSpec.out, Shape.build, leafs, leafCells, tups, oneOf, List.cons_append, List.nil_append, List.length_cons, List.length_nil, s_RoundTwice, s_known5, s_few5, s_oTo, s_dSame, s_dNeg, s_dScale, s_oGrid, s_dTop, dm_raw, dm_N0, dz, dx, dcn, dMof, tmI_idem, teI_idem, tmI_addL, teI_addL, tmI_addR, teI_addR, tmI_addN, teI_addN, tmI_mulL, teI_mulL, tmI_mulR, teI_mulR, tmI_neg, teI_neg, tmI_abs, teI_abs, Int.natAbs_natCast, teI_scale, topI_nrm, cmpD_nrm, sg_tmI, sameI_N0, beq_dec, clamp30e, min_if, clamp30b, clamp30c, vI_N0, Int.natAbs_neg, sg_eq, and_self, and_true, true_and, gm_nrm, ge_nrm, stepI_nrm, tm_gm, te_gm, tmI_eq0, stepI_0, cmp_teR, cmpD_nrmL, cmpD_nrmR, cmpD_self, Int.neg_neg, stepI_neg, gm_neg0, ge_neg0, gm_nrmN, ge_nrmN, stepI_nrmN, s_few, hfx] at hQ ⊢)
    all_goals (repeat' (first
      | with_reducible exact hQ
      | with_reducible exact Post.b hQ (beq_self_eq_true _).symm
      | with_reducible exact isi_int _ _
      | with_reducible exact fit_0
      | with_reducible exact fit_1
      | with_reducible assumption
      | with_reducible refine okI_mk ?_
      | with_reducible refine okW_mk ?_ ?_ ?_
      | with_reducible refine okE_mk ?_
      | with_reducible refine okD_mk ?_ ?_ ?_
      | (with_reducible refine canD_mk ?_ ?_ ?_ ?_ ?_; (focus simp only [tmI_idem, teI_idem, tmI_neg, teI_neg, tmI_abs, teI_abs, Int.natAbs_natCast]); (focus simp only [tmI_idem, teI_idem, tmI_neg, teI_neg, tmI_abs, teI_abs, Int.natAbs_natCast]))
      | (with_reducible refine okC_fit6 ?_; (repeat' (first | (with_reducible refine Fit.mono (by with_reducible assumption) ?_; omega) | with_reducible refine Fit.neg ?_ | with_reducible refine fit_abs ?_ | (with_reducible refine fit_mul4 ?_ ?_ ?_; (focus omega)) | with_reducible refine fit_tm ?_)))
      | (with_reducible refine ln_fit6 ?_ ?_; focus (repeat' (first | (with_reducible refine Fit.mono (by with_reducible assumption) ?_; omega) | with_reducible refine Fit.neg ?_ | with_reducible refine fit_abs ?_ | (with_reducible refine fit_mul4 ?_ ?_ ?_; (focus omega)) | with_reducible refine fit_tm ?_)))
      | (with_reducible refine near_mk ?_ ?_; (focus omega); (focus omega))
      | omega
      | ((repeat' (first | (with_reducible refine Fit.mono (by with_reducible assumption) ?_; omega) | with_reducible refine Fit.neg ?_ | with_reducible refine fit_abs ?_ | (with_reducible refine fit_mul4 ?_ ?_ ?_; (focus omega)) | with_reducible refine fit_tm ?_)); done)
      | with_reducible refine And.intro ?_ ?_))
    all_goals exact hQ
end Go.Proofs.YtkijhcflomjdbaaDoor.Ev
