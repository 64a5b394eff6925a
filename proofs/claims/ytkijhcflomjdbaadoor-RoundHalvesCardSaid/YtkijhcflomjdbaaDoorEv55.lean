/- A law of rounding: RoundHalves. -/
import Derived.Test.YtkijhcflomjdbaaDoorEv5h
namespace Go.Proofs.YtkijhcflomjdbaaDoor.Ev
open Go Go.RowKit
set_option linter.unusedSimpArgs false
set_option linter.unusedVariables false
set_option maxRecDepth 100000 in
set_option maxHeartbeats 16000000 in
theorem good_RoundHalves : Good Tryd.prog GWR N0 7 s_RoundHalves := by
  refine goodR (tab := [(12, s_known5), (31, s_qOf), (30, s_qScale), (18, s_oGrid), (26, s_dSame)]) (shs := [(12, .one .b), (31, .agg [.I, .i .i64]), (30, .agg [.I, .i .i64]), (18, .agg [.I, .i .i64]), (26, .one .b)]) rfl ⟨good_known5, (good_qOf.mono fun _ h => h.base), (good_qScale.mono fun _ h => h.base), good_oGrid, (good_dSame.mono fun _ h => h.base), trivial⟩ Tryd.f7 (by kernel_rfl) (by kernel_rfl) (by kernel_rfl) (fun ds hp F A Q hF hA hQ => ⟨0, ?_⟩)
  obtain ⟨n, k, rfl, ⟨hn1, hn2⟩, hk1, hk2⟩ := halves5_arg hp
  clear hp
  by_cases h1 : n % 2 = 0
  · have hw1 : IntKind.i64.wrap n = n := wrap_in (by omega) (by omega)
    have hw2 : IntKind.i64.wrap (2 * n) = 2 * n := wrap_in (by omega) (by omega)
    have hw3 : IntKind.i64.wrap (2 * n + 1) = 2 * n + 1 := wrap_in (by omega) (by omega)
    have hw4 : IntKind.i64.wrap k = k := wrap_in (by omega) (by omega)
    have hw5 : IntKind.i64.wrap (k - 1) = k - 1 := wrap_in (by omega) (by omega)
    have hw6 : IntKind.i64.wrap (n + 1) = n + 1 := wrap_in (by omega) (by omega)
    have hm1 : min (max (k - 1) (-20000)) 20000 = k - 1 := by omega
    have hm2 : min (max k (-20000)) 20000 = k := by omega
    have hm3 : clampE k = k := hm2
    have fX : Fit (2 * n + 1) 640 := fit_small (by omega) (by omega)
    have fn : Fit n 640 := fit_small (by omega) (by omega)
    have fn1 : Fit (n + 1) 640 := fit_small (by omega) (by omega)
    have gX : Fit (tmI (2 * n + 1)) 640 := fX.le (tmI_le _)
    have gn : Fit (tmI n) 640 := fn.le (tmI_le _)
    have gn1 : Fit (tmI (n + 1)) 640 := fn1.le (tmI_le _)
    have bA := te_in (e := 0) (a := -200) (b := 200) (c := 840) fX (by omega) (by omega) (by omega) (by omega) (by decide)
    have bB := te_in (e := (k - 1)) (a := -200) (b := 200) (c := 840) fX (by omega) (by omega) (by omega) (by omega) (by decide)
    have bC := te_in (e := 0) (a := -200) (b := 200) (c := 840) fn (by omega) (by omega) (by omega) (by omega) (by decide)
    have bD := te_in (e := k) (a := -200) (b := 200) (c := 840) fn (by omega) (by omega) (by omega) (by omega) (by decide)
    have bE := te_in (e := 0) (a := -200) (b := 200) (c := 840) fn1 (by omega) (by omega) (by omega) (by omega) (by decide)
    have bF := te_in (e := k) (a := -200) (b := 200) (c := 840) fn1 (by omega) (by omega) (by omega) (by omega) (by decide)
    have hfg := fun e E md => fit_gm (m := 2 * n + 1) (e := e) (E := E) (mode := md) fX
    have hg2 := ge_inc (e := k - 1) (E := k) (mode := 2) (a := -200) (b := 200) (c := 841) fX (by omega) (by omega) (by omega) (by omega) (by omega) (by omega) (by decide)
    have hg0 := ge_inc (e := k - 1) (E := k) (mode := 0) (a := -200) (b := 200) (c := 841) fX (by omega) (by omega) (by omega) (by omega) (by omega) (by omega) (by decide)
    have r0 := half5 (n := n) (k := k) 0 n half_down
    have r2 := half5 (n := n) (k := k) 2 n (half_even h1)
    have ht : n.tmod 2 = 0 := tmod2_even h1
    cbv
    repeat' (first | with_reducible refine And.intro ?_ ?_ | (with_reducible refine safe_lift hA ?_; kernel_rfl) | (intro hc_; (first | (exfalso; clear hQ; subst hF hA; simp only [fnOf, find, std, reduceIte, Nat.reduceEqDiff, sp1, sp2, a1, a2, FnSpec.out, Shape.build, leafs, leafCells, tups, oneOf, List.cons_append, List.nil_append, List.length_cons, List.length_nil, s_RoundHalves, s_known5, s_qOf, s_qScale, s_oGrid, s_dSame, dm_raw, dm_N0, dz, dx, dcn, dMof, tmI_idem, teI_idem, tmI_addL, teI_addL, tmI_addR, teI_addR, tmI_addN, teI_addN, tmI_mulL, teI_mulL, tmI_mulR, teI_mulR, tmI_neg, teI_neg, tmI_abs, teI_abs, Int.natAbs_natCast, teI_scale, topI_nrm, cmpD_nrm, sg_tmI, sameI_N0, beq_dec, clamp30e, min_if, clamp30b, clamp30c, vI_N0, Int.natAbs_neg, sg_eq, and_self, and_true, true_and, gm_nrm, ge_nrm, stepI_nrm, tm_gm, te_gm, tmI_eq0, Int.zero_add, cmp_teR, cmpD_nrmL, cmpD_nrmR, cmpD_self, gm_7, ge_7, eq_self, Bool.not_eq_eq_eq_not, decide_eq_true_eq, decide_eq_false_iff_not, not_true_eq_false, not_false_eq_true, decide_true, decide_false, Bool.true_and, Bool.and_true, Bool.not_true, Bool.not_false, beq_self_eq_true, Bool.true_eq_false, Bool.false_eq_true, reduceCtorEq, hw1, hw2, hw3, hw4, hw5, hw6, hm1, hm2, hm3, r0, r2, ht] at hc_; done) | (clear hc_; cbv))))
    all_goals subst hF hA
    all_goals (try simp only [fnOf, find, std, reduceIte, Nat.reduceEqDiff, sp1, sp2, a1, a2, FnSpec.out, Shape.build, leafs, leafCells, tups, oneOf, List.cons_append, List.nil_append, List.length_cons, List.length_nil, s_RoundHalves, s_known5, s_qOf, s_qScale, s_oGrid, s_dSame, dm_raw, dm_N0, dz, dx, dcn, dMof, tmI_idem, teI_idem, tmI_addL, teI_addL, tmI_addR, teI_addR, tmI_addN, teI_addN, tmI_mulL, teI_mulL, tmI_mulR, teI_mulR, tmI_neg, teI_neg, tmI_abs, teI_abs, Int.natAbs_natCast, teI_scale, topI_nrm, cmpD_nrm, sg_tmI, sameI_N0, beq_dec, clamp30e, min_if, clamp30b, clamp30c, vI_N0, Int.natAbs_neg, sg_eq, and_self, and_true, true_and, gm_nrm, ge_nrm, stepI_nrm, tm_gm, te_gm, tmI_eq0, Int.zero_add, cmp_teR, cmpD_nrmL, cmpD_nrmR, cmpD_self, gm_7, ge_7, hw1, hw2, hw3, hw4, hw5, hw6, hm1, hm2, hm3, r0, r2, ht] at hQ ⊢)
    all_goals (repeat' (first
      | with_reducible exact hQ
      | with_reducible exact Post.b hQ (beq_self_eq_true _).symm
      | with_reducible exact isi_int _ _
      | with_reducible exact fit_0
      | with_reducible exact fit_1
      | with_reducible assumption
      | with_reducible refine okI_mk ?_
      | with_reducible refine okW_mk ?_ ?_ ?_
      | with_reducible refine okE_mk ?_
      | with_reducible refine okD_mk ?_ ?_ ?_
      | (with_reducible refine canD_mk ?_ ?_ ?_ ?_ ?_; (focus simp only [tmI_idem, teI_idem, tmI_neg, teI_neg, tmI_abs, teI_abs, Int.natAbs_natCast]); (focus simp only [tmI_idem, teI_idem, tmI_neg, teI_neg, tmI_abs, teI_abs, Int.natAbs_natCast]))
      | (with_reducible refine okC_fit6 ?_; (repeat' (first | (with_reducible refine Fit.mono (by with_reducible assumption) ?_; omega) | with_reducible refine Fit.neg ?_ | with_reducible refine fit_abs ?_ | (with_reducible refine fit_mul4 ?_ ?_ ?_; (focus omega)) | with_reducible refine fit_tm ?_)))
      | (with_reducible refine ln_fit6 ?_ ?_; focus (repeat' (first | (with_reducible refine Fit.mono (by with_reducible assumption) ?_; omega) | with_reducible refine Fit.neg ?_ | with_reducible refine fit_abs ?_ | (with_reducible refine fit_mul4 ?_ ?_ ?_; (focus omega)) | with_reducible refine fit_tm ?_)))
      | (with_reducible refine near_mk ?_ ?_; (focus omega); (focus omega))
      | with_reducible exact okC_fit6 ((hfg _ _ _).mono (by decide))
      | with_reducible exact (hfg _ _ _).mono (by decide)
      | (with_reducible refine canD_mk (tm_gm _ _ _ _) (te_gm _ _ _ _) ((hfg _ _ _).mono (by decide)) ?_ ?_)
      | omega
      | ((repeat' (first | (with_reducible refine Fit.mono (by with_reducible assumption) ?_; omega) | with_reducible refine Fit.neg ?_ | with_reducible refine fit_abs ?_ | (with_reducible refine fit_mul4 ?_ ?_ ?_; (focus omega)) | with_reducible refine fit_tm ?_)); done)
      | with_reducible refine And.intro ?_ ?_))
    all_goals exact hQ
  · have hw1 : IntKind.i64.wrap n = n := wrap_in (by omega) (by omega)
    have hw2 : IntKind.i64.wrap (2 * n) = 2 * n := wrap_in (by omega) (by omega)
    have hw3 : IntKind.i64.wrap (2 * n + 1) = 2 * n + 1 := wrap_in (by omega) (by omega)
    have hw4 : IntKind.i64.wrap k = k := wrap_in (by omega) (by omega)
    have hw5 : IntKind.i64.wrap (k - 1) = k - 1 := wrap_in (by omega) (by omega)
    have hw6 : IntKind.i64.wrap (n + 1) = n + 1 := wrap_in (by omega) (by omega)
    have hm1 : min (max (k - 1) (-20000)) 20000 = k - 1 := by omega
    have hm2 : min (max k (-20000)) 20000 = k := by omega
    have hm3 : clampE k = k := hm2
    have fX : Fit (2 * n + 1) 640 := fit_small (by omega) (by omega)
    have fn : Fit n 640 := fit_small (by omega) (by omega)
    have fn1 : Fit (n + 1) 640 := fit_small (by omega) (by omega)
    have gX : Fit (tmI (2 * n + 1)) 640 := fX.le (tmI_le _)
    have gn : Fit (tmI n) 640 := fn.le (tmI_le _)
    have gn1 : Fit (tmI (n + 1)) 640 := fn1.le (tmI_le _)
    have bA := te_in (e := 0) (a := -200) (b := 200) (c := 840) fX (by omega) (by omega) (by omega) (by omega) (by decide)
    have bB := te_in (e := (k - 1)) (a := -200) (b := 200) (c := 840) fX (by omega) (by omega) (by omega) (by omega) (by decide)
    have bC := te_in (e := 0) (a := -200) (b := 200) (c := 840) fn (by omega) (by omega) (by omega) (by omega) (by decide)
    have bD := te_in (e := k) (a := -200) (b := 200) (c := 840) fn (by omega) (by omega) (by omega) (by omega) (by decide)
    have bE := te_in (e := 0) (a := -200) (b := 200) (c := 840) fn1 (by omega) (by omega) (by omega) (by omega) (by decide)
    have bF := te_in (e := k) (a := -200) (b := 200) (c := 840) fn1 (by omega) (by omega) (by omega) (by omega) (by decide)
    have hfg := fun e E md => fit_gm (m := 2 * n + 1) (e := e) (E := E) (mode := md) fX
    have hg2 := ge_inc (e := k - 1) (E := k) (mode := 2) (a := -200) (b := 200) (c := 841) fX (by omega) (by omega) (by omega) (by omega) (by omega) (by omega) (by decide)
    have hg0 := ge_inc (e := k - 1) (E := k) (mode := 0) (a := -200) (b := 200) (c := 841) fX (by omega) (by omega) (by omega) (by omega) (by omega) (by omega) (by decide)
    have r0 := half5 (n := n) (k := k) 0 n half_down
    have r2 := half5 (n := n) (k := k) 2 (n + 1) (half_odd h1)
    have ht : ¬n.tmod 2 = 0 := tmod2_odd h1
    cbv
    repeat' (first | with_reducible refine And.intro ?_ ?_ | (with_reducible refine safe_lift hA ?_; kernel_rfl) | (intro hc_; (first | (exfalso; clear hQ; subst hF hA; simp only [fnOf, find, std, reduceIte, Nat.reduceEqDiff, sp1, sp2, a1, a2, FnSpec.out, Shape.build, leafs, leafCells, tups, oneOf, List.cons_append, List.nil_append, List.length_cons, List.length_nil, s_RoundHalves, s_known5, s_qOf, s_qScale, s_oGrid, s_dSame, dm_raw, dm_N0, dz, dx, dcn, dMof, tmI_idem, teI_idem, tmI_addL, teI_addL, tmI_addR, teI_addR, tmI_addN, teI_addN, tmI_mulL, teI_mulL, tmI_mulR, teI_mulR, tmI_neg, teI_neg, tmI_abs, teI_abs, Int.natAbs_natCast, teI_scale, topI_nrm, cmpD_nrm, sg_tmI, sameI_N0, beq_dec, clamp30e, min_if, clamp30b, clamp30c, vI_N0, Int.natAbs_neg, sg_eq, and_self, and_true, true_and, gm_nrm, ge_nrm, stepI_nrm, tm_gm, te_gm, tmI_eq0, Int.zero_add, cmp_teR, cmpD_nrmL, cmpD_nrmR, cmpD_self, gm_7, ge_7, eq_self, Bool.not_eq_eq_eq_not, decide_eq_true_eq, decide_eq_false_iff_not, not_true_eq_false, not_false_eq_true, decide_true, decide_false, Bool.true_and, Bool.and_true, Bool.not_true, Bool.not_false, beq_self_eq_true, Bool.true_eq_false, Bool.false_eq_true, reduceCtorEq, hw1, hw2, hw3, hw4, hw5, hw6, hm1, hm2, hm3, r0, r2, ht] at hc_; done) | (clear hc_; cbv))))
    all_goals subst hF hA
    all_goals (try simp only [fnOf, find, std, reduceIte, Nat.reduceEqDiff, sp1, sp2, a1, a2, FnSpec.out, Shape.build, leafs, leafCells, tups, oneOf, List.cons_append, List.nil_append, List.length_cons, List.length_nil, s_RoundHalves, s_known5, s_qOf, s_qScale, s_oGrid, s_dSame, dm_raw, dm_N0, dz, dx, dcn, dMof, tmI_idem, teI_idem, tmI_addL, teI_addL, tmI_addR, teI_addR, tmI_addN, teI_addN, tmI_mulL, teI_mulL, tmI_mulR, teI_mulR, tmI_neg, teI_neg, tmI_abs, teI_abs, Int.natAbs_natCast, teI_scale, topI_nrm, cmpD_nrm, sg_tmI, sameI_N0, beq_dec, clamp30e, min_if, clamp30b, clamp30c, vI_N0, Int.natAbs_neg, sg_eq, and_self, and_true, true_and, gm_nrm, ge_nrm, stepI_nrm, tm_gm, te_gm, tmI_eq0, Int.zero_add, cmp_teR, cmpD_nrmL, cmpD_nrmR, cmpD_self, gm_7, ge_7, hw1, hw2, hw3, hw4, hw5, hw6, hm1, hm2, hm3, r0, r2, ht] at hQ ⊢)
    all_goals (repeat' (first
      | with_reducible exact hQ
      | with_reducible exact Post.b hQ (beq_self_eq_true _).symm
      | with_reducible exact isi_int _ _
      | with_reducible exact fit_0
      | with_reducible exact fit_1
      | with_reducible assumption
      | with_reducible refine okI_mk ?_
      | with_reducible refine okW_mk ?_ ?_ ?_
      | with_reducible refine okE_mk ?_
      | with_reducible refine okD_mk ?_ ?_ ?_
      | (with_reducible refine canD_mk ?_ ?_ ?_ ?_ ?_; (focus simp only [tmI_idem, teI_idem, tmI_neg, teI_neg, tmI_abs, teI_abs, Int.natAbs_natCast]); (focus simp only [tmI_idem, teI_idem, tmI_neg, teI_neg, tmI_abs, teI_abs, Int.natAbs_natCast]))
      | (with_reducible refine okC_fit6 ?_; (repeat' (first | (with_reducible refine Fit.mono (by with_reducible assumption) ?_; omega) | with_reducible refine Fit.neg ?_ | with_reducible refine fit_abs ?_ | (with_reducible refine fit_mul4 ?_ ?_ ?_; (focus omega)) | with_reducible refine fit_tm ?_)))
      | (with_reducible refine ln_fit6 ?_ ?_; focus (repeat' (first | (with_reducible refine Fit.mono (by with_reducible assumption) ?_; omega) | with_reducible refine Fit.neg ?_ | with_reducible refine fit_abs ?_ | (with_reducible refine fit_mul4 ?_ ?_ ?_; (focus omega)) | with_reducible refine fit_tm ?_)))
      | (with_reducible refine near_mk ?_ ?_; (focus omega); (focus omega))
      | with_reducible exact okC_fit6 ((hfg _ _ _).mono (by decide))
      | with_reducible exact (hfg _ _ _).mono (by decide)
      | (with_reducible refine canD_mk (tm_gm _ _ _ _) (te_gm _ _ _ _) ((hfg _ _ _).mono (by decide)) ?_ ?_)
      | omega
      | ((repeat' (first | (with_reducible refine Fit.mono (by with_reducible assumption) ?_; omega) | with_reducible refine Fit.neg ?_ | with_reducible refine fit_abs ?_ | (with_reducible refine fit_mul4 ?_ ?_ ?_; (focus omega)) | with_reducible refine fit_tm ?_)); done)
      | with_reducible refine And.intro ?_ ?_))
    all_goals exact hQ
end Go.Proofs.YtkijhcflomjdbaaDoor.Ev
