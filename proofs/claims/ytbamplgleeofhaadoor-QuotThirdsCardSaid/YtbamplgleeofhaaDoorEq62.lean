/- A law of quotients: QuotThirds. -/
import Derived.Test.YtbamplgleeofhaaDoorEq6
namespace Go.Proofs.YtbamplgleeofhaaDoor.Ev
open Go Go.RowKit
set_option linter.unusedSimpArgs false
set_option linter.unusedVariables false
set_option maxRecDepth 100000 in
set_option maxHeartbeats 16000000 in
theorem good_QuotThirds : Good Tryd.prog (GWL [0, 1]) N0 6 s_QuotThirds := by
  refine goodL (l := [0, 1]) (tab := [(7, s_known6), (20, s_qOf), (19, s_qScale), (10, s_kDiv), (21, s_qMul), (22, s_qSub), (23, s_qEqual), (24, s_qSign)]) (shs := [(7, .one .b), (20, .agg [.I, .i .i64]), (19, .agg [.I, .i .i64]), (10, .tup [(true, [.I, .i .i64]), (false, [.i .i64])]), (21, .agg [.I, .i .i64]), (22, .agg [.I, .i .i64]), (23, .one .b), (24, .one (.i .i64))]) rfl ⟨good_known6, good_qOf, good_qScale, good_kDiv, good_qMul, good_qSub, good_qEqual, good_qSign, trivial⟩ Tryd.f6 (by kernel_rfl) (by kernel_rfl) (by kernel_rfl) (fun ds hp F A Q hF hA hQ => ⟨0, ?_⟩)
  obtain ⟨n, b, rfl, ⟨hn1, hn2⟩, hbb1, hbb2⟩ := thirds6_arg hp
  clear hp
  have hta : 0 ≤ b.tmod 60 ∧ b.tmod 60 ≤ 59 := by rw [Int.tmod_eq_emod_of_nonneg hbb1]; omega
  obtain ⟨E, hE⟩ : ∃ E, E = n - (b.tmod 60 + 1) - 1 := ⟨_, rfl⟩
  obtain ⟨r1, L, hL1, hL2, r2, r3, hcas⟩ := thirds6 (P := b.tmod 60 + 1) (by omega) (by omega) hn1 hn2 hE
  have hw0 : IntKind.i64.wrap n = n := wrap_in (by omega) (by omega)
  have hw1 : IntKind.i64.wrap (b.tmod 60) = b.tmod 60 := wrap_in (by omega) (by omega)
  have hw2 : IntKind.i64.wrap (b.tmod 60 + 1) = b.tmod 60 + 1 := wrap_in (by omega) (by omega)
  have hw3 : IntKind.i64.wrap (n - (b.tmod 60 + 1)) = n - (b.tmod 60 + 1) := wrap_in (by omega) (by omega)
  have hw4 : IntKind.i64.wrap (n - (b.tmod 60 + 1) - 1) = E := by rw [wrap_in (by omega) (by omega)]; exact hE.symm
  have hm1 : min (max n (-20000)) 20000 = n := by omega
  have hm2 : min (max E (-20000)) 20000 = E := by omega
  have hm3 : min n E = E := by omega
  have hm4 : min E n = E := by omega
  have hne : (E + 1 = E) = False := eq_false (by omega)
  have hne2 : (E = E + 1) = False := eq_false (by omega)
  have fL : Fit L 200 := fit_small2 (by omega) (by omega)
  have fH : Fit (L + 1) 200 := fit_small2 (by omega) (by omega)
  have f3 : Fit 3 200 := fit_small2 (by decide) (by decide)
  have fL3 : Fit (L * 3) 400 := fL.mul f3 (by omega)
  have fH3 : Fit ((L + 1) * 3) 400 := fH.mul f3 (by omega)
  have bL := te_in (a := -400) (b := 400) (c := 600) fL (e := E) (by omega) (by omega) (by omega) (by omega) (by decide)
  have bH := te_in (a := -400) (b := 400) (c := 600) fH (e := E) (by omega) (by omega) (by omega) (by omega) (by decide)
  have bL3 := te_in (a := -400) (b := 400) (c := 800) fL3 (e := E) (by omega) (by omega) (by omega) (by omega) (by decide)
  have bH3 := te_in (a := -400) (b := 400) (c := 800) fH3 (e := E) (by omega) (by omega) (by omega) (by omega) (by decide)
  have f1 : Fit 1 200 := fit_small2 (by decide) (by decide)
  have f2 : Fit 2 200 := fit_small2 (by decide) (by decide)
  rcases hcas with ⟨c1, c2⟩ | ⟨c1, c2⟩
  · skip
    cbv
    repeat' (first | with_reducible refine And.intro ?_ ?_ | (with_reducible refine safe_lift hA ?_; kernel_rfl) | (intro hc_; (first | (with_reducible exfalso; clear hQ; subst hF hA; simp only [fnOf, find, std, reduceIte, Nat.reduceEqDiff, sp1, sp2, a1, a2, FnSpec.out, Shape.build, leafs, leafCells, tups, oneOf, List.cons_append, List.nil_append, List.length_cons, List.length_nil, s_QuotThirds, s_known6, s_qOf, s_qScale, s_kDiv, s_qMul, s_qSub, s_qEqual, s_qSign, dm_raw, dm_N0, dz, dx, dcn, dMof, tmI_idem, teI_idem, tmI_addL, teI_addL, tmI_addR, teI_addR, tmI_addN, teI_addN, tmI_mulL, teI_mulL, tmI_mulR, teI_mulR, tmI_neg, teI_neg, tmI_abs, teI_abs, Int.natAbs_natCast, teI_scale, topI_nrm, cmpD_nrm, sg_tmI, sameI_N0, beq_dec, clamp30e, min_if, clamp30b, clamp30c, vI_N0, Int.natAbs_neg, sg_eq, and_self, and_true, true_and, gm_nrm, ge_nrm, stepI_nrm, tm_gm, te_gm, tmI_eq0, smD, cmpD_nrmL, cmpD_nrmR, cmpD_self, Int.reduceLT, Int.reduceLE, Int.reduceNeg, Int.reduceEq, reduceIte, Int.reduceBEq, sub_cmp, sg_beq, teI_mulL0, k1, k1e, k2, k2e, k3, k3e, Int.zero_add, Int.add_zero, km1p, sg_1, eq_self, Bool.not_eq_eq_eq_not, decide_eq_true_eq, decide_eq_false_iff_not, not_true_eq_false, not_false_eq_true, decide_true, decide_false, Bool.true_and, Bool.and_true, Bool.not_true, Bool.not_false, beq_self_eq_true, Bool.true_eq_false, Bool.false_eq_true, reduceCtorEq, r1, r2, r3, hw0, hw1, hw2, hw3, hw4, hm1, hm2, hm3, hm4, hne, hne2, c1, c2] at hc_; done) | (clear hc_; cbv))))
    all_goals subst hF hA
    all_goals (try simp only [fnOf, find, std, reduceIte, Nat.reduceEqDiff, sp1, sp2, a1, a2, FnSpec.out, Shape.build, leafs, leafCells, tups, oneOf, List.cons_append, List.nil_append, List.length_cons, List.length_nil, s_QuotThirds, s_known6, s_qOf, s_qScale, s_kDiv, s_qMul, s_qSub, s_qEqual, s_qSign, dm_raw, dm_N0, dz, dx, dcn, dMof, tmI_idem, teI_idem, tmI_addL, teI_addL, tmI_addR, teI_addR, tmI_addN, teI_addN, tmI_mulL, teI_mulL, tmI_mulR, teI_mulR, tmI_neg, teI_neg, tmI_abs, teI_abs, Int.natAbs_natCast, teI_scale, topI_nrm, cmpD_nrm, sg_tmI, sameI_N0, beq_dec, clamp30e, min_if, clamp30b, clamp30c, vI_N0, Int.natAbs_neg, sg_eq, and_self, and_true, true_and, gm_nrm, ge_nrm, stepI_nrm, tm_gm, te_gm, tmI_eq0, smD, cmpD_nrmL, cmpD_nrmR, cmpD_self, Int.reduceLT, Int.reduceLE, Int.reduceNeg, Int.reduceEq, reduceIte, Int.reduceBEq, sub_cmp, sg_beq, teI_mulL0, k1, k1e, k2, k2e, k3, k3e, Int.zero_add, Int.add_zero, km1p, sg_1, r1, r2, r3, hw0, hw1, hw2, hw3, hw4, hm1, hm2, hm3, hm4, hne, hne2, c1, c2] at hQ ⊢)
    all_goals (repeat' (first
      | with_reducible exact hQ
      | with_reducible exact Post.b hQ (beq_self_eq_true _).symm
      | with_reducible exact isi_int _ _
      | with_reducible exact fit_0
      | with_reducible exact fit_1
      | with_reducible assumption
      | with_reducible refine okI_mk ?_
      | with_reducible refine okW_mk ?_ ?_ ?_
      | with_reducible refine okE_mk ?_
      | with_reducible refine okD_mk ?_ ?_ ?_
      | (with_reducible refine canD_mk ?_ ?_ ?_ ?_ ?_; (focus simp only [tmI_idem, teI_idem, tmI_neg, teI_neg, tmI_abs, teI_abs, Int.natAbs_natCast]); (focus simp only [tmI_idem, teI_idem, tmI_neg, teI_neg, tmI_abs, teI_abs, Int.natAbs_natCast]))
      | (with_reducible refine okC_fit6 ?_; (repeat' (first | (with_reducible refine Fit.mono (by with_reducible assumption) ?_; omega) | with_reducible refine Fit.neg ?_ | with_reducible refine fit_abs ?_ | (with_reducible refine fit_mul4 ?_ ?_ ?_; (focus omega)) | with_reducible refine fit_tm ?_)))
      | (with_reducible refine ln_fit6 ?_ ?_; focus (repeat' (first | (with_reducible refine Fit.mono (by with_reducible assumption) ?_; omega) | with_reducible refine Fit.neg ?_ | with_reducible refine fit_abs ?_ | (with_reducible refine fit_mul4 ?_ ?_ ?_; (focus omega)) | with_reducible refine fit_tm ?_)))
      | (with_reducible refine near_mk ?_ ?_; (focus omega); (focus omega))
      | with_reducible exact canD_mk k1 (k1e _) fit_1 (by omega) (by omega)
      | with_reducible exact canD_mk k3 (k3e _) fit_3 (by omega) (by omega)
      | omega
      | ((repeat' (first | (with_reducible refine Fit.mono (by with_reducible assumption) ?_; omega) | with_reducible refine Fit.neg ?_ | with_reducible refine fit_abs ?_ | (with_reducible refine fit_mul4 ?_ ?_ ?_; (focus omega)) | with_reducible refine fit_tm ?_)); done)
      | with_reducible refine And.intro ?_ ?_))
    all_goals exact hQ
  · skip
    cbv
    repeat' (first | with_reducible refine And.intro ?_ ?_ | (with_reducible refine safe_lift hA ?_; kernel_rfl) | (intro hc_; (first | (with_reducible exfalso; clear hQ; subst hF hA; simp only [fnOf, find, std, reduceIte, Nat.reduceEqDiff, sp1, sp2, a1, a2, FnSpec.out, Shape.build, leafs, leafCells, tups, oneOf, List.cons_append, List.nil_append, List.length_cons, List.length_nil, s_QuotThirds, s_known6, s_qOf, s_qScale, s_kDiv, s_qMul, s_qSub, s_qEqual, s_qSign, dm_raw, dm_N0, dz, dx, dcn, dMof, tmI_idem, teI_idem, tmI_addL, teI_addL, tmI_addR, teI_addR, tmI_addN, teI_addN, tmI_mulL, teI_mulL, tmI_mulR, teI_mulR, tmI_neg, teI_neg, tmI_abs, teI_abs, Int.natAbs_natCast, teI_scale, topI_nrm, cmpD_nrm, sg_tmI, sameI_N0, beq_dec, clamp30e, min_if, clamp30b, clamp30c, vI_N0, Int.natAbs_neg, sg_eq, and_self, and_true, true_and, gm_nrm, ge_nrm, stepI_nrm, tm_gm, te_gm, tmI_eq0, smD, cmpD_nrmL, cmpD_nrmR, cmpD_self, Int.reduceLT, Int.reduceLE, Int.reduceNeg, Int.reduceEq, reduceIte, Int.reduceBEq, sub_cmp, sg_beq, teI_mulL0, k1, k1e, k2, k2e, k3, k3e, Int.zero_add, Int.add_zero, km1p, sg_1, eq_self, Bool.not_eq_eq_eq_not, decide_eq_true_eq, decide_eq_false_iff_not, not_true_eq_false, not_false_eq_true, decide_true, decide_false, Bool.true_and, Bool.and_true, Bool.not_true, Bool.not_false, beq_self_eq_true, Bool.true_eq_false, Bool.false_eq_true, reduceCtorEq, r1, r2, r3, hw0, hw1, hw2, hw3, hw4, hm1, hm2, hm3, hm4, hne, hne2, c1, c2] at hc_; done) | (clear hc_; cbv))))
    all_goals subst hF hA
    all_goals (try simp only [fnOf, find, std, reduceIte, Nat.reduceEqDiff, sp1, sp2, a1, a2, FnSpec.out, Shape.build, leafs, leafCells, tups, oneOf, List.cons_append, List.nil_append, List.length_cons, List.length_nil, s_QuotThirds, s_known6, s_qOf, s_qScale, s_kDiv, s_qMul, s_qSub, s_qEqual, s_qSign, dm_raw, dm_N0, dz, dx, dcn, dMof, tmI_idem, teI_idem, tmI_addL, teI_addL, tmI_addR, teI_addR, tmI_addN, teI_addN, tmI_mulL, teI_mulL, tmI_mulR, teI_mulR, tmI_neg, teI_neg, tmI_abs, teI_abs, Int.natAbs_natCast, teI_scale, topI_nrm, cmpD_nrm, sg_tmI, sameI_N0, beq_dec, clamp30e, min_if, clamp30b, clamp30c, vI_N0, Int.natAbs_neg, sg_eq, and_self, and_true, true_and, gm_nrm, ge_nrm, stepI_nrm, tm_gm, te_gm, tmI_eq0, smD, cmpD_nrmL, cmpD_nrmR, cmpD_self, Int.reduceLT, Int.reduceLE, Int.reduceNeg, Int.reduceEq, reduceIte, Int.reduceBEq, sub_cmp, sg_beq, teI_mulL0, k1, k1e, k2, k2e, k3, k3e, Int.zero_add, Int.add_zero, km1p, sg_1, r1, r2, r3, hw0, hw1, hw2, hw3, hw4, hm1, hm2, hm3, hm4, hne, hne2, c1, c2] at hQ ⊢)
    all_goals (repeat' (first
      | with_reducible exact hQ
      | with_reducible exact Post.b hQ (beq_self_eq_true _).symm
      | with_reducible exact isi_int _ _
      | with_reducible exact fit_0
      | with_reducible exact fit_1
      | with_reducible assumption
      | with_reducible refine okI_mk ?_
      | with_reducible refine okW_mk ?_ ?_ ?_
      | with_reducible refine okE_mk ?_
      | with_reducible refine okD_mk ?_ ?_ ?_
      | (with_reducible refine canD_mk ?_ ?_ ?_ ?_ ?_; (focus simp only [tmI_idem, teI_idem, tmI_neg, teI_neg, tmI_abs, teI_abs, Int.natAbs_natCast]); (focus simp only [tmI_idem, teI_idem, tmI_neg, teI_neg, tmI_abs, teI_abs, Int.natAbs_natCast]))
      | (with_reducible refine okC_fit6 ?_; (repeat' (first | (with_reducible refine Fit.mono (by with_reducible assumption) ?_; omega) | with_reducible refine Fit.neg ?_ | with_reducible refine fit_abs ?_ | (with_reducible refine fit_mul4 ?_ ?_ ?_; (focus omega)) | with_reducible refine fit_tm ?_)))
      | (with_reducible refine ln_fit6 ?_ ?_; focus (repeat' (first | (with_reducible refine Fit.mono (by with_reducible assumption) ?_; omega) | with_reducible refine Fit.neg ?_ | with_reducible refine fit_abs ?_ | (with_reducible refine fit_mul4 ?_ ?_ ?_; (focus omega)) | with_reducible refine fit_tm ?_)))
      | (with_reducible refine near_mk ?_ ?_; (focus omega); (focus omega))
      | with_reducible exact canD_mk k1 (k1e _) fit_1 (by omega) (by omega)
      | with_reducible exact canD_mk k3 (k3e _) fit_3 (by omega) (by omega)
      | omega
      | ((repeat' (first | (with_reducible refine Fit.mono (by with_reducible assumption) ?_; omega) | with_reducible refine Fit.neg ?_ | with_reducible refine fit_abs ?_ | (with_reducible refine fit_mul4 ?_ ?_ ?_; (focus omega)) | with_reducible refine fit_tm ?_)); done)
      | with_reducible refine And.intro ?_ ?_))
    all_goals exact hQ
end Go.Proofs.YtbamplgleeofhaaDoor.Ev
