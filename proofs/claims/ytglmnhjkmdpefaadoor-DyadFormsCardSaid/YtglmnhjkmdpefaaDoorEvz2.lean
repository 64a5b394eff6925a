/- A law of dyads: DyadForms. -/
import Derived.Test.YtglmnhjkmdpefaaDoorEvh
namespace Go.Proofs.YtglmnhjkmdpefaaDoor.Ev
open Go Go.RowKit
set_option linter.unusedSimpArgs false
set_option linter.unusedVariables false
set_option maxRecDepth 100000 in
set_option maxHeartbeats 16000000 in
theorem good_DyadForms : Good Tryd.prog GWM N0 6 s_DyadForms := by
  refine goodM (tab := [(13, s_known4), (19, s_dMake), (43, s_rShlI), (18, s_qEqual), (40, s_dSame), (16, s_dIs), (20, s_dOf), (26, s_dAdd), (24, s_dCmp)]) (shs := [(13, .one .b), (19, .agg [.I, .i .i64]), (43, .agg [.I]), (18, .one .b), (40, .one .b), (16, .one .b), (20, .agg [.I, .i .i64]), (26, .agg [.I, .i .i64]), (24, .one (.i .i64))]) rfl ⟨good_known4, (good_dMake.mono fun _ h => h.base), (good_rShlI.mono fun _ h => h.base), (good_qEqual.mono fun _ h => h.base), (good_dSame.mono fun _ h => h.base), (good_dIs.mono fun _ h => h.base), (good_dOf.mono fun _ h => h.base), (good_dAdd.mono fun _ h => h.base), (good_dCmp.mono fun _ h => h.base), trivial⟩ Tryd.f6 (by kernel_rfl) (by kernel_rfl) (by kernel_rfl) (fun ds hp F A Q hF hA hQ => ⟨0, ?_⟩)
  obtain ⟨x, e, k, rfl, hx, ⟨he1, he2⟩, hk1, hk2⟩ := forms4_arg hp
  obtain ⟨s, n, cs, rfl, hw⟩ := okJ_arg hx
  clear hp hx
  by_cases h1 : (16 : Int) < (n : Int)
  · have hl1 : ((16 : Int) < (n : Int)) = True := eq_true (by omega)
    cbv
    repeat' (first | with_reducible refine And.intro ?_ ?_ | (refine safe_lift hA ?_; kernel_rfl) | (intro hc_; (first | (exfalso; clear hQ; subst hF hA; simp only [fnOf, find, std, reduceIte, Nat.reduceEqDiff, sp1, sp2, a1, a2, FnSpec.out, Shape.build, leafs, leafCells, tups, oneOf, List.cons_append, List.nil_append, List.length_cons, List.length_nil, s_DyadForms, s_known4, s_dMake, s_rShlI, s_qEqual, s_dSame, s_dIs, s_dOf, s_dAdd, s_dCmp, dm_raw, dm_N0, dz, dx, dcn, dMof, tmI_idem, teI_idem, tmI_addL, teI_addL, tmI_addR, teI_addR, tmI_addN, teI_addN, tmI_mulL, teI_mulL, tmI_mulR, teI_mulR, tmI_neg, teI_neg, tmI_abs, teI_abs, Int.natAbs_natCast, teI_scale, topI_nrm, cmpD_nrm, cmpD_nrmL, cmpD_nrmR, sg_tmI, sameI_N0, sub_cmp, mul_addM, min_addl, min_addr, addM_shift, cmp_addsub, cmp_comm, cmpD_self, sg_abs0, sg_mulW, Int.add_neg_cancel_right, beq_dec, clamp30e, min_if, clamp30b, clamp30c, vI_N0, Int.natAbs_neg, tmI_shift, teI_shift, tmI_add0, teI_add0, tmI_zero, teI_zero, Int.sub_add_cancel, sgn_neg, eq_self, Bool.not_eq_eq_eq_not, decide_eq_true_eq, decide_eq_false_iff_not, not_true_eq_false, not_false_eq_true, decide_true, decide_false, Bool.true_and, Bool.and_true, Bool.not_true, Bool.not_false, beq_self_eq_true, Bool.true_eq_false, Bool.false_eq_true, reduceCtorEq, hl1] at hc_; done) | (clear hc_; cbv))))
    all_goals subst hF hA
    all_goals (try simp only [fnOf, find, std, reduceIte, Nat.reduceEqDiff, sp1, sp2, a1, a2, FnSpec.out, Shape.build, leafs, leafCells, tups, oneOf, List.cons_append, List.nil_append, List.length_cons, List.length_nil, s_DyadForms, s_known4, s_dMake, s_rShlI, s_qEqual, s_dSame, s_dIs, s_dOf, s_dAdd, s_dCmp, dm_raw, dm_N0, dz, dx, dcn, dMof, tmI_idem, teI_idem, tmI_addL, teI_addL, tmI_addR, teI_addR, tmI_addN, teI_addN, tmI_mulL, teI_mulL, tmI_mulR, teI_mulR, tmI_neg, teI_neg, tmI_abs, teI_abs, Int.natAbs_natCast, teI_scale, topI_nrm, cmpD_nrm, cmpD_nrmL, cmpD_nrmR, sg_tmI, sameI_N0, sub_cmp, mul_addM, min_addl, min_addr, addM_shift, cmp_addsub, cmp_comm, cmpD_self, sg_abs0, sg_mulW, Int.add_neg_cancel_right, beq_dec, clamp30e, min_if, clamp30b, clamp30c, vI_N0, Int.natAbs_neg, tmI_shift, teI_shift, tmI_add0, teI_add0, tmI_zero, teI_zero, Int.sub_add_cancel, sgn_neg, hl1] at hQ ⊢)
    all_goals (repeat' (first
      | with_reducible exact hQ
      | with_reducible exact Post.b hQ (beq_self_eq_true _).symm
      | with_reducible exact isi_int _ _
      | with_reducible exact fit_0
      | with_reducible exact fit_1
      | with_reducible assumption
      | with_reducible refine okI_mk ?_
      | with_reducible refine okW_mk ?_ ?_ ?_
      | with_reducible refine okE_mk ?_
      | with_reducible refine okD_mk ?_ ?_ ?_
      | (with_reducible refine canD_mk ?_ ?_ ?_ ?_ ?_; (focus simp only [tmI_idem, teI_idem, tmI_neg, teI_neg, tmI_abs, teI_abs, Int.natAbs_natCast]); (focus simp only [tmI_idem, teI_idem, tmI_neg, teI_neg, tmI_abs, teI_abs, Int.natAbs_natCast]))
      | (with_reducible refine okC_fit6 ?_; (repeat' (first | (with_reducible refine Fit.mono (by with_reducible assumption) ?_; omega) | with_reducible refine Fit.neg ?_ | with_reducible refine fit_abs ?_ | (with_reducible refine fit_mul4 ?_ ?_ ?_; (focus omega)) | with_reducible refine fit_tm ?_)))
      | (with_reducible refine ln_fit6 ?_ ?_; focus (repeat' (first | (with_reducible refine Fit.mono (by with_reducible assumption) ?_; omega) | with_reducible refine Fit.neg ?_ | with_reducible refine fit_abs ?_ | (with_reducible refine fit_mul4 ?_ ?_ ?_; (focus omega)) | with_reducible refine fit_tm ?_)))
      | (with_reducible refine near_mk ?_ ?_; (focus omega); (focus omega))
      | omega
      | ((repeat' (first | (with_reducible refine Fit.mono (by with_reducible assumption) ?_; omega) | with_reducible refine Fit.neg ?_ | with_reducible refine fit_abs ?_ | (with_reducible refine fit_mul4 ?_ ?_ ?_; (focus omega)) | with_reducible refine fit_tm ?_)); done)
      | with_reducible refine And.intro ?_ ?_))
    all_goals exact hQ
  · have hc : okC n cs := hw (by omega)
    have hn1 : n ≤ 90000 := by omega
    have hn2 : n ≤ 20000 := by omega
    have fX : Fit (vI s cs) 512 := (okC_fit hc s).mono (by omega)
    have gX : Fit (tmI (vI s cs)) 512 := fX.le (tmI_le _)
    obtain ⟨j, hj, hj1⟩ : ∃ j : Nat, k.tmod 100 = j ∧ j < 100 := ⟨(k.tmod 100).toNat, by rw [Int.tmod_eq_emod_of_nonneg (by omega)]; omega, by rw [Int.tmod_eq_emod_of_nonneg (by omega)]; omega⟩
    obtain ⟨E, hE, hE1, hE2⟩ : ∃ E : Int, e.tmod 1000 = E ∧ -1000 < E ∧ E < 1000 := ⟨_, rfl, by have := Int.lt_tmod_of_pos e (show (0 : Int) < 1000 by omega); omega, Int.tmod_lt_of_pos e (by omega)⟩
    have hw1 : IntKind.i64.wrap (j : Int) = j := wrap_in (by omega) (by omega)
    have hw2 : IntKind.i64.wrap E = E := wrap_in (by omega) (by omega)
    have hw3 : IntKind.i64.wrap (E - (j : Int)) = E - j := wrap_in (by omega) (by omega)
    have hm1 : min (max E (-20000)) 20000 = E := by omega
    have hm2 : min (max (E - (j : Int)) (-20000)) 20000 = E - j := by omega
    have hh : heldN (j : Int) = j := heldN_nat (by omega)
    have hz1 := cmp_shift (vI s cs) E j
    have hz2 := cmp_anti _ _ _ _ hz1
    have bX := te_in (e := E) (a := -1000) (b := 1000) (c := 1512) fX (by omega) (by omega) (by omega) (by omega) (by decide)
    have hIs := isD_N0 (M := vI s cs) (E := E) (by omega) (by omega)
    have fS : Fit (vI s cs * 2 ^ j) 700 := fX.shl (by omega)
    have hl1 : ((16 : Int) < (n : Int)) = False := eq_false (by omega)
    cbv
    repeat' (first | with_reducible refine And.intro ?_ ?_ | (refine safe_lift hA ?_; kernel_rfl) | (intro hc_; (first | (exfalso; clear hQ; subst hF hA; simp only [fnOf, find, std, reduceIte, Nat.reduceEqDiff, sp1, sp2, a1, a2, FnSpec.out, Shape.build, leafs, leafCells, tups, oneOf, List.cons_append, List.nil_append, List.length_cons, List.length_nil, s_DyadForms, s_known4, s_dMake, s_rShlI, s_qEqual, s_dSame, s_dIs, s_dOf, s_dAdd, s_dCmp, dm_raw, dm_N0, dz, dx, dcn, dMof, tmI_idem, teI_idem, tmI_addL, teI_addL, tmI_addR, teI_addR, tmI_addN, teI_addN, tmI_mulL, teI_mulL, tmI_mulR, teI_mulR, tmI_neg, teI_neg, tmI_abs, teI_abs, Int.natAbs_natCast, teI_scale, topI_nrm, cmpD_nrm, cmpD_nrmL, cmpD_nrmR, sg_tmI, sameI_N0, sub_cmp, mul_addM, min_addl, min_addr, addM_shift, cmp_addsub, cmp_comm, cmpD_self, sg_abs0, sg_mulW, Int.add_neg_cancel_right, beq_dec, clamp30e, min_if, clamp30b, clamp30c, vI_N0, Int.natAbs_neg, tmI_shift, teI_shift, tmI_add0, teI_add0, tmI_zero, teI_zero, Int.sub_add_cancel, sgn_neg, eq_self, Bool.not_eq_eq_eq_not, decide_eq_true_eq, decide_eq_false_iff_not, not_true_eq_false, not_false_eq_true, decide_true, decide_false, Bool.true_and, Bool.and_true, Bool.not_true, Bool.not_false, beq_self_eq_true, Bool.true_eq_false, Bool.false_eq_true, reduceCtorEq, hl1, hj, hE, hw1, hw2, hw3, hm1, hm2, hh, hz1, hz2, hIs] at hc_; done) | (clear hc_; cbv))))
    all_goals subst hF hA
    all_goals (try simp only [fnOf, find, std, reduceIte, Nat.reduceEqDiff, sp1, sp2, a1, a2, FnSpec.out, Shape.build, leafs, leafCells, tups, oneOf, List.cons_append, List.nil_append, List.length_cons, List.length_nil, s_DyadForms, s_known4, s_dMake, s_rShlI, s_qEqual, s_dSame, s_dIs, s_dOf, s_dAdd, s_dCmp, dm_raw, dm_N0, dz, dx, dcn, dMof, tmI_idem, teI_idem, tmI_addL, teI_addL, tmI_addR, teI_addR, tmI_addN, teI_addN, tmI_mulL, teI_mulL, tmI_mulR, teI_mulR, tmI_neg, teI_neg, tmI_abs, teI_abs, Int.natAbs_natCast, teI_scale, topI_nrm, cmpD_nrm, cmpD_nrmL, cmpD_nrmR, sg_tmI, sameI_N0, sub_cmp, mul_addM, min_addl, min_addr, addM_shift, cmp_addsub, cmp_comm, cmpD_self, sg_abs0, sg_mulW, Int.add_neg_cancel_right, beq_dec, clamp30e, min_if, clamp30b, clamp30c, vI_N0, Int.natAbs_neg, tmI_shift, teI_shift, tmI_add0, teI_add0, tmI_zero, teI_zero, Int.sub_add_cancel, sgn_neg, hl1, hj, hE, hw1, hw2, hw3, hm1, hm2, hh, hz1, hz2, hIs] at hQ ⊢)
    all_goals (repeat' (first
      | with_reducible exact hQ
      | with_reducible exact Post.b hQ (beq_self_eq_true _).symm
      | with_reducible exact isi_int _ _
      | with_reducible exact fit_0
      | with_reducible exact fit_1
      | with_reducible assumption
      | with_reducible refine okI_mk ?_
      | with_reducible refine okW_mk ?_ ?_ ?_
      | with_reducible refine okE_mk ?_
      | with_reducible refine okD_mk ?_ ?_ ?_
      | (with_reducible refine canD_mk ?_ ?_ ?_ ?_ ?_; (focus simp only [tmI_idem, teI_idem, tmI_neg, teI_neg, tmI_abs, teI_abs, Int.natAbs_natCast]); (focus simp only [tmI_idem, teI_idem, tmI_neg, teI_neg, tmI_abs, teI_abs, Int.natAbs_natCast]))
      | (with_reducible refine okC_fit6 ?_; (repeat' (first | (with_reducible refine Fit.mono (by with_reducible assumption) ?_; omega) | with_reducible refine Fit.neg ?_ | with_reducible refine fit_abs ?_ | (with_reducible refine fit_mul4 ?_ ?_ ?_; (focus omega)) | with_reducible refine fit_tm ?_)))
      | (with_reducible refine ln_fit6 ?_ ?_; focus (repeat' (first | (with_reducible refine Fit.mono (by with_reducible assumption) ?_; omega) | with_reducible refine Fit.neg ?_ | with_reducible refine fit_abs ?_ | (with_reducible refine fit_mul4 ?_ ?_ ?_; (focus omega)) | with_reducible refine fit_tm ?_)))
      | (with_reducible refine near_mk ?_ ?_; (focus omega); (focus omega))
      | omega
      | ((repeat' (first | (with_reducible refine Fit.mono (by with_reducible assumption) ?_; omega) | with_reducible refine Fit.neg ?_ | with_reducible refine fit_abs ?_ | (with_reducible refine fit_mul4 ?_ ?_ ?_; (focus omega)) | with_reducible refine fit_tm ?_)); done)
      | with_reducible refine And.intro ?_ ?_))
    all_goals exact hQ
end Go.Proofs.YtglmnhjkmdpefaaDoor.Ev
