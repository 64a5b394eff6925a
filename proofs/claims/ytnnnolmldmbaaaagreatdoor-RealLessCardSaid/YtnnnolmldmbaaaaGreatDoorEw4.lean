/- A law of intervals: RealLess. -/
import Derived.Test.YtnnnolmldmbaaaaGreatDoorXl
namespace Go.Proofs.YtnnnolmldmbaaaaGreatDoor.Ev
open Go Go.RowKit
set_option linter.unusedSimpArgs false
set_option linter.unusedVariables false
def s_RealLess : FnSpec := ⟨.one .b, fun ds => match ds with | [x, y, z, .int .u8 c] => okX x ∧ okX y ∧ okX z ∧ 0 ≤ c ∧ c ≤ 255 | _ => False, fun _ _ => 0, fun _ _ => true, fun _ _ => 0, fun _ _ => []⟩
theorem RealLess_arg {ds : List D} (h : s_RealLess.p ds) : ∃ x y z c, ds = [x, y, z, .int .u8 c] ∧ okX x ∧ okX y ∧ okX z ∧ 0 ≤ c ∧ c ≤ 255 := by
  unfold s_RealLess at h
  dsimp only at h
  split at h
  · exact ⟨_, _, _, _, rfl, h⟩
  · exact h.elim
set_option maxRecDepth 100000 in
set_option maxHeartbeats 16000000 in
theorem good_RealLess : Good Tryz.prog (GWL [0, 1, 2, 3, 5]) N0 7 s_RealLess := by
  refine goodL (l := [0, 1, 2, 3, 5]) (tab := [(9, s_known7), (10, s_fewR), (13, s_eMeet), (20, s_eIn), (38, s_eSame), (23, s_eAdd), (27, s_eMul), (33, s_ePow), (34, s_eAbs), (29, s_eNeg), (25, s_eSub), (36, s_eHull)]) (shs := [(9, .one .b), (10, .one .b), (13, .tup [(true, [.I, .i .i64, .I, .i .i64]), (false, [.b])]), (20, .one .b), (38, .one .b), (23, .agg [.I, .i .i64, .I, .i .i64]), (27, .agg [.I, .i .i64, .I, .i .i64]), (33, .agg [.I, .i .i64, .I, .i .i64]), (34, .agg [.I, .i .i64, .I, .i .i64]), (29, .agg [.I, .i .i64, .I, .i .i64]), (25, .agg [.I, .i .i64, .I, .i .i64]), (36, .agg [.I, .i .i64, .I, .i .i64])]) rfl ⟨(good_known7.lift (by decide)), (good_fewR.lift (by decide)), (good_eMeet.lift (by decide)), (good_eIn.lift (by decide)), (good_eSame.lift (by decide)), (good_eAdd.lift (by decide)), (good_eMul.lift (by decide)), (good_ePow.lift (by decide)), (good_eAbs.lift (by decide)), (good_eNeg.lift (by decide)), (good_eSub.lift (by decide)), (good_eHull.lift (by decide)), trivial⟩ Tryz.f7 (by kernel_rfl) (by kernel_rfl) (by kernel_rfl) (fun ds hp F A Q hF hA hQ => ⟨0, ?_⟩)
  obtain ⟨x, y, z, c, rfl, hx, hy, hz, hc1, hc2⟩ := RealLess_arg hp
  obtain ⟨s, n, cs, e, t, m, es, f, rfl, hw, hr, hw2, hr2⟩ := okX_arg hx
  obtain ⟨u, p, gs, g, v, q, hs, h, rfl, hv, hs1, hv2, hs2⟩ := okX_arg hy
  obtain ⟨a, i, is, j, b, k, ks, l, rfl, hz, hq1, hz2, hq2⟩ := okX_arg hz
  clear hp hx hy
  have htc : 0 ≤ c.tmod 6 ∧ c.tmod 6 ≤ 5 := by rw [Int.tmod_eq_emod_of_nonneg hc1]; omega
  rcases four7 (a := ((n ≤ 10 ∧ -1000 ≤ e ∧ e ≤ 1000) ∧ m ≤ 10 ∧ -1000 ≤ f ∧ f ≤ 1000)) (b := ((p ≤ 10 ∧ -1000 ≤ g ∧ g ≤ 1000) ∧ q ≤ 10 ∧ -1000 ≤ h ∧ h ≤ 1000)) (c := ((i ≤ 10 ∧ -1000 ≤ j ∧ j ≤ 1000) ∧ k ≤ 10 ∧ -1000 ≤ l ∧ l ≤ 1000)) (d := meetB ((vI s cs, e), (vI t es, f)) ((vI u gs, g), (vI v hs, h)) = true) with kx | ⟨kx, ky⟩ | ⟨kx, ky, kz⟩ | ⟨kx, ky, kz, hm⟩ | ⟨kx, ky, kz, hm⟩
  · have hfx : (((n ≤ 10 ∧ -1000 ≤ e ∧ e ≤ 1000) ∧ m ≤ 10 ∧ -1000 ≤ f ∧ f ≤ 1000)) = False := eq_false kx
    cbv
    repeat' (first | with_reducible refine And.intro ?_ ?_ | (with_reducible refine safe_lift hA ?_; kernel_rfl) | (intro hc_; (first | (with_reducible exfalso; clear hQ; subst hF hA; simp only [fnOf, find, std, reduceIte, Nat.reduceEqDiff, sp1, sp2, a1, a2, FnSpec.out, Shape.build, leafs, leafCells, tups, oneOf, List.cons_append, List.nil_append, List.length_cons, List.length_nil, s_RealLess, s_known7, s_fewR, s_eMeet, s_eIn, s_eSame, s_eAdd, s_eMul, s_ePow, s_eAbs, s_eNeg, s_eSub, s_eHull, re4, rv_raw, rv_N0, dv, dz, dx, dcn, dm_raw, dm_N0, vI_N0, raw6_is, Prod.eta, vI_nil, N0_neg0, N0_ln0, N0_lm0, tmI_idem, teI_idem, cmpD_nrm, cmpD_nrmL, cmpD_nrmR, hasY_n, inY_rn, meetY_rn, zeroY_rn, powN_2, min_if, hasB_zero, wrap_er, rn_rn, Int.reduceNeg, Int.reduceEq, Int.reduceLT, Int.reduceLE, Int.reduceBEq, beq_dec, Int.reduceAdd, Int.zero_add, Int.add_zero, eq_self, Bool.not_eq_eq_eq_not, decide_eq_true_eq, decide_eq_false_iff_not, not_true_eq_false, not_false_eq_true, decide_true, decide_false, Bool.true_and, Bool.and_true, Bool.not_true, Bool.not_false, beq_self_eq_true, Bool.true_eq_false, Bool.false_eq_true, reduceCtorEq, gt_iff_lt, ge_iff_le, true_and, and_true, and_self, Bool.false_eq, Bool.and_self, hfx] at hc_; done) | (clear hc_; cbv))))
    all_goals subst hF hA
    all_goals (try simp only [fnOf, find, std, reduceIte, Nat.reduceEqDiff, sp1, sp2, a1, a2, FnSpec.out, Shape.build, leafs, leafCells, tups, oneOf, List.cons_append, List.nil_append, List.length_cons, List.length_nil, s_RealLess, s_known7, s_fewR, s_eMeet, s_eIn, s_eSame, s_eAdd, s_eMul, s_ePow, s_eAbs, s_eNeg, s_eSub, s_eHull, re4, rv_raw, rv_N0, dv, dz, dx, dcn, dm_raw, dm_N0, vI_N0, raw6_is, Prod.eta, vI_nil, N0_neg0, N0_ln0, N0_lm0, tmI_idem, teI_idem, cmpD_nrm, cmpD_nrmL, cmpD_nrmR, hasY_n, inY_rn, meetY_rn, zeroY_rn, powN_2, min_if, hasB_zero, wrap_er, rn_rn, Int.reduceNeg, Int.reduceEq, Int.reduceLT, Int.reduceLE, Int.reduceBEq, beq_dec, Int.reduceAdd, Int.zero_add, Int.add_zero, eq_self, Bool.not_eq_eq_eq_not, decide_eq_true_eq, decide_eq_false_iff_not, not_true_eq_false, not_false_eq_true, decide_true, decide_false, Bool.true_and, Bool.and_true, Bool.not_true, Bool.not_false, beq_self_eq_true, Bool.true_eq_false, Bool.false_eq_true, reduceCtorEq, gt_iff_lt, ge_iff_le, true_and, and_true, and_self, Bool.false_eq, Bool.and_self, hfx] at hQ ⊢)
    all_goals (repeat' (first
      | with_reducible exact hQ
      | with_reducible assumption
      | with_reducible exact isi_int _ _
      | (with_reducible refine canR_c (r := ((_, _), (_, _))) ?_; with_reducible assumption)
      | (with_reducible refine okR_c (r := ((_, _), (_, _))) ?_; with_reducible assumption)
      | (with_reducible refine okM_fR (r := ((_, _), (_, _))) ?_; with_reducible assumption)
      | (with_reducible refine few20_fR (r := ((_, _), (_, _))) ?_; with_reducible assumption)
      | (with_reducible refine few30_fR (r := ((_, _), (_, _))) ?_; with_reducible assumption)
      | with_reducible exact True.intro
      | (with_reducible refine few40_fR (r := ((_, _), (_, _))) ?_; with_reducible assumption)
      | (with_reducible refine canD_c (a := (_, _)) ?_; with_reducible assumption)
      | (with_reducible refine okT_c (a := (_, _)) ?_; with_reducible assumption)
      | (with_reducible refine okD_c (a := (_, _)) ?_; with_reducible assumption)
      | (with_reducible refine near_c (a := (_, _)) (b := (_, _)) ?_ ?_ <;> with_reducible assumption)
      | (with_reducible refine okE_fit ?_ (k := 10000) (by omega); with_reducible assumption)
      | with_reducible refine okX_mk ?_ ?_ ?_ ?_
      | with_reducible refine okW_mk ?_ ?_ ?_
      | with_reducible refine okE_mk ?_
      | with_reducible refine okI_mk ?_
      | with_reducible refine okD_mk ?_ ?_ ?_
      | (with_reducible refine near_mk ?_ ?_; (focus omega); (focus omega))
      | omega
      | with_reducible refine And.intro ?_ ?_))
  · have hfx : (((n ≤ 10 ∧ -1000 ≤ e ∧ e ≤ 1000) ∧ m ≤ 10 ∧ -1000 ≤ f ∧ f ≤ 1000)) = True := eq_true kx
    have hfy : (((p ≤ 10 ∧ -1000 ≤ g ∧ g ≤ 1000) ∧ q ≤ 10 ∧ -1000 ≤ h ∧ h ≤ 1000)) = False := eq_false ky
    cbv
    repeat' (first | with_reducible refine And.intro ?_ ?_ | (with_reducible refine safe_lift hA ?_; kernel_rfl) | (intro hc_; (first | (with_reducible exfalso; clear hQ; subst hF hA; simp only [fnOf, find, std, reduceIte, Nat.reduceEqDiff, sp1, sp2, a1, a2, FnSpec.out, Shape.build, leafs, leafCells, tups, oneOf, List.cons_append, List.nil_append, List.length_cons, List.length_nil, s_RealLess, s_known7, s_fewR, s_eMeet, s_eIn, s_eSame, s_eAdd, s_eMul, s_ePow, s_eAbs, s_eNeg, s_eSub, s_eHull, re4, rv_raw, rv_N0, dv, dz, dx, dcn, dm_raw, dm_N0, vI_N0, raw6_is, Prod.eta, vI_nil, N0_neg0, N0_ln0, N0_lm0, tmI_idem, teI_idem, cmpD_nrm, cmpD_nrmL, cmpD_nrmR, hasY_n, inY_rn, meetY_rn, zeroY_rn, powN_2, min_if, hasB_zero, wrap_er, rn_rn, Int.reduceNeg, Int.reduceEq, Int.reduceLT, Int.reduceLE, Int.reduceBEq, beq_dec, Int.reduceAdd, Int.zero_add, Int.add_zero, eq_self, Bool.not_eq_eq_eq_not, decide_eq_true_eq, decide_eq_false_iff_not, not_true_eq_false, not_false_eq_true, decide_true, decide_false, Bool.true_and, Bool.and_true, Bool.not_true, Bool.not_false, beq_self_eq_true, Bool.true_eq_false, Bool.false_eq_true, reduceCtorEq, gt_iff_lt, ge_iff_le, true_and, and_true, and_self, Bool.false_eq, Bool.and_self, hfx, hfy] at hc_; done) | (clear hc_; cbv))))
    all_goals subst hF hA
    all_goals (try simp only [fnOf, find, std, reduceIte, Nat.reduceEqDiff, sp1, sp2, a1, a2, FnSpec.out, Shape.build, leafs, leafCells, tups, oneOf, List.cons_append, List.nil_append, List.length_cons, List.length_nil, s_RealLess, s_known7, s_fewR, s_eMeet, s_eIn, s_eSame, s_eAdd, s_eMul, s_ePow, s_eAbs, s_eNeg, s_eSub, s_eHull, re4, rv_raw, rv_N0, dv, dz, dx, dcn, dm_raw, dm_N0, vI_N0, raw6_is, Prod.eta, vI_nil, N0_neg0, N0_ln0, N0_lm0, tmI_idem, teI_idem, cmpD_nrm, cmpD_nrmL, cmpD_nrmR, hasY_n, inY_rn, meetY_rn, zeroY_rn, powN_2, min_if, hasB_zero, wrap_er, rn_rn, Int.reduceNeg, Int.reduceEq, Int.reduceLT, Int.reduceLE, Int.reduceBEq, beq_dec, Int.reduceAdd, Int.zero_add, Int.add_zero, eq_self, Bool.not_eq_eq_eq_not, decide_eq_true_eq, decide_eq_false_iff_not, not_true_eq_false, not_false_eq_true, decide_true, decide_false, Bool.true_and, Bool.and_true, Bool.not_true, Bool.not_false, beq_self_eq_true, Bool.true_eq_false, Bool.false_eq_true, reduceCtorEq, gt_iff_lt, ge_iff_le, true_and, and_true, and_self, Bool.false_eq, Bool.and_self, hfx, hfy] at hQ ⊢)
    all_goals (repeat' (first
      | with_reducible exact hQ
      | with_reducible assumption
      | with_reducible exact isi_int _ _
      | (with_reducible refine canR_c (r := ((_, _), (_, _))) ?_; with_reducible assumption)
      | (with_reducible refine okR_c (r := ((_, _), (_, _))) ?_; with_reducible assumption)
      | (with_reducible refine okM_fR (r := ((_, _), (_, _))) ?_; with_reducible assumption)
      | (with_reducible refine few20_fR (r := ((_, _), (_, _))) ?_; with_reducible assumption)
      | (with_reducible refine few30_fR (r := ((_, _), (_, _))) ?_; with_reducible assumption)
      | with_reducible exact True.intro
      | (with_reducible refine few40_fR (r := ((_, _), (_, _))) ?_; with_reducible assumption)
      | (with_reducible refine canD_c (a := (_, _)) ?_; with_reducible assumption)
      | (with_reducible refine okT_c (a := (_, _)) ?_; with_reducible assumption)
      | (with_reducible refine okD_c (a := (_, _)) ?_; with_reducible assumption)
      | (with_reducible refine near_c (a := (_, _)) (b := (_, _)) ?_ ?_ <;> with_reducible assumption)
      | (with_reducible refine okE_fit ?_ (k := 10000) (by omega); with_reducible assumption)
      | with_reducible refine okX_mk ?_ ?_ ?_ ?_
      | with_reducible refine okW_mk ?_ ?_ ?_
      | with_reducible refine okE_mk ?_
      | with_reducible refine okI_mk ?_
      | with_reducible refine okD_mk ?_ ?_ ?_
      | (with_reducible refine near_mk ?_ ?_; (focus omega); (focus omega))
      | omega
      | with_reducible refine And.intro ?_ ?_))
  · have hfx : (((n ≤ 10 ∧ -1000 ≤ e ∧ e ≤ 1000) ∧ m ≤ 10 ∧ -1000 ≤ f ∧ f ≤ 1000)) = True := eq_true kx
    have hfy : (((p ≤ 10 ∧ -1000 ≤ g ∧ g ≤ 1000) ∧ q ≤ 10 ∧ -1000 ≤ h ∧ h ≤ 1000)) = True := eq_true ky
    have hfz : (((i ≤ 10 ∧ -1000 ≤ j ∧ j ≤ 1000) ∧ k ≤ 10 ∧ -1000 ≤ l ∧ l ≤ 1000)) = False := eq_false kz
    cbv
    repeat' (first | with_reducible refine And.intro ?_ ?_ | (with_reducible refine safe_lift hA ?_; kernel_rfl) | (intro hc_; (first | (with_reducible exfalso; clear hQ; subst hF hA; simp only [fnOf, find, std, reduceIte, Nat.reduceEqDiff, sp1, sp2, a1, a2, FnSpec.out, Shape.build, leafs, leafCells, tups, oneOf, List.cons_append, List.nil_append, List.length_cons, List.length_nil, s_RealLess, s_known7, s_fewR, s_eMeet, s_eIn, s_eSame, s_eAdd, s_eMul, s_ePow, s_eAbs, s_eNeg, s_eSub, s_eHull, re4, rv_raw, rv_N0, dv, dz, dx, dcn, dm_raw, dm_N0, vI_N0, raw6_is, Prod.eta, vI_nil, N0_neg0, N0_ln0, N0_lm0, tmI_idem, teI_idem, cmpD_nrm, cmpD_nrmL, cmpD_nrmR, hasY_n, inY_rn, meetY_rn, zeroY_rn, powN_2, min_if, hasB_zero, wrap_er, rn_rn, Int.reduceNeg, Int.reduceEq, Int.reduceLT, Int.reduceLE, Int.reduceBEq, beq_dec, Int.reduceAdd, Int.zero_add, Int.add_zero, eq_self, Bool.not_eq_eq_eq_not, decide_eq_true_eq, decide_eq_false_iff_not, not_true_eq_false, not_false_eq_true, decide_true, decide_false, Bool.true_and, Bool.and_true, Bool.not_true, Bool.not_false, beq_self_eq_true, Bool.true_eq_false, Bool.false_eq_true, reduceCtorEq, gt_iff_lt, ge_iff_le, true_and, and_true, and_self, Bool.false_eq, Bool.and_self, hfx, hfy, hfz] at hc_; done) | (clear hc_; cbv))))
    all_goals subst hF hA
    all_goals (try simp only [fnOf, find, std, reduceIte, Nat.reduceEqDiff, sp1, sp2, a1, a2, FnSpec.out, Shape.build, leafs, leafCells, tups, oneOf, List.cons_append, List.nil_append, List.length_cons, List.length_nil, s_RealLess, s_known7, s_fewR, s_eMeet, s_eIn, s_eSame, s_eAdd, s_eMul, s_ePow, s_eAbs, s_eNeg, s_eSub, s_eHull, re4, rv_raw, rv_N0, dv, dz, dx, dcn, dm_raw, dm_N0, vI_N0, raw6_is, Prod.eta, vI_nil, N0_neg0, N0_ln0, N0_lm0, tmI_idem, teI_idem, cmpD_nrm, cmpD_nrmL, cmpD_nrmR, hasY_n, inY_rn, meetY_rn, zeroY_rn, powN_2, min_if, hasB_zero, wrap_er, rn_rn, Int.reduceNeg, Int.reduceEq, Int.reduceLT, Int.reduceLE, Int.reduceBEq, beq_dec, Int.reduceAdd, Int.zero_add, Int.add_zero, eq_self, Bool.not_eq_eq_eq_not, decide_eq_true_eq, decide_eq_false_iff_not, not_true_eq_false, not_false_eq_true, decide_true, decide_false, Bool.true_and, Bool.and_true, Bool.not_true, Bool.not_false, beq_self_eq_true, Bool.true_eq_false, Bool.false_eq_true, reduceCtorEq, gt_iff_lt, ge_iff_le, true_and, and_true, and_self, Bool.false_eq, Bool.and_self, hfx, hfy, hfz] at hQ ⊢)
    all_goals (repeat' (first
      | with_reducible exact hQ
      | with_reducible assumption
      | with_reducible exact isi_int _ _
      | (with_reducible refine canR_c (r := ((_, _), (_, _))) ?_; with_reducible assumption)
      | (with_reducible refine okR_c (r := ((_, _), (_, _))) ?_; with_reducible assumption)
      | (with_reducible refine okM_fR (r := ((_, _), (_, _))) ?_; with_reducible assumption)
      | (with_reducible refine few20_fR (r := ((_, _), (_, _))) ?_; with_reducible assumption)
      | (with_reducible refine few30_fR (r := ((_, _), (_, _))) ?_; with_reducible assumption)
      | with_reducible exact True.intro
      | (with_reducible refine few40_fR (r := ((_, _), (_, _))) ?_; with_reducible assumption)
      | (with_reducible refine canD_c (a := (_, _)) ?_; with_reducible assumption)
      | (with_reducible refine okT_c (a := (_, _)) ?_; with_reducible assumption)
      | (with_reducible refine okD_c (a := (_, _)) ?_; with_reducible assumption)
      | (with_reducible refine near_c (a := (_, _)) (b := (_, _)) ?_ ?_ <;> with_reducible assumption)
      | (with_reducible refine okE_fit ?_ (k := 10000) (by omega); with_reducible assumption)
      | with_reducible refine okX_mk ?_ ?_ ?_ ?_
      | with_reducible refine okW_mk ?_ ?_ ?_
      | with_reducible refine okE_mk ?_
      | with_reducible refine okI_mk ?_
      | with_reducible refine okD_mk ?_ ?_ ?_
      | (with_reducible refine near_mk ?_ ?_; (focus omega); (focus omega))
      | omega
      | with_reducible refine And.intro ?_ ?_))
  · have hfx : (((n ≤ 10 ∧ -1000 ≤ e ∧ e ≤ 1000) ∧ m ≤ 10 ∧ -1000 ≤ f ∧ f ≤ 1000)) = True := eq_true kx
    have hfy : (((p ≤ 10 ∧ -1000 ≤ g ∧ g ≤ 1000) ∧ q ≤ 10 ∧ -1000 ≤ h ∧ h ≤ 1000)) = True := eq_true ky
    have hfz : (((i ≤ 10 ∧ -1000 ≤ j ∧ j ≤ 1000) ∧ k ≤ 10 ∧ -1000 ≤ l ∧ l ≤ 1000)) = True := eq_true kz
    obtain ⟨x1, x2, x3, x4, x5, x6, x7, x8, x9⟩ := few_facts (s := s) (t := t) (cs := cs) (es := es) hw hw2 kx
    obtain ⟨X, hX⟩ : ∃ X : Re, ((vI s cs, e), (vI t es, f)) = X := ⟨_, rfl⟩
    rw [hX] at x6
    obtain ⟨y1, y2, y3, y4, y5, y6, y7, y8, y9⟩ := few_facts (s := u) (t := v) (cs := gs) (es := hs) hv hv2 ky
    obtain ⟨Y, hY⟩ : ∃ Y : Re, ((vI u gs, g), (vI v hs, h)) = Y := ⟨_, rfl⟩
    rw [hY] at y6
    obtain ⟨z1, z2, z3, z4, z5, z6, z7, z8, z9⟩ := few_facts (s := a) (t := b) (cs := is) (es := ks) hz hz2 kz
    obtain ⟨Z, hZ⟩ : ∃ Z : Re, ((vI a is, j), (vI b ks, l)) = Z := ⟨_, rfl⟩
    rw [hZ] at z6
    have cX := c_rn x6
    have bX := rn_few x6
    have bX2 : fR (rn X) 640 2000 := bX.mono (by omega) (by omega)
    have bX3 : fR (rn X) 1280 20000 := bX.mono (by omega) (by omega)
    have bX4 : fR (rn X) 4000 8000 := bX.mono (by omega) (by omega)
    have bX5 : fR (rn X) 8000 10000 := bX.mono (by omega) (by omega)
    have cY := c_rn y6
    have bY := rn_few y6
    have bY2 : fR (rn Y) 640 2000 := bY.mono (by omega) (by omega)
    have bY3 : fR (rn Y) 1280 20000 := bY.mono (by omega) (by omega)
    have bY4 : fR (rn Y) 4000 8000 := bY.mono (by omega) (by omega)
    have bY5 : fR (rn Y) 8000 10000 := bY.mono (by omega) (by omega)
    have cZ := c_rn z6
    have bZ := rn_few z6
    have bZ2 : fR (rn Z) 640 2000 := bZ.mono (by omega) (by omega)
    have bZ3 : fR (rn Z) 1280 20000 := bZ.mono (by omega) (by omega)
    have bZ4 : fR (rn Z) 4000 8000 := bZ.mono (by omega) (by omega)
    have bZ5 : fR (rn Z) 8000 10000 := bZ.mono (by omega) (by omega)
    have gX := fC_rn x6
    have gY := fC_rn y6
    have gZ := fC_rn z6
    rw [hX, hY] at hm
    have hm : meetB X Y = false := by simpa using hm
    have r1 := meet_no hm
    have e0 := rmeetZ_n hm
    have cO := okR_0
    cbv
    repeat' (first | with_reducible refine And.intro ?_ ?_ | (with_reducible refine safe_lift hA ?_; kernel_rfl) | (intro hc_; (first | (with_reducible exfalso; clear hQ; subst hF hA; simp only [fnOf, find, std, reduceIte, Nat.reduceEqDiff, sp1, sp2, a1, a2, FnSpec.out, Shape.build, leafs, leafCells, tups, oneOf, List.cons_append, List.nil_append, List.length_cons, List.length_nil, s_RealLess, s_known7, s_fewR, s_eMeet, s_eIn, s_eSame, s_eAdd, s_eMul, s_ePow, s_eAbs, s_eNeg, s_eSub, s_eHull, re4, rv_raw, rv_N0, dv, dz, dx, dcn, dm_raw, dm_N0, vI_N0, raw6_is, Prod.eta, vI_nil, N0_neg0, N0_ln0, N0_lm0, tmI_idem, teI_idem, cmpD_nrm, cmpD_nrmL, cmpD_nrmR, hasY_n, inY_rn, meetY_rn, zeroY_rn, powN_2, min_if, hasB_zero, wrap_er, rn_rn, Int.reduceNeg, Int.reduceEq, Int.reduceLT, Int.reduceLE, Int.reduceBEq, beq_dec, Int.reduceAdd, Int.zero_add, Int.add_zero, eq_self, Bool.not_eq_eq_eq_not, decide_eq_true_eq, decide_eq_false_iff_not, not_true_eq_false, not_false_eq_true, decide_true, decide_false, Bool.true_and, Bool.and_true, Bool.not_true, Bool.not_false, beq_self_eq_true, Bool.true_eq_false, Bool.false_eq_true, reduceCtorEq, gt_iff_lt, ge_iff_le, true_and, and_true, and_self, Bool.false_eq, Bool.and_self, hfx, hfy, hfz, hX, hY, hZ, hm, r1, e0] at hc_; done) | (clear hc_; cbv))))
    all_goals subst hF hA
    all_goals (try simp only [fnOf, find, std, reduceIte, Nat.reduceEqDiff, sp1, sp2, a1, a2, FnSpec.out, Shape.build, leafs, leafCells, tups, oneOf, List.cons_append, List.nil_append, List.length_cons, List.length_nil, s_RealLess, s_known7, s_fewR, s_eMeet, s_eIn, s_eSame, s_eAdd, s_eMul, s_ePow, s_eAbs, s_eNeg, s_eSub, s_eHull, re4, rv_raw, rv_N0, dv, dz, dx, dcn, dm_raw, dm_N0, vI_N0, raw6_is, Prod.eta, vI_nil, N0_neg0, N0_ln0, N0_lm0, tmI_idem, teI_idem, cmpD_nrm, cmpD_nrmL, cmpD_nrmR, hasY_n, inY_rn, meetY_rn, zeroY_rn, powN_2, min_if, hasB_zero, wrap_er, rn_rn, Int.reduceNeg, Int.reduceEq, Int.reduceLT, Int.reduceLE, Int.reduceBEq, beq_dec, Int.reduceAdd, Int.zero_add, Int.add_zero, eq_self, Bool.not_eq_eq_eq_not, decide_eq_true_eq, decide_eq_false_iff_not, not_true_eq_false, not_false_eq_true, decide_true, decide_false, Bool.true_and, Bool.and_true, Bool.not_true, Bool.not_false, beq_self_eq_true, Bool.true_eq_false, Bool.false_eq_true, reduceCtorEq, gt_iff_lt, ge_iff_le, true_and, and_true, and_self, Bool.false_eq, Bool.and_self, hfx, hfy, hfz, hX, hY, hZ, hm, r1, e0] at hQ ⊢)
    all_goals (repeat' (first
      | with_reducible exact hQ
      | with_reducible assumption
      | with_reducible exact isi_int _ _
      | (with_reducible refine canR_c (r := ((_, _), (_, _))) ?_; with_reducible assumption)
      | (with_reducible refine okR_c (r := ((_, _), (_, _))) ?_; with_reducible assumption)
      | (with_reducible refine okM_fR (r := ((_, _), (_, _))) ?_; with_reducible assumption)
      | (with_reducible refine few20_fR (r := ((_, _), (_, _))) ?_; with_reducible assumption)
      | (with_reducible refine few30_fR (r := ((_, _), (_, _))) ?_; with_reducible assumption)
      | with_reducible exact True.intro
      | (with_reducible refine few40_fR (r := ((_, _), (_, _))) ?_; with_reducible assumption)
      | (with_reducible refine canD_c (a := (_, _)) ?_; with_reducible assumption)
      | (with_reducible refine okT_c (a := (_, _)) ?_; with_reducible assumption)
      | (with_reducible refine okD_c (a := (_, _)) ?_; with_reducible assumption)
      | (with_reducible refine near_c (a := (_, _)) (b := (_, _)) ?_ ?_ <;> with_reducible assumption)
      | (with_reducible refine okE_fit ?_ (k := 10000) (by omega); with_reducible assumption)
      | with_reducible refine okX_mk ?_ ?_ ?_ ?_
      | with_reducible refine okW_mk ?_ ?_ ?_
      | with_reducible refine okE_mk ?_
      | with_reducible refine okI_mk ?_
      | with_reducible refine okD_mk ?_ ?_ ?_
      | (with_reducible refine near_mk ?_ ?_; (focus omega); (focus omega))
      | omega
      | with_reducible refine And.intro ?_ ?_))
  · have hfx : (((n ≤ 10 ∧ -1000 ≤ e ∧ e ≤ 1000) ∧ m ≤ 10 ∧ -1000 ≤ f ∧ f ≤ 1000)) = True := eq_true kx
    have hfy : (((p ≤ 10 ∧ -1000 ≤ g ∧ g ≤ 1000) ∧ q ≤ 10 ∧ -1000 ≤ h ∧ h ≤ 1000)) = True := eq_true ky
    have hfz : (((i ≤ 10 ∧ -1000 ≤ j ∧ j ≤ 1000) ∧ k ≤ 10 ∧ -1000 ≤ l ∧ l ≤ 1000)) = True := eq_true kz
    obtain ⟨x1, x2, x3, x4, x5, x6, x7, x8, x9⟩ := few_facts (s := s) (t := t) (cs := cs) (es := es) hw hw2 kx
    obtain ⟨X, hX⟩ : ∃ X : Re, ((vI s cs, e), (vI t es, f)) = X := ⟨_, rfl⟩
    rw [hX] at x6
    obtain ⟨y1, y2, y3, y4, y5, y6, y7, y8, y9⟩ := few_facts (s := u) (t := v) (cs := gs) (es := hs) hv hv2 ky
    obtain ⟨Y, hY⟩ : ∃ Y : Re, ((vI u gs, g), (vI v hs, h)) = Y := ⟨_, rfl⟩
    rw [hY] at y6
    obtain ⟨z1, z2, z3, z4, z5, z6, z7, z8, z9⟩ := few_facts (s := a) (t := b) (cs := is) (es := ks) hz hz2 kz
    obtain ⟨Z, hZ⟩ : ∃ Z : Re, ((vI a is, j), (vI b ks, l)) = Z := ⟨_, rfl⟩
    rw [hZ] at z6
    have cX := c_rn x6
    have bX := rn_few x6
    have bX2 : fR (rn X) 640 2000 := bX.mono (by omega) (by omega)
    have bX3 : fR (rn X) 1280 20000 := bX.mono (by omega) (by omega)
    have bX4 : fR (rn X) 4000 8000 := bX.mono (by omega) (by omega)
    have bX5 : fR (rn X) 8000 10000 := bX.mono (by omega) (by omega)
    have cY := c_rn y6
    have bY := rn_few y6
    have bY2 : fR (rn Y) 640 2000 := bY.mono (by omega) (by omega)
    have bY3 : fR (rn Y) 1280 20000 := bY.mono (by omega) (by omega)
    have bY4 : fR (rn Y) 4000 8000 := bY.mono (by omega) (by omega)
    have bY5 : fR (rn Y) 8000 10000 := bY.mono (by omega) (by omega)
    have cZ := c_rn z6
    have bZ := rn_few z6
    have bZ2 : fR (rn Z) 640 2000 := bZ.mono (by omega) (by omega)
    have bZ3 : fR (rn Z) 1280 20000 := bZ.mono (by omega) (by omega)
    have bZ4 : fR (rn Z) 4000 8000 := bZ.mono (by omega) (by omega)
    have bZ5 : fR (rn Z) 8000 10000 := bZ.mono (by omega) (by omega)
    have gX := fC_rn x6
    have gY := fC_rn y6
    have gZ := fC_rn z6
    rw [hX, hY] at hm
    have hw3 : IntKind.i64.wrap (c.tmod 6) = c.tmod 6 := wrap_in (by omega) (by omega)
    have hpk : powN (c.tmod 6) ≤ 8 := by unfold powN; omega
    obtain ⟨e1, r1, r2, r3, r4, r5, r6, r7, r8, r9⟩ := less7 (Z := Z) hm (powN (c.tmod 6))
    have gW := f_meet x6 y6 hm
    have e0 := rmeetZ_y hm
    obtain ⟨W, hW⟩ : ∃ W, rmeet (rn X) (rn Y) = W := ⟨_, rfl⟩
    rw [hW] at e1 r1 r2 r3 r4 r5 r6 r7 r8 r9 gW e0
    have cW := c_id gW
    have mW := fC_M gW
    have pW := fC_P gW
    have pW3 : fR W 640 1360 := gW.2.mono (by omega) (by omega)
    have d0 := c_add gW gZ
    have d1 := c_add gX gZ
    have d2 := c_mul gW gZ
    have d3 := c_mul gX gZ
    have d4 := c_pow gW hpk
    have d5 := c_pow gX hpk
    have d6 := c_abs gW
    have d7 := c_abs gX
    have d8 := c_neg gW
    have d9 := c_neg gY
    have d10 := c_sub gZ gW
    have d11 := c_sub gZ gX
    have d12 := c_hull gW gZ
    have d13 := c_hull gX gZ
    cbv
    repeat' (first | with_reducible refine And.intro ?_ ?_ | (with_reducible refine safe_lift hA ?_; kernel_rfl) | (intro hc_; (first | (with_reducible exfalso; clear hQ; subst hF hA; simp only [fnOf, find, std, reduceIte, Nat.reduceEqDiff, sp1, sp2, a1, a2, FnSpec.out, Shape.build, leafs, leafCells, tups, oneOf, List.cons_append, List.nil_append, List.length_cons, List.length_nil, s_RealLess, s_known7, s_fewR, s_eMeet, s_eIn, s_eSame, s_eAdd, s_eMul, s_ePow, s_eAbs, s_eNeg, s_eSub, s_eHull, re4, rv_raw, rv_N0, dv, dz, dx, dcn, dm_raw, dm_N0, vI_N0, raw6_is, Prod.eta, vI_nil, N0_neg0, N0_ln0, N0_lm0, tmI_idem, teI_idem, cmpD_nrm, cmpD_nrmL, cmpD_nrmR, hasY_n, inY_rn, meetY_rn, zeroY_rn, powN_2, min_if, hasB_zero, wrap_er, rn_rn, Int.reduceNeg, Int.reduceEq, Int.reduceLT, Int.reduceLE, Int.reduceBEq, beq_dec, Int.reduceAdd, Int.zero_add, Int.add_zero, eq_self, Bool.not_eq_eq_eq_not, decide_eq_true_eq, decide_eq_false_iff_not, not_true_eq_false, not_false_eq_true, decide_true, decide_false, Bool.true_and, Bool.and_true, Bool.not_true, Bool.not_false, beq_self_eq_true, Bool.true_eq_false, Bool.false_eq_true, reduceCtorEq, gt_iff_lt, ge_iff_le, true_and, and_true, and_self, Bool.false_eq, Bool.and_self, hfx, hfy, hfz, hX, hY, hZ, hm, hw3, e0, e1, r1, r2, r3, r4, r5, r6, r7, r8, r9] at hc_; done) | (clear hc_; cbv))))
    all_goals subst hF hA
    all_goals (try simp only [fnOf, find, std, reduceIte, Nat.reduceEqDiff, sp1, sp2, a1, a2, FnSpec.out, Shape.build, leafs, leafCells, tups, oneOf, List.cons_append, List.nil_append, List.length_cons, List.length_nil, s_RealLess, s_known7, s_fewR, s_eMeet, s_eIn, s_eSame, s_eAdd, s_eMul, s_ePow, s_eAbs, s_eNeg, s_eSub, s_eHull, re4, rv_raw, rv_N0, dv, dz, dx, dcn, dm_raw, dm_N0, vI_N0, raw6_is, Prod.eta, vI_nil, N0_neg0, N0_ln0, N0_lm0, tmI_idem, teI_idem, cmpD_nrm, cmpD_nrmL, cmpD_nrmR, hasY_n, inY_rn, meetY_rn, zeroY_rn, powN_2, min_if, hasB_zero, wrap_er, rn_rn, Int.reduceNeg, Int.reduceEq, Int.reduceLT, Int.reduceLE, Int.reduceBEq, beq_dec, Int.reduceAdd, Int.zero_add, Int.add_zero, eq_self, Bool.not_eq_eq_eq_not, decide_eq_true_eq, decide_eq_false_iff_not, not_true_eq_false, not_false_eq_true, decide_true, decide_false, Bool.true_and, Bool.and_true, Bool.not_true, Bool.not_false, beq_self_eq_true, Bool.true_eq_false, Bool.false_eq_true, reduceCtorEq, gt_iff_lt, ge_iff_le, true_and, and_true, and_self, Bool.false_eq, Bool.and_self, hfx, hfy, hfz, hX, hY, hZ, hm, hw3, e0, e1, r1, r2, r3, r4, r5, r6, r7, r8, r9] at hQ ⊢)
    all_goals (repeat' (first
      | with_reducible exact hQ
      | with_reducible assumption
      | with_reducible exact isi_int _ _
      | (with_reducible refine canR_c (r := ((_, _), (_, _))) ?_; with_reducible assumption)
      | (with_reducible refine okR_c (r := ((_, _), (_, _))) ?_; with_reducible assumption)
      | (with_reducible refine okM_fR (r := ((_, _), (_, _))) ?_; with_reducible assumption)
      | (with_reducible refine few20_fR (r := ((_, _), (_, _))) ?_; with_reducible assumption)
      | (with_reducible refine few30_fR (r := ((_, _), (_, _))) ?_; with_reducible assumption)
      | with_reducible exact True.intro
      | (with_reducible refine few40_fR (r := ((_, _), (_, _))) ?_; with_reducible assumption)
      | (with_reducible refine canD_c (a := (_, _)) ?_; with_reducible assumption)
      | (with_reducible refine okT_c (a := (_, _)) ?_; with_reducible assumption)
      | (with_reducible refine okD_c (a := (_, _)) ?_; with_reducible assumption)
      | (with_reducible refine near_c (a := (_, _)) (b := (_, _)) ?_ ?_ <;> with_reducible assumption)
      | (with_reducible refine okE_fit ?_ (k := 10000) (by omega); with_reducible assumption)
      | with_reducible refine okX_mk ?_ ?_ ?_ ?_
      | with_reducible refine okW_mk ?_ ?_ ?_
      | with_reducible refine okE_mk ?_
      | with_reducible refine okI_mk ?_
      | with_reducible refine okD_mk ?_ ?_ ?_
      | (with_reducible refine near_mk ?_ ?_; (focus omega); (focus omega))
      | omega
      | with_reducible refine And.intro ?_ ?_))
end Go.Proofs.YtnnnolmldmbaaaaGreatDoor.Ev
