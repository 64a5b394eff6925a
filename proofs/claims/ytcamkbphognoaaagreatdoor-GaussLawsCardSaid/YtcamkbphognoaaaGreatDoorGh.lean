/- A law of points: GaussLaws. -/
import Derived.Test.YtcamkbphognoaaaGreatDoorGw
namespace Go.Proofs.YtcamkbphognoaaaGreatDoor.Ev
open Go Go.RowKit
set_option linter.unusedSimpArgs false
set_option linter.unusedVariables false
def s_GaussLaws : FnSpec := ⟨.one .b, fun ds => match ds with | [x, y, z] => okX x ∧ okX y ∧ okX z | _ => False, fun _ _ => 0, fun _ _ => true, fun _ _ => 0, fun _ _ => []⟩
theorem GaussLaws_arg {ds : List D} (h : s_GaussLaws.p ds) : ∃ x y z, ds = [x, y, z] ∧ okX x ∧ okX y ∧ okX z := by
  unfold s_GaussLaws at h
  dsimp only at h
  split at h
  · exact ⟨_, _, _, rfl, h⟩
  · exact h.elim
set_option maxRecDepth 100000 in
set_option maxHeartbeats 16000000 in
theorem good_GaussLaws : Good Tryz.prog (GWL [0, 1, 2, 3]) N0 6 s_GaussLaws := by
  refine goodL (l := [0, 1, 2, 3]) (tab := [(33, s_known8), (34, s_fewC), (46, s_uMul), (42, s_uAdd), (60, s_uSame), (50, s_uConj), (51, s_uNorm), (19, s_qMul), (31, s_qEqual), (44, s_uSub), (58, s_uZero), (61, s_qSign)]) (shs := [(33, .one .b), (34, .one .b), (46, .agg [.I, .i .i64, .I, .i .i64]), (42, .agg [.I, .i .i64, .I, .i .i64]), (60, .one .b), (50, .agg [.I, .i .i64, .I, .i .i64]), (51, .agg [.I, .i .i64]), (19, .agg [.I, .i .i64]), (31, .one .b), (44, .agg [.I, .i .i64, .I, .i .i64]), (58, .one .b), (61, .one (.i .i64))]) rfl ⟨good_known8, (good_fewC.lift (by decide)), good_uMul, (good_uAdd.lift (by decide)), (good_uSame.lift (by decide)), (good_uConj.lift (by decide)), good_uNorm, (good_qMul.lift (by decide)), (good_qEqual.lift (by decide)), (good_uSub.lift (by decide)), (good_uZero.lift (by decide)), (good_qSign.lift (by decide)), trivial⟩ Tryz.f6 (by kernel_rfl) (by kernel_rfl) (by kernel_rfl) (fun ds hp F A Q hF hA hQ => ⟨0, ?_⟩)
  obtain ⟨x, y, z, rfl, hx, hy, hz⟩ := GaussLaws_arg hp
  obtain ⟨s, n, cs, e, t, m, es, f, rfl, hw, hr, hw2, hr2⟩ := okX_arg hx
  obtain ⟨u, p, gs, g, v, q, hs, h, rfl, hv, hs1, hv2, hs2⟩ := okX_arg hy
  obtain ⟨a, i, is, j, b, k, ks, l, rfl, hz, hq1, hz2, hq2⟩ := okX_arg hz
  clear hp hx hy
  rcases three8 (a := ((n ≤ 10 ∧ -1000 ≤ e ∧ e ≤ 1000) ∧ m ≤ 10 ∧ -1000 ≤ f ∧ f ≤ 1000)) (b := ((p ≤ 10 ∧ -1000 ≤ g ∧ g ≤ 1000) ∧ q ≤ 10 ∧ -1000 ≤ h ∧ h ≤ 1000)) (c := ((i ≤ 10 ∧ -1000 ≤ j ∧ j ≤ 1000) ∧ k ≤ 10 ∧ -1000 ≤ l ∧ l ≤ 1000)) with kx | ⟨kx, ky⟩ | ⟨kx, ky, kz⟩ | ⟨kx, ky, kz⟩
  · have hfx : (((n ≤ 10 ∧ -1000 ≤ e ∧ e ≤ 1000) ∧ m ≤ 10 ∧ -1000 ≤ f ∧ f ≤ 1000)) = False := eq_false kx
    cbv
    repeat' (first | with_reducible refine And.intro ?_ ?_ | (with_reducible refine safe_lift hA ?_; kernel_rfl) | (intro hc_; (first | (with_reducible exfalso; clear hQ; subst hF hA; simp only [fnOf, find, std, reduceIte, Nat.reduceEqDiff, sp1, sp2, a1, a2, FnSpec.out, Shape.build, leafs, leafCells, tups, oneOf, List.cons_append, List.nil_append, List.length_cons, List.length_nil, s_GaussLaws, s_known8, s_fewC, s_uMul, s_uAdd, s_uSame, s_uConj, s_uNorm, s_qMul, s_qEqual, s_uSub, s_uZero, s_qSign, re4, rv_raw, rv_N0, dv, dz, dx, dcn, dm_raw, dm_N0, vI_N0, raw6_is, Prod.eta, vI_nil, N0_neg0, N0_ln0, N0_lm0, max_if8, min_if, tmI_idem, teI_idem, add_ca, sub_ca, mul_ca, neg_ca, norm_ca, ca_ca, ca_add, ca_sub, ca_mul, ca_neg, ca_conj, ca_scl, ca_tms, ca_pw, sg_tm, sameI_N0, reduceIte, Int.reduceNeg, Int.reduceEq, Int.reduceLT, Int.reduceLE, Int.reduceBEq, beq_dec, Int.reduceAdd, Int.zero_add, Int.add_zero, s_uOf, s_yEqual, eq_self, Bool.not_eq_eq_eq_not, decide_eq_true_eq, decide_eq_false_iff_not, not_true_eq_false, not_false_eq_true, decide_true, decide_false, Bool.true_and, Bool.and_true, Bool.not_true, Bool.not_false, beq_self_eq_true, Bool.true_eq_false, Bool.false_eq_true, reduceCtorEq, gt_iff_lt, ge_iff_le, true_and, and_true, and_self, Bool.false_eq, Bool.and_self, hfx] at hc_; done) | (clear hc_; cbv))))
    all_goals subst hF hA
    all_goals (try simp only [fnOf, find, std, reduceIte, Nat.reduceEqDiff, sp1, sp2, a1, a2, FnSpec.out, Shape.build, leafs, leafCells, tups, oneOf, List.cons_append, List.nil_append, List.length_cons, List.length_nil, s_GaussLaws, s_known8, s_fewC, s_uMul, s_uAdd, s_uSame, s_uConj, s_uNorm, s_qMul, s_qEqual, s_uSub, s_uZero, s_qSign, re4, rv_raw, rv_N0, dv, dz, dx, dcn, dm_raw, dm_N0, vI_N0, raw6_is, Prod.eta, vI_nil, N0_neg0, N0_ln0, N0_lm0, max_if8, min_if, tmI_idem, teI_idem, add_ca, sub_ca, mul_ca, neg_ca, norm_ca, ca_ca, ca_add, ca_sub, ca_mul, ca_neg, ca_conj, ca_scl, ca_tms, ca_pw, sg_tm, sameI_N0, reduceIte, Int.reduceNeg, Int.reduceEq, Int.reduceLT, Int.reduceLE, Int.reduceBEq, beq_dec, Int.reduceAdd, Int.zero_add, Int.add_zero, s_uOf, s_yEqual, eq_self, Bool.not_eq_eq_eq_not, decide_eq_true_eq, decide_eq_false_iff_not, not_true_eq_false, not_false_eq_true, decide_true, decide_false, Bool.true_and, Bool.and_true, Bool.not_true, Bool.not_false, beq_self_eq_true, Bool.true_eq_false, Bool.false_eq_true, reduceCtorEq, gt_iff_lt, ge_iff_le, true_and, and_true, and_self, Bool.false_eq, Bool.and_self, hfx] at hQ ⊢)
    all_goals (repeat' (first
      | with_reducible exact hQ
      | with_reducible assumption
      | with_reducible exact isi_int _ _
      | (with_reducible refine canR_c (r := ((_, _), (_, _))) ?_; with_reducible assumption)
      | (with_reducible refine okR_c (r := ((_, _), (_, _))) ?_; with_reducible assumption)
      | (with_reducible refine okM_fR (r := ((_, _), (_, _))) ?_; with_reducible assumption)
      | (with_reducible refine few20_fR (r := ((_, _), (_, _))) ?_; with_reducible assumption)
      | (with_reducible refine few30_fR (r := ((_, _), (_, _))) ?_; with_reducible assumption)
      | with_reducible exact True.intro
      | with_reducible exact powN_min8 _
      | (with_reducible refine few40_fR (r := ((_, _), (_, _))) ?_; with_reducible assumption)
      | (with_reducible refine canD_c (a := (_, _)) ?_; with_reducible assumption)
      | (with_reducible refine okT_c (a := (_, _)) ?_; with_reducible assumption)
      | (with_reducible refine okD_c (a := (_, _)) ?_; with_reducible assumption)
      | (with_reducible refine near_c (a := (_, _)) (b := (_, _)) ?_ ?_ <;> with_reducible assumption)
      | (with_reducible refine okE_fit ?_ (k := 10000) (by omega); with_reducible assumption)
      | with_reducible refine okX_mk ?_ ?_ ?_ ?_
      | with_reducible refine okW_mk ?_ ?_ ?_
      | with_reducible refine okE_mk ?_
      | with_reducible refine okI_mk ?_
      | with_reducible refine okD_mk ?_ ?_ ?_
      | (with_reducible refine near_mk ?_ ?_; (focus omega); (focus omega))
      | omega
      | with_reducible refine And.intro ?_ ?_))
    all_goals (first | trace_state)
  · have hfx : (((n ≤ 10 ∧ -1000 ≤ e ∧ e ≤ 1000) ∧ m ≤ 10 ∧ -1000 ≤ f ∧ f ≤ 1000)) = True := eq_true kx
    have hfy : (((p ≤ 10 ∧ -1000 ≤ g ∧ g ≤ 1000) ∧ q ≤ 10 ∧ -1000 ≤ h ∧ h ≤ 1000)) = False := eq_false ky
    cbv
    repeat' (first | with_reducible refine And.intro ?_ ?_ | (with_reducible refine safe_lift hA ?_; kernel_rfl) | (intro hc_; (first | (with_reducible exfalso; clear hQ; subst hF hA; simp only [fnOf, find, std, reduceIte, Nat.reduceEqDiff, sp1, sp2, a1, a2, FnSpec.out, Shape.build, leafs, leafCells, tups, oneOf, List.cons_append, List.nil_append, List.length_cons, List.length_nil, s_GaussLaws, s_known8, s_fewC, s_uMul, s_uAdd, s_uSame, s_uConj, s_uNorm, s_qMul, s_qEqual, s_uSub, s_uZero, s_qSign, re4, rv_raw, rv_N0, dv, dz, dx, dcn, dm_raw, dm_N0, vI_N0, raw6_is, Prod.eta, vI_nil, N0_neg0, N0_ln0, N0_lm0, max_if8, min_if, tmI_idem, teI_idem, add_ca, sub_ca, mul_ca, neg_ca, norm_ca, ca_ca, ca_add, ca_sub, ca_mul, ca_neg, ca_conj, ca_scl, ca_tms, ca_pw, sg_tm, sameI_N0, reduceIte, Int.reduceNeg, Int.reduceEq, Int.reduceLT, Int.reduceLE, Int.reduceBEq, beq_dec, Int.reduceAdd, Int.zero_add, Int.add_zero, s_uOf, s_yEqual, eq_self, Bool.not_eq_eq_eq_not, decide_eq_true_eq, decide_eq_false_iff_not, not_true_eq_false, not_false_eq_true, decide_true, decide_false, Bool.true_and, Bool.and_true, Bool.not_true, Bool.not_false, beq_self_eq_true, Bool.true_eq_false, Bool.false_eq_true, reduceCtorEq, gt_iff_lt, ge_iff_le, true_and, and_true, and_self, Bool.false_eq, Bool.and_self, hfx, hfy] at hc_; done) | (clear hc_; cbv))))
    all_goals subst hF hA
    all_goals (try simp only [fnOf, find, std, reduceIte, Nat.reduceEqDiff, sp1, sp2, a1, a2, FnSpec.out, Shape.build, leafs, leafCells, tups, oneOf, List.cons_append, List.nil_append, List.length_cons, List.length_nil, s_GaussLaws, s_known8, s_fewC, s_uMul, s_uAdd, s_uSame, s_uConj, s_uNorm, s_qMul, s_qEqual, s_uSub, s_uZero, s_qSign, re4, rv_raw, rv_N0, dv, dz, dx, dcn, dm_raw, dm_N0, vI_N0, raw6_is, Prod.eta, vI_nil, N0_neg0, N0_ln0, N0_lm0, max_if8, min_if, tmI_idem, teI_idem, add_ca, sub_ca, mul_ca, neg_ca, norm_ca, ca_ca, ca_add, ca_sub, ca_mul, ca_neg, ca_conj, ca_scl, ca_tms, ca_pw, sg_tm, sameI_N0, reduceIte, Int.reduceNeg, Int.reduceEq, Int.reduceLT, Int.reduceLE, Int.reduceBEq, beq_dec, Int.reduceAdd, Int.zero_add, Int.add_zero, s_uOf, s_yEqual, eq_self, Bool.not_eq_eq_eq_not, decide_eq_true_eq, decide_eq_false_iff_not, not_true_eq_false, not_false_eq_true, decide_true, decide_false, Bool.true_and, Bool.and_true, Bool.not_true, Bool.not_false, beq_self_eq_true, Bool.true_eq_false, Bool.false_eq_true, reduceCtorEq, gt_iff_lt, ge_iff_le, true_and, and_true, and_self, Bool.false_eq, Bool.and_self, hfx, hfy] at hQ ⊢)
    all_goals (repeat' (first
      | with_reducible exact hQ
      | with_reducible assumption
      | with_reducible exact isi_int _ _
      | (with_reducible refine canR_c (r := ((_, _), (_, _))) ?_; with_reducible assumption)
      | (with_reducible refine okR_c (r := ((_, _), (_, _))) ?_; with_reducible assumption)
      | (with_reducible refine okM_fR (r := ((_, _), (_, _))) ?_; with_reducible assumption)
      | (with_reducible refine few20_fR (r := ((_, _), (_, _))) ?_; with_reducible assumption)
      | (with_reducible refine few30_fR (r := ((_, _), (_, _))) ?_; with_reducible assumption)
      | with_reducible exact True.intro
      | with_reducible exact powN_min8 _
      | (with_reducible refine few40_fR (r := ((_, _), (_, _))) ?_; with_reducible assumption)
      | (with_reducible refine canD_c (a := (_, _)) ?_; with_reducible assumption)
      | (with_reducible refine okT_c (a := (_, _)) ?_; with_reducible assumption)
      | (with_reducible refine okD_c (a := (_, _)) ?_; with_reducible assumption)
      | (with_reducible refine near_c (a := (_, _)) (b := (_, _)) ?_ ?_ <;> with_reducible assumption)
      | (with_reducible refine okE_fit ?_ (k := 10000) (by omega); with_reducible assumption)
      | with_reducible refine okX_mk ?_ ?_ ?_ ?_
      | with_reducible refine okW_mk ?_ ?_ ?_
      | with_reducible refine okE_mk ?_
      | with_reducible refine okI_mk ?_
      | with_reducible refine okD_mk ?_ ?_ ?_
      | (with_reducible refine near_mk ?_ ?_; (focus omega); (focus omega))
      | omega
      | with_reducible refine And.intro ?_ ?_))
    all_goals (first | trace_state)
  · have hfx : (((n ≤ 10 ∧ -1000 ≤ e ∧ e ≤ 1000) ∧ m ≤ 10 ∧ -1000 ≤ f ∧ f ≤ 1000)) = True := eq_true kx
    have hfy : (((p ≤ 10 ∧ -1000 ≤ g ∧ g ≤ 1000) ∧ q ≤ 10 ∧ -1000 ≤ h ∧ h ≤ 1000)) = True := eq_true ky
    have hfz : (((i ≤ 10 ∧ -1000 ≤ j ∧ j ≤ 1000) ∧ k ≤ 10 ∧ -1000 ≤ l ∧ l ≤ 1000)) = False := eq_false kz
    cbv
    repeat' (first | with_reducible refine And.intro ?_ ?_ | (with_reducible refine safe_lift hA ?_; kernel_rfl) | (intro hc_; (first | (with_reducible exfalso; clear hQ; subst hF hA; simp only [fnOf, find, std, reduceIte, Nat.reduceEqDiff, sp1, sp2, a1, a2, FnSpec.out, Shape.build, leafs, leafCells, tups, oneOf, List.cons_append, List.nil_append, List.length_cons, List.length_nil, s_GaussLaws, s_known8, s_fewC, s_uMul, s_uAdd, s_uSame, s_uConj, s_uNorm, s_qMul, s_qEqual, s_uSub, s_uZero, s_qSign, re4, rv_raw, rv_N0, dv, dz, dx, dcn, dm_raw, dm_N0, vI_N0, raw6_is, Prod.eta, vI_nil, N0_neg0, N0_ln0, N0_lm0, max_if8, min_if, tmI_idem, teI_idem, add_ca, sub_ca, mul_ca, neg_ca, norm_ca, ca_ca, ca_add, ca_sub, ca_mul, ca_neg, ca_conj, ca_scl, ca_tms, ca_pw, sg_tm, sameI_N0, reduceIte, Int.reduceNeg, Int.reduceEq, Int.reduceLT, Int.reduceLE, Int.reduceBEq, beq_dec, Int.reduceAdd, Int.zero_add, Int.add_zero, s_uOf, s_yEqual, eq_self, Bool.not_eq_eq_eq_not, decide_eq_true_eq, decide_eq_false_iff_not, not_true_eq_false, not_false_eq_true, decide_true, decide_false, Bool.true_and, Bool.and_true, Bool.not_true, Bool.not_false, beq_self_eq_true, Bool.true_eq_false, Bool.false_eq_true, reduceCtorEq, gt_iff_lt, ge_iff_le, true_and, and_true, and_self, Bool.false_eq, Bool.and_self, hfx, hfy, hfz] at hc_; done) | (clear hc_; cbv))))
    all_goals subst hF hA
    all_goals (try simp only [fnOf, find, std, reduceIte, Nat.reduceEqDiff, sp1, sp2, a1, a2, FnSpec.out, Shape.build, leafs, leafCells, tups, oneOf, List.cons_append, List.nil_append, List.length_cons, List.length_nil, s_GaussLaws, s_known8, s_fewC, s_uMul, s_uAdd, s_uSame, s_uConj, s_uNorm, s_qMul, s_qEqual, s_uSub, s_uZero, s_qSign, re4, rv_raw, rv_N0, dv, dz, dx, dcn, dm_raw, dm_N0, vI_N0, raw6_is, Prod.eta, vI_nil, N0_neg0, N0_ln0, N0_lm0, max_if8, min_if, tmI_idem, teI_idem, add_ca, sub_ca, mul_ca, neg_ca, norm_ca, ca_ca, ca_add, ca_sub, ca_mul, ca_neg, ca_conj, ca_scl, ca_tms, ca_pw, sg_tm, sameI_N0, reduceIte, Int.reduceNeg, Int.reduceEq, Int.reduceLT, Int.reduceLE, Int.reduceBEq, beq_dec, Int.reduceAdd, Int.zero_add, Int.add_zero, s_uOf, s_yEqual, eq_self, Bool.not_eq_eq_eq_not, decide_eq_true_eq, decide_eq_false_iff_not, not_true_eq_false, not_false_eq_true, decide_true, decide_false, Bool.true_and, Bool.and_true, Bool.not_true, Bool.not_false, beq_self_eq_true, Bool.true_eq_false, Bool.false_eq_true, reduceCtorEq, gt_iff_lt, ge_iff_le, true_and, and_true, and_self, Bool.false_eq, Bool.and_self, hfx, hfy, hfz] at hQ ⊢)
    all_goals (repeat' (first
      | with_reducible exact hQ
      | with_reducible assumption
      | with_reducible exact isi_int _ _
      | (with_reducible refine canR_c (r := ((_, _), (_, _))) ?_; with_reducible assumption)
      | (with_reducible refine okR_c (r := ((_, _), (_, _))) ?_; with_reducible assumption)
      | (with_reducible refine okM_fR (r := ((_, _), (_, _))) ?_; with_reducible assumption)
      | (with_reducible refine few20_fR (r := ((_, _), (_, _))) ?_; with_reducible assumption)
      | (with_reducible refine few30_fR (r := ((_, _), (_, _))) ?_; with_reducible assumption)
      | with_reducible exact True.intro
      | with_reducible exact powN_min8 _
      | (with_reducible refine few40_fR (r := ((_, _), (_, _))) ?_; with_reducible assumption)
      | (with_reducible refine canD_c (a := (_, _)) ?_; with_reducible assumption)
      | (with_reducible refine okT_c (a := (_, _)) ?_; with_reducible assumption)
      | (with_reducible refine okD_c (a := (_, _)) ?_; with_reducible assumption)
      | (with_reducible refine near_c (a := (_, _)) (b := (_, _)) ?_ ?_ <;> with_reducible assumption)
      | (with_reducible refine okE_fit ?_ (k := 10000) (by omega); with_reducible assumption)
      | with_reducible refine okX_mk ?_ ?_ ?_ ?_
      | with_reducible refine okW_mk ?_ ?_ ?_
      | with_reducible refine okE_mk ?_
      | with_reducible refine okI_mk ?_
      | with_reducible refine okD_mk ?_ ?_ ?_
      | (with_reducible refine near_mk ?_ ?_; (focus omega); (focus omega))
      | omega
      | with_reducible refine And.intro ?_ ?_))
    all_goals (first | trace_state)
  · have hfx : (((n ≤ 10 ∧ -1000 ≤ e ∧ e ≤ 1000) ∧ m ≤ 10 ∧ -1000 ≤ f ∧ f ≤ 1000)) = True := eq_true kx
    have hfy : (((p ≤ 10 ∧ -1000 ≤ g ∧ g ≤ 1000) ∧ q ≤ 10 ∧ -1000 ≤ h ∧ h ≤ 1000)) = True := eq_true ky
    have hfz : (((i ≤ 10 ∧ -1000 ≤ j ∧ j ≤ 1000) ∧ k ≤ 10 ∧ -1000 ≤ l ∧ l ≤ 1000)) = True := eq_true kz
    obtain ⟨x1, x2, x3, x4, x5, x6, x7, x8, x9⟩ := few_facts (s := s) (t := t) (cs := cs) (es := es) hw hw2 kx
    obtain ⟨X, hX⟩ : ∃ X : Re, ((vI s cs, e), (vI t es, f)) = X := ⟨_, rfl⟩
    rw [hX] at x6
    obtain ⟨y1, y2, y3, y4, y5, y6, y7, y8, y9⟩ := few_facts (s := u) (t := v) (cs := gs) (es := hs) hv hv2 ky
    obtain ⟨Y, hY⟩ : ∃ Y : Re, ((vI u gs, g), (vI v hs, h)) = Y := ⟨_, rfl⟩
    rw [hY] at y6
    obtain ⟨z1, z2, z3, z4, z5, z6, z7, z8, z9⟩ := few_facts (s := a) (t := b) (cs := is) (es := ks) hz hz2 kz
    obtain ⟨Z, hZ⟩ : ∃ Z : Re, ((vI a is, j), (vI b ks, l)) = Z := ⟨_, rfl⟩
    rw [hZ] at z6
    have zX : cz X 1000 1320 := ⟨sz_fD x6.1, sz_fD x6.2⟩
    have bX : fR X 320 1320 := x6.mono (by omega) (by omega)
    have rX : rC (ca X) := rC_cz (ccan_ca _) (cz_ca zX) (by omega)
    have rX1 := dC_1 rX
    have rX2 := dC_2 rX
    have bX1 : fR (ca X) 320 1640 := ⟨fD_n bX.1, fD_n bX.2⟩
    have zXa := cz_ca zX
    have zY : cz Y 1000 1320 := ⟨sz_fD y6.1, sz_fD y6.2⟩
    have bY : fR Y 320 1320 := y6.mono (by omega) (by omega)
    have rY : rC (ca Y) := rC_cz (ccan_ca _) (cz_ca zY) (by omega)
    have rY1 := dC_1 rY
    have rY2 := dC_2 rY
    have bY1 : fR (ca Y) 320 1640 := ⟨fD_n bY.1, fD_n bY.2⟩
    have zYa := cz_ca zY
    have zZ : cz Z 1000 1320 := ⟨sz_fD z6.1, sz_fD z6.2⟩
    have bZ : fR Z 320 1320 := z6.mono (by omega) (by omega)
    have rZ : rC (ca Z) := rC_cz (ccan_ca _) (cz_ca zZ) (by omega)
    have rZ1 := dC_1 rZ
    have rZ2 := dC_2 rZ
    have bZ1 : fR (ca Z) 320 1640 := ⟨fD_n bZ.1, fD_n bZ.2⟩
    have zZa := cz_ca zZ
    have r1 : rC (cadd Y Z) := rC_cz ⟨add_n _ _, add_n _ _⟩ (cz_add zY zZ) (by omega)
    have r2 : rC (cmul X (cadd Y Z)) := rC_cz (ccan_mul _ _) (cz_mul zX (cz_add zY zZ)) (by omega)
    have r3 : rC (cmul X Y) := rC_cz (ccan_mul _ _) (cz_mul zX zY) (by omega)
    have r4 : rC (cmul X Z) := rC_cz (ccan_mul _ _) (cz_mul zX zZ) (by omega)
    have r5 : rC (cconj X) := rC_cz ⟨n_n _, neg_n _⟩ (cz_conj zX) (by omega)
    have r6 : rC (cconj Y) := rC_cz ⟨n_n _, neg_n _⟩ (cz_conj zY) (by omega)
    have r7 : rC (cconj (cmul X Y)) := rC_cz ⟨n_n _, neg_n _⟩ (cz_conj (cz_mul zX zY)) (by omega)
    have r8 : rC (cadd X Y) := rC_cz ⟨add_n _ _, add_n _ _⟩ (cz_add zX zY) (by omega)
    have n1 : dC (cnorm X) := dC_sz (norm_n _) (cz_norm zX) (by omega)
    have n2 : dC (cnorm Y) := dC_sz (norm_n _) (cz_norm zY) (by omega)
    have n3 : dC (cnorm (cmul X Y)) := dC_sz (norm_n _) (cz_norm (cz_mul zX zY)) (by omega)
    have o1 := okC_fitN n1.2.1 (by omega)
    have o3 := okC_fitN n3.2.1 (by omega)
    have l1 : N0.ln (cnorm X).1 ≤ 600 := ln_fit n1.2.1
    have l2 : N0.ln (cnorm Y).1 ≤ 600 := ln_fit n2.2.1
    have fN : Fit ((cnorm X).1 * (cnorm Y).1) 100000 := n1.2.1.mul n2.2.1 (by omega)
    have e1 := (dist_c X Y Z).symm
    have e2 := comm_c Y X
    have e3 := (conj_mul X Y).symm
    have e4 := congrArg Prod.fst (norm_mul X Y).symm
    have e5 := congrArg Prod.snd (norm_mul X Y).symm
    unfold Dy.mul Dy.n at e4 e5
    dsimp only at e4 e5
    have e6 := add_sub_c X Y
    have e7 := zero_norm8 X
    cbv
    repeat' (first | with_reducible refine And.intro ?_ ?_ | (with_reducible refine safe_lift hA ?_; kernel_rfl) | (intro hc_; (first | (with_reducible exfalso; clear hQ; subst hF hA; simp only [fnOf, find, std, reduceIte, Nat.reduceEqDiff, sp1, sp2, a1, a2, FnSpec.out, Shape.build, leafs, leafCells, tups, oneOf, List.cons_append, List.nil_append, List.length_cons, List.length_nil, s_GaussLaws, s_known8, s_fewC, s_uMul, s_uAdd, s_uSame, s_uConj, s_uNorm, s_qMul, s_qEqual, s_uSub, s_uZero, s_qSign, re4, rv_raw, rv_N0, dv, dz, dx, dcn, dm_raw, dm_N0, vI_N0, raw6_is, Prod.eta, vI_nil, N0_neg0, N0_ln0, N0_lm0, max_if8, min_if, tmI_idem, teI_idem, add_ca, sub_ca, mul_ca, neg_ca, norm_ca, ca_ca, ca_add, ca_sub, ca_mul, ca_neg, ca_conj, ca_scl, ca_tms, ca_pw, sg_tm, sameI_N0, reduceIte, Int.reduceNeg, Int.reduceEq, Int.reduceLT, Int.reduceLE, Int.reduceBEq, beq_dec, Int.reduceAdd, Int.zero_add, Int.add_zero, s_uOf, s_yEqual, eq_self, Bool.not_eq_eq_eq_not, decide_eq_true_eq, decide_eq_false_iff_not, not_true_eq_false, not_false_eq_true, decide_true, decide_false, Bool.true_and, Bool.and_true, Bool.not_true, Bool.not_false, beq_self_eq_true, Bool.true_eq_false, Bool.false_eq_true, reduceCtorEq, gt_iff_lt, ge_iff_le, true_and, and_true, and_self, Bool.false_eq, Bool.and_self, hfx, hfy, hfz, hX, hY, hZ, e1, e2, e3, e4, e5, e6, e7] at hc_; done) | (clear hc_; cbv))))
    all_goals subst hF hA
    all_goals (try simp only [fnOf, find, std, reduceIte, Nat.reduceEqDiff, sp1, sp2, a1, a2, FnSpec.out, Shape.build, leafs, leafCells, tups, oneOf, List.cons_append, List.nil_append, List.length_cons, List.length_nil, s_GaussLaws, s_known8, s_fewC, s_uMul, s_uAdd, s_uSame, s_uConj, s_uNorm, s_qMul, s_qEqual, s_uSub, s_uZero, s_qSign, re4, rv_raw, rv_N0, dv, dz, dx, dcn, dm_raw, dm_N0, vI_N0, raw6_is, Prod.eta, vI_nil, N0_neg0, N0_ln0, N0_lm0, max_if8, min_if, tmI_idem, teI_idem, add_ca, sub_ca, mul_ca, neg_ca, norm_ca, ca_ca, ca_add, ca_sub, ca_mul, ca_neg, ca_conj, ca_scl, ca_tms, ca_pw, sg_tm, sameI_N0, reduceIte, Int.reduceNeg, Int.reduceEq, Int.reduceLT, Int.reduceLE, Int.reduceBEq, beq_dec, Int.reduceAdd, Int.zero_add, Int.add_zero, s_uOf, s_yEqual, eq_self, Bool.not_eq_eq_eq_not, decide_eq_true_eq, decide_eq_false_iff_not, not_true_eq_false, not_false_eq_true, decide_true, decide_false, Bool.true_and, Bool.and_true, Bool.not_true, Bool.not_false, beq_self_eq_true, Bool.true_eq_false, Bool.false_eq_true, reduceCtorEq, gt_iff_lt, ge_iff_le, true_and, and_true, and_self, Bool.false_eq, Bool.and_self, hfx, hfy, hfz, hX, hY, hZ, e1, e2, e3, e4, e5, e6, e7] at hQ ⊢)
    all_goals (repeat' (first
      | with_reducible exact hQ
      | with_reducible assumption
      | with_reducible exact isi_int _ _
      | (with_reducible refine canR_c (r := ((_, _), (_, _))) ?_; with_reducible assumption)
      | (with_reducible refine okR_c (r := ((_, _), (_, _))) ?_; with_reducible assumption)
      | (with_reducible refine okM_fR (r := ((_, _), (_, _))) ?_; with_reducible assumption)
      | (with_reducible refine few20_fR (r := ((_, _), (_, _))) ?_; with_reducible assumption)
      | (with_reducible refine few30_fR (r := ((_, _), (_, _))) ?_; with_reducible assumption)
      | with_reducible exact True.intro
      | with_reducible exact powN_min8 _
      | (with_reducible refine few40_fR (r := ((_, _), (_, _))) ?_; with_reducible assumption)
      | (with_reducible refine canD_c (a := (_, _)) ?_; with_reducible assumption)
      | (with_reducible refine okT_c (a := (_, _)) ?_; with_reducible assumption)
      | (with_reducible refine okD_c (a := (_, _)) ?_; with_reducible assumption)
      | (with_reducible refine near_c (a := (_, _)) (b := (_, _)) ?_ ?_ <;> with_reducible assumption)
      | (with_reducible refine okE_fit ?_ (k := 10000) (by omega); with_reducible assumption)
      | with_reducible refine okX_mk ?_ ?_ ?_ ?_
      | with_reducible refine okW_mk ?_ ?_ ?_
      | with_reducible refine okE_mk ?_
      | with_reducible refine okI_mk ?_
      | with_reducible refine okD_mk ?_ ?_ ?_
      | (with_reducible refine near_mk ?_ ?_; (focus omega); (focus omega))
      | omega
      | with_reducible refine And.intro ?_ ?_))
    all_goals (first | trace_state)
end Go.Proofs.YtcamkbphognoaaaGreatDoor.Ev
