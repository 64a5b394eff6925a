/- A law of intervals: RealRounds. -/
import Derived.Test.YtnnnolmldmbaaaaGreatDoorXl
namespace Go.Proofs.YtnnnolmldmbaaaaGreatDoor.Ev
open Go Go.RowKit
set_option linter.unusedSimpArgs false
set_option linter.unusedVariables false
def s_RealRounds : FnSpec := ⟨.one .b, fun ds => match ds with | [x, y, .int .i64 c] => okX x ∧ okX y | _ => False, fun _ _ => 0, fun _ _ => true, fun _ _ => 0, fun _ _ => []⟩
theorem RealRounds_arg {ds : List D} (h : s_RealRounds.p ds) : ∃ x y c, ds = [x, y, .int .i64 c] ∧ okX x ∧ okX y := by
  unfold s_RealRounds at h
  dsimp only at h
  split at h
  · exact ⟨_, _, _, rfl, h⟩
  · exact h.elim
set_option maxRecDepth 100000 in
set_option maxHeartbeats 16000000 in
theorem good_RealRounds : Good Tryz.prog (GWL [0, 1, 2, 3, 4, 5]) N0 4 s_RealRounds := by
  refine goodL (l := [0, 1, 2, 3, 4, 5]) (tab := [(9, s_known7), (10, s_fewR), (12, s_yReal), (39, s_eInv), (40, s_yInv), (41, s_eDiv), (42, s_yDiv), (22, s_yEqual), (43, s_eRound), (44, s_yRound)]) (shs := [(9, .one .b), (10, .one .b), (12, .agg [.I, .i .i64, .I, .i .i64]), (39, .tup [(true, [.I, .i .i64, .I, .i .i64]), (false, [.i .i64])]), (40, .tup [(true, [.I, .i .i64, .I, .i .i64]), (false, [.i .i64])]), (41, .tup [(true, [.I, .i .i64, .I, .i .i64]), (false, [.i .i64])]), (42, .tup [(true, [.I, .i .i64, .I, .i .i64]), (false, [.i .i64])]), (22, .one .b), (43, .agg [.I, .i .i64, .I, .i .i64]), (44, .agg [.I, .i .i64, .I, .i .i64])]) rfl ⟨(good_known7.lift (by decide)), (good_fewR.lift (by decide)), (good_yReal.lift (by decide)), (good_eInv.lift (by decide)), (good_yInv.lift (by decide)), good_eDiv, (good_yDiv.lift (by decide)), (good_yEqual.lift (by decide)), (good_eRound.lift (by decide)), (good_yRound.lift (by decide)), trivial⟩ Tryz.f4 (by kernel_rfl) (by kernel_rfl) (by kernel_rfl) (fun ds hp F A Q hF hA hQ => ⟨0, ?_⟩)
  obtain ⟨x, y, c, rfl, hx, hy⟩ := RealRounds_arg hp
  obtain ⟨s, n, cs, e, t, m, es, f, rfl, hw, hr, hw2, hr2⟩ := okX_arg hx
  obtain ⟨u, p, gs, g, v, q, hs, h, rfl, hv, hs1, hv2, hs2⟩ := okX_arg hy
  clear hp hx hy
  rcases five_r7 (a := ((n ≤ 10 ∧ -1000 ≤ e ∧ e ≤ 1000) ∧ m ≤ 10 ∧ -1000 ≤ f ∧ f ≤ 1000)) (b := ((p ≤ 10 ∧ -1000 ≤ g ∧ g ≤ 1000) ∧ q ≤ 10 ∧ -1000 ≤ h ∧ h ≤ 1000)) (c := 300 < c) (d := c ≤ 4000) with kx | ⟨kx, ky⟩ | ⟨kx, ky, h3, h4⟩ | ⟨kx, ky, h3⟩ | ⟨kx, ky, h3, h4⟩
  · have hfx : (((n ≤ 10 ∧ -1000 ≤ e ∧ e ≤ 1000) ∧ m ≤ 10 ∧ -1000 ≤ f ∧ f ≤ 1000)) = False := eq_false kx
    cbv
    repeat' (first | with_reducible refine And.intro ?_ ?_ | (with_reducible refine safe_lift hA ?_; kernel_rfl) | (intro hc_; (first | (with_reducible exfalso; clear hQ; subst hF hA; simp only [fnOf, find, std, reduceIte, Nat.reduceEqDiff, sp1, sp2, a1, a2, FnSpec.out, Shape.build, leafs, leafCells, tups, oneOf, List.cons_append, List.nil_append, List.length_cons, List.length_nil, s_RealRounds, s_known7, s_fewR, s_yReal, s_eInv, s_yInv, s_eDiv, s_yDiv, s_yEqual, s_eRound, s_yRound, re4, rv_raw, rv_N0, dv, dz, dx, dcn, dm_raw, dm_N0, vI_N0, raw6_is, Prod.eta, vI_nil, N0_neg0, N0_ln0, N0_lm0, tmI_idem, teI_idem, cmpD_nrm, cmpD_nrmL, cmpD_nrmR, hasY_n, inY_rn, meetY_rn, zeroY_rn, powN_2, min_if, hasB_zero, wrap_er, rn_rn, Int.reduceNeg, Int.reduceEq, Int.reduceLT, Int.reduceLE, Int.reduceBEq, beq_dec, Int.reduceAdd, Int.zero_add, Int.add_zero, eq_self, Bool.not_eq_eq_eq_not, decide_eq_true_eq, decide_eq_false_iff_not, not_true_eq_false, not_false_eq_true, decide_true, decide_false, Bool.true_and, Bool.and_true, Bool.not_true, Bool.not_false, beq_self_eq_true, Bool.true_eq_false, Bool.false_eq_true, reduceCtorEq, gt_iff_lt, ge_iff_le, true_and, and_true, and_self, Bool.false_eq, Bool.and_self, hfx] at hc_; done) | (clear hc_; cbv))))
    all_goals subst hF hA
    all_goals (try simp only [fnOf, find, std, reduceIte, Nat.reduceEqDiff, sp1, sp2, a1, a2, FnSpec.out, Shape.build, leafs, leafCells, tups, oneOf, List.cons_append, List.nil_append, List.length_cons, List.length_nil, s_RealRounds, s_known7, s_fewR, s_yReal, s_eInv, s_yInv, s_eDiv, s_yDiv, s_yEqual, s_eRound, s_yRound, re4, rv_raw, rv_N0, dv, dz, dx, dcn, dm_raw, dm_N0, vI_N0, raw6_is, Prod.eta, vI_nil, N0_neg0, N0_ln0, N0_lm0, tmI_idem, teI_idem, cmpD_nrm, cmpD_nrmL, cmpD_nrmR, hasY_n, inY_rn, meetY_rn, zeroY_rn, powN_2, min_if, hasB_zero, wrap_er, rn_rn, Int.reduceNeg, Int.reduceEq, Int.reduceLT, Int.reduceLE, Int.reduceBEq, beq_dec, Int.reduceAdd, Int.zero_add, Int.add_zero, eq_self, Bool.not_eq_eq_eq_not, decide_eq_true_eq, decide_eq_false_iff_not, not_true_eq_false, not_false_eq_true, decide_true, decide_false, Bool.true_and, Bool.and_true, Bool.not_true, Bool.not_false, beq_self_eq_true, Bool.true_eq_false, Bool.false_eq_true, reduceCtorEq, gt_iff_lt, ge_iff_le, true_and, and_true, and_self, Bool.false_eq, Bool.and_self, hfx] at hQ ⊢)
    all_goals (repeat' (first
      | with_reducible exact hQ
      | with_reducible assumption
      | with_reducible exact isi_int _ _
      | (with_reducible refine canR_c (r := ((_, _), (_, _))) ?_; with_reducible assumption)
      | (with_reducible refine okR_c (r := ((_, _), (_, _))) ?_; with_reducible assumption)
      | (with_reducible refine okM_fR (r := ((_, _), (_, _))) ?_; with_reducible assumption)
      | (with_reducible refine few20_fR (r := ((_, _), (_, _))) ?_; with_reducible assumption)
      | (with_reducible refine few30_fR (r := ((_, _), (_, _))) ?_; with_reducible assumption)
      | with_reducible exact True.intro
      | (with_reducible refine few40_fR (r := ((_, _), (_, _))) ?_; with_reducible assumption)
      | (with_reducible refine canD_c (a := (_, _)) ?_; with_reducible assumption)
      | (with_reducible refine okT_c (a := (_, _)) ?_; with_reducible assumption)
      | (with_reducible refine okD_c (a := (_, _)) ?_; with_reducible assumption)
      | (with_reducible refine near_c (a := (_, _)) (b := (_, _)) ?_ ?_ <;> with_reducible assumption)
      | (with_reducible refine okE_fit ?_ (k := 10000) (by omega); with_reducible assumption)
      | with_reducible refine okX_mk ?_ ?_ ?_ ?_
      | with_reducible refine okW_mk ?_ ?_ ?_
      | with_reducible refine okE_mk ?_
      | with_reducible refine okI_mk ?_
      | with_reducible refine okD_mk ?_ ?_ ?_
      | (with_reducible refine near_mk ?_ ?_; (focus omega); (focus omega))
      | omega
      | with_reducible refine And.intro ?_ ?_))
  · have hfx : (((n ≤ 10 ∧ -1000 ≤ e ∧ e ≤ 1000) ∧ m ≤ 10 ∧ -1000 ≤ f ∧ f ≤ 1000)) = True := eq_true kx
    have hfy : (((p ≤ 10 ∧ -1000 ≤ g ∧ g ≤ 1000) ∧ q ≤ 10 ∧ -1000 ≤ h ∧ h ≤ 1000)) = False := eq_false ky
    cbv
    repeat' (first | with_reducible refine And.intro ?_ ?_ | (with_reducible refine safe_lift hA ?_; kernel_rfl) | (intro hc_; (first | (with_reducible exfalso; clear hQ; subst hF hA; simp only [fnOf, find, std, reduceIte, Nat.reduceEqDiff, sp1, sp2, a1, a2, FnSpec.out, Shape.build, leafs, leafCells, tups, oneOf, List.cons_append, List.nil_append, List.length_cons, List.length_nil, s_RealRounds, s_known7, s_fewR, s_yReal, s_eInv, s_yInv, s_eDiv, s_yDiv, s_yEqual, s_eRound, s_yRound, re4, rv_raw, rv_N0, dv, dz, dx, dcn, dm_raw, dm_N0, vI_N0, raw6_is, Prod.eta, vI_nil, N0_neg0, N0_ln0, N0_lm0, tmI_idem, teI_idem, cmpD_nrm, cmpD_nrmL, cmpD_nrmR, hasY_n, inY_rn, meetY_rn, zeroY_rn, powN_2, min_if, hasB_zero, wrap_er, rn_rn, Int.reduceNeg, Int.reduceEq, Int.reduceLT, Int.reduceLE, Int.reduceBEq, beq_dec, Int.reduceAdd, Int.zero_add, Int.add_zero, eq_self, Bool.not_eq_eq_eq_not, decide_eq_true_eq, decide_eq_false_iff_not, not_true_eq_false, not_false_eq_true, decide_true, decide_false, Bool.true_and, Bool.and_true, Bool.not_true, Bool.not_false, beq_self_eq_true, Bool.true_eq_false, Bool.false_eq_true, reduceCtorEq, gt_iff_lt, ge_iff_le, true_and, and_true, and_self, Bool.false_eq, Bool.and_self, hfx, hfy] at hc_; done) | (clear hc_; cbv))))
    all_goals subst hF hA
    all_goals (try simp only [fnOf, find, std, reduceIte, Nat.reduceEqDiff, sp1, sp2, a1, a2, FnSpec.out, Shape.build, leafs, leafCells, tups, oneOf, List.cons_append, List.nil_append, List.length_cons, List.length_nil, s_RealRounds, s_known7, s_fewR, s_yReal, s_eInv, s_yInv, s_eDiv, s_yDiv, s_yEqual, s_eRound, s_yRound, re4, rv_raw, rv_N0, dv, dz, dx, dcn, dm_raw, dm_N0, vI_N0, raw6_is, Prod.eta, vI_nil, N0_neg0, N0_ln0, N0_lm0, tmI_idem, teI_idem, cmpD_nrm, cmpD_nrmL, cmpD_nrmR, hasY_n, inY_rn, meetY_rn, zeroY_rn, powN_2, min_if, hasB_zero, wrap_er, rn_rn, Int.reduceNeg, Int.reduceEq, Int.reduceLT, Int.reduceLE, Int.reduceBEq, beq_dec, Int.reduceAdd, Int.zero_add, Int.add_zero, eq_self, Bool.not_eq_eq_eq_not, decide_eq_true_eq, decide_eq_false_iff_not, not_true_eq_false, not_false_eq_true, decide_true, decide_false, Bool.true_and, Bool.and_true, Bool.not_true, Bool.not_false, beq_self_eq_true, Bool.true_eq_false, Bool.false_eq_true, reduceCtorEq, gt_iff_lt, ge_iff_le, true_and, and_true, and_self, Bool.false_eq, Bool.and_self, hfx, hfy] at hQ ⊢)
    all_goals (repeat' (first
      | with_reducible exact hQ
      | with_reducible assumption
      | with_reducible exact isi_int _ _
      | (with_reducible refine canR_c (r := ((_, _), (_, _))) ?_; with_reducible assumption)
      | (with_reducible refine okR_c (r := ((_, _), (_, _))) ?_; with_reducible assumption)
      | (with_reducible refine okM_fR (r := ((_, _), (_, _))) ?_; with_reducible assumption)
      | (with_reducible refine few20_fR (r := ((_, _), (_, _))) ?_; with_reducible assumption)
      | (with_reducible refine few30_fR (r := ((_, _), (_, _))) ?_; with_reducible assumption)
      | with_reducible exact True.intro
      | (with_reducible refine few40_fR (r := ((_, _), (_, _))) ?_; with_reducible assumption)
      | (with_reducible refine canD_c (a := (_, _)) ?_; with_reducible assumption)
      | (with_reducible refine okT_c (a := (_, _)) ?_; with_reducible assumption)
      | (with_reducible refine okD_c (a := (_, _)) ?_; with_reducible assumption)
      | (with_reducible refine near_c (a := (_, _)) (b := (_, _)) ?_ ?_ <;> with_reducible assumption)
      | (with_reducible refine okE_fit ?_ (k := 10000) (by omega); with_reducible assumption)
      | with_reducible refine okX_mk ?_ ?_ ?_ ?_
      | with_reducible refine okW_mk ?_ ?_ ?_
      | with_reducible refine okE_mk ?_
      | with_reducible refine okI_mk ?_
      | with_reducible refine okD_mk ?_ ?_ ?_
      | (with_reducible refine near_mk ?_ ?_; (focus omega); (focus omega))
      | omega
      | with_reducible refine And.intro ?_ ?_))
  · have hfx : (((n ≤ 10 ∧ -1000 ≤ e ∧ e ≤ 1000) ∧ m ≤ 10 ∧ -1000 ≤ f ∧ f ≤ 1000)) = True := eq_true kx
    have hfy : (((p ≤ 10 ∧ -1000 ≤ g ∧ g ≤ 1000) ∧ q ≤ 10 ∧ -1000 ≤ h ∧ h ≤ 1000)) = True := eq_true ky
    obtain ⟨x1, x2, x3, x4, x5, x6, x7, x8, x9⟩ := few_facts (s := s) (t := t) (cs := cs) (es := es) hw hw2 kx
    obtain ⟨X, hX⟩ : ∃ X : Re, ((vI s cs, e), (vI t es, f)) = X := ⟨_, rfl⟩
    rw [hX] at x6
    obtain ⟨y1, y2, y3, y4, y5, y6, y7, y8, y9⟩ := few_facts (s := u) (t := v) (cs := gs) (es := hs) hv hv2 ky
    obtain ⟨Y, hY⟩ : ∃ Y : Re, ((vI u gs, g), (vI v hs, h)) = Y := ⟨_, rfl⟩
    rw [hY] at y6
    have cX := c_rn x6
    have bX := rn_few x6
    have bX2 : fR (rn X) 640 2000 := bX.mono (by omega) (by omega)
    have bX3 : fR (rn X) 1280 20000 := bX.mono (by omega) (by omega)
    have bX4 : fR (rn X) 4000 8000 := bX.mono (by omega) (by omega)
    have bX5 : fR (rn X) 8000 10000 := bX.mono (by omega) (by omega)
    have cY := c_rn y6
    have bY := rn_few y6
    have bY2 : fR (rn Y) 640 2000 := bY.mono (by omega) (by omega)
    have bY3 : fR (rn Y) 1280 20000 := bY.mono (by omega) (by omega)
    have bY4 : fR (rn Y) 4000 8000 := bY.mono (by omega) (by omega)
    have bY5 : fR (rn Y) 8000 10000 := bY.mono (by omega) (by omega)
    have h3t := eq_true h3
    have h4t := eq_true h4
    cbv
    repeat' (first | with_reducible refine And.intro ?_ ?_ | (with_reducible refine safe_lift hA ?_; kernel_rfl) | (intro hc_; (first | (with_reducible exfalso; clear hQ; subst hF hA; simp only [fnOf, find, std, reduceIte, Nat.reduceEqDiff, sp1, sp2, a1, a2, FnSpec.out, Shape.build, leafs, leafCells, tups, oneOf, List.cons_append, List.nil_append, List.length_cons, List.length_nil, s_RealRounds, s_known7, s_fewR, s_yReal, s_eInv, s_yInv, s_eDiv, s_yDiv, s_yEqual, s_eRound, s_yRound, re4, rv_raw, rv_N0, dv, dz, dx, dcn, dm_raw, dm_N0, vI_N0, raw6_is, Prod.eta, vI_nil, N0_neg0, N0_ln0, N0_lm0, tmI_idem, teI_idem, cmpD_nrm, cmpD_nrmL, cmpD_nrmR, hasY_n, inY_rn, meetY_rn, zeroY_rn, powN_2, min_if, hasB_zero, wrap_er, rn_rn, Int.reduceNeg, Int.reduceEq, Int.reduceLT, Int.reduceLE, Int.reduceBEq, beq_dec, Int.reduceAdd, Int.zero_add, Int.add_zero, eq_self, Bool.not_eq_eq_eq_not, decide_eq_true_eq, decide_eq_false_iff_not, not_true_eq_false, not_false_eq_true, decide_true, decide_false, Bool.true_and, Bool.and_true, Bool.not_true, Bool.not_false, beq_self_eq_true, Bool.true_eq_false, Bool.false_eq_true, reduceCtorEq, gt_iff_lt, ge_iff_le, true_and, and_true, and_self, Bool.false_eq, Bool.and_self, hfx, hfy, h3t, h4t] at hc_; done) | (clear hc_; cbv))))
    all_goals subst hF hA
    all_goals (try simp only [fnOf, find, std, reduceIte, Nat.reduceEqDiff, sp1, sp2, a1, a2, FnSpec.out, Shape.build, leafs, leafCells, tups, oneOf, List.cons_append, List.nil_append, List.length_cons, List.length_nil, s_RealRounds, s_known7, s_fewR, s_yReal, s_eInv, s_yInv, s_eDiv, s_yDiv, s_yEqual, s_eRound, s_yRound, re4, rv_raw, rv_N0, dv, dz, dx, dcn, dm_raw, dm_N0, vI_N0, raw6_is, Prod.eta, vI_nil, N0_neg0, N0_ln0, N0_lm0, tmI_idem, teI_idem, cmpD_nrm, cmpD_nrmL, cmpD_nrmR, hasY_n, inY_rn, meetY_rn, zeroY_rn, powN_2, min_if, hasB_zero, wrap_er, rn_rn, Int.reduceNeg, Int.reduceEq, Int.reduceLT, Int.reduceLE, Int.reduceBEq, beq_dec, Int.reduceAdd, Int.zero_add, Int.add_zero, eq_self, Bool.not_eq_eq_eq_not, decide_eq_true_eq, decide_eq_false_iff_not, not_true_eq_false, not_false_eq_true, decide_true, decide_false, Bool.true_and, Bool.and_true, Bool.not_true, Bool.not_false, beq_self_eq_true, Bool.true_eq_false, Bool.false_eq_true, reduceCtorEq, gt_iff_lt, ge_iff_le, true_and, and_true, and_self, Bool.false_eq, Bool.and_self, hfx, hfy, h3t, h4t] at hQ ⊢)
    all_goals (repeat' (first
      | with_reducible exact hQ
      | with_reducible assumption
      | with_reducible exact isi_int _ _
      | (with_reducible refine canR_c (r := ((_, _), (_, _))) ?_; with_reducible assumption)
      | (with_reducible refine okR_c (r := ((_, _), (_, _))) ?_; with_reducible assumption)
      | (with_reducible refine okM_fR (r := ((_, _), (_, _))) ?_; with_reducible assumption)
      | (with_reducible refine few20_fR (r := ((_, _), (_, _))) ?_; with_reducible assumption)
      | (with_reducible refine few30_fR (r := ((_, _), (_, _))) ?_; with_reducible assumption)
      | with_reducible exact True.intro
      | (with_reducible refine few40_fR (r := ((_, _), (_, _))) ?_; with_reducible assumption)
      | (with_reducible refine canD_c (a := (_, _)) ?_; with_reducible assumption)
      | (with_reducible refine okT_c (a := (_, _)) ?_; with_reducible assumption)
      | (with_reducible refine okD_c (a := (_, _)) ?_; with_reducible assumption)
      | (with_reducible refine near_c (a := (_, _)) (b := (_, _)) ?_ ?_ <;> with_reducible assumption)
      | (with_reducible refine okE_fit ?_ (k := 10000) (by omega); with_reducible assumption)
      | with_reducible refine okX_mk ?_ ?_ ?_ ?_
      | with_reducible refine okW_mk ?_ ?_ ?_
      | with_reducible refine okE_mk ?_
      | with_reducible refine okI_mk ?_
      | with_reducible refine okD_mk ?_ ?_ ?_
      | (with_reducible refine near_mk ?_ ?_; (focus omega); (focus omega))
      | omega
      | with_reducible refine And.intro ?_ ?_))
  · have hfx : (((n ≤ 10 ∧ -1000 ≤ e ∧ e ≤ 1000) ∧ m ≤ 10 ∧ -1000 ≤ f ∧ f ≤ 1000)) = True := eq_true kx
    have hfy : (((p ≤ 10 ∧ -1000 ≤ g ∧ g ≤ 1000) ∧ q ≤ 10 ∧ -1000 ≤ h ∧ h ≤ 1000)) = True := eq_true ky
    obtain ⟨x1, x2, x3, x4, x5, x6, x7, x8, x9⟩ := few_facts (s := s) (t := t) (cs := cs) (es := es) hw hw2 kx
    obtain ⟨X, hX⟩ : ∃ X : Re, ((vI s cs, e), (vI t es, f)) = X := ⟨_, rfl⟩
    rw [hX] at x6
    obtain ⟨y1, y2, y3, y4, y5, y6, y7, y8, y9⟩ := few_facts (s := u) (t := v) (cs := gs) (es := hs) hv hv2 ky
    obtain ⟨Y, hY⟩ : ∃ Y : Re, ((vI u gs, g), (vI v hs, h)) = Y := ⟨_, rfl⟩
    rw [hY] at y6
    have cX := c_rn x6
    have bX := rn_few x6
    have bX2 : fR (rn X) 640 2000 := bX.mono (by omega) (by omega)
    have bX3 : fR (rn X) 1280 20000 := bX.mono (by omega) (by omega)
    have bX4 : fR (rn X) 4000 8000 := bX.mono (by omega) (by omega)
    have bX5 : fR (rn X) 8000 10000 := bX.mono (by omega) (by omega)
    have cY := c_rn y6
    have bY := rn_few y6
    have bY2 : fR (rn Y) 640 2000 := bY.mono (by omega) (by omega)
    have bY3 : fR (rn Y) 1280 20000 := bY.mono (by omega) (by omega)
    have bY4 : fR (rn Y) 4000 8000 := bY.mono (by omega) (by omega)
    have bY5 : fR (rn Y) 8000 10000 := bY.mono (by omega) (by omega)
    have hk : min c 300 ≤ 400 := by omega
    have t0 := c_inv y6 hk
    have t1 := c_div x6 y6 hk
    have t2 := c_round (fC_rn x6) (min c 300)
    have h3f := eq_false h3
    cbv
    repeat' (first | with_reducible refine And.intro ?_ ?_ | (with_reducible refine safe_lift hA ?_; kernel_rfl) | (intro hc_; (first | (with_reducible exfalso; clear hQ; subst hF hA; simp only [fnOf, find, std, reduceIte, Nat.reduceEqDiff, sp1, sp2, a1, a2, FnSpec.out, Shape.build, leafs, leafCells, tups, oneOf, List.cons_append, List.nil_append, List.length_cons, List.length_nil, s_RealRounds, s_known7, s_fewR, s_yReal, s_eInv, s_yInv, s_eDiv, s_yDiv, s_yEqual, s_eRound, s_yRound, re4, rv_raw, rv_N0, dv, dz, dx, dcn, dm_raw, dm_N0, vI_N0, raw6_is, Prod.eta, vI_nil, N0_neg0, N0_ln0, N0_lm0, tmI_idem, teI_idem, cmpD_nrm, cmpD_nrmL, cmpD_nrmR, hasY_n, inY_rn, meetY_rn, zeroY_rn, powN_2, min_if, hasB_zero, wrap_er, rn_rn, Int.reduceNeg, Int.reduceEq, Int.reduceLT, Int.reduceLE, Int.reduceBEq, beq_dec, Int.reduceAdd, Int.zero_add, Int.add_zero, eq_self, Bool.not_eq_eq_eq_not, decide_eq_true_eq, decide_eq_false_iff_not, not_true_eq_false, not_false_eq_true, decide_true, decide_false, Bool.true_and, Bool.and_true, Bool.not_true, Bool.not_false, beq_self_eq_true, Bool.true_eq_false, Bool.false_eq_true, reduceCtorEq, gt_iff_lt, ge_iff_le, true_and, and_true, and_self, Bool.false_eq, Bool.and_self, hfx, hfy, hX, hY, h3f] at hc_; done) | (clear hc_; cbv))))
    all_goals subst hF hA
    all_goals (try simp only [fnOf, find, std, reduceIte, Nat.reduceEqDiff, sp1, sp2, a1, a2, FnSpec.out, Shape.build, leafs, leafCells, tups, oneOf, List.cons_append, List.nil_append, List.length_cons, List.length_nil, s_RealRounds, s_known7, s_fewR, s_yReal, s_eInv, s_yInv, s_eDiv, s_yDiv, s_yEqual, s_eRound, s_yRound, re4, rv_raw, rv_N0, dv, dz, dx, dcn, dm_raw, dm_N0, vI_N0, raw6_is, Prod.eta, vI_nil, N0_neg0, N0_ln0, N0_lm0, tmI_idem, teI_idem, cmpD_nrm, cmpD_nrmL, cmpD_nrmR, hasY_n, inY_rn, meetY_rn, zeroY_rn, powN_2, min_if, hasB_zero, wrap_er, rn_rn, Int.reduceNeg, Int.reduceEq, Int.reduceLT, Int.reduceLE, Int.reduceBEq, beq_dec, Int.reduceAdd, Int.zero_add, Int.add_zero, eq_self, Bool.not_eq_eq_eq_not, decide_eq_true_eq, decide_eq_false_iff_not, not_true_eq_false, not_false_eq_true, decide_true, decide_false, Bool.true_and, Bool.and_true, Bool.not_true, Bool.not_false, beq_self_eq_true, Bool.true_eq_false, Bool.false_eq_true, reduceCtorEq, gt_iff_lt, ge_iff_le, true_and, and_true, and_self, Bool.false_eq, Bool.and_self, hfx, hfy, hX, hY, h3f] at hQ ⊢)
    all_goals (repeat' (first
      | with_reducible exact hQ
      | with_reducible assumption
      | with_reducible exact isi_int _ _
      | (with_reducible refine canR_c (r := ((_, _), (_, _))) ?_; with_reducible assumption)
      | (with_reducible refine okR_c (r := ((_, _), (_, _))) ?_; with_reducible assumption)
      | (with_reducible refine okM_fR (r := ((_, _), (_, _))) ?_; with_reducible assumption)
      | (with_reducible refine few20_fR (r := ((_, _), (_, _))) ?_; with_reducible assumption)
      | (with_reducible refine few30_fR (r := ((_, _), (_, _))) ?_; with_reducible assumption)
      | with_reducible exact True.intro
      | (with_reducible refine few40_fR (r := ((_, _), (_, _))) ?_; with_reducible assumption)
      | (with_reducible refine canD_c (a := (_, _)) ?_; with_reducible assumption)
      | (with_reducible refine okT_c (a := (_, _)) ?_; with_reducible assumption)
      | (with_reducible refine okD_c (a := (_, _)) ?_; with_reducible assumption)
      | (with_reducible refine near_c (a := (_, _)) (b := (_, _)) ?_ ?_ <;> with_reducible assumption)
      | (with_reducible refine okE_fit ?_ (k := 10000) (by omega); with_reducible assumption)
      | with_reducible refine okX_mk ?_ ?_ ?_ ?_
      | with_reducible refine okW_mk ?_ ?_ ?_
      | with_reducible refine okE_mk ?_
      | with_reducible refine okI_mk ?_
      | with_reducible refine okD_mk ?_ ?_ ?_
      | (with_reducible refine near_mk ?_ ?_; (focus omega); (focus omega))
      | omega
      | with_reducible refine And.intro ?_ ?_))
  · have hfx : (((n ≤ 10 ∧ -1000 ≤ e ∧ e ≤ 1000) ∧ m ≤ 10 ∧ -1000 ≤ f ∧ f ≤ 1000)) = True := eq_true kx
    have hfy : (((p ≤ 10 ∧ -1000 ≤ g ∧ g ≤ 1000) ∧ q ≤ 10 ∧ -1000 ≤ h ∧ h ≤ 1000)) = True := eq_true ky
    obtain ⟨x1, x2, x3, x4, x5, x6, x7, x8, x9⟩ := few_facts (s := s) (t := t) (cs := cs) (es := es) hw hw2 kx
    obtain ⟨X, hX⟩ : ∃ X : Re, ((vI s cs, e), (vI t es, f)) = X := ⟨_, rfl⟩
    rw [hX] at x6
    obtain ⟨y1, y2, y3, y4, y5, y6, y7, y8, y9⟩ := few_facts (s := u) (t := v) (cs := gs) (es := hs) hv hv2 ky
    obtain ⟨Y, hY⟩ : ∃ Y : Re, ((vI u gs, g), (vI v hs, h)) = Y := ⟨_, rfl⟩
    rw [hY] at y6
    have cX := c_rn x6
    have bX := rn_few x6
    have bX2 : fR (rn X) 640 2000 := bX.mono (by omega) (by omega)
    have bX3 : fR (rn X) 1280 20000 := bX.mono (by omega) (by omega)
    have bX4 : fR (rn X) 4000 8000 := bX.mono (by omega) (by omega)
    have bX5 : fR (rn X) 8000 10000 := bX.mono (by omega) (by omega)
    have cY := c_rn y6
    have bY := rn_few y6
    have bY2 : fR (rn Y) 640 2000 := bY.mono (by omega) (by omega)
    have bY3 : fR (rn Y) 1280 20000 := bY.mono (by omega) (by omega)
    have bY4 : fR (rn Y) 4000 8000 := bY.mono (by omega) (by omega)
    have bY5 : fR (rn Y) 8000 10000 := bY.mono (by omega) (by omega)
    have hk : min c 300 ≤ 400 := by omega
    have t0 := c_inv y6 hk
    have t1 := c_div x6 y6 hk
    have t2 := c_round (fC_rn x6) (min c 300)
    have h3t := eq_true h3
    have h4f := eq_false h4
    cbv
    repeat' (first | with_reducible refine And.intro ?_ ?_ | (with_reducible refine safe_lift hA ?_; kernel_rfl) | (intro hc_; (first | (with_reducible exfalso; clear hQ; subst hF hA; simp only [fnOf, find, std, reduceIte, Nat.reduceEqDiff, sp1, sp2, a1, a2, FnSpec.out, Shape.build, leafs, leafCells, tups, oneOf, List.cons_append, List.nil_append, List.length_cons, List.length_nil, s_RealRounds, s_known7, s_fewR, s_yReal, s_eInv, s_yInv, s_eDiv, s_yDiv, s_yEqual, s_eRound, s_yRound, re4, rv_raw, rv_N0, dv, dz, dx, dcn, dm_raw, dm_N0, vI_N0, raw6_is, Prod.eta, vI_nil, N0_neg0, N0_ln0, N0_lm0, tmI_idem, teI_idem, cmpD_nrm, cmpD_nrmL, cmpD_nrmR, hasY_n, inY_rn, meetY_rn, zeroY_rn, powN_2, min_if, hasB_zero, wrap_er, rn_rn, Int.reduceNeg, Int.reduceEq, Int.reduceLT, Int.reduceLE, Int.reduceBEq, beq_dec, Int.reduceAdd, Int.zero_add, Int.add_zero, eq_self, Bool.not_eq_eq_eq_not, decide_eq_true_eq, decide_eq_false_iff_not, not_true_eq_false, not_false_eq_true, decide_true, decide_false, Bool.true_and, Bool.and_true, Bool.not_true, Bool.not_false, beq_self_eq_true, Bool.true_eq_false, Bool.false_eq_true, reduceCtorEq, gt_iff_lt, ge_iff_le, true_and, and_true, and_self, Bool.false_eq, Bool.and_self, hfx, hfy, hX, hY, h3t, h4f] at hc_; done) | (clear hc_; cbv))))
    all_goals subst hF hA
    all_goals (try simp only [fnOf, find, std, reduceIte, Nat.reduceEqDiff, sp1, sp2, a1, a2, FnSpec.out, Shape.build, leafs, leafCells, tups, oneOf, List.cons_append, List.nil_append, List.length_cons, List.length_nil, s_RealRounds, s_known7, s_fewR, s_yReal, s_eInv, s_yInv, s_eDiv, s_yDiv, s_yEqual, s_eRound, s_yRound, re4, rv_raw, rv_N0, dv, dz, dx, dcn, dm_raw, dm_N0, vI_N0, raw6_is, Prod.eta, vI_nil, N0_neg0, N0_ln0, N0_lm0, tmI_idem, teI_idem, cmpD_nrm, cmpD_nrmL, cmpD_nrmR, hasY_n, inY_rn, meetY_rn, zeroY_rn, powN_2, min_if, hasB_zero, wrap_er, rn_rn, Int.reduceNeg, Int.reduceEq, Int.reduceLT, Int.reduceLE, Int.reduceBEq, beq_dec, Int.reduceAdd, Int.zero_add, Int.add_zero, eq_self, Bool.not_eq_eq_eq_not, decide_eq_true_eq, decide_eq_false_iff_not, not_true_eq_false, not_false_eq_true, decide_true, decide_false, Bool.true_and, Bool.and_true, Bool.not_true, Bool.not_false, beq_self_eq_true, Bool.true_eq_false, Bool.false_eq_true, reduceCtorEq, gt_iff_lt, ge_iff_le, true_and, and_true, and_self, Bool.false_eq, Bool.and_self, hfx, hfy, hX, hY, h3t, h4f] at hQ ⊢)
    all_goals (repeat' (first
      | with_reducible exact hQ
      | with_reducible assumption
      | with_reducible exact isi_int _ _
      | (with_reducible refine canR_c (r := ((_, _), (_, _))) ?_; with_reducible assumption)
      | (with_reducible refine okR_c (r := ((_, _), (_, _))) ?_; with_reducible assumption)
      | (with_reducible refine okM_fR (r := ((_, _), (_, _))) ?_; with_reducible assumption)
      | (with_reducible refine few20_fR (r := ((_, _), (_, _))) ?_; with_reducible assumption)
      | (with_reducible refine few30_fR (r := ((_, _), (_, _))) ?_; with_reducible assumption)
      | with_reducible exact True.intro
      | (with_reducible refine few40_fR (r := ((_, _), (_, _))) ?_; with_reducible assumption)
      | (with_reducible refine canD_c (a := (_, _)) ?_; with_reducible assumption)
      | (with_reducible refine okT_c (a := (_, _)) ?_; with_reducible assumption)
      | (with_reducible refine okD_c (a := (_, _)) ?_; with_reducible assumption)
      | (with_reducible refine near_c (a := (_, _)) (b := (_, _)) ?_ ?_ <;> with_reducible assumption)
      | (with_reducible refine okE_fit ?_ (k := 10000) (by omega); with_reducible assumption)
      | with_reducible refine okX_mk ?_ ?_ ?_ ?_
      | with_reducible refine okW_mk ?_ ?_ ?_
      | with_reducible refine okE_mk ?_
      | with_reducible refine okI_mk ?_
      | with_reducible refine okD_mk ?_ ?_ ?_
      | (with_reducible refine near_mk ?_ ?_; (focus omega); (focus omega))
      | omega
      | with_reducible refine And.intro ?_ ?_))
end Go.Proofs.YtnnnolmldmbaaaaGreatDoor.Ev
