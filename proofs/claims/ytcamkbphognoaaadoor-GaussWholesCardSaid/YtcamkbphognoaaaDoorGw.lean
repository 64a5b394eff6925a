/- The laws of points: what they lean on. -/
import Derived.Test.YtcamkbphognoaaaDoorGv
namespace Go.Proofs.YtcamkbphognoaaaDoor.Ev
open Go Go.RowKit
set_option linter.unusedSimpArgs false
set_option linter.unusedVariables false
def s_known8 : FnSpec := ⟨.one .b, fun ds => ds = [], fun _ _ => 0, fun _ _ => true, fun _ _ => 0, fun _ _ => []⟩
end Go.Proofs.YtcamkbphognoaaaDoor.Ev
/- What is known of points. -/
namespace Go.Proofs.YtcamkbphognoaaaDoor.Ev
open Go Go.RowKit
set_option linter.unusedSimpArgs false
set_option linter.unusedVariables false
theorem qv_m1 : qv (-1, 0) = -1 := by unfold qv; simp
theorem w_ci : ccan ((0, 0), (1, 0)) := ⟨zero_n, one_n⟩
theorem w_mul : cmul ((0, 0), (1, 0)) ((0, 0), (1, 0)) = ((-1, 0), (0, 0)) := can_eq (ccan_mul _ _) ⟨odd_n (by decide), zero_n⟩ (by rw [q1_mul]; simp only [qv_c0, qv_c1, qv_m1]; grind) (by rw [q2_mul]; simp only [qv_c0, qv_c1, qv_m1]; grind)
theorem w_neg : cneg ((0, 0), (1, 0)) = ((0, 0), (-1, 0)) := can_eq ⟨neg_n _, neg_n _⟩ ⟨zero_n, odd_n (by decide)⟩ (by rw [q1_neg]; simp only [qv_c0, qv_c1, qv_m1]; grind) (by rw [q2_neg]; simp only [qv_c0, qv_c1, qv_m1])
theorem w_add : cadd ((0, 0), (1, 0)) ((0, 0), (-1, 0)) = ((0, 0), (0, 0)) := can_eq ⟨add_n _ _, add_n _ _⟩ ⟨zero_n, zero_n⟩ (by rw [q1_add]; simp only [qv_c0, qv_c1, qv_m1]; grind) (by rw [q2_add]; simp only [qv_c0, qv_c1, qv_m1]; grind)
theorem w_ca : ca ((0, 0), (1, 0)) = ((0, 0), (1, 0)) := ca_can w_ci
theorem w_ca1 : ca ((1, 0), (0, 0)) = ((1, 0), (0, 0)) := ca_can ccan_one
theorem w_cam : ca ((-1, 0), (0, 0)) = ((-1, 0), (0, 0)) := ca_can ⟨odd_n (by decide), zero_n⟩
theorem w_pow : cpw ((0, 0), (1, 0)) 4 = ((1, 0), (0, 0)) := by
  show cmul (cmul (cmul (cmul cone _) _) _) _ = _
  rw [one_mul_c, w_ca, w_mul]
  exact can_eq (ccan_mul _ _) ccan_one (by simp only [q1_mul, q2_mul, qv_c0, qv_c1, qv_m1]; grind) (by simp only [q1_mul, q2_mul, qv_c0, qv_c1, qv_m1]; grind)
theorem sg_zero8 : sg 0 = 0 := by decide
theorem w_p4 : powN 4 = 4 := by decide
theorem w_norm : cnorm ((3, -1), (-1, 1)) = (25, -2) := by
  have h1 : Dy.mul (3, -1) (3, -1) = (9, -2) := (congrArg Dy.n (show (((3 : Int) * 3, (-1 : Int) + -1) : Dy) = (9, -2) by decide)).trans (odd_n (by decide))
  have h2 : Dy.mul (-1, 1) (-1, 1) = (1, 2) := (congrArg Dy.n (show (((-1 : Int) * -1, (1 : Int) + 1) : Dy) = (1, 2) by decide)).trans (odd_n (by decide))
  have h3 : Dy.add (9, -2) (1, 2) = (25, -2) := (congrArg Dy.n (show ((addM 9 (-2) 1 2, min (-2) 2) : Dy) = (25, -2) by decide)).trans (odd_n (by decide))
  show Dy.add (Dy.mul (3, -1) (3, -1)) (Dy.mul (-1, 1) (-1, 1)) = _
  rw [h1, h2, h3]
theorem w_fa : rgo 4609434218613702656 < infR := by decide
theorem w_fb : rgo 13835058055282163712 < infR := by decide
theorem w_ea : exd 4609434218613702656 = (3, -1) := by
  have h1 : xm 4609434218613702656 = 3 * 2 ^ 51 := by decide
  have h2 : xe 4609434218613702656 = -52 := by decide
  unfold exd Dy.n
  rw [if_pos w_fa, h1, h2]
  dsimp only
  rw [tmI_shift, teI_shift]
  exact odd_n (m := 3) (e := -52 + (51 : Nat)) (by decide)
theorem w_eb : exd 13835058055282163712 = (-1, 1) := by
  have h1 : xm 13835058055282163712 = (-1) * 2 ^ 52 := by decide
  have h2 : xe 13835058055282163712 = -51 := by decide
  unfold exd Dy.n
  rw [if_pos w_fb, h1, h2]
  dsimp only
  rw [tmI_shift, teI_shift]
  exact odd_n (m := -1) (e := -51 + (52 : Nat)) (by decide)
theorem w_fc : finC 4609434218613702656 13835058055282163712 = true := by unfold finC; rw [decide_eq_true w_fa, decide_eq_true w_fb]; rfl
theorem w_exc : exc 4609434218613702656 13835058055282163712 = ((3, -1), (-1, 1)) := by unfold exc; rw [if_pos w_fc, w_ea, w_eb]
theorem w_inf : finC (wd false infR) 0 = false := by decide
theorem w_ga : gfl 3 (-1) = 4609434218613702656 := by
  rw [gfl_plain (M := 3) (E := -1) (by decide) (by decide) (by decide) (by decide)]; decide
theorem w_gb : gfl (-1) 1 = 13835058055282163712 := by
  rw [gfl_plain (M := -1) (E := 1) (by decide) (by decide) (by decide) (by decide)]; decide
theorem w_qa : fcmpV .eql .f64 4609434218613702656 4609434218613702656 = true := by decide
theorem w_qb : fcmpV .eql .f64 13835058055282163712 13835058055282163712 = true := by decide
theorem t_3 : tmI 3 = 3 := congrArg Prod.fst (odd_n (m := 3) (e := 0) (by decide))
theorem t_3e (e : Int) : teI 3 e = e := congrArg Prod.snd (odd_n (m := 3) (e := e) (by decide))
theorem t_m1 : tmI (-1) = -1 := tmI_is (k := 0) (by decide) (by decide) (by decide)
theorem t_m1e (e : Int) : teI (-1) e = e := (teI_is (c := -1) (k := 0) (by decide) (by decide) (by decide)).trans (Int.add_zero e)
theorem t_25 : tmI 25 = 25 := congrArg Prod.fst (odd_n (m := 25) (e := 0) (by decide))
theorem t_25e (e : Int) : teI 25 e = e := congrArg Prod.snd (odd_n (m := 25) (e := e) (by decide))
theorem w_fit3 : Fit 3 53 := by unfold Fit; decide
theorem w_fitm : Fit (-1) 53 := by unfold Fit; decide
theorem w_lit {x : Re} (h : ccan x) (f : (x.1.1.natAbs < 2 ^ 8 ∧ x.2.1.natAbs < 2 ^ 8) ∧ (-1000 ≤ x.1.2 ∧ x.1.2 ≤ 1000) ∧ -1000 ≤ x.2.2 ∧ x.2.2 ≤ 1000) : rC x ∧ cz x 1000 1320 ∧ fR x 320 1320 := by
  have g : fR x 8 1000 := ⟨⟨f.1.1, f.2.1.1, f.2.1.2⟩, f.1.2, f.2.2.1, f.2.2.2⟩
  exact ⟨⟨h.1, h.2, g.mono (by omega) (by omega)⟩, cz_mono ⟨sz_fD g.1, sz_fD g.2⟩ (by omega) (by omega), g.mono (by omega) (by omega)⟩
theorem w_d25 : dC (25, 0) := ⟨odd_n (by decide), (show Fit 25 8 by unfold Fit; decide).mono (by omega), by decide, by decide⟩
theorem w_e25 : okE (.agg [.bool (N0.neg 25), .sl (N0.ln 25) (N0.lm 25), .int .i64 (-2)]) := okE_fit (k := 10) (by unfold Fit; decide) (by omega)
theorem std_ceq (k : FloatKind) (a b c d : Nat) : std.ceq k a b c d = (fcmpV .eql k a c && fcmpV .eql k b d) := rfl
theorem std_add (k : IntKind) (a b : Int) : std.add k a b = k.wrap (a + b) := rfl
theorem std_sub (k : IntKind) (a b : Int) : std.sub k a b = k.wrap (a - b) := rfl
theorem std_min (a b : Int) : std.min a b = if b < a then b else a := rfl
theorem std_max (a b : Int) : std.max a b = if b > a then b else a := rfl
theorem std_beq (a b : Bool) : std.beq a b = (a == b) := rfl
theorem std_rem (k : IntKind) (a b : Int) : std.rem k a b = a.tmod b := rfl
theorem std_cv (k : IntKind) (a : Int) : std.cv k a = k.wrap a := rfl
theorem std_nz (a : Int) : std.nz a = (a ≠ 0) := rfl
set_option maxRecDepth 100000 in
set_option maxHeartbeats 8000000 in
theorem good_known8 : Good Tryd.prog (GWL [0, 1, 2, 3]) N0 14 s_known8 := by
  refine goodL (l := [0, 1, 2, 3]) (tab := [(15, s_uOf), (17, s_uExact), (35, s_mInfinity), (37, s_uMul), (38, s_vOf), (36, s_vEqual), (40, s_uNorm), (42, s_qOf), (41, s_qScale), (39, s_qEqual), (16, s_uFloat), (45, s_uNeg), (44, s_uAdd), (43, s_uZero), (46, s_uPow), (19, s_uSame)]) (shs := [(15, .agg [.I, .i .i64, .I, .i .i64]), (17, .tup [(true, [.I, .i .i64, .I, .i .i64]), (false, [.b])]), (35, .one .f), (37, .agg [.I, .i .i64, .I, .i .i64]), (38, .agg [.I, .i .i64, .I, .i .i64]), (36, .one .b), (40, .agg [.I, .i .i64]), (42, .agg [.I, .i .i64]), (41, .agg [.I, .i .i64]), (39, .one .b), (16, .one .c), (45, .agg [.I, .i .i64, .I, .i .i64]), (44, .agg [.I, .i .i64, .I, .i .i64]), (43, .one .b), (46, .agg [.I, .i .i64, .I, .i .i64]), (19, .one .b)]) rfl ⟨(good_uOf.lift (by decide)), (good_uExact.lift (by decide)), (good_mInfinity.lift (by decide)), good_uMul, (good_vOf.lift (by decide)), (good_vEqual.lift (by decide)), good_uNorm, (good_qOf.lift (by decide)), (good_qScale.lift (by decide)), (good_qEqual.lift (by decide)), (good_uFloat.lift (by decide)), (good_uNeg.lift (by decide)), (good_uAdd.lift (by decide)), (good_uZero.lift (by decide)), good_uPow, (good_uSame.lift (by decide)), trivial⟩ Tryd.f14 (by kernel_rfl) (by kernel_rfl) (by kernel_rfl) (fun ds hp F A Q hF hA hQ => ⟨0, ?_⟩)
  have hp : ds = [] := hp
  subst hp
  · obtain ⟨u0, v0, w0⟩ := w_lit (x := ((0, 0), (1, 0))) w_ci (by decide)
    obtain ⟨u1, v1, w1⟩ := w_lit (x := ((3, -1), (-1, 1))) ⟨odd_n (by decide), odd_n (by decide)⟩ (by decide)
    obtain ⟨u2, v2, w2⟩ := w_lit (x := ((-1, 0), (0, 0))) ⟨odd_n (by decide), zero_n⟩ (by decide)
    obtain ⟨u3, v3, w3⟩ := w_lit (x := ((0, 0), (-1, 0))) ⟨zero_n, odd_n (by decide)⟩ (by decide)
    obtain ⟨u4, v4, w4⟩ := w_lit (x := ((0, 0), (0, 0))) ⟨zero_n, zero_n⟩ (by decide)
    obtain ⟨u5, v5, w5⟩ := w_lit (x := ((1, 0), (0, 0))) ccan_one (by decide)
    have z0o := okR_c u0
    dsimp only at z0o
    try simp only [N0_neg0, N0_ln0, N0_lm0] at z0o
    have z1o := okR_c u1
    dsimp only at z1o
    try simp only [N0_neg0, N0_ln0, N0_lm0] at z1o
    have z2o := okR_c u2
    dsimp only at z2o
    try simp only [N0_neg0, N0_ln0, N0_lm0] at z2o
    have z3o := okR_c u3
    dsimp only at z3o
    try simp only [N0_neg0, N0_ln0, N0_lm0] at z3o
    have z4o := okR_c u4
    dsimp only at z4o
    try simp only [N0_neg0, N0_ln0, N0_lm0] at z4o
    have z5o := okR_c u5
    dsimp only at z5o
    try simp only [N0_neg0, N0_ln0, N0_lm0] at z5o
    have z2c := canR_c u2
    dsimp only at z2c
    try simp only [N0_neg0, N0_ln0, N0_lm0] at z2c
    have f3 := w_fit3
    have fm := w_fitm
    have d25 := canD_c w_d25
    dsimp only at d25
    have e25 := w_e25
    cbv
    repeat' (first | with_reducible refine And.intro ?_ ?_ | (with_reducible refine safe_lift hA ?_; kernel_rfl) | (intro hc_; (first | (with_reducible exfalso; clear hQ; subst hF hA; simp only [fnOf, find, std_of, std_lt, std_le, std_eq, std_not, std_fcmp, std_fneg, std_bits, std_toN, std_pick, std_nn, std_fok, std_fop, std_ceq, std_add, std_sub, std_min, std_max, std_beq, std_rem, std_cv, std_nz, reduceIte, Nat.reduceEqDiff, sp1, sp2, a1, a2, FnSpec.out, Shape.build, leafs, leafCells, tups, oneOf, List.cons_append, List.nil_append, List.length_cons, List.length_nil, s_known8, s_uOf, s_uExact, s_mInfinity, s_uMul, s_vOf, s_vEqual, s_uNorm, s_qOf, s_qScale, s_qEqual, s_uFloat, s_uNeg, s_uAdd, s_uZero, s_uPow, s_uSame, dz, dx, dcn, dm_raw, dm_N0, vI_N0, toNat_nat, rv_raw, rv_N0, re4, df, cre, cim, sf1, sf2, s_uOf, s_yEqual, re4, dv, vI_nil, Prod.eta, eq_self, Bool.not_eq_eq_eq_not, decide_eq_true_eq, decide_eq_false_iff_not, not_true_eq_false, not_false_eq_true, decide_true, decide_false, Bool.true_and, Bool.and_true, Bool.not_true, Bool.not_false, beq_self_eq_true, Bool.true_eq_false, Bool.false_eq_true, reduceCtorEq, gt_iff_lt, ge_iff_le, true_and, and_true, and_self, Bool.false_eq, Bool.and_self, Int.add_zero, Option.isSome_some, Option.getD_some, w_mul, w_neg, w_add, w_ca, w_ca1, w_cam, w_pow, w_p4, w_norm, w_fc, w_exc, w_inf, w_ga, w_gb, w_qa, w_qb, t_3, t_3e, t_m1, t_m1e, t_25, t_25e, k1, k1e, tmI_zero, teI_zero, km_2, sameI_N0, reduceIte, N0_neg0, N0_ln0, N0_lm0, sg_zero8, Bool.true_and, cre, cim, Int.reduceNeg, Int.reduceEq, Int.reduceLT, Int.reduceLE, Int.reduceBEq, Int.reduceAdd, if_true, if_false, and_true, true_and] at hc_; done) | (clear hc_; cbv))))
    all_goals subst hF hA
    all_goals (try simp only [fnOf, find, std_of, std_lt, std_le, std_eq, std_not, std_fcmp, std_fneg, std_bits, std_toN, std_pick, std_nn, std_fok, std_fop, std_ceq, std_add, std_sub, std_min, std_max, std_beq, std_rem, std_cv, std_nz, reduceIte, Nat.reduceEqDiff, sp1, sp2, a1, a2, FnSpec.out, Shape.build, leafs, leafCells, tups, oneOf, List.cons_append, List.nil_append, List.length_cons, List.length_nil, s_known8, s_uOf, s_uExact, s_mInfinity, s_uMul, s_vOf, s_vEqual, s_uNorm, s_qOf, s_qScale, s_qEqual, s_uFloat, s_uNeg, s_uAdd, s_uZero, s_uPow, s_uSame, dz, dx, dcn, dm_raw, dm_N0, vI_N0, toNat_nat, rv_raw, rv_N0, re4, df, cre, cim, sf1, sf2, s_uOf, s_yEqual, re4, dv, vI_nil, Prod.eta, eq_self, Bool.not_eq_eq_eq_not, decide_eq_true_eq, decide_eq_false_iff_not, not_true_eq_false, not_false_eq_true, decide_true, decide_false, Bool.true_and, Bool.and_true, Bool.not_true, Bool.not_false, beq_self_eq_true, Bool.true_eq_false, Bool.false_eq_true, reduceCtorEq, gt_iff_lt, ge_iff_le, true_and, and_true, and_self, Bool.false_eq, Bool.and_self, Int.add_zero, Option.isSome_some, Option.getD_some, w_mul, w_neg, w_add, w_ca, w_ca1, w_cam, w_pow, w_p4, w_norm, w_fc, w_exc, w_inf, w_ga, w_gb, w_qa, w_qb, t_3, t_3e, t_m1, t_m1e, t_25, t_25e, k1, k1e, tmI_zero, teI_zero, km_2, sameI_N0, reduceIte, N0_neg0, N0_ln0, N0_lm0, sg_zero8, Bool.true_and, cre, cim, Int.reduceNeg, Int.reduceEq, Int.reduceLT, Int.reduceLE, Int.reduceBEq, Int.reduceAdd, if_true, if_false, and_true, true_and] at hQ ⊢)
    all_goals (repeat' (first
    | with_reducible exact hQ
    | with_reducible assumption
    | with_reducible exact isi_int _ _
    | with_reducible exact isF_mk (by assumption)
    | with_reducible exact isCf_mk (by omega) (by omega)
    | exact isCf_mk (by decide) (by decide)
    | with_reducible exact fin_mk (by assumption) (by assumption)
    | with_reducible exact finN_mk (by assumption) (by assumption)
    | with_reducible exact okT_mk hc hn he1 he2
    | with_reducible exact okT_mk hc2 hm hf1 hf2
    | exact hQ
    | with_reducible exact okR_mk hc hn he1 he2 hc2 hm hf1 hf2
    | with_reducible refine okD_mk ?_ ?_ ?_
    | with_reducible refine okT_mk ?_ ?_ ?_ ?_
    | with_reducible refine okR_mk ?_ ?_ ?_ ?_ ?_ ?_ ?_ ?_
    | (with_reducible refine near_mk ?_ ?_; (focus omega); (focus omega))
    | (with_reducible refine isC_mk ?_ ?_)
    | omega
    | with_reducible refine And.intro ?_ ?_))
    all_goals trace_state
end Go.Proofs.YtcamkbphognoaaaDoor.Ev
