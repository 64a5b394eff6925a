/- A law of points: GaussFloats. -/
import Derived.Test.YtcamkbphognoaaaGreatDoorGw
namespace Go.Proofs.YtcamkbphognoaaaGreatDoor.Ev
open Go Go.RowKit
set_option linter.unusedSimpArgs false
set_option linter.unusedVariables false
theorem fmag_0 {r : Nat} (h : fmag r = 0) : r = 0 := by
  unfold fmag at h
  split at h <;> omega
theorem sv_lt0 {s : Bool} {m : Nat} (h : m ≠ 0) : decide (sv s m < 0) = s := by
  cases s
  · exact decide_eq_false (by unfold sv; simp)
  · exact decide_eq_true (by unfold sv; simp; omega)
theorem tm_neg8 (X : Int) : tmI X < 0 ↔ X < 0 := by
  have h := tmI_mul X
  have hp : (0 : Int) < 2 ^ tz X.natAbs := Int.pow_pos (by decide)
  constructor
  · intro h1
    rw [← h]
    exact Int.mul_neg_of_neg_of_pos h1 hp
  · intro h1
    rcases Int.lt_or_le (tmI X) 0 with h2 | h2
    · exact h2
    · have := Int.mul_nonneg h2 (Int.le_of_lt hp)
      omega
/-- what is known of the number of a finite float. -/
theorem exd_facts {u : Nat} (hu : u < 18446744073709551616) (hr : rgo u < infR) :
    Dy.n (exd u) = exd u ∧ fD (exd u) 53 1127 ∧ exd u = Dy.n (xm u, xe u) := by
  have he : exd u = Dy.n (xm u, xe u) := by unfold exd; rw [if_pos hr]
  have hb := (bits_facts hu hr).2.2.2.2.2.2
  have hf : fD (xm u, xe u) 53 1074 := ⟨hb.1, by have := hb.2.1.1; omega, by have := hb.2.1.2; omega⟩
  refine ⟨by rw [he]; exact n_n _, ?_, he⟩
  rw [he]
  exact fD_n hf
theorem exd_self {u : Nat} (hu : u < 18446744073709551616) (hr : rgo u < infR) : fcmpV .eql .f64 (gfl (exd u).1 (exd u).2) (gfl (exd u).1 (exd u).2) = true :=
  gfl_self (by have h := (exd_facts hu hr).2.1.1; unfold Fit at h; simpa using h)
theorem exd_plain {u : Nat} (hu : u < 18446744073709551616) (hr : rgo u < infR) (h1 : -1000 ≤ topI (exd u).1 (exd u).2) (h2 : topI (exd u).1 (exd u).2 ≤ 1000) : fcmpV .eql .f64 (gfl (exd u).1 (exd u).2) u = true := by
  obtain ⟨hn, hf, he⟩ := exd_facts hu hr
  have hx1 : (exd u).1 = tmI (xm u) := by rw [he]; rfl
  have hx2 : (exd u).2 = teI (xm u) (xe u) := by rw [he]; rfl
  refine gfl_is hu hr (by have h := hf.1; unfold Fit at h; simpa using h) ?_ ?_
  · intro h0
    rw [hx1] at h0
    have h3 : xm u = 0 := by have := tmI_mul (xm u); rw [h0, Int.zero_mul] at this; exact this.symm
    have h4 := sv_abs (sgo u) (fmag (rgo u))
    unfold xm at h3
    rw [h3] at h4
    exact fmag_0 h4.symm
  · intro h0
    have h3 : xm u ≠ 0 := fun h => h0 (by rw [hx1, h, tmI_zero])
    have ht : topI (exd u).1 (exd u).2 = ((exd u).1.natAbs.log2 : Nat) + (exd u).2 := by
      unfold topI nb
      rw [if_neg h0, if_neg (by omega)]
      omega
    rw [ht] at h1 h2
    refine ⟨by omega, by omega, ?_, ?_⟩
    · rw [hx1, decide_eq_decide.2 (tm_neg8 (xm u))]
      exact (sv_lt0 fun h => h3 (by unfold xm; rw [h]; cases sgo u <;> rfl)).symm
    · have hb := tm_val (k := -1074) (fpl_ge (r := rgo u)) h3
      have hb2 := congrArg Int.natAbs hb
      rw [Int.natAbs_mul, Int.natAbs_mul, Int.natAbs_pow, Int.natAbs_pow, show xm u = sv (sgo u) (fmag (rgo u)) from rfl, sv_abs] at hb2
      unfold mg
      rw [hx1, hx2]
      simp only [Int.sub_neg] at hb2
      exact hb2.symm
theorem five_f (u v : Nat) : (rgo u = infR) ∨ (infR < rgo u) ∨ (rgo u < infR ∧ rgo v = infR) ∨ (rgo u < infR ∧ infR < rgo v) ∨ (rgo u < infR ∧ rgo v < infR) := by omega
theorem fD_zero8 : fD (0, 0) 19200 20000 := ⟨(show Fit 0 8 by unfold Fit; decide).mono (by omega), by decide, by decide⟩
theorem rC_zero8 : rC ((0, 0), (0, 0)) := ⟨zero_n, zero_n, fD_zero8, fD_zero8⟩
def s_GaussFloats : FnSpec := ⟨.one .b, fun ds => match ds with | [.int .u64 c, .int .u64 c2] => (0 ≤ c ∧ c ≤ 18446744073709551615) ∧ 0 ≤ c2 ∧ c2 ≤ 18446744073709551615 | _ => False, fun _ _ => 0, fun _ _ => true, fun _ _ => 0, fun _ _ => []⟩
theorem GaussFloats_arg {ds : List D} (h : s_GaussFloats.p ds) : ∃ c c2, ds = [.int .u64 c, .int .u64 c2] ∧ (0 ≤ c ∧ c ≤ 18446744073709551615) ∧ 0 ≤ c2 ∧ c2 ≤ 18446744073709551615 := by
  unfold s_GaussFloats at h
  dsimp only at h
  split at h
  · exact ⟨_, _, rfl, h⟩
  · exact h.elim
set_option maxRecDepth 100000 in
set_option maxHeartbeats 8000000 in
theorem good_GaussFloats : Good Tryz.prog (GWL [0, 1, 2, 3]) N0 7 s_GaussFloats := by
  refine goodF (l := [0, 1, 2, 3]) (tab := [(33, s_known8), (63, s_uExact), (64, s_mInf), (65, s_mNaN), (39, s_vEqual), (31, s_qEqual), (66, s_bits8), (67, s_uFloat), (68, s_plain8)]) (shs := [(33, .one .b), (63, .tup [(true, [.I, .i .i64, .I, .i .i64]), (false, [.b])]), (64, .one .b), (65, .one .b), (39, .one .b), (31, .one .b), (66, .agg [.I, .i .i64]), (67, .one .c), (68, .one .b)]) rfl ⟨good_known8, (good_uExact.lift (by decide)), (good_mInf.lift (by decide)), (good_mNaN.lift (by decide)), (good_vEqual.lift (by decide)), (good_qEqual.lift (by decide)), (good_bits8.lift (by decide)), (good_uFloat.lift (by decide)), (good_plain8.lift (by decide)), trivial⟩ Tryz.f7 (by kernel_rfl) (by kernel_rfl) (by kernel_rfl) (fun ds hp F A Q hF hA hQ => ⟨0, ?_⟩)
  obtain ⟨c, c2, rfl, hc1, hc2⟩ := GaussFloats_arg hp
  clear hp
  obtain ⟨u, hz⟩ : ∃ u : Nat, (u : Int) = c := ⟨c.toNat, by omega⟩
  obtain ⟨v, hz2⟩ : ∃ v : Nat, (v : Int) = c2 := ⟨c2.toNat, by omega⟩
  have hu : u < 18446744073709551616 := by omega
  have hv : v < 18446744073709551616 := by omega
  have hzt : c.toNat = u := by omega
  have hzt2 : c2.toNat = v := by omega
  rcases five_f u v with ⟨k0⟩ | ⟨k0⟩ | ⟨k0, k1⟩ | ⟨k0, k1⟩ | ⟨k0, k1⟩
  · have f1u : (rgo u < infR) = False := eq_false (by omega)
    have f2u : (rgo u = infR) = True := eq_true (by omega)
    have f3u : (infR < rgo u) = False := eq_false (by omega)
    have x1 : finC u v = false := by unfold finC; simp only [f1u, decide_false, decide_true, Bool.false_and, Bool.and_false]
    have x2 : exc u v = ((0, 0), (0, 0)) := by unfold exc; rw [x1]; rfl
    have w0 := okR_c rC_zero8
    dsimp only at w0
    simp only [N0_neg0, N0_ln0, N0_lm0] at w0
    have w1 := canR_c rC_zero8
    dsimp only at w1
    simp only [N0_neg0, N0_ln0, N0_lm0] at w1
    cbv
    repeat' (first | with_reducible refine And.intro ?_ ?_ | (with_reducible refine safe_lift hA ?_; kernel_rfl) | (intro hc_; (first | (with_reducible exfalso; clear hQ; subst hF hA; simp only [fnOf, find, std_of, std_lt, std_le, std_eq, std_not, std_fcmp, std_fneg, std_bits, std_toN, std_pick, std_nn, std_fok, std_fop, std_ceq, std_add, std_sub, std_min, std_max, std_beq, std_rem, std_cv, std_nz, reduceIte, Nat.reduceEqDiff, sp1, sp2, a1, a2, FnSpec.out, Shape.build, leafs, leafCells, tups, oneOf, List.cons_append, List.nil_append, List.length_cons, List.length_nil, s_GaussFloats, s_known8, s_uExact, s_mInf, s_mNaN, s_vEqual, s_qEqual, s_bits8, s_uFloat, s_plain8, dz, dx, dcn, dm_raw, dm_N0, vI_N0, toNat_nat, rv_raw, rv_N0, re4, df, cre, cim, sf1, sf2, s_uOf, re4, dv, vI_nil, Prod.eta, s_yEqual, re4, sameI_N0, reduceIte, Bool.true_and, if_true, if_false, and_true, true_and, Int.reduceNeg, Int.reduceEq, Int.reduceLT, Int.reduceLE, Int.reduceBEq, Int.reduceAdd, Prod.eta, cmp0d, beq_dec, decide_true, decide_false, Bool.and_false, Bool.false_and, Bool.and_true, Bool.not_true, Bool.not_false, eq_self, Bool.not_eq_eq_eq_not, decide_eq_true_eq, decide_eq_false_iff_not, not_true_eq_false, not_false_eq_true, decide_true, decide_false, Bool.true_and, Bool.and_true, Bool.not_true, Bool.not_false, beq_self_eq_true, Bool.true_eq_false, Bool.false_eq_true, reduceCtorEq, gt_iff_lt, ge_iff_le, true_and, and_true, and_self, Bool.false_eq, Bool.and_self, Int.add_zero, Option.isSome_some, Option.getD_some, hz, hz2, hzt, hzt2, x1, x2, Dy.n, f1u, f2u, f3u, N0_neg0, N0_ln0, N0_lm0, dv, vI_nil, tmI_zero, teI_zero] at hc_; done) | (clear hc_; cbv))))
    all_goals subst hF hA
    all_goals (try simp only [fnOf, find, std_of, std_lt, std_le, std_eq, std_not, std_fcmp, std_fneg, std_bits, std_toN, std_pick, std_nn, std_fok, std_fop, std_ceq, std_add, std_sub, std_min, std_max, std_beq, std_rem, std_cv, std_nz, reduceIte, Nat.reduceEqDiff, sp1, sp2, a1, a2, FnSpec.out, Shape.build, leafs, leafCells, tups, oneOf, List.cons_append, List.nil_append, List.length_cons, List.length_nil, s_GaussFloats, s_known8, s_uExact, s_mInf, s_mNaN, s_vEqual, s_qEqual, s_bits8, s_uFloat, s_plain8, dz, dx, dcn, dm_raw, dm_N0, vI_N0, toNat_nat, rv_raw, rv_N0, re4, df, cre, cim, sf1, sf2, s_uOf, re4, dv, vI_nil, Prod.eta, s_yEqual, re4, sameI_N0, reduceIte, Bool.true_and, if_true, if_false, and_true, true_and, Int.reduceNeg, Int.reduceEq, Int.reduceLT, Int.reduceLE, Int.reduceBEq, Int.reduceAdd, Prod.eta, cmp0d, beq_dec, decide_true, decide_false, Bool.and_false, Bool.false_and, Bool.and_true, Bool.not_true, Bool.not_false, eq_self, Bool.not_eq_eq_eq_not, decide_eq_true_eq, decide_eq_false_iff_not, not_true_eq_false, not_false_eq_true, decide_true, decide_false, Bool.true_and, Bool.and_true, Bool.not_true, Bool.not_false, beq_self_eq_true, Bool.true_eq_false, Bool.false_eq_true, reduceCtorEq, gt_iff_lt, ge_iff_le, true_and, and_true, and_self, Bool.false_eq, Bool.and_self, Int.add_zero, Option.isSome_some, Option.getD_some, hz, hz2, hzt, hzt2, x1, x2, Dy.n, f1u, f2u, f3u, N0_neg0, N0_ln0, N0_lm0, dv, vI_nil, tmI_zero, teI_zero] at hQ ⊢)
    all_goals (repeat' (first
    | with_reducible exact hQ
    | with_reducible assumption
    | with_reducible exact isi_int _ _
    | with_reducible exact isF_mk (by assumption)
    | with_reducible exact isCf_mk (by omega) (by omega)
    | exact isCf_mk (by decide) (by decide)
    | with_reducible exact fin_mk (by assumption) (by assumption)
    | with_reducible exact finN_mk (by assumption) (by assumption)
    | with_reducible exact okT_mk hc hn he1 he2
    | with_reducible exact okT_mk hc2 hm hf1 hf2
    | exact hQ
    | with_reducible exact okR_mk hc hn he1 he2 hc2 hm hf1 hf2
    | with_reducible refine okD_mk ?_ ?_ ?_
    | with_reducible refine okT_mk ?_ ?_ ?_ ?_
    | with_reducible refine okR_mk ?_ ?_ ?_ ?_ ?_ ?_ ?_ ?_
    | (with_reducible refine near_mk ?_ ?_; (focus omega); (focus omega))
    | (with_reducible refine isC_mk ?_ ?_)
    | omega
    | with_reducible refine And.intro ?_ ?_))
    all_goals trace_state
  · have f1u : (rgo u < infR) = False := eq_false (by omega)
    have f2u : (rgo u = infR) = False := eq_false (by omega)
    have f3u : (infR < rgo u) = True := eq_true (by omega)
    have x1 : finC u v = false := by unfold finC; simp only [f1u, decide_false, decide_true, Bool.false_and, Bool.and_false]
    have x2 : exc u v = ((0, 0), (0, 0)) := by unfold exc; rw [x1]; rfl
    have w0 := okR_c rC_zero8
    dsimp only at w0
    simp only [N0_neg0, N0_ln0, N0_lm0] at w0
    have w1 := canR_c rC_zero8
    dsimp only at w1
    simp only [N0_neg0, N0_ln0, N0_lm0] at w1
    cbv
    repeat' (first | with_reducible refine And.intro ?_ ?_ | (with_reducible refine safe_lift hA ?_; kernel_rfl) | (intro hc_; (first | (with_reducible exfalso; clear hQ; subst hF hA; simp only [fnOf, find, std_of, std_lt, std_le, std_eq, std_not, std_fcmp, std_fneg, std_bits, std_toN, std_pick, std_nn, std_fok, std_fop, std_ceq, std_add, std_sub, std_min, std_max, std_beq, std_rem, std_cv, std_nz, reduceIte, Nat.reduceEqDiff, sp1, sp2, a1, a2, FnSpec.out, Shape.build, leafs, leafCells, tups, oneOf, List.cons_append, List.nil_append, List.length_cons, List.length_nil, s_GaussFloats, s_known8, s_uExact, s_mInf, s_mNaN, s_vEqual, s_qEqual, s_bits8, s_uFloat, s_plain8, dz, dx, dcn, dm_raw, dm_N0, vI_N0, toNat_nat, rv_raw, rv_N0, re4, df, cre, cim, sf1, sf2, s_uOf, re4, dv, vI_nil, Prod.eta, s_yEqual, re4, sameI_N0, reduceIte, Bool.true_and, if_true, if_false, and_true, true_and, Int.reduceNeg, Int.reduceEq, Int.reduceLT, Int.reduceLE, Int.reduceBEq, Int.reduceAdd, Prod.eta, cmp0d, beq_dec, decide_true, decide_false, Bool.and_false, Bool.false_and, Bool.and_true, Bool.not_true, Bool.not_false, eq_self, Bool.not_eq_eq_eq_not, decide_eq_true_eq, decide_eq_false_iff_not, not_true_eq_false, not_false_eq_true, decide_true, decide_false, Bool.true_and, Bool.and_true, Bool.not_true, Bool.not_false, beq_self_eq_true, Bool.true_eq_false, Bool.false_eq_true, reduceCtorEq, gt_iff_lt, ge_iff_le, true_and, and_true, and_self, Bool.false_eq, Bool.and_self, Int.add_zero, Option.isSome_some, Option.getD_some, hz, hz2, hzt, hzt2, x1, x2, Dy.n, f1u, f2u, f3u, N0_neg0, N0_ln0, N0_lm0, dv, vI_nil, tmI_zero, teI_zero] at hc_; done) | (clear hc_; cbv))))
    all_goals subst hF hA
    all_goals (try simp only [fnOf, find, std_of, std_lt, std_le, std_eq, std_not, std_fcmp, std_fneg, std_bits, std_toN, std_pick, std_nn, std_fok, std_fop, std_ceq, std_add, std_sub, std_min, std_max, std_beq, std_rem, std_cv, std_nz, reduceIte, Nat.reduceEqDiff, sp1, sp2, a1, a2, FnSpec.out, Shape.build, leafs, leafCells, tups, oneOf, List.cons_append, List.nil_append, List.length_cons, List.length_nil, s_GaussFloats, s_known8, s_uExact, s_mInf, s_mNaN, s_vEqual, s_qEqual, s_bits8, s_uFloat, s_plain8, dz, dx, dcn, dm_raw, dm_N0, vI_N0, toNat_nat, rv_raw, rv_N0, re4, df, cre, cim, sf1, sf2, s_uOf, re4, dv, vI_nil, Prod.eta, s_yEqual, re4, sameI_N0, reduceIte, Bool.true_and, if_true, if_false, and_true, true_and, Int.reduceNeg, Int.reduceEq, Int.reduceLT, Int.reduceLE, Int.reduceBEq, Int.reduceAdd, Prod.eta, cmp0d, beq_dec, decide_true, decide_false, Bool.and_false, Bool.false_and, Bool.and_true, Bool.not_true, Bool.not_false, eq_self, Bool.not_eq_eq_eq_not, decide_eq_true_eq, decide_eq_false_iff_not, not_true_eq_false, not_false_eq_true, decide_true, decide_false, Bool.true_and, Bool.and_true, Bool.not_true, Bool.not_false, beq_self_eq_true, Bool.true_eq_false, Bool.false_eq_true, reduceCtorEq, gt_iff_lt, ge_iff_le, true_and, and_true, and_self, Bool.false_eq, Bool.and_self, Int.add_zero, Option.isSome_some, Option.getD_some, hz, hz2, hzt, hzt2, x1, x2, Dy.n, f1u, f2u, f3u, N0_neg0, N0_ln0, N0_lm0, dv, vI_nil, tmI_zero, teI_zero] at hQ ⊢)
    all_goals (repeat' (first
    | with_reducible exact hQ
    | with_reducible assumption
    | with_reducible exact isi_int _ _
    | with_reducible exact isF_mk (by assumption)
    | with_reducible exact isCf_mk (by omega) (by omega)
    | exact isCf_mk (by decide) (by decide)
    | with_reducible exact fin_mk (by assumption) (by assumption)
    | with_reducible exact finN_mk (by assumption) (by assumption)
    | with_reducible exact okT_mk hc hn he1 he2
    | with_reducible exact okT_mk hc2 hm hf1 hf2
    | exact hQ
    | with_reducible exact okR_mk hc hn he1 he2 hc2 hm hf1 hf2
    | with_reducible refine okD_mk ?_ ?_ ?_
    | with_reducible refine okT_mk ?_ ?_ ?_ ?_
    | with_reducible refine okR_mk ?_ ?_ ?_ ?_ ?_ ?_ ?_ ?_
    | (with_reducible refine near_mk ?_ ?_; (focus omega); (focus omega))
    | (with_reducible refine isC_mk ?_ ?_)
    | omega
    | with_reducible refine And.intro ?_ ?_))
    all_goals trace_state
  · have f1u : (rgo u < infR) = True := eq_true (by omega)
    have f2u : (rgo u = infR) = False := eq_false (by omega)
    have f3u : (infR < rgo u) = False := eq_false (by omega)
    have f1v : (rgo v < infR) = False := eq_false (by omega)
    have f2v : (rgo v = infR) = True := eq_true (by omega)
    have f3v : (infR < rgo v) = False := eq_false (by omega)
    have x1 : finC u v = false := by unfold finC; simp only [f1v, decide_false, decide_true, Bool.false_and, Bool.and_false]
    have x2 : exc u v = ((0, 0), (0, 0)) := by unfold exc; rw [x1]; rfl
    have w0 := okR_c rC_zero8
    dsimp only at w0
    simp only [N0_neg0, N0_ln0, N0_lm0] at w0
    have w1 := canR_c rC_zero8
    dsimp only at w1
    simp only [N0_neg0, N0_ln0, N0_lm0] at w1
    cbv
    repeat' (first | with_reducible refine And.intro ?_ ?_ | (with_reducible refine safe_lift hA ?_; kernel_rfl) | (intro hc_; (first | (with_reducible exfalso; clear hQ; subst hF hA; simp only [fnOf, find, std_of, std_lt, std_le, std_eq, std_not, std_fcmp, std_fneg, std_bits, std_toN, std_pick, std_nn, std_fok, std_fop, std_ceq, std_add, std_sub, std_min, std_max, std_beq, std_rem, std_cv, std_nz, reduceIte, Nat.reduceEqDiff, sp1, sp2, a1, a2, FnSpec.out, Shape.build, leafs, leafCells, tups, oneOf, List.cons_append, List.nil_append, List.length_cons, List.length_nil, s_GaussFloats, s_known8, s_uExact, s_mInf, s_mNaN, s_vEqual, s_qEqual, s_bits8, s_uFloat, s_plain8, dz, dx, dcn, dm_raw, dm_N0, vI_N0, toNat_nat, rv_raw, rv_N0, re4, df, cre, cim, sf1, sf2, s_uOf, re4, dv, vI_nil, Prod.eta, s_yEqual, re4, sameI_N0, reduceIte, Bool.true_and, if_true, if_false, and_true, true_and, Int.reduceNeg, Int.reduceEq, Int.reduceLT, Int.reduceLE, Int.reduceBEq, Int.reduceAdd, Prod.eta, cmp0d, beq_dec, decide_true, decide_false, Bool.and_false, Bool.false_and, Bool.and_true, Bool.not_true, Bool.not_false, eq_self, Bool.not_eq_eq_eq_not, decide_eq_true_eq, decide_eq_false_iff_not, not_true_eq_false, not_false_eq_true, decide_true, decide_false, Bool.true_and, Bool.and_true, Bool.not_true, Bool.not_false, beq_self_eq_true, Bool.true_eq_false, Bool.false_eq_true, reduceCtorEq, gt_iff_lt, ge_iff_le, true_and, and_true, and_self, Bool.false_eq, Bool.and_self, Int.add_zero, Option.isSome_some, Option.getD_some, hz, hz2, hzt, hzt2, x1, x2, Dy.n, f1u, f2u, f3u, f1v, f2v, f3v, N0_neg0, N0_ln0, N0_lm0, dv, vI_nil, tmI_zero, teI_zero] at hc_; done) | (clear hc_; cbv))))
    all_goals subst hF hA
    all_goals (try simp only [fnOf, find, std_of, std_lt, std_le, std_eq, std_not, std_fcmp, std_fneg, std_bits, std_toN, std_pick, std_nn, std_fok, std_fop, std_ceq, std_add, std_sub, std_min, std_max, std_beq, std_rem, std_cv, std_nz, reduceIte, Nat.reduceEqDiff, sp1, sp2, a1, a2, FnSpec.out, Shape.build, leafs, leafCells, tups, oneOf, List.cons_append, List.nil_append, List.length_cons, List.length_nil, s_GaussFloats, s_known8, s_uExact, s_mInf, s_mNaN, s_vEqual, s_qEqual, s_bits8, s_uFloat, s_plain8, dz, dx, dcn, dm_raw, dm_N0, vI_N0, toNat_nat, rv_raw, rv_N0, re4, df, cre, cim, sf1, sf2, s_uOf, re4, dv, vI_nil, Prod.eta, s_yEqual, re4, sameI_N0, reduceIte, Bool.true_and, if_true, if_false, and_true, true_and, Int.reduceNeg, Int.reduceEq, Int.reduceLT, Int.reduceLE, Int.reduceBEq, Int.reduceAdd, Prod.eta, cmp0d, beq_dec, decide_true, decide_false, Bool.and_false, Bool.false_and, Bool.and_true, Bool.not_true, Bool.not_false, eq_self, Bool.not_eq_eq_eq_not, decide_eq_true_eq, decide_eq_false_iff_not, not_true_eq_false, not_false_eq_true, decide_true, decide_false, Bool.true_and, Bool.and_true, Bool.not_true, Bool.not_false, beq_self_eq_true, Bool.true_eq_false, Bool.false_eq_true, reduceCtorEq, gt_iff_lt, ge_iff_le, true_and, and_true, and_self, Bool.false_eq, Bool.and_self, Int.add_zero, Option.isSome_some, Option.getD_some, hz, hz2, hzt, hzt2, x1, x2, Dy.n, f1u, f2u, f3u, f1v, f2v, f3v, N0_neg0, N0_ln0, N0_lm0, dv, vI_nil, tmI_zero, teI_zero] at hQ ⊢)
    all_goals (repeat' (first
    | with_reducible exact hQ
    | with_reducible assumption
    | with_reducible exact isi_int _ _
    | with_reducible exact isF_mk (by assumption)
    | with_reducible exact isCf_mk (by omega) (by omega)
    | exact isCf_mk (by decide) (by decide)
    | with_reducible exact fin_mk (by assumption) (by assumption)
    | with_reducible exact finN_mk (by assumption) (by assumption)
    | with_reducible exact okT_mk hc hn he1 he2
    | with_reducible exact okT_mk hc2 hm hf1 hf2
    | exact hQ
    | with_reducible exact okR_mk hc hn he1 he2 hc2 hm hf1 hf2
    | with_reducible refine okD_mk ?_ ?_ ?_
    | with_reducible refine okT_mk ?_ ?_ ?_ ?_
    | with_reducible refine okR_mk ?_ ?_ ?_ ?_ ?_ ?_ ?_ ?_
    | (with_reducible refine near_mk ?_ ?_; (focus omega); (focus omega))
    | (with_reducible refine isC_mk ?_ ?_)
    | omega
    | with_reducible refine And.intro ?_ ?_))
    all_goals trace_state
  · have f1u : (rgo u < infR) = True := eq_true (by omega)
    have f2u : (rgo u = infR) = False := eq_false (by omega)
    have f3u : (infR < rgo u) = False := eq_false (by omega)
    have f1v : (rgo v < infR) = False := eq_false (by omega)
    have f2v : (rgo v = infR) = False := eq_false (by omega)
    have f3v : (infR < rgo v) = True := eq_true (by omega)
    have x1 : finC u v = false := by unfold finC; simp only [f1v, decide_false, decide_true, Bool.false_and, Bool.and_false]
    have x2 : exc u v = ((0, 0), (0, 0)) := by unfold exc; rw [x1]; rfl
    have w0 := okR_c rC_zero8
    dsimp only at w0
    simp only [N0_neg0, N0_ln0, N0_lm0] at w0
    have w1 := canR_c rC_zero8
    dsimp only at w1
    simp only [N0_neg0, N0_ln0, N0_lm0] at w1
    cbv
    repeat' (first | with_reducible refine And.intro ?_ ?_ | (with_reducible refine safe_lift hA ?_; kernel_rfl) | (intro hc_; (first | (with_reducible exfalso; clear hQ; subst hF hA; simp only [fnOf, find, std_of, std_lt, std_le, std_eq, std_not, std_fcmp, std_fneg, std_bits, std_toN, std_pick, std_nn, std_fok, std_fop, std_ceq, std_add, std_sub, std_min, std_max, std_beq, std_rem, std_cv, std_nz, reduceIte, Nat.reduceEqDiff, sp1, sp2, a1, a2, FnSpec.out, Shape.build, leafs, leafCells, tups, oneOf, List.cons_append, List.nil_append, List.length_cons, List.length_nil, s_GaussFloats, s_known8, s_uExact, s_mInf, s_mNaN, s_vEqual, s_qEqual, s_bits8, s_uFloat, s_plain8, dz, dx, dcn, dm_raw, dm_N0, vI_N0, toNat_nat, rv_raw, rv_N0, re4, df, cre, cim, sf1, sf2, s_uOf, re4, dv, vI_nil, Prod.eta, s_yEqual, re4, sameI_N0, reduceIte, Bool.true_and, if_true, if_false, and_true, true_and, Int.reduceNeg, Int.reduceEq, Int.reduceLT, Int.reduceLE, Int.reduceBEq, Int.reduceAdd, Prod.eta, cmp0d, beq_dec, decide_true, decide_false, Bool.and_false, Bool.false_and, Bool.and_true, Bool.not_true, Bool.not_false, eq_self, Bool.not_eq_eq_eq_not, decide_eq_true_eq, decide_eq_false_iff_not, not_true_eq_false, not_false_eq_true, decide_true, decide_false, Bool.true_and, Bool.and_true, Bool.not_true, Bool.not_false, beq_self_eq_true, Bool.true_eq_false, Bool.false_eq_true, reduceCtorEq, gt_iff_lt, ge_iff_le, true_and, and_true, and_self, Bool.false_eq, Bool.and_self, Int.add_zero, Option.isSome_some, Option.getD_some, hz, hz2, hzt, hzt2, x1, x2, Dy.n, f1u, f2u, f3u, f1v, f2v, f3v, N0_neg0, N0_ln0, N0_lm0, dv, vI_nil, tmI_zero, teI_zero] at hc_; done) | (clear hc_; cbv))))
    all_goals subst hF hA
    all_goals (try simp only [fnOf, find, std_of, std_lt, std_le, std_eq, std_not, std_fcmp, std_fneg, std_bits, std_toN, std_pick, std_nn, std_fok, std_fop, std_ceq, std_add, std_sub, std_min, std_max, std_beq, std_rem, std_cv, std_nz, reduceIte, Nat.reduceEqDiff, sp1, sp2, a1, a2, FnSpec.out, Shape.build, leafs, leafCells, tups, oneOf, List.cons_append, List.nil_append, List.length_cons, List.length_nil, s_GaussFloats, s_known8, s_uExact, s_mInf, s_mNaN, s_vEqual, s_qEqual, s_bits8, s_uFloat, s_plain8, dz, dx, dcn, dm_raw, dm_N0, vI_N0, toNat_nat, rv_raw, rv_N0, re4, df, cre, cim, sf1, sf2, s_uOf, re4, dv, vI_nil, Prod.eta, s_yEqual, re4, sameI_N0, reduceIte, Bool.true_and, if_true, if_false, and_true, true_and, Int.reduceNeg, Int.reduceEq, Int.reduceLT, Int.reduceLE, Int.reduceBEq, Int.reduceAdd, Prod.eta, cmp0d, beq_dec, decide_true, decide_false, Bool.and_false, Bool.false_and, Bool.and_true, Bool.not_true, Bool.not_false, eq_self, Bool.not_eq_eq_eq_not, decide_eq_true_eq, decide_eq_false_iff_not, not_true_eq_false, not_false_eq_true, decide_true, decide_false, Bool.true_and, Bool.and_true, Bool.not_true, Bool.not_false, beq_self_eq_true, Bool.true_eq_false, Bool.false_eq_true, reduceCtorEq, gt_iff_lt, ge_iff_le, true_and, and_true, and_self, Bool.false_eq, Bool.and_self, Int.add_zero, Option.isSome_some, Option.getD_some, hz, hz2, hzt, hzt2, x1, x2, Dy.n, f1u, f2u, f3u, f1v, f2v, f3v, N0_neg0, N0_ln0, N0_lm0, dv, vI_nil, tmI_zero, teI_zero] at hQ ⊢)
    all_goals (repeat' (first
    | with_reducible exact hQ
    | with_reducible assumption
    | with_reducible exact isi_int _ _
    | with_reducible exact isF_mk (by assumption)
    | with_reducible exact isCf_mk (by omega) (by omega)
    | exact isCf_mk (by decide) (by decide)
    | with_reducible exact fin_mk (by assumption) (by assumption)
    | with_reducible exact finN_mk (by assumption) (by assumption)
    | with_reducible exact okT_mk hc hn he1 he2
    | with_reducible exact okT_mk hc2 hm hf1 hf2
    | exact hQ
    | with_reducible exact okR_mk hc hn he1 he2 hc2 hm hf1 hf2
    | with_reducible refine okD_mk ?_ ?_ ?_
    | with_reducible refine okT_mk ?_ ?_ ?_ ?_
    | with_reducible refine okR_mk ?_ ?_ ?_ ?_ ?_ ?_ ?_ ?_
    | (with_reducible refine near_mk ?_ ?_; (focus omega); (focus omega))
    | (with_reducible refine isC_mk ?_ ?_)
    | omega
    | with_reducible refine And.intro ?_ ?_))
    all_goals trace_state
  · have f1u : (rgo u < infR) = True := eq_true (by omega)
    have f2u : (rgo u = infR) = False := eq_false (by omega)
    have f3u : (infR < rgo u) = False := eq_false (by omega)
    have f1v : (rgo v < infR) = True := eq_true (by omega)
    have f2v : (rgo v = infR) = False := eq_false (by omega)
    have f3v : (infR < rgo v) = False := eq_false (by omega)
    have x1 : finC u v = true := by unfold finC; simp only [f1u, f1v, decide_true, Bool.true_and]
    have x2 : exc u v = (exd u, exd v) := by unfold exc; rw [x1]; rfl
    obtain ⟨n1, g1, e1⟩ := exd_facts hu k0
    obtain ⟨n2, g2, e2⟩ := exd_facts hv k1
    have d1 : dC (exd u) := ⟨n1, g1.mono (by omega) (by omega)⟩
    have d2 : dC (exd v) := ⟨n2, g2.mono (by omega) (by omega)⟩
    have r1 : rC (exd u, exd v) := ⟨n1, n2, d1.2, d2.2⟩
    have t1 : tmI (exd u).1 = (exd u).1 := congrArg Prod.fst n1
    have t2 : teI (exd u).1 (exd u).2 = (exd u).2 := congrArg Prod.snd n1
    have t3 : tmI (exd v).1 = (exd v).1 := congrArg Prod.fst n2
    have t4 : teI (exd v).1 (exd v).2 = (exd v).2 := congrArg Prod.snd n2
    have e1a : tmI (xm u) = (exd u).1 := (congrArg Prod.fst e1).symm
    have e1b : teI (xm u) (xe u) = (exd u).2 := (congrArg Prod.snd e1).symm
    have e2a : tmI (xm v) = (exd v).1 := (congrArg Prod.fst e2).symm
    have e2b : teI (xm v) (xe v) = (exd v).2 := (congrArg Prod.snd e2).symm
    have q1 := g1.1
    have q2 := g2.1
    have s1 := exd_self hu k0
    have s2 := exd_self hv k1
    have cD1 := canD_c d1
    have cD2 := canD_c d2
    have cR := okR_c r1
    have oE1 := okE_fit (e := (exd u).2) g1.1 (by omega)
    have oE2 := okE_fit (e := (exd v).2) g2.1 (by omega)
    obtain ⟨T1, hT1⟩ : ∃ T, topI (exd u).1 (exd u).2 = T := ⟨_, rfl⟩
    obtain ⟨T2, hT2⟩ : ∃ T, topI (exd v).1 (exd v).2 = T := ⟨_, rfl⟩
    have y1 : -1000 ≤ T1 → T1 ≤ 1000 → fcmpV .eql .f64 (gfl (exd u).1 (exd u).2) u = true := by rw [← hT1]; exact exd_plain hu k0
    have y2 : -1000 ≤ T2 → T2 ≤ 1000 → fcmpV .eql .f64 (gfl (exd v).1 (exd v).2) v = true := by rw [← hT2]; exact exd_plain hv k1
    have hp1 : (∃ b, (decide (-1000 ≤ T1) && decide (T1 ≤ 1000)) = b) := ⟨_, rfl⟩
    have p0 : (¬(-1000 ≤ T1 ∧ T1 ≤ 1000)) ∨ ((-1000 ≤ T1 ∧ T1 ≤ 1000) ∧ ¬(-1000 ≤ T2 ∧ T2 ≤ 1000)) ∨ ((-1000 ≤ T1 ∧ T1 ≤ 1000) ∧ -1000 ≤ T2 ∧ T2 ≤ 1000) := by omega
    rcases p0 with p1 | ⟨p1, p2⟩ | ⟨p1, p2⟩
    · have m1 : (decide (-1000 ≤ T1) && decide (T1 ≤ 1000)) = false := by rw [← Bool.decide_and]; exact decide_eq_false p1
      cbv
      repeat' (first | with_reducible refine And.intro ?_ ?_ | (with_reducible refine safe_lift hA ?_; kernel_rfl) | (intro hc_; (first | (with_reducible exfalso; clear hQ; subst hF hA; simp only [fnOf, find, std_of, std_lt, std_le, std_eq, std_not, std_fcmp, std_fneg, std_bits, std_toN, std_pick, std_nn, std_fok, std_fop, std_ceq, std_add, std_sub, std_min, std_max, std_beq, std_rem, std_cv, std_nz, reduceIte, Nat.reduceEqDiff, sp1, sp2, a1, a2, FnSpec.out, Shape.build, leafs, leafCells, tups, oneOf, List.cons_append, List.nil_append, List.length_cons, List.length_nil, s_GaussFloats, s_known8, s_uExact, s_mInf, s_mNaN, s_vEqual, s_qEqual, s_bits8, s_uFloat, s_plain8, dz, dx, dcn, dm_raw, dm_N0, vI_N0, toNat_nat, rv_raw, rv_N0, re4, df, cre, cim, sf1, sf2, s_uOf, re4, dv, vI_nil, Prod.eta, s_yEqual, re4, sameI_N0, reduceIte, Bool.true_and, if_true, if_false, and_true, true_and, Int.reduceNeg, Int.reduceEq, Int.reduceLT, Int.reduceLE, Int.reduceBEq, Int.reduceAdd, Prod.eta, cmp0d, beq_dec, decide_true, decide_false, Bool.and_false, Bool.false_and, Bool.and_true, Bool.not_true, Bool.not_false, eq_self, Bool.not_eq_eq_eq_not, decide_eq_true_eq, decide_eq_false_iff_not, not_true_eq_false, not_false_eq_true, decide_true, decide_false, Bool.true_and, Bool.and_true, Bool.not_true, Bool.not_false, beq_self_eq_true, Bool.true_eq_false, Bool.false_eq_true, reduceCtorEq, gt_iff_lt, ge_iff_le, true_and, and_true, and_self, Bool.false_eq, Bool.and_self, Int.add_zero, Option.isSome_some, Option.getD_some, hz, hz2, hzt, hzt2, x1, x2, Dy.n, f1u, f2u, f3u, f1v, f2v, f3v, t1, t2, t3, t4, e1a, e1b, e2a, e2b, s1, s2, hT1, hT2, std_ceq, m1] at hc_; done) | (clear hc_; cbv))))
      all_goals subst hF hA
      all_goals (try simp only [fnOf, find, std_of, std_lt, std_le, std_eq, std_not, std_fcmp, std_fneg, std_bits, std_toN, std_pick, std_nn, std_fok, std_fop, std_ceq, std_add, std_sub, std_min, std_max, std_beq, std_rem, std_cv, std_nz, reduceIte, Nat.reduceEqDiff, sp1, sp2, a1, a2, FnSpec.out, Shape.build, leafs, leafCells, tups, oneOf, List.cons_append, List.nil_append, List.length_cons, List.length_nil, s_GaussFloats, s_known8, s_uExact, s_mInf, s_mNaN, s_vEqual, s_qEqual, s_bits8, s_uFloat, s_plain8, dz, dx, dcn, dm_raw, dm_N0, vI_N0, toNat_nat, rv_raw, rv_N0, re4, df, cre, cim, sf1, sf2, s_uOf, re4, dv, vI_nil, Prod.eta, s_yEqual, re4, sameI_N0, reduceIte, Bool.true_and, if_true, if_false, and_true, true_and, Int.reduceNeg, Int.reduceEq, Int.reduceLT, Int.reduceLE, Int.reduceBEq, Int.reduceAdd, Prod.eta, cmp0d, beq_dec, decide_true, decide_false, Bool.and_false, Bool.false_and, Bool.and_true, Bool.not_true, Bool.not_false, eq_self, Bool.not_eq_eq_eq_not, decide_eq_true_eq, decide_eq_false_iff_not, not_true_eq_false, not_false_eq_true, decide_true, decide_false, Bool.true_and, Bool.and_true, Bool.not_true, Bool.not_false, beq_self_eq_true, Bool.true_eq_false, Bool.false_eq_true, reduceCtorEq, gt_iff_lt, ge_iff_le, true_and, and_true, and_self, Bool.false_eq, Bool.and_self, Int.add_zero, Option.isSome_some, Option.getD_some, hz, hz2, hzt, hzt2, x1, x2, Dy.n, f1u, f2u, f3u, f1v, f2v, f3v, t1, t2, t3, t4, e1a, e1b, e2a, e2b, s1, s2, hT1, hT2, std_ceq, m1] at hQ ⊢)
      all_goals (repeat' (first
      | with_reducible exact hQ
      | with_reducible assumption
      | with_reducible exact isi_int _ _
      | with_reducible exact isF_mk (by assumption)
      | with_reducible exact isCf_mk (by omega) (by omega)
      | exact isCf_mk (by decide) (by decide)
      | with_reducible exact fin_mk (by assumption) (by assumption)
      | with_reducible exact finN_mk (by assumption) (by assumption)
      | with_reducible exact okT_mk hc hn he1 he2
      | with_reducible exact okT_mk hc2 hm hf1 hf2
      | exact hQ
      | with_reducible exact okR_mk hc hn he1 he2 hc2 hm hf1 hf2
      | with_reducible refine okD_mk ?_ ?_ ?_
      | with_reducible refine okT_mk ?_ ?_ ?_ ?_
      | with_reducible refine okR_mk ?_ ?_ ?_ ?_ ?_ ?_ ?_ ?_
      | (with_reducible refine near_mk ?_ ?_; (focus omega); (focus omega))
      | (with_reducible refine isC_mk ?_ ?_)
      | omega
      | with_reducible refine And.intro ?_ ?_))
      all_goals trace_state
    · have m1 : (decide (-1000 ≤ T1) && decide (T1 ≤ 1000)) = true := by rw [← Bool.decide_and]; exact decide_eq_true p1
      have m2 : (decide (-1000 ≤ T2) && decide (T2 ≤ 1000)) = false := by rw [← Bool.decide_and]; exact decide_eq_false p2
      cbv
      repeat' (first | with_reducible refine And.intro ?_ ?_ | (with_reducible refine safe_lift hA ?_; kernel_rfl) | (intro hc_; (first | (with_reducible exfalso; clear hQ; subst hF hA; simp only [fnOf, find, std_of, std_lt, std_le, std_eq, std_not, std_fcmp, std_fneg, std_bits, std_toN, std_pick, std_nn, std_fok, std_fop, std_ceq, std_add, std_sub, std_min, std_max, std_beq, std_rem, std_cv, std_nz, reduceIte, Nat.reduceEqDiff, sp1, sp2, a1, a2, FnSpec.out, Shape.build, leafs, leafCells, tups, oneOf, List.cons_append, List.nil_append, List.length_cons, List.length_nil, s_GaussFloats, s_known8, s_uExact, s_mInf, s_mNaN, s_vEqual, s_qEqual, s_bits8, s_uFloat, s_plain8, dz, dx, dcn, dm_raw, dm_N0, vI_N0, toNat_nat, rv_raw, rv_N0, re4, df, cre, cim, sf1, sf2, s_uOf, re4, dv, vI_nil, Prod.eta, s_yEqual, re4, sameI_N0, reduceIte, Bool.true_and, if_true, if_false, and_true, true_and, Int.reduceNeg, Int.reduceEq, Int.reduceLT, Int.reduceLE, Int.reduceBEq, Int.reduceAdd, Prod.eta, cmp0d, beq_dec, decide_true, decide_false, Bool.and_false, Bool.false_and, Bool.and_true, Bool.not_true, Bool.not_false, eq_self, Bool.not_eq_eq_eq_not, decide_eq_true_eq, decide_eq_false_iff_not, not_true_eq_false, not_false_eq_true, decide_true, decide_false, Bool.true_and, Bool.and_true, Bool.not_true, Bool.not_false, beq_self_eq_true, Bool.true_eq_false, Bool.false_eq_true, reduceCtorEq, gt_iff_lt, ge_iff_le, true_and, and_true, and_self, Bool.false_eq, Bool.and_self, Int.add_zero, Option.isSome_some, Option.getD_some, hz, hz2, hzt, hzt2, x1, x2, Dy.n, f1u, f2u, f3u, f1v, f2v, f3v, t1, t2, t3, t4, e1a, e1b, e2a, e2b, s1, s2, hT1, hT2, std_ceq, m1, m2] at hc_; done) | (clear hc_; cbv))))
      all_goals subst hF hA
      all_goals (try simp only [fnOf, find, std_of, std_lt, std_le, std_eq, std_not, std_fcmp, std_fneg, std_bits, std_toN, std_pick, std_nn, std_fok, std_fop, std_ceq, std_add, std_sub, std_min, std_max, std_beq, std_rem, std_cv, std_nz, reduceIte, Nat.reduceEqDiff, sp1, sp2, a1, a2, FnSpec.out, Shape.build, leafs, leafCells, tups, oneOf, List.cons_append, List.nil_append, List.length_cons, List.length_nil, s_GaussFloats, s_known8, s_uExact, s_mInf, s_mNaN, s_vEqual, s_qEqual, s_bits8, s_uFloat, s_plain8, dz, dx, dcn, dm_raw, dm_N0, vI_N0, toNat_nat, rv_raw, rv_N0, re4, df, cre, cim, sf1, sf2, s_uOf, re4, dv, vI_nil, Prod.eta, s_yEqual, re4, sameI_N0, reduceIte, Bool.true_and, if_true, if_false, and_true, true_and, Int.reduceNeg, Int.reduceEq, Int.reduceLT, Int.reduceLE, Int.reduceBEq, Int.reduceAdd, Prod.eta, cmp0d, beq_dec, decide_true, decide_false, Bool.and_false, Bool.false_and, Bool.and_true, Bool.not_true, Bool.not_false, eq_self, Bool.not_eq_eq_eq_not, decide_eq_true_eq, decide_eq_false_iff_not, not_true_eq_false, not_false_eq_true, decide_true, decide_false, Bool.true_and, Bool.and_true, Bool.not_true, Bool.not_false, beq_self_eq_true, Bool.true_eq_false, Bool.false_eq_true, reduceCtorEq, gt_iff_lt, ge_iff_le, true_and, and_true, and_self, Bool.false_eq, Bool.and_self, Int.add_zero, Option.isSome_some, Option.getD_some, hz, hz2, hzt, hzt2, x1, x2, Dy.n, f1u, f2u, f3u, f1v, f2v, f3v, t1, t2, t3, t4, e1a, e1b, e2a, e2b, s1, s2, hT1, hT2, std_ceq, m1, m2] at hQ ⊢)
      all_goals (repeat' (first
      | with_reducible exact hQ
      | with_reducible assumption
      | with_reducible exact isi_int _ _
      | with_reducible exact isF_mk (by assumption)
      | with_reducible exact isCf_mk (by omega) (by omega)
      | exact isCf_mk (by decide) (by decide)
      | with_reducible exact fin_mk (by assumption) (by assumption)
      | with_reducible exact finN_mk (by assumption) (by assumption)
      | with_reducible exact okT_mk hc hn he1 he2
      | with_reducible exact okT_mk hc2 hm hf1 hf2
      | exact hQ
      | with_reducible exact okR_mk hc hn he1 he2 hc2 hm hf1 hf2
      | with_reducible refine okD_mk ?_ ?_ ?_
      | with_reducible refine okT_mk ?_ ?_ ?_ ?_
      | with_reducible refine okR_mk ?_ ?_ ?_ ?_ ?_ ?_ ?_ ?_
      | (with_reducible refine near_mk ?_ ?_; (focus omega); (focus omega))
      | (with_reducible refine isC_mk ?_ ?_)
      | omega
      | with_reducible refine And.intro ?_ ?_))
      all_goals trace_state
    · have m1 : (decide (-1000 ≤ T1) && decide (T1 ≤ 1000)) = true := by rw [← Bool.decide_and]; exact decide_eq_true p1
      have m2 : (decide (-1000 ≤ T2) && decide (T2 ≤ 1000)) = true := by rw [← Bool.decide_and]; exact decide_eq_true p2
      have b1 := y1 p1.1 p1.2
      have b2 := y2 p2.1 p2.2
      cbv
      repeat' (first | with_reducible refine And.intro ?_ ?_ | (with_reducible refine safe_lift hA ?_; kernel_rfl) | (intro hc_; (first | (with_reducible exfalso; clear hQ; subst hF hA; simp only [fnOf, find, std_of, std_lt, std_le, std_eq, std_not, std_fcmp, std_fneg, std_bits, std_toN, std_pick, std_nn, std_fok, std_fop, std_ceq, std_add, std_sub, std_min, std_max, std_beq, std_rem, std_cv, std_nz, reduceIte, Nat.reduceEqDiff, sp1, sp2, a1, a2, FnSpec.out, Shape.build, leafs, leafCells, tups, oneOf, List.cons_append, List.nil_append, List.length_cons, List.length_nil, s_GaussFloats, s_known8, s_uExact, s_mInf, s_mNaN, s_vEqual, s_qEqual, s_bits8, s_uFloat, s_plain8, dz, dx, dcn, dm_raw, dm_N0, vI_N0, toNat_nat, rv_raw, rv_N0, re4, df, cre, cim, sf1, sf2, s_uOf, re4, dv, vI_nil, Prod.eta, s_yEqual, re4, sameI_N0, reduceIte, Bool.true_and, if_true, if_false, and_true, true_and, Int.reduceNeg, Int.reduceEq, Int.reduceLT, Int.reduceLE, Int.reduceBEq, Int.reduceAdd, Prod.eta, cmp0d, beq_dec, decide_true, decide_false, Bool.and_false, Bool.false_and, Bool.and_true, Bool.not_true, Bool.not_false, eq_self, Bool.not_eq_eq_eq_not, decide_eq_true_eq, decide_eq_false_iff_not, not_true_eq_false, not_false_eq_true, decide_true, decide_false, Bool.true_and, Bool.and_true, Bool.not_true, Bool.not_false, beq_self_eq_true, Bool.true_eq_false, Bool.false_eq_true, reduceCtorEq, gt_iff_lt, ge_iff_le, true_and, and_true, and_self, Bool.false_eq, Bool.and_self, Int.add_zero, Option.isSome_some, Option.getD_some, hz, hz2, hzt, hzt2, x1, x2, Dy.n, f1u, f2u, f3u, f1v, f2v, f3v, t1, t2, t3, t4, e1a, e1b, e2a, e2b, s1, s2, hT1, hT2, std_ceq, m1, m2, b1, b2] at hc_; done) | (clear hc_; cbv))))
      all_goals subst hF hA
      all_goals (try simp only [fnOf, find, std_of, std_lt, std_le, std_eq, std_not, std_fcmp, std_fneg, std_bits, std_toN, std_pick, std_nn, std_fok, std_fop, std_ceq, std_add, std_sub, std_min, std_max, std_beq, std_rem, std_cv, std_nz, reduceIte, Nat.reduceEqDiff, sp1, sp2, a1, a2, FnSpec.out, Shape.build, leafs, leafCells, tups, oneOf, List.cons_append, List.nil_append, List.length_cons, List.length_nil, s_GaussFloats, s_known8, s_uExact, s_mInf, s_mNaN, s_vEqual, s_qEqual, s_bits8, s_uFloat, s_plain8, dz, dx, dcn, dm_raw, dm_N0, vI_N0, toNat_nat, rv_raw, rv_N0, re4, df, cre, cim, sf1, sf2, s_uOf, re4, dv, vI_nil, Prod.eta, s_yEqual, re4, sameI_N0, reduceIte, Bool.true_and, if_true, if_false, and_true, true_and, Int.reduceNeg, Int.reduceEq, Int.reduceLT, Int.reduceLE, Int.reduceBEq, Int.reduceAdd, Prod.eta, cmp0d, beq_dec, decide_true, decide_false, Bool.and_false, Bool.false_and, Bool.and_true, Bool.not_true, Bool.not_false, eq_self, Bool.not_eq_eq_eq_not, decide_eq_true_eq, decide_eq_false_iff_not, not_true_eq_false, not_false_eq_true, decide_true, decide_false, Bool.true_and, Bool.and_true, Bool.not_true, Bool.not_false, beq_self_eq_true, Bool.true_eq_false, Bool.false_eq_true, reduceCtorEq, gt_iff_lt, ge_iff_le, true_and, and_true, and_self, Bool.false_eq, Bool.and_self, Int.add_zero, Option.isSome_some, Option.getD_some, hz, hz2, hzt, hzt2, x1, x2, Dy.n, f1u, f2u, f3u, f1v, f2v, f3v, t1, t2, t3, t4, e1a, e1b, e2a, e2b, s1, s2, hT1, hT2, std_ceq, m1, m2, b1, b2] at hQ ⊢)
      all_goals (repeat' (first
      | with_reducible exact hQ
      | with_reducible assumption
      | with_reducible exact isi_int _ _
      | with_reducible exact isF_mk (by assumption)
      | with_reducible exact isCf_mk (by omega) (by omega)
      | exact isCf_mk (by decide) (by decide)
      | with_reducible exact fin_mk (by assumption) (by assumption)
      | with_reducible exact finN_mk (by assumption) (by assumption)
      | with_reducible exact okT_mk hc hn he1 he2
      | with_reducible exact okT_mk hc2 hm hf1 hf2
      | exact hQ
      | with_reducible exact okR_mk hc hn he1 he2 hc2 hm hf1 hf2
      | with_reducible refine okD_mk ?_ ?_ ?_
      | with_reducible refine okT_mk ?_ ?_ ?_ ?_
      | with_reducible refine okR_mk ?_ ?_ ?_ ?_ ?_ ?_ ?_ ?_
      | (with_reducible refine near_mk ?_ ?_; (focus omega); (focus omega))
      | (with_reducible refine isC_mk ?_ ?_)
      | omega
      | with_reducible refine And.intro ?_ ?_))
      all_goals trace_state
end Go.Proofs.YtcamkbphognoaaaGreatDoor.Ev
