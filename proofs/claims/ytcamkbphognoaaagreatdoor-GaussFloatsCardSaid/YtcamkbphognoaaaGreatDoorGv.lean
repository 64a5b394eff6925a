/- Points and floats: what package gauss asks and tells of them. -/
import Derived.Test.YtcamkbphognoaaaGreatDoorGu
import Derived.Test.YtcamkbphognoaaaGreatDoorFl
namespace Go.Proofs.YtcamkbphognoaaaGreatDoor.Ev
open Go Go.RowKit
set_option linter.unusedSimpArgs false
set_option linter.unusedVariables false
/-- the number that a float is, as it is told. -/
def exd (u : Nat) : Dy := if rgo u < infR then Dy.n (xm u, xe u) else (0, 0)
def s_uexact : FnSpec := sf1 (.tup [(true, [.I, .i .i64]), (false, [.b])]) isF (fun _ => 0) (fun _ => 0) (fun x => decide (rgo (df x) < infR))
  |> fun s => { s with z := fun ds i => a1 0 (fun x i => match i with | 0 => (exd (df x)).1 | _ => (exd (df x)).2) ds i }
theorem uexact_arg {ds : List D} (h : s_uexact.p ds) : ∃ u, ds = [.flt .f64 u] ∧ u < 18446744073709551616 := by
  match ds, h with
  | [x], h =>
    obtain ⟨u, rfl, hu⟩ := isF_arg h
    exact ⟨u, rfl, hu⟩
def s_ufloat : FnSpec := sf1 (.one .f) (fun x => okT x ∧ Fit (tmI (dm x)) 53) (fun x => gfl (tmI (dm x)) (teI (dm x) (dx x))) (fun _ => 0) (fun _ => false)
def isCf (x : D) : Prop := match x with | .cpx .f64 a b => a < 18446744073709551616 ∧ b < 18446744073709551616 | _ => False
theorem isCf_arg {x : D} (h : isCf x) : ∃ a b, x = .cpx .f64 a b ∧ a < 18446744073709551616 ∧ b < 18446744073709551616 := by
  match x, h with
  | .cpx .f64 a b, h => exact ⟨a, b, rfl, h⟩
theorem isCf_mk {a b : Nat} (h1 : a < 18446744073709551616) (h2 : b < 18446744073709551616) : isCf (.cpx .f64 a b) := ⟨h1, h2⟩
def cre (x : D) : Nat := match x with | .cpx _ a _ => a | _ => 0
def cim (x : D) : Nat := match x with | .cpx _ _ b => b | _ => 0
def finC (a b : Nat) : Bool := decide (rgo a < infR) && decide (rgo b < infR)
def exc (a b : Nat) : Re := if finC a b = true then (exd a, exd b) else ((0, 0), (0, 0))
def s_uExact : FnSpec := ⟨.tup [(true, [.I, .i .i64, .I, .i .i64]), (false, [.b])], fun ds => match ds with | [x] => isCf x | _ => False,
  a1 0 fun x i => re4 (exc (cre x) (cim x)) i, a1 false fun x _ => finC (cre x) (cim x), fun _ _ => 0, fun _ _ => []⟩
def s_uFloat : FnSpec := ⟨.one .c, fun ds => match ds with | [x] => okR x ∧ Fit (tmI (rv x).1.1) 53 ∧ Fit (tmI (rv x).2.1) 53 | _ => False,
  a1 0 fun x _ => (gfl (tmI (rv x).2.1) (teI (rv x).2.1 (rv x).2.2) : Nat), fun _ _ => false, a1 0 fun x _ => gfl (tmI (rv x).1.1) (teI (rv x).1.1 (rv x).1.2), fun _ _ => []⟩
theorem uFloat_arg {ds : List D} (h : s_uFloat.p ds) : ∃ x, ds = [x] ∧ okR x ∧ Fit (tmI (rv x).1.1) 53 ∧ Fit (tmI (rv x).2.1) 53 := by
  match ds, h with
  | [x], h => exact ⟨x, rfl, h⟩
theorem uExact_arg {ds : List D} (h : s_uExact.p ds) : ∃ a b, ds = [.cpx .f64 a b] ∧ a < 18446744073709551616 ∧ b < 18446744073709551616 := by
  match ds, h with
  | [x], h =>
    obtain ⟨a, b, rfl, h⟩ := isCf_arg h
    exact ⟨a, b, rfl, h⟩
theorem std_fti (s : FloatKind) (b : Nat) (k : IntKind) : std.fti s b k = (floatToIntVal s b k).getD 0 := rfl
theorem std_ftiOk (s : FloatKind) (b : Nat) (k : IntKind) : std.ftiOk s b k = ((floatToIntVal s b k).isSome = true) := rfl
theorem fxe_le (u : Nat) (h : rgo u < infR) : -1100 ≤ fxe u ∧ fxe u ≤ 1100 := by
  have hi := infR_is
  unfold fxe
  split
  · omega
  · rename_i h0
    have hE := nE_le (fxv_normal h h0)
    have hk : fxk u = -52 ∨ fxk u = 0 := by unfold fxk; split <;> simp
    omega
/-- what is told of a float's number. -/
theorem exd_is {u : Nat} (h : rgo u < infR) : exd u = (tmI (gmf u), teI (gmf u) (fxe u - 53)) := by
  unfold exd
  rw [if_pos h]
  obtain ⟨n, h1, h2, h3⟩ := gm_x h
  unfold Dy.n
  rw [h2, tmI_shift, teI_shift]
  by_cases h0 : rgo u = 0
  · have : xm u = 0 := by unfold xm; rw [h0, fmag_zero]; cases sgo u <;> rfl
    rw [this, teI_zero, teI_zero]
  · rw [h3 h0]
theorem fxf_ok {u : Nat} (hu : u < 18446744073709551616) (h : rgo u < infR) : fxf u < 18446744073709551616 ∧ (rgo (fxf u) = 0 ∨ normal (rgo (fxf u))) := by
  have hi := infR_is
  have hF : fF (fxv u) < 4503599627370496 := Nat.mod_lt _ (by decide)
  unfold fxf
  split
  · rename_i h0; exact ⟨hu, .inl h0⟩
  · have hlt : 1022 * 4503599627370496 + fF (fxv u) < 9223372036854775808 := by omega
    refine ⟨wd_lt hlt, .inr ?_⟩
    rw [rgo_wd hlt]
    unfold normal; omega
/-- limbs, gathered into a float. -/
theorem fl_facts {M : Int} (h : Fit M 53) (ho : M ≠ 0 → M.natAbs % 2 = 1) : ∃ (S Q L : Nat → Nat), S 0 = 0 ∧ S (N0.ln M) = wd false (flo M.natAbs) ∧ N0.ln M = nl M.natAbs ∧
    ∀ i, i < N0.ln M → (N0.lm M)[i]? = some (.int .u32 (L i : Nat)) ∧ floatBits .quo .f64 (S i) 4751297606875873280 = some (Q i) ∧ floatBits .add .f64 (Q i) (FloatKind.f64.nearest (L i : Nat)) = some (S (i + 1)) := by
  have hN : M.natAbs < 9007199254740992 := by unfold Fit at h; simpa using h
  have hz : M = 0 ↔ M.natAbs = 0 := by omega
  have e1 : N0.ln M = ln M.natAbs := rfl
  have e2 : N0.lm M = u32s (lim M.natAbs) := rfl
  have ho' : M.natAbs ≠ 0 → M.natAbs % 2 = 1 := fun h0 => ho (fun h1 => h0 (hz.1 h1))
  rw [e1, e2]
  clear ho h hz e1 e2
  generalize M.natAbs = N at *
  have hB : Bs = 4294967296 := Bs_eq
  by_cases h0 : N = 0
  · subst h0
    refine ⟨fun _ => 0, fun _ => 0, fun _ => 0, rfl, by decide, ?_, fun i hi => ?_⟩
    · rw [ln_zero]; rfl
    · rw [ln_zero] at hi; exact absurd hi (Nat.not_lt_zero _)
  by_cases h1 : N < 4294967296
  · have e1 : lim N = [N] := lim_single h0 (by rw [hB]; exact h1)
    have e2 : ln N = 1 := by unfold ln; rw [e1]; rfl
    refine ⟨fun i => if i = 0 then 0 else wd false (rg N 1074), fun _ => 0, fun _ => N, rfl, ?_, ?_, fun i hi => ?_⟩
    · rw [e2]; show wd false (rg N 1074) = _; unfold flo; rw [if_pos h1]
    · rw [e2]; unfold nl; rw [if_neg h0, if_pos h1]
    · rw [e2] at hi
      have : i = 0 := by omega
      subst this
      rw [e1]
      refine ⟨rfl, fz_ok, ?_⟩
      rw [lim_float h1]; exact fadd0 h1
  · have hl : N % 4294967296 ≠ 0 := by have := ho' h0; omega
    have hh : N / 4294967296 ≠ 0 := by omega
    have e1 : lim N = [N % 4294967296, N / 4294967296] := by
      rw [lim_pos h0, hB, lim_single hh (by rw [hB]; omega)]
    have e2 : ln N = 2 := by unfold ln; rw [e1]; rfl
    have hlt : N % 4294967296 < 4294967296 := Nat.mod_lt _ (by decide)
    refine ⟨fun i => if i = 0 then 0 else if i = 1 then wd false (rg (N % 4294967296) 1074) else wd false (rg N 1042), fun i => if i = 0 then 0 else wd false (rg (N % 4294967296) 1042), fun i => if i = 0 then N % 4294967296 else N / 4294967296, rfl, ?_, ?_, fun i hi => ?_⟩
    · rw [e2]; show wd false (rg N 1042) = _; unfold flo; rw [if_neg h1]
    · rw [e2]; unfold nl; rw [if_neg h0, if_neg h1]
    · rw [e2] at hi
      rw [e1]
      rcases (show i = 0 ∨ i = 1 by omega) with rfl | rfl
      · refine ⟨rfl, fz_ok, ?_⟩
        show floatBits .add .f64 0 (FloatKind.f64.nearest ((N % 4294967296 : Nat) : Int)) = some (wd false (rg (N % 4294967296) 1074))
        rw [lim_float hlt]; exact fadd0 hlt
      · refine ⟨rfl, div32 hl hlt, ?_⟩
        show floatBits .add .f64 (wd false (rg (N % 4294967296) 1042)) (FloatKind.f64.nearest ((N / 4294967296 : Nat) : Int)) = some (wd false (rg N 1042))
        rw [lim_float (by omega), add32 hlt (by omega), show N % 4294967296 + N / 4294967296 * 4294967296 = N by omega]
theorem flo_ok {M : Int} (h : Fit M 53) (s : Bool) : wd s (flo M.natAbs) < 18446744073709551616 ∧ (rgo (wd s (flo M.natAbs)) = 0 ∨ normal (rgo (wd s (flo M.natAbs)))) := by
  have hN : M.natAbs < 9007199254740992 := by unfold Fit at h; simpa using h
  have h1 := flo_fin hN
  have h2 : flo M.natAbs < 9223372036854775808 := Nat.lt_trans h1 Ev.infR_lt
  refine ⟨wd_lt h2, ?_⟩
  rw [rgo_wd h2]
  by_cases h0 : M.natAbs = 0
  · rw [h0]; exact .inl (by decide)
  · refine .inr ⟨?_, h1⟩
    obtain ⟨e1, e2⟩ := flo_is hN h0
    obtain ⟨_, _, a3, _, _⟩ := log2_fmag_rg hN h0 (e := 1042) (by omega) (by have := log2_le hN; omega)
    rw [e1]; omega
theorem clamp_ok {M E : Int} (h : Fit M 53) : (Ieee.double.order (ldx (wd (decide (M < 0)) (flo M.natAbs)) (E - 32 + 32 * (nl M.natAbs : Nat))) 18442240474082181119).isSome = true ∧ (Ieee.double.order (fmaxV .f64 (ldx (wd (decide (M < 0)) (flo M.natAbs)) (E - 32 + 32 * (nl M.natAbs : Nat))) 18442240474082181119) 9218868437227405311).isSome = true := by
  have hN : M.natAbs < 9007199254740992 := by unfold Fit at h; simpa using h
  have h1 := flo_fin hN
  have h2 : flo M.natAbs < 9223372036854775808 := Nat.lt_trans h1 Ev.infR_lt
  obtain ⟨s, r, h3, h4⟩ := ldx_any (e := E - 32 + 32 * (nl M.natAbs : Nat)) (wd_lt (s := decide (M < 0)) h2) (by rw [rgo_wd h2]; exact h1)
  obtain ⟨h5, h6, _⟩ := clamp_any (s := s) h3
  rw [h4]
  exact ⟨h5, h6⟩
theorem f_neg {M : Int} (h : Fit M 53) (hm : M < 0) : Op.negFloat .f64 (wd false (flo M.natAbs)) = wd (decide (M < 0)) (flo M.natAbs) := by
  have hN : M.natAbs < 9007199254740992 := by unfold Fit at h; simpa using h
  rw [fneg_wd (Nat.lt_trans (flo_fin hN) Ev.infR_lt), decide_eq_true hm]; rfl
theorem nl_le (N : Nat) : nl N ≤ 2 := by unfold nl; split <;> (try split) <;> omega
theorem fin_cases (a b : Nat) : (rgo a < infR ∧ rgo b < infR) ∨ (rgo a < infR ∧ ¬rgo b < infR) ∨ ¬rgo a < infR := by
  by_cases h1 : rgo a < infR
  · by_cases h2 : rgo b < infR
    · exact .inl ⟨h1, h2⟩
    · exact .inr (.inl ⟨h1, h2⟩)
  · exact .inr (.inr h1)
set_option maxRecDepth 100000 in
set_option maxHeartbeats 8000000 in
theorem good_uexact : Good Tryz.prog (GWL [0, 1]) N0 109 s_uexact := by
  refine goodL (l := [0, 1]) (tab := [(64, s_mInf), (65, s_mNaN), (140, s_mFxp), (141, s_mLdx), (104, s_dOf), (107, s_dScale)]) (shs := [(64, .one .b), (65, .one .b), (140, .tup [(false, [.f]), (false, [.i .i64])]), (141, .one .f), (104, .agg [.I, .i .i64]), (107, .agg [.I, .i .i64])]) rfl ⟨good_mInf, good_mNaN, good_mFxp, good_mLdx, good_dOf, good_dScale, trivial⟩ Tryz.f109 (by kernel_rfl) (by kernel_rfl) (by kernel_rfl) (fun ds hp F A Q hF hA hQ => ⟨0, ?_⟩)
  obtain ⟨u, rfl, hu⟩ := uexact_arg hp
  clear hp
  rcases Nat.lt_trichotomy (rgo u) infR with h0 | h0 | h0
  · have c1 : (rgo u = infR) = False := eq_false (by omega)
    have c2 : (infR < rgo u) = False := eq_false (by omega)
    have c3 := eq_true h0
    obtain ⟨f1, f2⟩ := fxf_ok hu h0
    have g0 := gm_told hu h0
    obtain ⟨g1, g2⟩ := gm_le u
    obtain ⟨e1, e2⟩ := fxe_le u h0
    have x0 := exd_is h0
    have w1 : std.sub .i64 (fxe u) 53 = fxe u - 53 := wrap_in (by omega) (by omega)
    have w2 : (0 : Int) + min (max (fxe u - 53) (-20000)) 20000 = fxe u - 53 := by omega
    have w3 := teI_scale (gmf u) 0 (min (max (fxe u - 53) (-20000)) 20000)
    rw [w2] at w3
    have fG : Fit (gmf u) 64 := by unfold Fit; omega
    have o1 := okC_fitN (fit_tm fG) (by omega)
    have o2 : N0.ln (tmI (gmf u)) ≤ 2 := ln_fit (fit_tm fG)
    have o3 : -1000 ≤ teI (gmf u) 0 ∧ teI (gmf u) 0 ≤ 1000 := by rcases teI_bound (e := 0) fG with h | ⟨_, h4, h5⟩ <;> omega
    obtain ⟨o4, o5⟩ := o3
    cbv
    repeat' (first | with_reducible refine And.intro ?_ ?_ | (with_reducible refine safe_lift hA ?_; kernel_rfl) | (intro hc_; (first | (with_reducible exfalso; clear hQ; subst hF hA; simp only [fnOf, find, std_of, std_lt, std_le, std_eq, std_not, std_fcmp, std_fneg, std_bits, std_toN, std_pick, std_nn, std_fok, std_fop, reduceIte, Nat.reduceEqDiff, sp1, sp2, a1, a2, FnSpec.out, Shape.build, leafs, leafCells, tups, oneOf, List.cons_append, List.nil_append, List.length_cons, List.length_nil, s_uexact, s_mInf, s_mNaN, s_mFxp, s_mLdx, s_dOf, s_dScale, s_uexact, sf1, sf2, s_mldx, s_mfxp, df, dz, dx, dcn, dm_raw, dm_N0, vI_N0, toNat_nat, rv_raw, rv_N0, re4, cre, cim, eq_self, Bool.not_eq_eq_eq_not, decide_eq_true_eq, decide_eq_false_iff_not, not_true_eq_false, not_false_eq_true, decide_true, decide_false, Bool.true_and, Bool.and_true, Bool.not_true, Bool.not_false, beq_self_eq_true, Bool.true_eq_false, Bool.false_eq_true, reduceCtorEq, gt_iff_lt, ge_iff_le, true_and, and_true, and_self, Bool.false_eq, Bool.and_self, Int.add_zero, Option.isSome_some, Option.getD_some, c1, c2, c3, g0, x0, w1, w3, tmI_idem, std_fti, std_ftiOk] at hc_; done) | (clear hc_; cbv))))
    all_goals subst hF hA
    all_goals (try simp only [fnOf, find, std_of, std_lt, std_le, std_eq, std_not, std_fcmp, std_fneg, std_bits, std_toN, std_pick, std_nn, std_fok, std_fop, reduceIte, Nat.reduceEqDiff, sp1, sp2, a1, a2, FnSpec.out, Shape.build, leafs, leafCells, tups, oneOf, List.cons_append, List.nil_append, List.length_cons, List.length_nil, s_uexact, s_mInf, s_mNaN, s_mFxp, s_mLdx, s_dOf, s_dScale, s_uexact, sf1, sf2, s_mldx, s_mfxp, df, dz, dx, dcn, dm_raw, dm_N0, vI_N0, toNat_nat, rv_raw, rv_N0, re4, cre, cim, eq_self, Bool.not_eq_eq_eq_not, decide_eq_true_eq, decide_eq_false_iff_not, not_true_eq_false, not_false_eq_true, decide_true, decide_false, Bool.true_and, Bool.and_true, Bool.not_true, Bool.not_false, beq_self_eq_true, Bool.true_eq_false, Bool.false_eq_true, reduceCtorEq, gt_iff_lt, ge_iff_le, true_and, and_true, and_self, Bool.false_eq, Bool.and_self, Int.add_zero, Option.isSome_some, Option.getD_some, c1, c2, c3, g0, x0, w1, w3, tmI_idem, std_fti, std_ftiOk] at hQ ⊢)
    all_goals (repeat' (first
    | with_reducible exact hQ
    | with_reducible assumption
    | with_reducible exact isi_int _ _
    | with_reducible exact isF_mk (by assumption)
    | with_reducible exact fin_mk (by assumption) (by assumption)
    | with_reducible exact finN_mk (by assumption) (by assumption)
    | with_reducible exact okT_mk hc hn he1 he2
    | with_reducible exact okT_mk hc2 hm hf1 hf2
    | exact hQ
    | with_reducible exact okR_mk hc hn he1 he2 hc2 hm hf1 hf2
    | with_reducible refine okD_mk ?_ ?_ ?_
    | with_reducible refine okT_mk ?_ ?_ ?_ ?_
    | with_reducible refine okR_mk ?_ ?_ ?_ ?_ ?_ ?_ ?_ ?_
    | (with_reducible refine near_mk ?_ ?_; (focus omega); (focus omega))
    | (with_reducible refine isC_mk ?_ ?_)
    | omega
    | with_reducible refine And.intro ?_ ?_))
    all_goals trace_state
  · have c1 := eq_true h0
    have c3 : (rgo u < infR) = False := eq_false (by omega)
    have x0 : exd u = (0, 0) := if_neg (by omega)
    cbv
    repeat' (first | with_reducible refine And.intro ?_ ?_ | (with_reducible refine safe_lift hA ?_; kernel_rfl) | (intro hc_; (first | (with_reducible exfalso; clear hQ; subst hF hA; simp only [fnOf, find, std_of, std_lt, std_le, std_eq, std_not, std_fcmp, std_fneg, std_bits, std_toN, std_pick, std_nn, std_fok, std_fop, reduceIte, Nat.reduceEqDiff, sp1, sp2, a1, a2, FnSpec.out, Shape.build, leafs, leafCells, tups, oneOf, List.cons_append, List.nil_append, List.length_cons, List.length_nil, s_uexact, s_mInf, s_mNaN, s_mFxp, s_mLdx, s_dOf, s_dScale, s_uexact, sf1, sf2, s_mldx, s_mfxp, df, dz, dx, dcn, dm_raw, dm_N0, vI_N0, toNat_nat, rv_raw, rv_N0, re4, cre, cim, eq_self, Bool.not_eq_eq_eq_not, decide_eq_true_eq, decide_eq_false_iff_not, not_true_eq_false, not_false_eq_true, decide_true, decide_false, Bool.true_and, Bool.and_true, Bool.not_true, Bool.not_false, beq_self_eq_true, Bool.true_eq_false, Bool.false_eq_true, reduceCtorEq, gt_iff_lt, ge_iff_le, true_and, and_true, and_self, Bool.false_eq, Bool.and_self, Int.add_zero, Option.isSome_some, Option.getD_some, c1, c3, x0, N0_neg0, N0_ln0, N0_lm0] at hc_; done) | (clear hc_; cbv))))
    all_goals subst hF hA
    all_goals (try simp only [fnOf, find, std_of, std_lt, std_le, std_eq, std_not, std_fcmp, std_fneg, std_bits, std_toN, std_pick, std_nn, std_fok, std_fop, reduceIte, Nat.reduceEqDiff, sp1, sp2, a1, a2, FnSpec.out, Shape.build, leafs, leafCells, tups, oneOf, List.cons_append, List.nil_append, List.length_cons, List.length_nil, s_uexact, s_mInf, s_mNaN, s_mFxp, s_mLdx, s_dOf, s_dScale, s_uexact, sf1, sf2, s_mldx, s_mfxp, df, dz, dx, dcn, dm_raw, dm_N0, vI_N0, toNat_nat, rv_raw, rv_N0, re4, cre, cim, eq_self, Bool.not_eq_eq_eq_not, decide_eq_true_eq, decide_eq_false_iff_not, not_true_eq_false, not_false_eq_true, decide_true, decide_false, Bool.true_and, Bool.and_true, Bool.not_true, Bool.not_false, beq_self_eq_true, Bool.true_eq_false, Bool.false_eq_true, reduceCtorEq, gt_iff_lt, ge_iff_le, true_and, and_true, and_self, Bool.false_eq, Bool.and_self, Int.add_zero, Option.isSome_some, Option.getD_some, c1, c3, x0, N0_neg0, N0_ln0, N0_lm0] at hQ ⊢)
    all_goals (repeat' (first
    | with_reducible exact hQ
    | with_reducible assumption
    | with_reducible exact isi_int _ _
    | with_reducible exact isF_mk (by assumption)
    | with_reducible exact fin_mk (by assumption) (by assumption)
    | with_reducible exact finN_mk (by assumption) (by assumption)
    | with_reducible exact okT_mk hc hn he1 he2
    | with_reducible exact okT_mk hc2 hm hf1 hf2
    | exact hQ
    | with_reducible exact okR_mk hc hn he1 he2 hc2 hm hf1 hf2
    | with_reducible refine okD_mk ?_ ?_ ?_
    | with_reducible refine okT_mk ?_ ?_ ?_ ?_
    | with_reducible refine okR_mk ?_ ?_ ?_ ?_ ?_ ?_ ?_ ?_
    | (with_reducible refine near_mk ?_ ?_; (focus omega); (focus omega))
    | (with_reducible refine isC_mk ?_ ?_)
    | omega
    | with_reducible refine And.intro ?_ ?_))
    all_goals trace_state
  · have c1 : (rgo u = infR) = False := eq_false (by omega)
    have c2 := eq_true h0
    have c3 : (rgo u < infR) = False := eq_false (by omega)
    have x0 : exd u = (0, 0) := if_neg (by omega)
    cbv
    repeat' (first | with_reducible refine And.intro ?_ ?_ | (with_reducible refine safe_lift hA ?_; kernel_rfl) | (intro hc_; (first | (with_reducible exfalso; clear hQ; subst hF hA; simp only [fnOf, find, std_of, std_lt, std_le, std_eq, std_not, std_fcmp, std_fneg, std_bits, std_toN, std_pick, std_nn, std_fok, std_fop, reduceIte, Nat.reduceEqDiff, sp1, sp2, a1, a2, FnSpec.out, Shape.build, leafs, leafCells, tups, oneOf, List.cons_append, List.nil_append, List.length_cons, List.length_nil, s_uexact, s_mInf, s_mNaN, s_mFxp, s_mLdx, s_dOf, s_dScale, s_uexact, sf1, sf2, s_mldx, s_mfxp, df, dz, dx, dcn, dm_raw, dm_N0, vI_N0, toNat_nat, rv_raw, rv_N0, re4, cre, cim, eq_self, Bool.not_eq_eq_eq_not, decide_eq_true_eq, decide_eq_false_iff_not, not_true_eq_false, not_false_eq_true, decide_true, decide_false, Bool.true_and, Bool.and_true, Bool.not_true, Bool.not_false, beq_self_eq_true, Bool.true_eq_false, Bool.false_eq_true, reduceCtorEq, gt_iff_lt, ge_iff_le, true_and, and_true, and_self, Bool.false_eq, Bool.and_self, Int.add_zero, Option.isSome_some, Option.getD_some, c1, c2, c3, x0, N0_neg0, N0_ln0, N0_lm0] at hc_; done) | (clear hc_; cbv))))
    all_goals subst hF hA
    all_goals (try simp only [fnOf, find, std_of, std_lt, std_le, std_eq, std_not, std_fcmp, std_fneg, std_bits, std_toN, std_pick, std_nn, std_fok, std_fop, reduceIte, Nat.reduceEqDiff, sp1, sp2, a1, a2, FnSpec.out, Shape.build, leafs, leafCells, tups, oneOf, List.cons_append, List.nil_append, List.length_cons, List.length_nil, s_uexact, s_mInf, s_mNaN, s_mFxp, s_mLdx, s_dOf, s_dScale, s_uexact, sf1, sf2, s_mldx, s_mfxp, df, dz, dx, dcn, dm_raw, dm_N0, vI_N0, toNat_nat, rv_raw, rv_N0, re4, cre, cim, eq_self, Bool.not_eq_eq_eq_not, decide_eq_true_eq, decide_eq_false_iff_not, not_true_eq_false, not_false_eq_true, decide_true, decide_false, Bool.true_and, Bool.and_true, Bool.not_true, Bool.not_false, beq_self_eq_true, Bool.true_eq_false, Bool.false_eq_true, reduceCtorEq, gt_iff_lt, ge_iff_le, true_and, and_true, and_self, Bool.false_eq, Bool.and_self, Int.add_zero, Option.isSome_some, Option.getD_some, c1, c2, c3, x0, N0_neg0, N0_ln0, N0_lm0] at hQ ⊢)
    all_goals (repeat' (first
    | with_reducible exact hQ
    | with_reducible assumption
    | with_reducible exact isi_int _ _
    | with_reducible exact isF_mk (by assumption)
    | with_reducible exact fin_mk (by assumption) (by assumption)
    | with_reducible exact finN_mk (by assumption) (by assumption)
    | with_reducible exact okT_mk hc hn he1 he2
    | with_reducible exact okT_mk hc2 hm hf1 hf2
    | exact hQ
    | with_reducible exact okR_mk hc hn he1 he2 hc2 hm hf1 hf2
    | with_reducible refine okD_mk ?_ ?_ ?_
    | with_reducible refine okT_mk ?_ ?_ ?_ ?_
    | with_reducible refine okR_mk ?_ ?_ ?_ ?_ ?_ ?_ ?_ ?_
    | (with_reducible refine near_mk ?_ ?_; (focus omega); (focus omega))
    | (with_reducible refine isC_mk ?_ ?_)
    | omega
    | with_reducible refine And.intro ?_ ?_))
    all_goals trace_state
set_option maxRecDepth 100000 in
set_option maxHeartbeats 2000000 in
theorem good_ufloat : Good Tryz.prog (GWL [0, 1]) N0 111 s_ufloat := by
  refine goodL (l := [0, 1]) (tab := [(107, s_dScale), (141, s_mLdx)]) (shs := [(107, .agg [.I, .i .i64]), (141, .one .f)]) rfl ⟨good_dScale, good_mLdx, trivial⟩ Tryz.f111 (by kernel_rfl) (by kernel_rfl) (by kernel_rfl) (fun ds hp F A Q hF hA hQ => ⟨0, ?_⟩)
  obtain ⟨x, rfl, hx, hfit⟩ := sf1_arg hp
  obtain ⟨s, n, cs, e, rfl, hc, hn, he1, he2⟩ := okT_arg hx
  clear hp hx
  cbv
  obtain ⟨Z, hZ⟩ : ∃ Z : Int, Z = tmI (vI s cs) := ⟨_, rfl⟩
  obtain ⟨E, hE⟩ : ∃ E : Int, E = teI (vI s cs) e := ⟨_, rfl⟩
  have hfit : Fit Z 53 := by rw [hZ]; exact hfit
  obtain ⟨S, U, L, a1_, a2_, a3_, a4_⟩ := fl_facts hfit (by rw [hZ]; exact fun h => tmI_oddN (fun h0 => h (by rw [h0]; exact tmI_zero)))
  have hEb : -51000 ≤ E ∧ E ≤ 80000 := by
    rw [hE]
    rcases teI_bound (e := e) ((okC_fit hc s).mono (show 32 * n ≤ 19200 by omega)) with h | ⟨_, h4, h5⟩ <;> omega
  obtain ⟨J, hJ⟩ : ∃ J : Nat → Int, ∀ i : Nat, J i = Int.ofNat i := ⟨_, fun _ => rfl⟩
  obtain ⟨NL, hNL⟩ : ∃ NL, NL = N0.ln Z := ⟨_, rfl⟩
  rw [← hNL] at a2_ a3_ a4_
  obtain ⟨K, hK⟩ : ∃ K : Nat → Int, ∀ i : Nat, K i = E - 32 + 32 * Int.ofNat i := ⟨_, fun _ => rfl⟩
  refine And.intro ?_ (And.intro ?_ (loop_by (fun i st => ((st.setT 16 (.int .i64 (J i))).setT 3 (.flt .f64 (S i))).setT 4 (.int .i64 (K i))) NL ?_ (fun i hi => ?_)))
  all_goals try cbv
  repeat' (first | with_reducible refine And.intro ?_ ?_ | (with_reducible refine safe_lift hA ?_; kernel_rfl) | (intro hc_; cbv))
  all_goals (repeat (rw [safe_true hA, true_and]; rotate_left; kernel_rfl))
  all_goals subst hF hA
  all_goals (try simp only [fnOf, find, std_of, std_lt, std_le, std_eq, std_not, std_fcmp, std_fneg, std_bits, std_toN, std_pick, std_nn, std_fok, std_fop, reduceIte, Nat.reduceEqDiff, sp1, sp2, a1, a2, FnSpec.out, Shape.build, leafs, leafCells, tups, oneOf, List.cons_append, List.nil_append, List.length_cons, List.length_nil, s_ufloat, s_dScale, s_mLdx, sf1, sf2, s_mldx, s_mfxp, df, dz, dx, dcn, dm_raw, dm_N0, vI_N0, toNat_nat, rv_raw, rv_N0, re4, cre, cim, eq_self, Bool.not_eq_eq_eq_not, decide_eq_true_eq, decide_eq_false_iff_not, not_true_eq_false, not_false_eq_true, decide_true, decide_false, Bool.true_and, Bool.and_true, Bool.not_true, Bool.not_false, beq_self_eq_true, Bool.true_eq_false, Bool.false_eq_true, reduceCtorEq, gt_iff_lt, ge_iff_le, true_and, and_true, and_self, Bool.false_eq, Bool.and_self, Int.add_zero, Option.isSome_some, Option.getD_some, min_z] at hQ ⊢)
  all_goals (try simp only [fnOf, find, std_of, std_lt, std_le, std_eq, std_not, std_fcmp, std_fneg, std_bits, std_toN, std_pick, std_nn, std_fok, std_fop, reduceIte, Nat.reduceEqDiff, sp1, sp2, a1, a2, FnSpec.out, Shape.build, leafs, leafCells, tups, oneOf, List.cons_append, List.nil_append, List.length_cons, List.length_nil, s_ufloat, s_dScale, s_mLdx, sf1, sf2, s_mldx, s_mfxp, df, dz, dx, dcn, dm_raw, dm_N0, vI_N0, toNat_nat, rv_raw, rv_N0, re4, cre, cim, eq_self, Bool.not_eq_eq_eq_not, decide_eq_true_eq, decide_eq_false_iff_not, not_true_eq_false, not_false_eq_true, decide_true, decide_false, Bool.true_and, Bool.and_true, Bool.not_true, Bool.not_false, beq_self_eq_true, Bool.true_eq_false, Bool.false_eq_true, reduceCtorEq, gt_iff_lt, ge_iff_le, true_and, and_true, and_self, Bool.false_eq, Bool.and_self, Int.add_zero, Option.isSome_some, Option.getD_some, min_z] at hc_)
  all_goals (try simp only [std] at hQ ⊢)
  all_goals
    have hZl : N0.ln (tmI (vI s cs)) = NL := by rw [← hZ, hNL]
    have hC0 : okC (N0.ln (tmI (vI s cs))) (N0.lm (tmI (vI s cs))) := by rw [← hZ]; exact okC_fitN hfit (by omega)
    have hM0 : (tmI (vI s cs) < 0) = (Z < 0) := by rw [hZ]
    have hNl2 : NL ≤ 2 := by rw [a3_]; exact nl_le _
  all_goals first
    | exact ⟨⟨hc, by omega, by omega⟩, by omega, rfl⟩
    | rw [a1_]
    | (rw [hJ]; rfl)
    | (rw [← hE, wrap_in (by omega) (by omega), hK]; show D.int _ (E - 32 + 32 * 0) = _; simp only [Int.mul_zero, Int.add_zero])
    | skip
  all_goals
    have hJi : J i = (i : Int) := hJ i
    have hKi : K i = E - 32 + 32 * (i : Int) := hK i
    have hJ1 : J (i + 1) = J i + 1 := by rw [hJ, hJ]; rfl
    have hK1 : K (i + 1) = K i + 32 := by rw [hK, hK]; show E - 32 + 32 * (Int.ofNat i + 1) = _; rw [Int.mul_add]; omega
    have hidx : 0 + (J i).toNat * 1 = i := by rw [hJi]; omega
    rw [hZl, hJi] at hc_
  all_goals first
    | (rw [hidx]
       obtain ⟨p1, p2, p3⟩ := a4_ i (by omega)
       rw [hZ] at p1
       first
         | exact ⟨_, p1⟩
         | (rw [p1, p2]; simp only [Option.getD_some]; rw [p3]; rfl))
    | exact ⟨by omega, by omega, hC0.2.1⟩
    | (obtain ⟨p1, p2, p3⟩ := a4_ i (by omega)
       rw [p2]; rfl)
    | exact (show i + 1 ≤ NL by omega)
    | rw [hJ1, hJi, wrap_in (by omega) (by omega)]
    | rw [hK1, hKi, wrap_in (by omega) (by omega)]
    | skip
  all_goals
    have hi2 : i = NL := by omega
    have hS : S i = wd false (flo Z.natAbs) := by rw [hi2]; exact a2_
    have hKn : K i = E - 32 + 32 * (nl Z.natAbs : Nat) := by rw [hKi, hi2, a3_]
    have hnl := nl_le Z.natAbs
    obtain ⟨t1, t2⟩ := flo_ok hfit (decide (Z < 0))
    obtain ⟨v1, v2⟩ := clamp_ok (E := E) hfit
  all_goals first
    | (have hg : N0.neg (tmI (vI s cs)) = true := by assumption
       have h0 : Z < 0 := by rw [hZ]; exact of_decide_eq_true hg
       have hW : Op.negFloat .f64 (S i) = wd (decide (Z < 0)) (flo Z.natAbs) := by rw [hS]; exact f_neg hfit h0
       rw [hW])
    | (have hg : N0.neg (tmI (vI s cs)) = false := by assumption
       have h0 : ¬Z < 0 := by rw [hZ]; exact of_decide_eq_false hg
       have hW : S i = wd (decide (Z < 0)) (flo Z.natAbs) := by rw [hS, decide_eq_false h0]
       rw [hW])
  all_goals rw [hKn]
  all_goals first
    | exact ⟨⟨t1, t2⟩, rfl, by omega, by omega⟩
    | exact v1
    | exact v2
    | (rw [← hZ, ← hE] at hQ; exact hQ)
set_option maxRecDepth 100000 in
set_option maxHeartbeats 8000000 in
theorem good_uExact : Good Tryz.prog (GWL [0, 1]) N0 63 s_uExact := by
  refine goodL (l := [0, 1]) (tab := [(109, s_uexact)]) (shs := [(109, .tup [(true, [.I, .i .i64]), (false, [.b])])]) rfl ⟨good_uexact, trivial⟩ Tryz.f63 (by kernel_rfl) (by kernel_rfl) (by kernel_rfl) (fun ds hp F A Q hF hA hQ => ⟨0, ?_⟩)
  obtain ⟨a, b, rfl, ha, hb⟩ := uExact_arg hp
  clear hp
  rcases fin_cases a b with ⟨c1, c2⟩ | ⟨c1, c2⟩ | c1
  · have x0 : finC a b = true := by unfold finC; rw [decide_eq_true c1, decide_eq_true c2]; rfl
    have x1 : exc a b = (exd a, exd b) := if_pos x0
    have c1 := eq_true c1
    have c2 := eq_true c2
    cbv
    repeat' (first | with_reducible refine And.intro ?_ ?_ | (with_reducible refine safe_lift hA ?_; kernel_rfl) | (intro hc_; (first | (with_reducible exfalso; clear hQ; subst hF hA; simp only [fnOf, find, std_of, std_lt, std_le, std_eq, std_not, std_fcmp, std_fneg, std_bits, std_toN, std_pick, std_nn, std_fok, std_fop, reduceIte, Nat.reduceEqDiff, sp1, sp2, a1, a2, FnSpec.out, Shape.build, leafs, leafCells, tups, oneOf, List.cons_append, List.nil_append, List.length_cons, List.length_nil, s_uExact, s_uexact, s_uexact, sf1, sf2, s_mldx, s_mfxp, df, dz, dx, dcn, dm_raw, dm_N0, vI_N0, toNat_nat, rv_raw, rv_N0, re4, cre, cim, eq_self, Bool.not_eq_eq_eq_not, decide_eq_true_eq, decide_eq_false_iff_not, not_true_eq_false, not_false_eq_true, decide_true, decide_false, Bool.true_and, Bool.and_true, Bool.not_true, Bool.not_false, beq_self_eq_true, Bool.true_eq_false, Bool.false_eq_true, reduceCtorEq, gt_iff_lt, ge_iff_le, true_and, and_true, and_self, Bool.false_eq, Bool.and_self, Int.add_zero, Option.isSome_some, Option.getD_some, x0, x1, c1, c2] at hc_; done) | (clear hc_; cbv))))
    all_goals subst hF hA
    all_goals (try simp only [fnOf, find, std_of, std_lt, std_le, std_eq, std_not, std_fcmp, std_fneg, std_bits, std_toN, std_pick, std_nn, std_fok, std_fop, reduceIte, Nat.reduceEqDiff, sp1, sp2, a1, a2, FnSpec.out, Shape.build, leafs, leafCells, tups, oneOf, List.cons_append, List.nil_append, List.length_cons, List.length_nil, s_uExact, s_uexact, s_uexact, sf1, sf2, s_mldx, s_mfxp, df, dz, dx, dcn, dm_raw, dm_N0, vI_N0, toNat_nat, rv_raw, rv_N0, re4, cre, cim, eq_self, Bool.not_eq_eq_eq_not, decide_eq_true_eq, decide_eq_false_iff_not, not_true_eq_false, not_false_eq_true, decide_true, decide_false, Bool.true_and, Bool.and_true, Bool.not_true, Bool.not_false, beq_self_eq_true, Bool.true_eq_false, Bool.false_eq_true, reduceCtorEq, gt_iff_lt, ge_iff_le, true_and, and_true, and_self, Bool.false_eq, Bool.and_self, Int.add_zero, Option.isSome_some, Option.getD_some, x0, x1, c1, c2] at hQ ⊢)
    all_goals (repeat' (first
    | with_reducible exact hQ
    | with_reducible assumption
    | with_reducible exact isi_int _ _
    | with_reducible exact isF_mk (by assumption)
    | with_reducible exact fin_mk (by assumption) (by assumption)
    | with_reducible exact finN_mk (by assumption) (by assumption)
    | with_reducible exact okT_mk hc hn he1 he2
    | with_reducible exact okT_mk hc2 hm hf1 hf2
    | exact hQ
    | with_reducible exact okR_mk hc hn he1 he2 hc2 hm hf1 hf2
    | with_reducible refine okD_mk ?_ ?_ ?_
    | with_reducible refine okT_mk ?_ ?_ ?_ ?_
    | with_reducible refine okR_mk ?_ ?_ ?_ ?_ ?_ ?_ ?_ ?_
    | (with_reducible refine near_mk ?_ ?_; (focus omega); (focus omega))
    | (with_reducible refine isC_mk ?_ ?_)
    | omega
    | with_reducible refine And.intro ?_ ?_))
    all_goals trace_state
  · have x0 : finC a b = false := by unfold finC; rw [decide_eq_true c1, decide_eq_false c2]; rfl
    have x1 : exc a b = ((0, 0), (0, 0)) := if_neg (by rw [x0]; decide)
    have c1 := eq_true c1
    have c2 := eq_false c2
    cbv
    repeat' (first | with_reducible refine And.intro ?_ ?_ | (with_reducible refine safe_lift hA ?_; kernel_rfl) | (intro hc_; (first | (with_reducible exfalso; clear hQ; subst hF hA; simp only [fnOf, find, std_of, std_lt, std_le, std_eq, std_not, std_fcmp, std_fneg, std_bits, std_toN, std_pick, std_nn, std_fok, std_fop, reduceIte, Nat.reduceEqDiff, sp1, sp2, a1, a2, FnSpec.out, Shape.build, leafs, leafCells, tups, oneOf, List.cons_append, List.nil_append, List.length_cons, List.length_nil, s_uExact, s_uexact, s_uexact, sf1, sf2, s_mldx, s_mfxp, df, dz, dx, dcn, dm_raw, dm_N0, vI_N0, toNat_nat, rv_raw, rv_N0, re4, cre, cim, eq_self, Bool.not_eq_eq_eq_not, decide_eq_true_eq, decide_eq_false_iff_not, not_true_eq_false, not_false_eq_true, decide_true, decide_false, Bool.true_and, Bool.and_true, Bool.not_true, Bool.not_false, beq_self_eq_true, Bool.true_eq_false, Bool.false_eq_true, reduceCtorEq, gt_iff_lt, ge_iff_le, true_and, and_true, and_self, Bool.false_eq, Bool.and_self, Int.add_zero, Option.isSome_some, Option.getD_some, x0, x1, c1, c2, N0_neg0, N0_ln0, N0_lm0] at hc_; done) | (clear hc_; cbv))))
    all_goals subst hF hA
    all_goals (try simp only [fnOf, find, std_of, std_lt, std_le, std_eq, std_not, std_fcmp, std_fneg, std_bits, std_toN, std_pick, std_nn, std_fok, std_fop, reduceIte, Nat.reduceEqDiff, sp1, sp2, a1, a2, FnSpec.out, Shape.build, leafs, leafCells, tups, oneOf, List.cons_append, List.nil_append, List.length_cons, List.length_nil, s_uExact, s_uexact, s_uexact, sf1, sf2, s_mldx, s_mfxp, df, dz, dx, dcn, dm_raw, dm_N0, vI_N0, toNat_nat, rv_raw, rv_N0, re4, cre, cim, eq_self, Bool.not_eq_eq_eq_not, decide_eq_true_eq, decide_eq_false_iff_not, not_true_eq_false, not_false_eq_true, decide_true, decide_false, Bool.true_and, Bool.and_true, Bool.not_true, Bool.not_false, beq_self_eq_true, Bool.true_eq_false, Bool.false_eq_true, reduceCtorEq, gt_iff_lt, ge_iff_le, true_and, and_true, and_self, Bool.false_eq, Bool.and_self, Int.add_zero, Option.isSome_some, Option.getD_some, x0, x1, c1, c2, N0_neg0, N0_ln0, N0_lm0] at hQ ⊢)
    all_goals (repeat' (first
    | with_reducible exact hQ
    | with_reducible assumption
    | with_reducible exact isi_int _ _
    | with_reducible exact isF_mk (by assumption)
    | with_reducible exact fin_mk (by assumption) (by assumption)
    | with_reducible exact finN_mk (by assumption) (by assumption)
    | with_reducible exact okT_mk hc hn he1 he2
    | with_reducible exact okT_mk hc2 hm hf1 hf2
    | exact hQ
    | with_reducible exact okR_mk hc hn he1 he2 hc2 hm hf1 hf2
    | with_reducible refine okD_mk ?_ ?_ ?_
    | with_reducible refine okT_mk ?_ ?_ ?_ ?_
    | with_reducible refine okR_mk ?_ ?_ ?_ ?_ ?_ ?_ ?_ ?_
    | (with_reducible refine near_mk ?_ ?_; (focus omega); (focus omega))
    | (with_reducible refine isC_mk ?_ ?_)
    | omega
    | with_reducible refine And.intro ?_ ?_))
    all_goals trace_state
  · have x0 : finC a b = false := by unfold finC; rw [decide_eq_false c1]; rfl
    have x1 : exc a b = ((0, 0), (0, 0)) := if_neg (by rw [x0]; decide)
    have c1 := eq_false c1
    cbv
    repeat' (first | with_reducible refine And.intro ?_ ?_ | (with_reducible refine safe_lift hA ?_; kernel_rfl) | (intro hc_; (first | (with_reducible exfalso; clear hQ; subst hF hA; simp only [fnOf, find, std_of, std_lt, std_le, std_eq, std_not, std_fcmp, std_fneg, std_bits, std_toN, std_pick, std_nn, std_fok, std_fop, reduceIte, Nat.reduceEqDiff, sp1, sp2, a1, a2, FnSpec.out, Shape.build, leafs, leafCells, tups, oneOf, List.cons_append, List.nil_append, List.length_cons, List.length_nil, s_uExact, s_uexact, s_uexact, sf1, sf2, s_mldx, s_mfxp, df, dz, dx, dcn, dm_raw, dm_N0, vI_N0, toNat_nat, rv_raw, rv_N0, re4, cre, cim, eq_self, Bool.not_eq_eq_eq_not, decide_eq_true_eq, decide_eq_false_iff_not, not_true_eq_false, not_false_eq_true, decide_true, decide_false, Bool.true_and, Bool.and_true, Bool.not_true, Bool.not_false, beq_self_eq_true, Bool.true_eq_false, Bool.false_eq_true, reduceCtorEq, gt_iff_lt, ge_iff_le, true_and, and_true, and_self, Bool.false_eq, Bool.and_self, Int.add_zero, Option.isSome_some, Option.getD_some, x0, x1, c1, N0_neg0, N0_ln0, N0_lm0] at hc_; done) | (clear hc_; cbv))))
    all_goals subst hF hA
    all_goals (try simp only [fnOf, find, std_of, std_lt, std_le, std_eq, std_not, std_fcmp, std_fneg, std_bits, std_toN, std_pick, std_nn, std_fok, std_fop, reduceIte, Nat.reduceEqDiff, sp1, sp2, a1, a2, FnSpec.out, Shape.build, leafs, leafCells, tups, oneOf, List.cons_append, List.nil_append, List.length_cons, List.length_nil, s_uExact, s_uexact, s_uexact, sf1, sf2, s_mldx, s_mfxp, df, dz, dx, dcn, dm_raw, dm_N0, vI_N0, toNat_nat, rv_raw, rv_N0, re4, cre, cim, eq_self, Bool.not_eq_eq_eq_not, decide_eq_true_eq, decide_eq_false_iff_not, not_true_eq_false, not_false_eq_true, decide_true, decide_false, Bool.true_and, Bool.and_true, Bool.not_true, Bool.not_false, beq_self_eq_true, Bool.true_eq_false, Bool.false_eq_true, reduceCtorEq, gt_iff_lt, ge_iff_le, true_and, and_true, and_self, Bool.false_eq, Bool.and_self, Int.add_zero, Option.isSome_some, Option.getD_some, x0, x1, c1, N0_neg0, N0_ln0, N0_lm0] at hQ ⊢)
    all_goals (repeat' (first
    | with_reducible exact hQ
    | with_reducible assumption
    | with_reducible exact isi_int _ _
    | with_reducible exact isF_mk (by assumption)
    | with_reducible exact fin_mk (by assumption) (by assumption)
    | with_reducible exact finN_mk (by assumption) (by assumption)
    | with_reducible exact okT_mk hc hn he1 he2
    | with_reducible exact okT_mk hc2 hm hf1 hf2
    | exact hQ
    | with_reducible exact okR_mk hc hn he1 he2 hc2 hm hf1 hf2
    | with_reducible refine okD_mk ?_ ?_ ?_
    | with_reducible refine okT_mk ?_ ?_ ?_ ?_
    | with_reducible refine okR_mk ?_ ?_ ?_ ?_ ?_ ?_ ?_ ?_
    | (with_reducible refine near_mk ?_ ?_; (focus omega); (focus omega))
    | (with_reducible refine isC_mk ?_ ?_)
    | omega
    | with_reducible refine And.intro ?_ ?_))
    all_goals trace_state
set_option maxRecDepth 100000 in
set_option maxHeartbeats 8000000 in
theorem good_uFloat : Good Tryz.prog (GWL [0, 1]) N0 67 s_uFloat := by
  refine goodL (l := [0, 1]) (tab := [(111, s_ufloat)]) (shs := [(111, .one .f)]) rfl ⟨good_ufloat, trivial⟩ Tryz.f67 (by kernel_rfl) (by kernel_rfl) (by kernel_rfl) (fun ds hp F A Q hF hA hQ => ⟨0, ?_⟩)
  obtain ⟨x, rfl, hx, hxa, hxb⟩ := uFloat_arg hp
  obtain ⟨s, n, cs, e, t, m, es, f, rfl, hc, hn, he1, he2, hc2, hm, hf1, hf2⟩ := okR_arg hx
  rw [rv_raw] at hxa hxb
  dsimp only at hxa hxb
  clear hp hx
  · cbv
    repeat' (first | with_reducible refine And.intro ?_ ?_ | (with_reducible refine safe_lift hA ?_; kernel_rfl) | (intro hc_; (first | (with_reducible exfalso; clear hQ; subst hF hA; simp only [fnOf, find, std_of, std_lt, std_le, std_eq, std_not, std_fcmp, std_fneg, std_bits, std_toN, std_pick, std_nn, std_fok, std_fop, reduceIte, Nat.reduceEqDiff, sp1, sp2, a1, a2, FnSpec.out, Shape.build, leafs, leafCells, tups, oneOf, List.cons_append, List.nil_append, List.length_cons, List.length_nil, s_uFloat, s_ufloat, sf1, sf2, s_mldx, s_mfxp, df, dz, dx, dcn, dm_raw, dm_N0, vI_N0, toNat_nat, rv_raw, rv_N0, re4, cre, cim, eq_self, Bool.not_eq_eq_eq_not, decide_eq_true_eq, decide_eq_false_iff_not, not_true_eq_false, not_false_eq_true, decide_true, decide_false, Bool.true_and, Bool.and_true, Bool.not_true, Bool.not_false, beq_self_eq_true, Bool.true_eq_false, Bool.false_eq_true, reduceCtorEq, gt_iff_lt, ge_iff_le, true_and, and_true, and_self, Bool.false_eq, Bool.and_self, Int.add_zero, Option.isSome_some, Option.getD_some] at hc_; done) | (clear hc_; cbv))))
    all_goals subst hF hA
    all_goals (try simp only [fnOf, find, std_of, std_lt, std_le, std_eq, std_not, std_fcmp, std_fneg, std_bits, std_toN, std_pick, std_nn, std_fok, std_fop, reduceIte, Nat.reduceEqDiff, sp1, sp2, a1, a2, FnSpec.out, Shape.build, leafs, leafCells, tups, oneOf, List.cons_append, List.nil_append, List.length_cons, List.length_nil, s_uFloat, s_ufloat, sf1, sf2, s_mldx, s_mfxp, df, dz, dx, dcn, dm_raw, dm_N0, vI_N0, toNat_nat, rv_raw, rv_N0, re4, cre, cim, eq_self, Bool.not_eq_eq_eq_not, decide_eq_true_eq, decide_eq_false_iff_not, not_true_eq_false, not_false_eq_true, decide_true, decide_false, Bool.true_and, Bool.and_true, Bool.not_true, Bool.not_false, beq_self_eq_true, Bool.true_eq_false, Bool.false_eq_true, reduceCtorEq, gt_iff_lt, ge_iff_le, true_and, and_true, and_self, Bool.false_eq, Bool.and_self, Int.add_zero, Option.isSome_some, Option.getD_some] at hQ ⊢)
    all_goals (repeat' (first
    | with_reducible exact hQ
    | with_reducible assumption
    | with_reducible exact isi_int _ _
    | with_reducible exact isF_mk (by assumption)
    | with_reducible exact fin_mk (by assumption) (by assumption)
    | with_reducible exact finN_mk (by assumption) (by assumption)
    | with_reducible exact okT_mk hc hn he1 he2
    | with_reducible exact okT_mk hc2 hm hf1 hf2
    | exact hQ
    | with_reducible exact okR_mk hc hn he1 he2 hc2 hm hf1 hf2
    | with_reducible refine okD_mk ?_ ?_ ?_
    | with_reducible refine okT_mk ?_ ?_ ?_ ?_
    | with_reducible refine okR_mk ?_ ?_ ?_ ?_ ?_ ?_ ?_ ?_
    | (with_reducible refine near_mk ?_ ?_; (focus omega); (focus omega))
    | (with_reducible refine isC_mk ?_ ?_)
    | omega
    | with_reducible refine And.intro ?_ ?_))
    all_goals trace_state
end Go.Proofs.YtcamkbphognoaaaGreatDoor.Ev
/- The document's points: what they ask and tell. -/
namespace Go.Proofs.YtcamkbphognoaaaGreatDoor.Ev
open Go Go.RowKit
set_option linter.unusedSimpArgs false
set_option linter.unusedVariables false
def s_vCplx : FnSpec := sp1 (.agg [.I, .i .i64, .I, .i .i64]) okR (fun x i => re4 (ca (rv x)) i) (fun _ _ => false)
def s_vOf : FnSpec := s_uOf
def s_vEqual : FnSpec := s_yEqual
theorem near_19 {a b : Int} {s t : Bool} {n m : Nat} {cs es : List D} (h1 : -19000 ≤ a) (h2 : a ≤ 19000) (h3 : -19000 ≤ b) (h4 : b ≤ 19000) : near 60000 (.agg [.bool s, .sl n cs, .int .i64 a]) (.agg [.bool t, .sl m es, .int .i64 b]) := near_of (by omega) (by omega) (by omega) (by omega)
theorem fit_pr {z v : Int} (h : Fit z 19200) (k : Fit v 19200) : Fit (z * v) 100000 := h.mul k (by omega)
theorem okD_pr {z e : Int} (h : Fit z 19200) (h1 : -20000 ≤ e) (h2 : e ≤ 20000) : okD (.agg [.bool (N0.neg z), .sl (N0.ln z) (N0.lm z), .int .i64 e]) := ⟨okC_fitN h (by omega), by omega, by omega⟩
theorem eq4_y {z e v f u g w h : Int} (hc : (decide (e = g) && decide (z = u)) = true) : decide (((z, e), v, f) = ((u, g), w, h)) = (decide (f = h) && decide (v = w)) := by
  simp only [Bool.and_eq_true, decide_eq_true_eq] at hc
  obtain ⟨rfl, rfl⟩ := hc
  rw [Bool.eq_iff_iff]
  simp only [Prod.mk.injEq, true_and, decide_eq_true_eq, Bool.and_eq_true]
  exact ⟨fun ⟨a, b⟩ => ⟨b, a⟩, fun ⟨a, b⟩ => ⟨b, a⟩⟩
theorem eq4_n {z e v f u g w h : Int} (hc : (decide (e = g) && decide (z = u)) = !true) : decide (((z, e), v, f) = ((u, g), w, h)) = false := by
  refine decide_eq_false fun hk => ?_
  simp only [Prod.mk.injEq] at hk
  rw [decide_eq_true hk.1.2, decide_eq_true hk.1.1] at hc
  cases hc
set_option maxRecDepth 100000 in
set_option maxHeartbeats 2000000 in
theorem good_vCplx : Good Tryz.prog (GWL [0, 1]) N0 36 s_vCplx := by
  refine goodL (l := [0, 1]) (tab := [(102, s_yExact)]) (shs := [(102, .agg [.I, .i .i64])]) rfl ⟨good_yExact, trivial⟩ Tryz.f36 (by kernel_rfl) (by kernel_rfl) (by kernel_rfl) (fun ds hp F A Q hF hA hQ => ⟨0, ?_⟩)
  obtain ⟨x, rfl, hx⟩ := sp1_arg hp
  obtain ⟨s, n, cs, e, t, m, es, f, rfl, hc, hn, he1, he2, hc2, hm, hf1, hf2⟩ := okR_arg hx
  have kS : Fit (vI s cs) 100000 := (okC_fit hc s).mono (by omega)
  have kT : Fit (vI t es) 100000 := (okC_fit hc2 t).mono (by omega)
  clear hp hx
  cbv
  repeat' (first | with_reducible refine And.intro ?_ ?_ | (with_reducible refine safe_lift hA ?_; kernel_rfl) | (intro hc_; cbv))
  all_goals (repeat (rw [safe_true hA, true_and]; rotate_left; kernel_rfl))
  all_goals subst hF hA
  all_goals simp only [fnOf, find, std, reduceIte, Nat.reduceEqDiff, sp1, sp2, a1, a2, FnSpec.out, Shape.build, leafs, leafCells, tups, oneOf, List.cons_append, List.nil_append, List.length_cons, List.length_nil, s_vCplx, s_yExact, rv_raw, rv_N0, dv, dz, dx, dcn, dm_raw, dm_N0, vI_N0, decide_eq_true_eq, decide_eq_false_iff_not, cmpD_nrm, sameI_N0, beq_dec, pow_if, pow_ev, k1, k1e, re4, min_if, gt_iff_lt, ge_iff_le, Prod.eta, sg_nonpos7, sg_nonneg7, s_uOf, s_yEqual, ca, cadd, csub, cmul, cneg, cconj, cnorm, ctms, Dy.n, Dy.add, Dy.sub, Dy.mul, Dy.neg] at *
  all_goals (repeat' (first
    | with_reducible exact hQ
    | with_reducible assumption
    | with_reducible exact isi_int _ _
    | with_reducible exact near_of (by assumption) (by assumption) (by assumption) (by assumption)
    | with_reducible exact near_19 (by assumption) (by assumption) (by assumption) (by assumption)
    | with_reducible exact fit_pr (by assumption) (by assumption)
    | with_reducible exact okD_pr (by assumption) (by assumption) (by assumption)
    | with_reducible refine okD_mk ?_ ?_ ?_
    | with_reducible refine okE_mk ?_
    | omega
    | exact hQ
    | with_reducible refine And.intro ?_ ?_))
set_option maxRecDepth 100000 in
set_option maxHeartbeats 2000000 in
theorem good_vOf : Good Tryz.prog (GWL [0, 1]) N0 41 s_vOf := by
  refine goodL (l := [0, 1]) (tab := [(69, s_qOf)]) (shs := [(69, .agg [.I, .i .i64])]) rfl ⟨good_qOf, trivial⟩ Tryz.f41 (by kernel_rfl) (by kernel_rfl) (by kernel_rfl) (fun ds hp F A Q hF hA hQ => ⟨0, ?_⟩)
  obtain ⟨x, y, rfl, ⟨hx, ha1, ha2⟩, hy, hb1, hb2⟩ := sp2_arg hp
  obtain ⟨a, rfl⟩ := isi_arg hx
  obtain ⟨b, rfl⟩ := isi_arg hy
  clear hp hx hy
  cbv
  repeat' (first | with_reducible refine And.intro ?_ ?_ | (with_reducible refine safe_lift hA ?_; kernel_rfl) | (intro hc_; cbv))
  all_goals (repeat (rw [safe_true hA, true_and]; rotate_left; kernel_rfl))
  all_goals subst hF hA
  all_goals simp only [fnOf, find, std, reduceIte, Nat.reduceEqDiff, sp1, sp2, a1, a2, FnSpec.out, Shape.build, leafs, leafCells, tups, oneOf, List.cons_append, List.nil_append, List.length_cons, List.length_nil, s_vOf, s_qOf, rv_raw, rv_N0, dv, dz, dx, dcn, dm_raw, dm_N0, vI_N0, decide_eq_true_eq, decide_eq_false_iff_not, cmpD_nrm, sameI_N0, beq_dec, pow_if, pow_ev, k1, k1e, re4, min_if, gt_iff_lt, ge_iff_le, Prod.eta, sg_nonpos7, sg_nonneg7, s_uOf, s_yEqual, ca, cadd, csub, cmul, cneg, cconj, cnorm, ctms, Dy.n, Dy.add, Dy.sub, Dy.mul, Dy.neg] at *
  all_goals (repeat' (first
    | with_reducible exact hQ
    | with_reducible assumption
    | with_reducible exact isi_int _ _
    | with_reducible exact near_of (by assumption) (by assumption) (by assumption) (by assumption)
    | with_reducible exact near_19 (by assumption) (by assumption) (by assumption) (by assumption)
    | with_reducible exact fit_pr (by assumption) (by assumption)
    | with_reducible exact okD_pr (by assumption) (by assumption) (by assumption)
    | with_reducible refine okD_mk ?_ ?_ ?_
    | with_reducible refine okE_mk ?_
    | omega
    | exact hQ
    | with_reducible refine And.intro ?_ ?_))
set_option maxRecDepth 100000 in
set_option maxHeartbeats 2000000 in
theorem good_vEqual : Good Tryz.prog (GWL [0, 1]) N0 39 s_vEqual := by
  refine goodL (l := [0, 1]) (tab := [(31, s_qEqual)]) (shs := [(31, .one .b)]) rfl ⟨good_qEqual, trivial⟩ Tryz.f39 (by kernel_rfl) (by kernel_rfl) (by kernel_rfl) (fun ds hp F A Q hF hA hQ => ⟨0, ?_⟩)
  obtain ⟨x, y, rfl, hx, hy⟩ := sp2_arg hp
  obtain ⟨z, e, v, f, s, n, cs, t, m, es, rfl, i1, i2, i3, i4, i5, i6, hz, he, hv, hf, hfz, he1, he2, hfv, hf1, hf2⟩ := canR_arg hx
  have cz : okC (N0.ln z) (N0.lm z) := okC_fitN hfz (by omega)
  have lz : N0.ln z ≤ 600 := ln_fit hfz
  have yz : canD (.agg [.bool (N0.neg z), .sl (N0.ln z) (N0.lm z), .int .i64 e]) := canD_N0 hz he (hfz.mono (by omega)) (by omega) (by omega)
  have cv : okC (N0.ln v) (N0.lm v) := okC_fitN hfv (by omega)
  have lv : N0.ln v ≤ 600 := ln_fit hfv
  have yv : canD (.agg [.bool (N0.neg v), .sl (N0.ln v) (N0.lm v), .int .i64 f]) := canD_N0 hv hf (hfv.mono (by omega)) (by omega) (by omega)
  have nX1 : Dy.n (z, e) = (z, e) := Prod.ext hz he
  have nX2 : Dy.n (v, f) = (v, f) := Prod.ext hv hf
  have fX : fR ((z, e), (v, f)) 19200 20000 := ⟨⟨hfz, he1, he2⟩, hfv, hf1, hf2⟩
  have rX : canR (.agg [.bool (N0.neg z), .sl (N0.ln z) (N0.lm z), .int .i64 e, .bool (N0.neg v), .sl (N0.ln v) (N0.lm v), .int .i64 f]) := canR_mk (r := ((z, e), (v, f))) nX1 nX2 fX
  obtain ⟨u, g, w, h, s2, n2, cs2, t2, m2, es2, rfl, j1, j2, j3, j4, j5, j6, hu, hg, hw, hh, hfu, hg1, hg2, hfw, hh1, hh2⟩ := canR_arg hy
  have cu : okC (N0.ln u) (N0.lm u) := okC_fitN hfu (by omega)
  have lu : N0.ln u ≤ 600 := ln_fit hfu
  have yu : canD (.agg [.bool (N0.neg u), .sl (N0.ln u) (N0.lm u), .int .i64 g]) := canD_N0 hu hg (hfu.mono (by omega)) (by omega) (by omega)
  have cw : okC (N0.ln w) (N0.lm w) := okC_fitN hfw (by omega)
  have lw : N0.ln w ≤ 600 := ln_fit hfw
  have yw : canD (.agg [.bool (N0.neg w), .sl (N0.ln w) (N0.lm w), .int .i64 h]) := canD_N0 hw hh (hfw.mono (by omega)) (by omega) (by omega)
  have nY1 : Dy.n (u, g) = (u, g) := Prod.ext hu hg
  have nY2 : Dy.n (w, h) = (w, h) := Prod.ext hw hh
  have fY : fR ((u, g), (w, h)) 19200 20000 := ⟨⟨hfu, hg1, hg2⟩, hfw, hh1, hh2⟩
  have rY : canR (.agg [.bool (N0.neg u), .sl (N0.ln u) (N0.lm u), .int .i64 g, .bool (N0.neg w), .sl (N0.ln w) (N0.lm w), .int .i64 h]) := canR_mk (r := ((u, g), (w, h))) nY1 nY2 fY
  clear hp hx hy
  cbv
  repeat' (first | with_reducible refine And.intro ?_ ?_ | (with_reducible refine safe_lift hA ?_; kernel_rfl) | (intro hc_; cbv))
  all_goals (repeat (rw [safe_true hA, true_and]; rotate_left; kernel_rfl))
  all_goals subst hF hA i1 i2 i3 i4 i5 i6 j1 j2 j3 j4 j5 j6
  all_goals simp only [fnOf, find, std, reduceIte, Nat.reduceEqDiff, sp1, sp2, a1, a2, FnSpec.out, Shape.build, leafs, leafCells, tups, oneOf, List.cons_append, List.nil_append, List.length_cons, List.length_nil, s_vEqual, s_qEqual, rv_raw, rv_N0, dv, dz, dx, dcn, dm_raw, dm_N0, vI_N0, decide_eq_true_eq, decide_eq_false_iff_not, cmpD_nrm, sameI_N0, beq_dec, pow_if, pow_ev, k1, k1e, re4, min_if, gt_iff_lt, ge_iff_le, Prod.eta, sg_nonpos7, sg_nonneg7, s_uOf, s_yEqual, ca, cadd, csub, cmul, cneg, cconj, cnorm, ctms, Dy.n, Dy.add, Dy.sub, Dy.mul, Dy.neg] at *
  all_goals (repeat' (first
    | with_reducible exact hQ
    | with_reducible assumption
    | with_reducible exact isi_int _ _
    | with_reducible exact near_of (by assumption) (by assumption) (by assumption) (by assumption)
    | with_reducible exact near_19 (by assumption) (by assumption) (by assumption) (by assumption)
    | with_reducible exact fit_pr (by assumption) (by assumption)
    | with_reducible exact okD_pr (by assumption) (by assumption) (by assumption)
    | with_reducible refine okD_mk ?_ ?_ ?_
    | with_reducible refine okE_mk ?_
    | omega
    | exact hQ
    | with_reducible refine And.intro ?_ ?_))
  all_goals first
    | exact Post.b hQ (eq4_y hc_)
    | exact Post.b hQ (eq4_n hc_)
end Go.Proofs.YtcamkbphognoaaaGreatDoor.Ev
