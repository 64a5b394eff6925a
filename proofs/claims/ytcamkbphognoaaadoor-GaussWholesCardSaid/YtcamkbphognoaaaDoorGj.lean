/- A law of points: GaussWholes. -/
import Derived.Test.YtcamkbphognoaaaDoorGw
namespace Go.Proofs.YtcamkbphognoaaaDoor.Ev
open Go Go.RowKit
set_option linter.unusedSimpArgs false
set_option linter.unusedVariables false
theorem tm_neg9 (X : Int) : tmI X < 0 ↔ X < 0 := by
  have h := tmI_mul X
  have hp : (0 : Int) < 2 ^ tz X.natAbs := Int.pow_pos (by decide)
  constructor
  · intro h1
    rw [← h]
    exact Int.mul_neg_of_neg_of_pos h1 hp
  · intro h1
    rcases Int.lt_or_le (tmI X) 0 with h2 | h2
    · exact h2
    · have := Int.mul_nonneg h2 (Int.le_of_lt hp)
      omega
theorem sv_self (M : Int) : sv (decide (M < 0)) M.natAbs = M := by
  by_cases h : M < 0
  · rw [decide_eq_true h]; unfold sv; simp; omega
  · rw [decide_eq_false h]; unfold sv; simp; omega
/-- a number that floats can tell, told as a float, told again. -/
theorem gfl_back {M E : Int} (hM : M.natAbs < 9007199254740992) (hn : Dy.n (M, E) = (M, E)) (h : M ≠ 0 → -1022 ≤ E + M.natAbs.log2 ∧ E + M.natAbs.log2 ≤ 1023) :
    rgo (gfl M E) < infR ∧ gfl M E < 18446744073709551616 ∧ exd (gfl M E) = (M, E) := by
  have hi := infR_is
  obtain ⟨t, q, q1, q2⟩ := gfl_any (E := E) hM
  have hl : q < 9223372036854775808 := by omega
  have hr : rgo (gfl M E) < infR := by rw [q2, rgo_wd hl]; exact q1
  refine ⟨hr, by rw [q2]; exact wd_lt hl, ?_⟩
  have hn1 : tmI M = M := congrArg Prod.fst hn
  have hn2 : teI M E = E := congrArg Prod.snd hn
  unfold exd
  rw [if_pos hr]
  by_cases h0 : M = 0
  · subst h0
    have hE : E = 0 := by rw [← hn2]; exact teI_zero E
    have hx : xm (gfl 0 E) = 0 := by rw [gfl_zero]; rfl
    rw [hx, hE]
    unfold Dy.n
    dsimp only
    rw [tmI_zero, teI_zero]
  · obtain ⟨a1, a2⟩ := h h0
    have hl2 := log2_le hM
    obtain ⟨g1, g2⟩ := rg_ok hM (show (E + 1074).toNat + M.natAbs.log2 < 2098 by omega)
    have gl : rg M.natAbs (E + 1074).toNat < 9223372036854775808 := by omega
    have hp := gfl_plain hM h0 a1 a2
    have hs : sgo (gfl M E) = decide (M < 0) := by rw [hp]; exact sgo_wd gl
    have hq : rgo (gfl M E) = rg M.natAbs (E + 1074).toNat := by rw [hp]; exact rgo_wd gl
    have hv : xm (gfl M E) * 2 ^ (xe (gfl M E) - (-1074)).toNat = M * 2 ^ (E - (-1074)).toNat := by
      unfold xm xe
      rw [hs, hq, Int.sub_neg, Int.sub_neg]
      unfold mg at g2
      have e1 := sv_mul (decide (M < 0)) (fmag (rg M.natAbs (E + 1074).toNat)) (fpl (rg M.natAbs (E + 1074).toNat) + 1074).toNat
      have e2 := sv_mul (decide (M < 0)) M.natAbs (E + 1074).toNat
      rw [g2, e2, sv_self] at e1
      have pc : ∀ k : Nat, ((2 ^ k : Nat) : Int) = (2 : Int) ^ k := fun k => Int.natCast_pow 2 k
      rw [pc, pc] at e1
      exact e1.symm
    obtain ⟨b1, b2⟩ := nrm_eq (k := -1074) (fpl_ge (r := rgo (gfl M E))) (show (-1074 : Int) ≤ E by omega) hv
    exact Prod.ext (b1.trans hn1) (b2.trans hn2)
/-- a small whole number as a float. -/
theorem gfl_int {a : Int} (h : a.natAbs < 9007199254740992) : fcmpV .eql .f64 (gfl (tmI a) (teI a 0)) (FloatKind.f64.nearest a) = true := by
  have hi := infR_is
  obtain ⟨K, hK⟩ : ∃ K : Nat, K = 1074 := ⟨_, rfl⟩
  have hf := fint_small h
  rw [← hK] at hf
  have hl2 := log2_le h
  obtain ⟨g1, g2⟩ := rg_ok h (show K + a.natAbs.log2 < 2098 by omega)
  have gl : rg a.natAbs K < 9223372036854775808 := by omega
  have hs : sgo (FloatKind.f64.nearest a) = decide (a < 0) := by rw [hf]; exact sgo_wd gl
  have hq : rgo (FloatKind.f64.nearest a) = rg a.natAbs K := by rw [hf]; exact rgo_wd gl
  have hM : (tmI a).natAbs < 9007199254740992 := Nat.lt_of_le_of_lt (tmI_le a) h
  refine gfl_is (by rw [hf]; exact wd_lt gl) (by rw [hq]; exact g1) hM ?_ ?_
  · intro h0
    have h3 : a = 0 := by have := tmI_mul a; rw [h0, Int.zero_mul] at this; exact this.symm
    rw [hq]
    rcases Nat.eq_zero_or_pos (rg a.natAbs K) with h4 | h4
    · exact h4
    · have := mg_pos h4 g1
      rw [g2, h3] at this
      simp at this
  · intro h0
    have h3 : a ≠ 0 := fun h => h0 (by rw [h, tmI_zero])
    have ht := topI_nrm a 0
    unfold topI nb at ht
    rw [if_neg h0, if_neg h3, if_neg (by omega), if_neg (by omega)] at ht
    refine ⟨by omega, by omega, ?_, ?_⟩
    · rw [hs, decide_eq_decide.2 (tm_neg9 a)]
    · rw [hq, g2]
      have hb := congrArg Int.natAbs (tm_val (k := -(K : Int)) (show -(K : Int) ≤ 0 by omega) h3)
      rw [Int.natAbs_mul, Int.natAbs_mul, Int.natAbs_pow, Int.natAbs_pow, Int.sub_neg, Int.sub_neg] at hb
      rw [show ((0 : Int) + (K : Int)).toNat = K by omega] at hb
      rw [show ((1074 : Int)) = (K : Int) by omega]
      exact hb.symm
/-- what is known of a small whole number. -/
theorem whole_facts {a b : Int} (ha : -2147483648 ≤ a ∧ a ≤ 2147483647) (hb : -2147483648 ≤ b ∧ b ≤ 2147483647) (n : Int) :
    ∃ X : Re, ca ((a, 0), (b, 0)) = X ∧ rC X ∧ okR (.agg [.bool (N0.neg (cscl X n).1.1), .sl (N0.ln (cscl X n).1.1) (N0.lm (cscl X n).1.1), .int .i64 (cscl X n).1.2, .bool (N0.neg (cscl X n).2.1), .sl (N0.ln (cscl X n).2.1) (N0.lm (cscl X n).2.1), .int .i64 (cscl X n).2.2]) ∧
    tmI X.1.1 = X.1.1 ∧ teI X.1.1 X.1.2 = X.1.2 ∧ tmI X.2.1 = X.2.1 ∧ teI X.2.1 X.2.2 = X.2.2 ∧ Fit X.1.1 53 ∧ Fit X.2.1 53 ∧ Fit (tmI (cscl X n).1.1) 53 ∧ Fit (tmI (cscl X n).2.1) 53 ∧
    fcmpV .eql .f64 (gfl X.1.1 X.1.2) (FloatKind.f64.nearest a) = true ∧ fcmpV .eql .f64 (gfl X.2.1 X.2.2) (FloatKind.f64.nearest b) = true ∧
    finC (gfl X.1.1 X.1.2) (gfl X.2.1 X.2.2) = true ∧ exc (gfl X.1.1 X.1.2) (gfl X.2.1 X.2.2) = X ∧ gfl X.1.1 X.1.2 < 18446744073709551616 ∧ gfl X.2.1 X.2.2 < 18446744073709551616 ∧
    fcmpV .eql .f64 (gfl (tmI (cscl X n).1.1) (teI (cscl X n).1.1 (cscl X n).1.2)) (gfl (tmI (cscl X n).1.1) (teI (cscl X n).1.1 (cscl X n).1.2)) = true ∧
    fcmpV .eql .f64 (gfl (tmI (cscl X n).2.1) (teI (cscl X n).2.1 (cscl X n).2.2)) (gfl (tmI (cscl X n).2.1) (teI (cscl X n).2.1 (cscl X n).2.2)) = true := by
  have side : ∀ c : Int, (-2147483648 ≤ c ∧ c ≤ 2147483647) → ∃ x : Dy, Dy.n (c, 0) = x ∧ x.n = x ∧ fD x 32 32 ∧ fcmpV .eql .f64 (gfl x.1 x.2) (FloatKind.f64.nearest c) = true ∧ rgo (gfl x.1 x.2) < infR ∧ gfl x.1 x.2 < 18446744073709551616 ∧ exd (gfl x.1 x.2) = x := by
    intro c hc
    have hc2 : c.natAbs < 9007199254740992 := by omega
    have hf : fD (c, 0) 32 0 := ⟨by unfold Fit; show c.natAbs < 4294967296; omega, by simp, by simp⟩
    have hfn : fD (Dy.n (c, 0)) 32 32 := fD_n hf
    have hM : (tmI c).natAbs < 9007199254740992 := Nat.lt_of_le_of_lt (tmI_le c) hc2
    have hb := gfl_back (M := tmI c) (E := teI c 0) hM (n_n (c, 0)) (by
      intro h0
      have h3 : c ≠ 0 := fun h => h0 (by rw [h, tmI_zero])
      have ht := topI_nrm c 0
      have hl2 := log2_le hc2
      unfold topI nb at ht
      rw [if_neg h0, if_neg h3, if_neg (by omega), if_neg (by omega)] at ht
      omega)
    exact ⟨_, rfl, n_n _, hfn, gfl_int hc2, hb.1, hb.2.1, hb.2.2⟩
  obtain ⟨x, x1, x2, x3, x4, x5, x6, x7⟩ := side a ha
  obtain ⟨y, y1, y2, y3, y4, y5, y6, y7⟩ := side b hb
  have scl : ∀ z : Dy, fD z 32 32 → fD (z.scl n) 32 20064 := fun z hz => (fD_n (a := (z.1, z.2 + min (max n (-20000)) 20000)) (B := 20032) ⟨hz.1, by have := hz.2.1; show -((20032 : Nat) : Int) ≤ z.2 + _; omega, by have := hz.2.2; show z.2 + _ ≤ ((20032 : Nat) : Int); omega⟩)
  have s1 := scl x x3
  have s2 := scl y y3
  have f1 : Fit (tmI (cscl (x, y) n).1.1) 53 := (fit_tm s1.1).mono (by omega)
  have f2 : Fit (tmI (cscl (x, y) n).2.1) 53 := (fit_tm s2.1).mono (by omega)
  have lt53 : ∀ {m : Int}, Fit m 53 → m.natAbs < 9007199254740992 := fun h => by unfold Fit at h; simpa using h
  refine ⟨(x, y), by unfold ca; rw [x1, y1], ⟨x2, y2, x3.mono (by omega) (by omega), y3.mono (by omega) (by omega)⟩, okR_fR (r := cscl (x, y) n) ⟨s1.mono (by omega) (by omega), s2.mono (by omega) (by omega)⟩,
    congrArg Prod.fst x2, congrArg Prod.snd x2, congrArg Prod.fst y2, congrArg Prod.snd y2, x3.1.mono (by omega), y3.1.mono (by omega), f1, f2, x4, y4, ?_, ?_, x6, y6, gfl_self (lt53 f1), gfl_self (lt53 f2)⟩
  · unfold finC; rw [decide_eq_true x5, decide_eq_true y5]; rfl
  · unfold exc finC
    rw [decide_eq_true x5, decide_eq_true y5]
    show (exd (gfl x.1 x.2), exd (gfl y.1 y.2)) = (x, y)
    rw [x7, y7]
theorem std_fint (k : FloatKind) (n : Int) : std.fint k n = k.nearest n := rfl
def s_GaussWholes : FnSpec := ⟨.one .b, fun ds => match ds with | [.int .i32 c, .int .i32 c2, .int .i16 c3] => (-2147483648 ≤ c ∧ c ≤ 2147483647) ∧ (-2147483648 ≤ c2 ∧ c2 ≤ 2147483647) ∧ -32768 ≤ c3 ∧ c3 ≤ 32767 | _ => False, fun _ _ => 0, fun _ _ => true, fun _ _ => 0, fun _ _ => []⟩
theorem GaussWholes_arg {ds : List D} (h : s_GaussWholes.p ds) : ∃ c c2 c3, ds = [.int .i32 c, .int .i32 c2, .int .i16 c3] ∧ (-2147483648 ≤ c ∧ c ≤ 2147483647) ∧ (-2147483648 ≤ c2 ∧ c2 ≤ 2147483647) ∧ -32768 ≤ c3 ∧ c3 ≤ 32767 := by
  unfold s_GaussWholes at h
  dsimp only at h
  split at h
  · exact ⟨_, _, _, rfl, h⟩
  · exact h.elim
set_option maxRecDepth 100000 in
set_option maxHeartbeats 8000000 in
theorem good_GaussWholes : Good Tryd.prog (GWL [0, 1, 2, 3]) N0 5 s_GaussWholes := by
  refine goodF (l := [0, 1, 2, 3]) (tab := [(14, s_known8), (15, s_uOf), (16, s_uFloat), (17, s_uExact), (18, s_uScale), (19, s_uSame)]) (shs := [(14, .one .b), (15, .agg [.I, .i .i64, .I, .i .i64]), (16, .one .c), (17, .tup [(true, [.I, .i .i64, .I, .i .i64]), (false, [.b])]), (18, .agg [.I, .i .i64, .I, .i .i64]), (19, .one .b)]) rfl ⟨good_known8, (good_uOf.lift (by decide)), (good_uFloat.lift (by decide)), (good_uExact.lift (by decide)), (good_uScale.lift (by decide)), (good_uSame.lift (by decide)), trivial⟩ Tryd.f5 (by kernel_rfl) (by kernel_rfl) (by kernel_rfl) (fun ds hp F A Q hF hA hQ => ⟨0, ?_⟩)
  obtain ⟨c, c2, c3, rfl, hc1, hc2, hc3⟩ := GaussWholes_arg hp
  clear hp
  · obtain ⟨X, hX, rX, okB, t1, t2, t3, t4, q1, q2, q3, q4, y1, y2, x2, x1, l1, l2, z1, z2⟩ := whole_facts hc1 hc2 c3
    have okA := okR_c rX
    have w1 : IntKind.i64.wrap c = c := wrap_in (by omega) (by omega)
    have w2 : IntKind.i64.wrap c2 = c2 := wrap_in (by omega) (by omega)
    have w3 : IntKind.i64.wrap c3 = c3 := wrap_in (by omega) (by omega)
    cbv
    repeat' (first | with_reducible refine And.intro ?_ ?_ | (with_reducible refine safe_lift hA ?_; kernel_rfl) | (intro hc_; (first | (with_reducible exfalso; clear hQ; subst hF hA; simp only [fnOf, find, std_of, std_lt, std_le, std_eq, std_not, std_fcmp, std_fneg, std_bits, std_toN, std_pick, std_nn, std_fok, std_fop, std_ceq, std_add, std_sub, std_min, std_max, std_beq, std_rem, std_cv, std_nz, reduceIte, Nat.reduceEqDiff, sp1, sp2, a1, a2, FnSpec.out, Shape.build, leafs, leafCells, tups, oneOf, List.cons_append, List.nil_append, List.length_cons, List.length_nil, s_GaussWholes, s_known8, s_uOf, s_uFloat, s_uExact, s_uScale, s_uSame, dz, dx, dcn, dm_raw, dm_N0, vI_N0, toNat_nat, rv_raw, rv_N0, re4, df, cre, cim, sf1, sf2, s_uOf, re4, dv, vI_nil, Prod.eta, re4, sameI_N0, reduceIte, Bool.true_and, if_true, if_false, and_true, true_and, Int.reduceNeg, Int.reduceEq, Int.reduceLT, Int.reduceLE, Int.reduceBEq, Int.reduceAdd, Prod.eta, beq_dec, decide_true, decide_false, Bool.and_false, Bool.false_and, Bool.and_true, Bool.not_true, Bool.not_false, eq_self, Bool.not_eq_eq_eq_not, decide_eq_true_eq, decide_eq_false_iff_not, not_true_eq_false, not_false_eq_true, decide_true, decide_false, Bool.true_and, Bool.and_true, Bool.not_true, Bool.not_false, beq_self_eq_true, Bool.true_eq_false, Bool.false_eq_true, reduceCtorEq, gt_iff_lt, ge_iff_le, true_and, and_true, and_self, Bool.false_eq, Bool.and_self, Int.add_zero, Option.isSome_some, Option.getD_some, w1, w2, w3, hX, t1, t2, t3, t4, y1, y2, x1, x2, z1, z2, std_ceq, std_fint] at hc_; done) | (clear hc_; cbv))))
    all_goals subst hF hA
    all_goals (try simp only [fnOf, find, std_of, std_lt, std_le, std_eq, std_not, std_fcmp, std_fneg, std_bits, std_toN, std_pick, std_nn, std_fok, std_fop, std_ceq, std_add, std_sub, std_min, std_max, std_beq, std_rem, std_cv, std_nz, reduceIte, Nat.reduceEqDiff, sp1, sp2, a1, a2, FnSpec.out, Shape.build, leafs, leafCells, tups, oneOf, List.cons_append, List.nil_append, List.length_cons, List.length_nil, s_GaussWholes, s_known8, s_uOf, s_uFloat, s_uExact, s_uScale, s_uSame, dz, dx, dcn, dm_raw, dm_N0, vI_N0, toNat_nat, rv_raw, rv_N0, re4, df, cre, cim, sf1, sf2, s_uOf, re4, dv, vI_nil, Prod.eta, re4, sameI_N0, reduceIte, Bool.true_and, if_true, if_false, and_true, true_and, Int.reduceNeg, Int.reduceEq, Int.reduceLT, Int.reduceLE, Int.reduceBEq, Int.reduceAdd, Prod.eta, beq_dec, decide_true, decide_false, Bool.and_false, Bool.false_and, Bool.and_true, Bool.not_true, Bool.not_false, eq_self, Bool.not_eq_eq_eq_not, decide_eq_true_eq, decide_eq_false_iff_not, not_true_eq_false, not_false_eq_true, decide_true, decide_false, Bool.true_and, Bool.and_true, Bool.not_true, Bool.not_false, beq_self_eq_true, Bool.true_eq_false, Bool.false_eq_true, reduceCtorEq, gt_iff_lt, ge_iff_le, true_and, and_true, and_self, Bool.false_eq, Bool.and_self, Int.add_zero, Option.isSome_some, Option.getD_some, w1, w2, w3, hX, t1, t2, t3, t4, y1, y2, x1, x2, z1, z2, std_ceq, std_fint] at hQ ⊢)
    all_goals (repeat' (first
    | with_reducible exact hQ
    | with_reducible assumption
    | with_reducible exact isi_int _ _
    | with_reducible exact isF_mk (by assumption)
    | with_reducible exact isCf_mk (by omega) (by omega)
    | exact isCf_mk (by decide) (by decide)
    | with_reducible exact fin_mk (by assumption) (by assumption)
    | with_reducible exact finN_mk (by assumption) (by assumption)
    | with_reducible exact okT_mk hc hn he1 he2
    | with_reducible exact okT_mk hc2 hm hf1 hf2
    | exact hQ
    | with_reducible exact okR_mk hc hn he1 he2 hc2 hm hf1 hf2
    | with_reducible refine okD_mk ?_ ?_ ?_
    | with_reducible refine okT_mk ?_ ?_ ?_ ?_
    | with_reducible refine okR_mk ?_ ?_ ?_ ?_ ?_ ?_ ?_ ?_
    | (with_reducible refine near_mk ?_ ?_; (focus omega); (focus omega))
    | (with_reducible refine isC_mk ?_ ?_)
    | omega
    | with_reducible refine And.intro ?_ ?_))
    all_goals trace_state
end Go.Proofs.YtcamkbphognoaaaDoor.Ev
