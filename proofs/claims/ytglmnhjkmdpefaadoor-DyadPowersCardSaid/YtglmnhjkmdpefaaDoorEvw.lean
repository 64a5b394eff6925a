/- The laws of dyads. -/
import Derived.Test.YtglmnhjkmdpefaaDoorEvp
namespace Go.Proofs.YtglmnhjkmdpefaaDoor.Ev
open Go Go.RowKit
set_option linter.unusedSimpArgs false
set_option linter.unusedVariables false
/-- a dyad as an argument: what lies in its slice is told only of few limbs. -/
def okW : D → Prop | .agg [.bool _, .sl n cs, .int .i64 e] => (n ≤ 100000 → okC n cs) ∧ -9223372036854775808 ≤ e ∧ e ≤ 9223372036854775807 | _ => False
theorem okW_arg {x : D} (h : okW x) : ∃ s n cs e, x = .agg [.bool s, .sl n cs, .int .i64 e] ∧ (n ≤ 100000 → okC n cs) ∧ -9223372036854775808 ≤ e ∧ e ≤ 9223372036854775807 := by
  match x, h with
  | .agg [.bool s, .sl n cs, .int .i64 e], h => exact ⟨s, n, cs, e, rfl, h⟩
theorem okW_mk {s : Bool} {n : Nat} {cs : List D} {e : Int} (h : n ≤ 100000 → okC n cs) (h1 : -9223372036854775808 ≤ e) (h2 : e ≤ 9223372036854775807) : okW (.agg [.bool s, .sl n cs, .int .i64 e]) := ⟨h, h1, h2⟩
def s_few : FnSpec := sp1 (.one .b) okW (fun _ _ => 0) (fun x _ => decide (dcn x ≤ 20 ∧ -2000 ≤ dx x ∧ dx x ≤ 2000))
def s_known4 : FnSpec := ⟨.one .b, fun ds => ds = [], fun _ _ => 0, fun _ _ => true, fun _ _ => 0, fun _ _ => []⟩
theorem tz_is {m c : Int} {k : Nat} (h : m = c * 2 ^ k) (hc : c.natAbs % 2 = 1) : tz m.natAbs = k := by
  have h1 : m.natAbs = c.natAbs * 2 ^ k := by rw [h, Int.natAbs_mul, Int.natAbs_pow]; rfl
  have h2 := tz_mul_pow (n := c.natAbs) (by omega) k
  rw [h1, h2, tz_odd hc, Nat.zero_add]
theorem tmI_is {m c : Int} {k : Nat} (h : m = c * 2 ^ k) (hc : c.natAbs % 2 = 1) (hm : m ≠ 0) : tmI m = c := by
  have h1 := tmI_mul m
  rw [tz_is h hc] at h1
  refine Int.eq_of_mul_eq_mul_right (Int.ne_of_gt (pow_pos' k)) ?_
  rw [h1, h]
theorem teI_is {m c e : Int} {k : Nat} (h : m = c * 2 ^ k) (hc : c.natAbs % 2 = 1) (hm : m ≠ 0) : teI m e = e + k := by
  rw [teI_ne hm, tz_is h hc]
theorem isCan_N0 (z : Int) : isCan (.agg [.bool (N0.neg z), .sl (N0.ln z) (N0.lm z)]) = true := by
  have h1 : nums (N0.lm z) = lim z.natAbs := nums_u32s _
  have h2 : decide (lim (val (nums (N0.lm z))) = nums (N0.lm z)) = true := decide_eq_true (by rw [h1, val_lim])
  have h3 : (N0.neg z && decide (N0.ln z = 0)) = false := by
    by_cases h : z = 0
    · subst h; rfl
    · have : N0.ln z ≠ 0 := fun h2 => by have := ln_zero_iff.1 (show ln z.natAbs = 0 from h2); omega
      rw [decide_eq_false this, Bool.and_false]
  show (decide (lim (val (nums (N0.lm z))) = nums (N0.lm z)) && !(N0.neg z && decide (N0.ln z = 0))) = true
  rw [h2, h3]; rfl
theorem isCan_0 : isCan (.agg [.bool false, .sl 0 []]) = true := by
  have h := isCan_N0 0
  rwa [N0_ln0, N0_lm0, N0_neg0] at h
theorem vI_nil : vI false [] = 0 := rfl
theorem okC_nil : okC 0 [] := by
  have h := okC_N0 (z := 0) (by rw [show (0 : Int).natAbs = 0 from rfl, ln_zero]; decide)
  rwa [N0_ln0, N0_lm0] at h
theorem few1 {n : Nat} {e : Int} {i : Decidable (n ≤ 20 ∧ -2000 ≤ e ∧ e ≤ 2000)} (h1 : decide ((n : Int) ≤ 20) = true) (h2 : decide (-2000 ≤ e) = true) : @decide _ i = decide (e ≤ 2000) := by
  have h1 := of_decide_eq_true h1
  have h2 := of_decide_eq_true h2
  rw [Bool.eq_iff_iff, decide_eq_true_eq, decide_eq_true_eq]
  omega
theorem few2 {n : Nat} {e : Int} {i : Decidable (n ≤ 20 ∧ -2000 ≤ e ∧ e ≤ 2000)} (h : ¬((n : Int) ≤ 20) ∨ ¬(-2000 ≤ e)) : @decide _ i = false := by
  rw [decide_eq_false_iff_not]
  omega
theorem k12 : tmI 12 = 3 := tmI_is (k := 2) (by decide) (by decide) (by decide)
theorem k12e (e : Int) : teI 12 e = e + 2 := teI_is (c := 3) (k := 2) (by decide) (by decide) (by decide)
theorem k1n : tmI (-1) = -1 := tmI_is (k := 0) (by decide) (by decide) (by decide)
theorem k1ne (e : Int) : teI (-1) e = e := (teI_is (c := -1) (k := 0) (by decide) (by decide) (by decide)).trans (Int.add_zero e)
theorem k3 : tmI 3 = 3 := tmI_is (k := 0) (by decide) (by decide) (by decide)
theorem k3z : tz (Int.natAbs 3) = 0 := tz_is (c := 3) (k := 0) (by decide) (by decide)
theorem k47 : tmI 47 = 47 := tmI_is (k := 0) (by decide) (by decide) (by decide)
theorem k47e (e : Int) : teI 47 e = e := (teI_is (c := 47) (k := 0) (by decide) (by decide) (by decide)).trans (Int.add_zero e)
theorem k3n : tmI (-3) = -3 := tmI_is (k := 0) (by decide) (by decide) (by decide)
theorem k3ne (e : Int) : teI (-3) e = e := (teI_is (c := -3) (k := 0) (by decide) (by decide) (by decide)).trans (Int.add_zero e)
theorem k1 : tmI 1 = 1 := tmI_is (k := 0) (by decide) (by decide) (by decide)
theorem k1e (e : Int) : teI 1 e = e := (teI_is (c := 1) (k := 0) (by decide) (by decide) (by decide)).trans (Int.add_zero e)
theorem kmm0 : min (max (0 : Int) (-20000)) 20000 = 0 := by decide
theorem kmm2 : min (max (-2 : Int) (-20000)) 20000 = -2 := by decide
theorem kmm4 : min (max (-4 : Int) (-20000)) 20000 = -4 := by decide
theorem kadd : addM 3 2 (-1) (-2) = 47 := by decide
theorem kcmp : cmpD 3 2 (-1) (-2) = 1 := by decide
theorem kpow : (-1 : Int) ^ powN 2 = 1 := by decide
theorem kpowN : (powN 2 : Int) = 2 := by decide
theorem cmpD_self (m e : Int) : cmpD m e m e = 0 := by unfold cmpD; rw [Int.sub_self]; exact sg_zero rfl
theorem ktop : topI 3 2 = 3 := by
  unfold topI
  rw [if_neg (by decide)]
  decide
theorem ln_small {z : Int} (h : z.natAbs < 4294967296) : N0.ln z ≤ 1 := (show Fit z 32 from h).ln (by omega)
theorem okC_small {z : Int} (h : z.natAbs < 4294967296) : okC (N0.ln z) (N0.lm z) := okC_fitN (k := 32) h (by omega)
theorem kmin : min (2 : Int) (-2) = -2 := by decide
theorem kmin2 : (2 : Int) + -2 = 0 := by decide
theorem kmm1 : (-1 : Int) * 3 = -3 := by decide
theorem kmm3 : (3 : Int) * -1 = -3 := by decide
theorem kmul : (2 : Int) * -2 = -4 := by decide
set_option maxRecDepth 100000 in
set_option maxHeartbeats 2000000 in
theorem good_few : Good Tryd.prog GW N0 14 s_few := by
  refine good (tab := []) (shs := []) rfl trivial Tryd.f14 (by kernel_rfl) (by kernel_rfl) (by kernel_rfl) (fun ds hp F A Q hF hA hQ => ⟨0, ?_⟩)
  obtain ⟨x, rfl, hx⟩ := sp1_arg hp
  obtain ⟨s, n, cs, e, rfl, hc, hr1, hr2⟩ := okW_arg hx
  clear hp hx
  cbv
  repeat' (first | with_reducible refine And.intro ?_ ?_ | (refine safe_lift hA ?_; kernel_rfl) | (intro hc_; cbv))
  all_goals (repeat (rw [safe_true hA, true_and]; rotate_left; kernel_rfl))
  all_goals subst hF hA
  all_goals simp only [fnOf, find, std, reduceIte, Nat.reduceEqDiff, sp1, sp2, a1, a2, FnSpec.out, Shape.build, leafs, leafCells, tups, oneOf, List.cons_append, List.nil_append, List.length_cons, List.length_nil, s_few, dx, dcn] at *
  case refine_1.refine_1 => rename_i h; exact Post.b hQ (few1 h hc_)
  case refine_1.refine_2 => exact Post.b hQ (few2 (.inr (of_decide_eq_false hc_)))
  case refine_2 => exact Post.b hQ (few2 (.inl (of_decide_eq_false hc_)))
set_option maxRecDepth 100000 in
set_option maxHeartbeats 2000000 in
theorem good_known4 : Good Tryd.prog GWM N0 13 s_known4 := by
  refine goodM (tab := [(19, s_dMake), (53, s_rOf), (36, s_dScale), (20, s_dOf), (16, s_dIs), (54, s_rSameI), (40, s_dSame), (26, s_dAdd), (22, s_dSign), (24, s_dCmp), (38, s_dTop), (30, s_dMul), (41, s_dPow)]) (shs := [(19, .agg [.I, .i .i64]), (53, .agg [.I]), (36, .agg [.I, .i .i64]), (20, .agg [.I, .i .i64]), (16, .one .b), (54, .one .b), (40, .one .b), (26, .agg [.I, .i .i64]), (22, .one (.i .i64)), (24, .one (.i .i64)), (38, .one (.i .i64)), (30, .agg [.I, .i .i64]), (41, .agg [.I, .i .i64])]) rfl ⟨(good_dMake.mono fun _ h => h.base), good_rOf, (good_dScale.mono fun _ h => h.base), (good_dOf.mono fun _ h => h.base), (good_dIs.mono fun _ h => h.base), (good_rSameI.mono fun _ h => h.base), (good_dSame.mono fun _ h => h.base), (good_dAdd.mono fun _ h => h.base), (good_dSign.mono fun _ h => h.base), (good_dCmp.mono fun _ h => h.base), (good_dTop.mono fun _ h => h.base), good_dMul, good_dPow, trivial⟩ Tryd.f13 (by kernel_rfl) (by kernel_rfl) (by kernel_rfl) (fun ds hp F A Q hF hA hQ => ⟨0, ?_⟩)
  have hp : ds = [] := hp
  subst hp
  cbv
  repeat' (first | with_reducible refine And.intro ?_ ?_ | (refine safe_lift hA ?_; kernel_rfl) | (intro hc_; cbv))
  all_goals (repeat (rw [safe_true hA, true_and]; rotate_left; kernel_rfl))
  all_goals subst hF hA
  all_goals simp only [fnOf, find, std, reduceIte, Nat.reduceEqDiff, sp1, sp2, a1, a2, FnSpec.out, Shape.build, leafs, leafCells, tups, oneOf, List.cons_append, List.nil_append, List.length_cons, List.length_nil, s_known4, s_dMake, s_rOf, s_dScale, s_dOf, s_dIs, s_rSameI, s_dSame, s_dAdd, s_dSign, s_dCmp, s_dTop, s_dMul, s_dPow, isD, dm_N0, dm_raw, dz, dx, dcn, dMof, vI_N0, k12, k12e, k1n, k1ne, k3, k3z, k47, k47e, k3n, k3ne, k1, k1e, kmm0, kmm2, kmm4, kadd, kcmp, kpow, kpowN, ktop, cmpD_self, Int.zero_add, kmin, kmin2, kmm1, kmm3, kmul, isCan_N0, isCan_0, vI_nil, sameI_N0] at *
  all_goals try (exfalso; revert hc_; decide)
  all_goals try (repeat' (first | exact okC_small (by decide) | exact okC_nil | exact Nat.le_trans (ln_small (by decide)) (by decide) | exact fun _ _ => ⟨by decide, by decide⟩ | exact rfl | decide | refine And.intro ?_ ?_))
  all_goals first
    | exact Post.b hQ (by decide)
    | exact absurd (by assumption : ((0 : Int) == 0) = !true) (by decide)
    | (exfalso; simp at *; done)
    | (exfalso; simp_all; done)
end Go.Proofs.YtglmnhjkmdpefaaDoor.Ev
