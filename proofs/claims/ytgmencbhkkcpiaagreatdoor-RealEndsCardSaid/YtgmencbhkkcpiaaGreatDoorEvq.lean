/- The document's dyads. -/
import Derived.Test.YtgmencbhkkcpiaaGreatDoorEve
import Derived.Test.YtgmencbhkkcpiaaGreatDoorEvr
namespace Go.Proofs.YtgmencbhkkcpiaaGreatDoor.Ev
open Go Go.RowKit
set_option linter.unusedSimpArgs false
set_option linter.unusedVariables false
/-- a dyad as it is told, of few limbs. -/
def canD (x : D) : Prop := x = .agg [.bool (N0.neg (dm x)), .sl (N0.ln (dm x)) (N0.lm (dm x)), .int .i64 (dx x)] ∧ tmI (dm x) = dm x ∧ teI (dm x) (dx x) = dx x ∧ Fit (dm x) 32000 ∧ -50000000 ≤ dx x ∧ dx x ≤ 50000000
theorem canD_arg {x : D} (h : canD x) : ∃ z e s n cs, x = .agg [.bool s, .sl n cs, .int .i64 e] ∧ N0.neg z = s ∧ N0.ln z = n ∧ N0.lm z = cs ∧ tmI z = z ∧ teI z e = e ∧ Fit z 32000 ∧ -50000000 ≤ e ∧ e ≤ 50000000 :=
  ⟨dm x, dx x, _, _, _, h.1, rfl, rfl, rfl, h.2⟩
theorem canD_N0 {z e : Int} (h1 : tmI z = z) (h2 : teI z e = e) (h3 : Fit z 32000) (h4 : -50000000 ≤ e) (h5 : e ≤ 50000000) : canD (.agg [.bool (N0.neg z), .sl (N0.ln z) (N0.lm z), .int .i64 e]) := by
  unfold canD
  rw [dm_N0]
  exact ⟨rfl, h1, h2, h3, h4, h5⟩
def s_qMake : FnSpec := sp2 (.agg [.I, .i .i64]) (fun x y => okI x ∧ Fit (dm x) 100000 ∧ isi .i64 y) (fun x y i => match i with | 0 => tmI (dm x) | _ => teI (dm x) (min (max (dz y) (-20000)) 20000)) (fun _ _ _ => false)
def s_qOf : FnSpec := sp1 (.agg [.I, .i .i64]) (fun x => isi .i64 x ∧ -9223372036854775808 ≤ dz x ∧ dz x ≤ 9223372036854775807) (fun x i => match i with | 0 => tmI (dz x) | _ => teI (dz x) 0) (fun _ _ => false)
def s_qEqual : FnSpec := sp2 (.one .b) (fun x y => okE x ∧ okE y) (fun _ _ _ => 0) (fun x y _ => dx x == dx y && sameI x y)
def s_qSign : FnSpec := sp1 (.one (.i .i64)) okE (fun x _ => sg (dm x)) (fun _ _ => false)
def s_qScale : FnSpec := sp2 (.agg [.I, .i .i64]) (fun x y => canD x ∧ isi .i64 y) (fun x y i => match i with | 0 => tmI (dm x) | _ => teI (dm x) (dx x + min (max (dz y) (-20000)) 20000)) (fun _ _ _ => false)
theorem Post.d0 {Q : Post} {m e : Int} (h : Q.R (.agg [.bool (N0.neg m), .sl (N0.ln m) (N0.lm m), .int .i64 e])) (hm : m = 0) (he : e = 0) : Q.R (.agg [.bool false, .sl 0 [], .int .i64 0]) := by
  subst hm he
  rw [N0_neg0, N0_ln0, N0_lm0] at h
  exact h
theorem N0_lnA {a b : Int} (h : a.natAbs = b.natAbs) : N0.ln a = N0.ln b := by show ln a.natAbs = ln b.natAbs; rw [h]
theorem N0_lmA {a b : Int} (h : a.natAbs = b.natAbs) : N0.lm a = N0.lm b := by show u32s (lim a.natAbs) = u32s (lim b.natAbs); rw [h]
theorem Post.dA {Q : Post} {m a b e e' : Int} {s : Bool} (h : Q.R (.agg [.bool (N0.neg m), .sl (N0.ln m) (N0.lm m), .int .i64 e])) (hs : N0.neg m = s) (h1 : m.natAbs = a.natAbs) (h2 : m.natAbs = b.natAbs) (he : e = e') : Q.R (.agg [.bool s, .sl (N0.ln a) (N0.lm b), .int .i64 e']) := by
  subst he hs
  rw [N0_lnA h1, N0_lmA h2] at h
  exact h
theorem ln_beq (z : Int) : ((N0.ln z : Int) == 0) = decide (z = 0) := by
  rw [Bool.eq_iff_iff, beq_iff_eq, decide_eq_true_eq]
  show ((ln z.natAbs : Nat) : Int) = 0 ↔ z = 0
  have := @ln_zero_iff z.natAbs
  omega
theorem natAbs_tmI {m : Int} (h : m ≠ 0) : (tmI m).natAbs = m.natAbs / 2 ^ tz m.natAbs := by
  unfold tmI
  rw [if_neg h, natAbs_ediv_pow (dvd_tz m)]
theorem neg_tmI (m : Int) : N0.neg (tmI m) = N0.neg m := by
  have h := tmI_mul m
  have hp := pow_pos' (tz m.natAbs)
  rw [neg_N0, neg_N0]
  rcases Int.lt_or_le (tmI m) 0 with h1 | h1
  · have : tmI m * 2 ^ tz m.natAbs < 0 := Int.mul_neg_of_neg_of_pos h1 hp
    rw [decide_eq_true h1, decide_eq_true (by omega)]
  · have : 0 ≤ tmI m * 2 ^ tz m.natAbs := Int.mul_nonneg h1 (Int.le_of_lt hp)
    rw [decide_eq_false (by omega), decide_eq_false (by omega)]
theorem clamp20 (k : Int) : (if (if 20000 < k then 20000 else k) > -20000 then if 20000 < k then 20000 else k else -20000) = min (max k (-20000)) 20000 := by
  simp only [Int.min_def, Int.max_def]
  repeat' split
  all_goals omega
theorem teI_ne {m e : Int} (h : m ≠ 0) : teI m e = e + tz m.natAbs := if_neg h
theorem tmI_neg (m : Int) : tmI (-m) = -tmI m := by
  by_cases h : m = 0
  · rw [h]; rfl
  · have h1 := tmI_mul m
    have h2 := tmI_mul (-m)
    rw [Int.natAbs_neg] at h2
    refine Int.eq_of_mul_eq_mul_right (Int.ne_of_gt (pow_pos' (tz m.natAbs))) ?_
    rw [h2, Int.neg_mul, h1]
theorem teI_neg (m e : Int) : teI (-m) e = teI m e := by
  unfold teI
  rw [Int.natAbs_neg]
  by_cases h : m = 0
  · rw [if_pos h, if_pos (by omega)]
  · rw [if_neg h, if_neg (by omega)]
theorem sg_tmI (m : Int) : sg (tmI m) = sg m := by
  rw [← sg_pow (tmI m) (tz m.natAbs), tmI_mul]
theorem teI_bound {m e : Int} {k : Nat} (h : Fit m k) : teI m e = 0 ∨ (m ≠ 0 ∧ e ≤ teI m e ∧ teI m e ≤ e + k) := by
  by_cases h0 : m = 0
  · exact .inl (by rw [h0]; exact teI_zero _)
  · have := tz_lt h h0
    exact .inr ⟨h0, by rw [teI_ne h0]; omega, by rw [teI_ne h0]; omega⟩
theorem ln_fit {z : Int} {n : Nat} (h : Fit z (32 * n)) : N0.ln z ≤ n := h.ln (Nat.le_refl _)
theorem tz0_iff {N : Nat} (h : N ≠ 0) : tz N = 0 ↔ N % 2 = 1 := by
  constructor
  · intro h1
    rcases Nat.mod_two_eq_zero_or_one N with h2 | h2
    · rw [tz_even h h2] at h1; omega
    · exact h2
  · exact tz_odd
theorem heldN_nat {k : Nat} (h : k ≤ 100000) : heldN (k : Int) = k := by unfold heldN; omega
theorem cmpD_sub (z e v f : Int) : cmpD z e v f = sg (addM z e (-v) f) := by
  unfold cmpD addM
  rw [Int.neg_mul, Int.sub_eq_add_neg]
set_option maxRecDepth 100000 in
set_option maxHeartbeats 2000000 in
theorem good_qMake : Good Tryz.prog (GWL [0, 1]) N0 41 s_qMake := by
  refine goodL (l := [0, 1]) (tab := [(68, s_rNorm), (69, s_rLow), (70, s_rShr)]) (shs := [(68, .agg [.I]), (69, .one (.i .i64)), (70, .one .L)]) rfl ⟨good_rNorm, good_rLow, good_rShr, trivial⟩ Tryz.f41 (by kernel_rfl) (by kernel_rfl) (by kernel_rfl) (fun ds hp F A Q hF hA hQ => ⟨0, ?_⟩)
  obtain ⟨x, y, rfl, hx, hF1, hy⟩ := sp2_arg hp
  obtain ⟨s, n, cs, rfl, hc⟩ := okI_arg hx
  obtain ⟨k, rfl⟩ := isi_arg hy
  clear hp hx hy
  cbv
  repeat' (first | with_reducible refine And.intro ?_ ?_ | (with_reducible refine safe_lift hA ?_; kernel_rfl) | (intro hc_; cbv))
  all_goals (repeat (rw [safe_true hA, true_and]; rotate_left; kernel_rfl))
  all_goals subst hF hA
  all_goals simp only [fnOf, find, std, reduceIte, Nat.reduceEqDiff, sp1, sp2, a1, a2, FnSpec.out, Shape.build, leafs, leafCells, tups, oneOf, List.cons_append, List.nil_append, List.length_cons, List.length_nil, s_qMake, s_rNorm, s_rLow, s_rShr, near, upx, dl, dz, dx, dcn, dcs, dm_raw, vL_N0n, vI_mk, Int.natAbs_natCast, decide_eq_true_eq, decide_eq_false_iff_not, sg_beq] at *
  all_goals try simp only [ln_beq, clamp20, decide_eq_true_eq, decide_eq_false_iff_not] at *
  all_goals generalize vI s cs = X at *
  case refine_1 => exact hc
  case refine_2.refine_1 => exact Post.d0 hQ (by rw [hc_, tmI_zero]) (by rw [hc_, teI_zero])
  all_goals
    have ht := tz_lt hF1 hc_
    have hN : heldN ((tz X.natAbs : Nat) : Int) = tz X.natAbs := heldN_nat (by omega)
    have ha := natAbs_tmI hc_
  case refine_2.refine_2.refine_1 => exact okC_fitN hF1 (by omega)
  case refine_2.refine_2.refine_2.refine_1 => exact ⟨okC_fitN hF1 (by omega), rfl⟩
  case refine_2.refine_2.refine_2.refine_2 =>
    rw [hN]
    exact Post.dA hQ (neg_tmI X) (by rw [Int.natAbs_natCast]; exact ha) (by rw [Int.natAbs_natCast]; exact ha) (by rw [teI_ne hc_]; exact (wrap_in (by omega) (by omega)).symm)
set_option maxRecDepth 100000 in
set_option maxHeartbeats 2000000 in
theorem good_qOf : Good Tryz.prog (GWL [0, 1]) N0 21 s_qOf := by
  refine goodL (l := [0, 1]) (tab := [(42, s_rOf), (41, s_qMake)]) (shs := [(42, .agg [.I]), (41, .agg [.I, .i .i64])]) rfl ⟨good_rOf, good_qMake, trivial⟩ Tryz.f21 (by kernel_rfl) (by kernel_rfl) (by kernel_rfl) (fun ds hp F A Q hF hA hQ => ⟨0, ?_⟩)
  obtain ⟨x, rfl, hx, h1, h2⟩ := sp1_arg hp
  obtain ⟨k, rfl⟩ := isi_arg hx
  clear hp hx
  cbv
  repeat' (first | with_reducible refine And.intro ?_ ?_ | (with_reducible refine safe_lift hA ?_; kernel_rfl) | (intro hc_; cbv))
  all_goals (repeat (rw [safe_true hA, true_and]; rotate_left; kernel_rfl))
  all_goals subst hF hA
  all_goals simp only [fnOf, find, std, reduceIte, Nat.reduceEqDiff, sp1, sp2, a1, a2, FnSpec.out, Shape.build, leafs, leafCells, tups, oneOf, List.cons_append, List.nil_append, List.length_cons, List.length_nil, s_qOf, s_rOf, s_qMake, near, upx, dl, dz, dx, dcn, dcs, dm_raw, vL_N0n, vI_mk, Int.natAbs_natCast, decide_eq_true_eq, decide_eq_false_iff_not, sg_beq] at *
  all_goals try simp only [sgn_neg] at *
  all_goals have hk : Fit k 64 := by unfold Fit; omega
  case refine_1 => exact ⟨rfl, h1, h2⟩
  case refine_2.refine_1 => exact ⟨okC_fitN hk (by omega), hk.mono (by omega), rfl⟩
  case refine_2.refine_2 => exact hQ
set_option maxRecDepth 100000 in
set_option maxHeartbeats 2000000 in
theorem good_qEqual : Good Tryz.prog (GWL [0, 1]) N0 9 s_qEqual := by
  refine goodL (l := [0, 1]) (tab := [(32, s_rSameI)]) (shs := [(32, .one .b)]) rfl ⟨good_rSameI, trivial⟩ Tryz.f9 (by kernel_rfl) (by kernel_rfl) (by kernel_rfl) (fun ds hp F A Q hF hA hQ => ⟨0, ?_⟩)
  obtain ⟨x, y, rfl, hx, hy⟩ := sp2_arg hp
  obtain ⟨s, n, cs, e, rfl, hc⟩ := okE_arg hx
  obtain ⟨t, m, es, f, rfl, hc2⟩ := okE_arg hy
  clear hp hx hy
  cbv
  repeat' (first | with_reducible refine And.intro ?_ ?_ | (with_reducible refine safe_lift hA ?_; kernel_rfl) | (intro hc_; cbv))
  all_goals (repeat (rw [safe_true hA, true_and]; rotate_left; kernel_rfl))
  all_goals subst hF hA
  all_goals simp only [fnOf, find, std, reduceIte, Nat.reduceEqDiff, sp1, sp2, a1, a2, FnSpec.out, Shape.build, leafs, leafCells, tups, oneOf, List.cons_append, List.nil_append, List.length_cons, List.length_nil, s_qEqual, s_rSameI, near, upx, dl, dz, dx, dcn, dcs, dm_raw, vL_N0n, vI_mk, Int.natAbs_natCast, decide_eq_true_eq, decide_eq_false_iff_not, sg_beq] at *
  case refine_1.refine_1 => exact ⟨hc, hc2⟩
  case refine_1.refine_2 => exact Post.b hQ (by rw [hc_, Bool.true_and]; rfl)
  case refine_2 => exact Post.b hQ (by rw [hc_]; rfl)
set_option maxRecDepth 100000 in
set_option maxHeartbeats 2000000 in
theorem good_qSign : Good Tryz.prog (GWL [0, 1]) N0 40 s_qSign := by
  refine goodL (l := [0, 1]) (tab := [(67, s_rSign)]) (shs := [(67, .one (.i .i64))]) rfl ⟨good_rSign, trivial⟩ Tryz.f40 (by kernel_rfl) (by kernel_rfl) (by kernel_rfl) (fun ds hp F A Q hF hA hQ => ⟨0, ?_⟩)
  obtain ⟨x, rfl, hx⟩ := sp1_arg hp
  obtain ⟨s, n, cs, e, rfl, hc⟩ := okE_arg hx
  clear hp hx
  cbv
  repeat' (first | with_reducible refine And.intro ?_ ?_ | (with_reducible refine safe_lift hA ?_; kernel_rfl) | (intro hc_; cbv))
  all_goals (repeat (rw [safe_true hA, true_and]; rotate_left; kernel_rfl))
  all_goals subst hF hA
  all_goals simp only [fnOf, find, std, reduceIte, Nat.reduceEqDiff, sp1, sp2, a1, a2, FnSpec.out, Shape.build, leafs, leafCells, tups, oneOf, List.cons_append, List.nil_append, List.length_cons, List.length_nil, s_qSign, s_rSign, near, upx, dl, dz, dx, dcn, dcs, dm_raw, vL_N0n, vI_mk, Int.natAbs_natCast, decide_eq_true_eq, decide_eq_false_iff_not, sg_beq] at *
  case refine_1 => exact hc
  case refine_2 => exact hQ
set_option maxRecDepth 100000 in
set_option maxHeartbeats 2000000 in
theorem good_qScale : Good Tryz.prog (GWL [0, 1]) N0 20 s_qScale := by
  refine goodL (l := [0, 1]) (tab := [(40, s_qSign)]) (shs := [(40, .one (.i .i64))]) rfl ⟨good_qSign, trivial⟩ Tryz.f20 (by kernel_rfl) (by kernel_rfl) (by kernel_rfl) (fun ds hp F A Q hF hA hQ => ⟨0, ?_⟩)
  obtain ⟨x, y, rfl, hx, hy⟩ := sp2_arg hp
  obtain ⟨z, e, s, n, cs, rfl, hs, hn, hcs, hz, he, hfz, he1, he2⟩ := canD_arg hx
  obtain ⟨k, rfl⟩ := isi_arg hy
  clear hp hx hy
  cbv
  repeat' (first | with_reducible refine And.intro ?_ ?_ | (with_reducible refine safe_lift hA ?_; kernel_rfl) | (intro hc_; cbv))
  all_goals (repeat (rw [safe_true hA, true_and]; rotate_left; kernel_rfl))
  all_goals subst hF hA
  all_goals simp only [fnOf, find, std, reduceIte, Nat.reduceEqDiff, sp1, sp2, a1, a2, FnSpec.out, Shape.build, leafs, leafCells, tups, oneOf, List.cons_append, List.nil_append, List.length_cons, List.length_nil, s_qScale, s_qSign, near, upx, dl, dz, dx, dcn, dcs, dm_raw, vL_N0n, vI_mk, Int.natAbs_natCast, decide_eq_true_eq, decide_eq_false_iff_not, sg_beq] at *
  all_goals subst hs hn hcs
  all_goals try simp only [vI_N0, vL_N0n, sgn_neg, min_if, clamp20] at *
  all_goals have hc : okC (N0.ln z) (N0.lm z) := okC_fitN hfz (by omega)
  all_goals have hln : N0.ln z ≤ 1000 := ln_fit hfz
  case refine_1 => exact hc
  case refine_2.refine_1 => exact Post.d hQ hz (by rw [hc_, teI_zero]; rw [hc_, teI_zero] at he; exact he)
  case refine_2.refine_2 =>
    rw [wrap_in (by omega) (by omega)]
    refine Post.d hQ hz ?_
    rw [teI_ne hc_] at he ⊢
    omega
end Go.Proofs.YtgmencbhkkcpiaaGreatDoor.Ev
