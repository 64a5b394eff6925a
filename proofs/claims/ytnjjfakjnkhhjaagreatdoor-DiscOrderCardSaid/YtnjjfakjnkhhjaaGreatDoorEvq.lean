import Derived.Test.YtnjjfakjnkhhjaaGreatDoorEve
import Derived.Test.YtnjjfakjnkhhjaaGreatDoorEvr
set_option maxHeartbeats 2000000
set_option maxRecDepth 100000
set_option linter.all false
namespace Go.Proofs.YtnjjfakjnkhhjaaGreatDoor.Ev
open Go Go.RowKit
def canD (x : D) : Prop := x = .agg [.bool (N0.neg (dm x)), .sl (N0.ln (dm x)) (N0.lm (dm x)), .int .i64 (dx x)] ∧ tmI (dm x) = dm x ∧ teI (dm x) (dx x) = dx x ∧ Fit (dm x) 32000 ∧ -50000000 ≤ dx x ∧ dx x ≤ 50000000
theorem canD_arg {x : D} (h : canD x) : ∃ z e s n cs, x = .agg [.bool s, .sl n cs, .int .i64 e] ∧ N0.neg z = s ∧ N0.ln z = n ∧ N0.lm z = cs ∧ tmI z = z ∧ teI z e = e ∧ Fit z 32000 ∧ -50000000 ≤ e ∧ e ≤ 50000000 :=
 ⟨dm x, dx x, _, _, _, h.1, rfl, rfl, rfl, h.2⟩
theorem canD_N0 {z e : Int} (h1 : tmI z = z) (h2 : teI z e = e) (h3 : Fit z 32000) (h4 : -50000000 ≤ e) (h5 : e ≤ 50000000) : canD (.agg [.bool (N0.neg z), .sl (N0.ln z) (N0.lm z), .int .i64 e]) := by
 unfold canD
 rw [dm_N0]
 exact ⟨rfl, h1, h2, h3, h4, h5⟩
def s_qExact : FnSpec := sp2 (.agg [.I, .i .i64]) (fun x y => okI x ∧ Fit (dm x) 100000 ∧ isi .i64 y ∧ -1000000000000 ≤ dz y ∧ dz y ≤ 1000000000000) (fun x y i => match i with | 0 => tmI (dm x) | _ => teI (dm x) (dz y)) (fun _ _ _ => false)
def s_qMake : FnSpec := sp2 (.agg [.I, .i .i64]) (fun x y => okI x ∧ Fit (dm x) 100000 ∧ isi .i64 y) (fun x y i => match i with | 0 => tmI (dm x) | _ => teI (dm x) (min (max (dz y) (-20000)) 20000)) (fun _ _ _ => false)
def s_qOf : FnSpec := sp1 (.agg [.I, .i .i64]) (fun x => isi .i64 x ∧ -9223372036854775808 ≤ dz x ∧ dz x ≤ 9223372036854775807) (fun x i => match i with | 0 => tmI (dz x) | _ => teI (dz x) 0) (fun _ _ => false)
def s_qEqual : FnSpec := sp2 (.one .b) (fun x y => okE x ∧ okE y) (fun _ _ _ => 0) (fun x y _ => dx x == dx y && sameI x y)
def s_qSign : FnSpec := sp1 (.one (.i .i64)) okE (fun x _ => sg (dm x)) (fun _ _ => false)
def s_qTop : FnSpec := sp1 (.one (.i .i64)) canD (fun x _ => topI (dm x) (dx x)) (fun _ _ => false)
def s_qNeg : FnSpec := sp1 (.agg [.I, .i .i64]) canD (fun x i => match i with | 0 => tmI (-dm x) | _ => teI (-dm x) (dx x)) (fun _ _ => false)
def s_qScale : FnSpec := sp2 (.agg [.I, .i .i64]) (fun x y => canD x ∧ isi .i64 y) (fun x y i => match i with | 0 => tmI (dm x) | _ => teI (dm x) (dx x + min (max (dz y) (-20000)) 20000)) (fun _ _ _ => false)
def s_qMul : FnSpec := sp2 (.agg [.I, .i .i64]) (fun x y => okD x ∧ okD y ∧ dcn x ≤ 40000 ∧ dcn y ≤ 40000 ∧ Fit (dm x * dm y) 100000) (fun x y i => match i with | 0 => tmI (dm x * dm y) | _ => teI (dm x * dm y) (dx x + dx y)) (fun _ _ _ => false)
def s_qAdd : FnSpec := sp2 (.agg [.I, .i .i64]) (fun x y => canD x ∧ canD y ∧ near 60000 x y) (fun x y i => match i with | 0 => tmI (addM (dm x) (dx x) (dm y) (dx y)) | _ => teI (addM (dm x) (dx x) (dm y) (dx y)) (min (dx x) (dx y))) (fun _ _ _ => false)
def s_qSub : FnSpec := sp2 (.agg [.I, .i .i64]) (fun x y => canD x ∧ canD y ∧ near 60000 x y) (fun x y i => match i with | 0 => tmI (addM (dm x) (dx x) (-dm y) (dx y)) | _ => teI (addM (dm x) (dx x) (-dm y) (dx y)) (min (dx x) (dx y))) (fun _ _ _ => false)
def s_qCmp : FnSpec := sp2 (.one (.i .i64)) (fun x y => canD x ∧ canD y ∧ near 60000 x y) (fun x y _ => cmpD (dm x) (dx x) (dm y) (dx y)) (fun _ _ _ => false)
theorem Post.d0 {Q : Post} {m e : Int} (h : Q.R (.agg [.bool (N0.neg m), .sl (N0.ln m) (N0.lm m), .int .i64 e])) (hm : m = 0) (he : e = 0) : Q.R (.agg [.bool false, .sl 0 [], .int .i64 0]) := by
 subst hm he
 rw [N0_neg0, N0_ln0, N0_lm0] at h
 exact h
theorem N0_lnA {a b : Int} (h : a.natAbs = b.natAbs) : N0.ln a = N0.ln b := by show ln a.natAbs = ln b.natAbs; rw [h]
theorem N0_lmA {a b : Int} (h : a.natAbs = b.natAbs) : N0.lm a = N0.lm b := by show u32s (lim a.natAbs) = u32s (lim b.natAbs); rw [h]
theorem Post.dA {Q : Post} {m a b e e' : Int} {s : Bool} (h : Q.R (.agg [.bool (N0.neg m), .sl (N0.ln m) (N0.lm m), .int .i64 e])) (hs : N0.neg m = s) (h1 : m.natAbs = a.natAbs) (h2 : m.natAbs = b.natAbs) (he : e = e') : Q.R (.agg [.bool s, .sl (N0.ln a) (N0.lm b), .int .i64 e']) := by
 subst he hs
 rw [N0_lnA h1, N0_lmA h2] at h
 exact h
theorem ln_beq (z : Int) : ((N0.ln z : Int) == 0) = decide (z = 0) := by
 rw [Bool.eq_iff_iff, beq_iff_eq, decide_eq_true_eq]
 show ((ln z.natAbs : Nat) : Int) = 0 ↔ z = 0
 have := @ln_zero_iff z.natAbs
 omega
theorem natAbs_tmI {m : Int} (h : m ≠ 0) : (tmI m).natAbs = m.natAbs / 2 ^ tz m.natAbs := by
 unfold tmI
 rw [if_neg h, natAbs_ediv_pow (dvd_tz m)]
theorem neg_tmI (m : Int) : N0.neg (tmI m) = N0.neg m := by
 have h := tmI_mul m
 have hp := pow_pos' (tz m.natAbs)
 rw [neg_N0, neg_N0]
 rcases Int.lt_or_le (tmI m) 0 with h1 | h1
 ·have : tmI m * 2 ^ tz m.natAbs < 0 := Int.mul_neg_of_neg_of_pos h1 hp
  rw [decide_eq_true h1, decide_eq_true (by omega)]
 ·have : 0 ≤ tmI m * 2 ^ tz m.natAbs := Int.mul_nonneg h1 (Int.le_of_lt hp)
  rw [decide_eq_false (by omega), decide_eq_false (by omega)]
theorem clamp20 (k : Int) : (if (if 20000 < k then 20000 else k) > -20000 then if 20000 < k then 20000 else k else -20000) = min (max k (-20000)) 20000 := by
 simp only [Int.min_def, Int.max_def]
 repeat' split
 all_goals omega
theorem teI_ne {m e : Int} (h : m ≠ 0) : teI m e = e + tz m.natAbs := if_neg h
theorem tmI_neg (m : Int) : tmI (-m) = -tmI m := by
 by_cases h : m = 0
 ·rw [h]; rfl
 ·have h1 := tmI_mul m
  have h2 := tmI_mul (-m)
  rw [Int.natAbs_neg] at h2
  refine Int.eq_of_mul_eq_mul_right (Int.ne_of_gt (pow_pos' (tz m.natAbs))) ?_
  rw [h2, Int.neg_mul, h1]
theorem teI_neg (m e : Int) : teI (-m) e = teI m e := by
 unfold teI
 rw [Int.natAbs_neg]
 by_cases h : m = 0
 ·rw [if_pos h, if_pos (by omega)]
 ·rw [if_neg h, if_neg (by omega)]
theorem sg_tmI (m : Int) : sg (tmI m) = sg m := by
 rw [← sg_pow (tmI m) (tz m.natAbs), tmI_mul]
theorem teI_bound {m e : Int} {k : Nat} (h : Fit m k) : teI m e = 0 ∨ (m ≠ 0 ∧ e ≤ teI m e ∧ teI m e ≤ e + k) := by
 by_cases h0 : m = 0
 ·exact .inl (by rw [h0]; exact teI_zero _)
 ·have := tz_lt h h0
  exact .inr ⟨h0, by rw [teI_ne h0]; omega, by rw [teI_ne h0]; omega⟩
theorem ln_fit {z : Int} {n : Nat} (h : Fit z (32 * n)) : N0.ln z ≤ n := h.ln (Nat.le_refl _)
theorem wrap_32 (n : Nat) (h : n < 2) : IntKind.u32.wrap (n : Int) = n := by
 have : n = 0 ∨ n = 1 := by omega
 rcases this with rfl | rfl <;> decide
theorem and1 (x : Nat) (hx : x < 4294967296) : ((IntKind.u32.wrap ((BitVec.ofInt IntKind.u32.bits (x : Int) &&& BitVec.ofInt IntKind.u32.bits 1).toNat : Int)) == 1) = decide (x % 2 = 1) := by
 have h : (BitVec.ofInt IntKind.u32.bits (x : Int) &&& BitVec.ofInt IntKind.u32.bits 1).toNat = x % 2 := by
  rw [BitVec.toNat_and]
  have h1 : (BitVec.ofInt IntKind.u32.bits (x : Int)).toNat = x := by
   rw [BitVec.ofInt_natCast, BitVec.toNat_ofNat]
   exact Nat.mod_eq_of_lt hx
  have h2 : (BitVec.ofInt IntKind.u32.bits 1).toNat = 1 := by decide
  rw [h1, h2, Nat.and_one_is_mod]
 rw [h, wrap_32 _ (Nat.mod_lt _ (by decide)), Bool.eq_iff_iff, beq_iff_eq, decide_eq_true_eq]
 omega
theorem tz0_iff {N : Nat} (h : N ≠ 0) : tz N = 0 ↔ N % 2 = 1 := by
 constructor
 ·intro h1
  rcases Nat.mod_two_eq_zero_or_one N with h2 | h2
  ·rw [tz_even h h2] at h1; omega
  ·exact h2
 ·exact tz_odd
theorem heldN_nat {k : Nat} (h : k ≤ 100000) : heldN (k : Int) = k := by unfold heldN; omega
theorem fit_addM {z e v f : Int} (h1 : Fit z 32000) (h2 : Fit v 32000) (hn : z ≠ 0 → v ≠ 0 → e - min e f ≤ 60000 ∧ f - min f e ≤ 60000) : Fit (tmI (addM z e v f)) 96000 := by
 by_cases hz : z = 0
 ·rw [(addM_zl hz).1]; exact (h2.le (tmI_le v)).mono (by omega)
 ·by_cases hv : v = 0
  ·rw [(addM_zr hv).1]; exact (h1.le (tmI_le z)).mono (by omega)
  ·have := hn hz hv
   refine Fit.le ?_ (tmI_le _)
   exact Fit.add (h1.shl (m := 95000) (by omega)) (h2.shl (m := 95000) (by omega)) (by omega) (by omega)
theorem cmpD_sub (z e v f : Int) : cmpD z e v f = sg (addM z e (-v) f) := by
 unfold cmpD addM
 rw [Int.neg_mul, Int.sub_eq_add_neg]
theorem good_qExact : Good Tryz.prog (GWL [0, 1]) N0 87 s_qExact := by
 refine goodM 0 (gc good_rNorm <| gc good_rLow <| gc good_rShr gn) Tryz.f87 (by kernel_rfl) (by kernel_rfl) fun ds hp F A Q hF hA hQ => ?_
 obtain ⟨x, y, rfl, hx, hF1, hy, hk1, hk2⟩ := sp2_arg hp
 obtain ⟨s, n, cs, rfl, hc⟩ := okI_arg hx
 obtain ⟨k, rfl⟩ := isi_arg hy
 clear hp hx hy
 cbv
 repeat' (first | with_reducible refine And.intro ?_ ?_ | (with_reducible refine safe_lift hA ?_; kernel_rfl) | (intro hc_; cbv))
 all_goals (repeat (rw [safe_true hA, true_and]; rotate_left; kernel_rfl))
 all_goals subst hF hA
 all_goals simp only [fnOf, find, std, reduceIte, Nat.reduceEqDiff, sp1, sp2, a1, a2, FnSpec.out, Shape.build, leafs, leafCells, List.cons_append, List.nil_append, s_qExact, s_rNorm, s_rLow, s_rShr, dl, dz, dm_raw, vL_N0n] at *
 all_goals try simp only [ln_beq, decide_eq_true_eq, decide_eq_false_iff_not] at *
 all_goals generalize vI s cs = X at *
 case refine_1 => exact hc
 case refine_2.refine_1 => exact Post.d0 hQ (by rw [hc_, tmI_zero]) (by rw [hc_, teI_zero])
 all_goals
  have ht := tz_lt hF1 hc_
  have hN : heldN ((tz X.natAbs : Nat) : Int) = tz X.natAbs := heldN_nat (by omega)
  have ha := natAbs_tmI hc_
 case refine_2.refine_2.refine_1 => exact okC_fitN hF1 (by omega)
 case refine_2.refine_2.refine_2.refine_1 => exact ⟨okC_fitN hF1 (by omega), rfl⟩
 case refine_2.refine_2.refine_2.refine_2 =>
  rw [hN]
  exact Post.dA hQ (neg_tmI X) (by rw [Int.natAbs_natCast]; exact ha) (by rw [Int.natAbs_natCast]; exact ha) (by rw [teI_ne hc_]; exact (wrap_in (by omega) (by omega)).symm)
theorem good_qMake : Good Tryz.prog (GWL [0, 1]) N0 20 s_qMake := by
 refine goodM 0 (gc good_rNorm <| gc good_rLow <| gc good_rShr gn) Tryz.f20 (by kernel_rfl) (by kernel_rfl) fun ds hp F A Q hF hA hQ => ?_
 obtain ⟨x, y, rfl, hx, hF1, hy⟩ := sp2_arg hp
 obtain ⟨s, n, cs, rfl, hc⟩ := okI_arg hx
 obtain ⟨k, rfl⟩ := isi_arg hy
 clear hp hx hy
 cbv
 repeat' (first | with_reducible refine And.intro ?_ ?_ | (with_reducible refine safe_lift hA ?_; kernel_rfl) | (intro hc_; cbv))
 all_goals (repeat (rw [safe_true hA, true_and]; rotate_left; kernel_rfl))
 all_goals subst hF hA
 all_goals simp only [fnOf, find, std, reduceIte, Nat.reduceEqDiff, sp1, sp2, a1, a2, FnSpec.out, Shape.build, leafs, leafCells, List.cons_append, List.nil_append, s_qMake, s_rNorm, s_rLow, s_rShr, dl, dz, dm_raw, vL_N0n] at *
 all_goals try simp only [ln_beq, clamp20, decide_eq_true_eq, decide_eq_false_iff_not] at *
 all_goals generalize vI s cs = X at *
 case refine_1 => exact hc
 case refine_2.refine_1 => exact Post.d0 hQ (by rw [hc_, tmI_zero]) (by rw [hc_, teI_zero])
 all_goals
  have ht := tz_lt hF1 hc_
  have hN : heldN ((tz X.natAbs : Nat) : Int) = tz X.natAbs := heldN_nat (by omega)
  have ha := natAbs_tmI hc_
 case refine_2.refine_2.refine_1 => exact okC_fitN hF1 (by omega)
 case refine_2.refine_2.refine_2.refine_1 => exact ⟨okC_fitN hF1 (by omega), rfl⟩
 case refine_2.refine_2.refine_2.refine_2 =>
  rw [hN]
  exact Post.dA hQ (neg_tmI X) (by rw [Int.natAbs_natCast]; exact ha) (by rw [Int.natAbs_natCast]; exact ha) (by rw [teI_ne hc_]; exact (wrap_in (by omega) (by omega)).symm)
theorem good_qOf : Good Tryz.prog (GWL [0, 1]) N0 17 s_qOf := by
 refine goodM 0 (gc good_rOf <| gc good_qMake gn) Tryz.f17 (by kernel_rfl) (by kernel_rfl) fun ds hp F A Q hF hA hQ => ?_
 obtain ⟨x, rfl, hx, h1, h2⟩ := sp1_arg hp
 obtain ⟨k, rfl⟩ := isi_arg hx
 clear hp hx
 cbv
 repeat' (first | with_reducible refine And.intro ?_ ?_ | (with_reducible refine safe_lift hA ?_; kernel_rfl) | (intro hc_; cbv))
 all_goals (repeat (rw [safe_true hA, true_and]; rotate_left; kernel_rfl))
 all_goals subst hF hA
 all_goals simp only [fnOf, find, reduceIte, Nat.reduceEqDiff, sp1, sp2, a1, a2, FnSpec.out, Shape.build, leafs, leafCells, List.cons_append, List.nil_append, s_qOf, s_rOf, s_qMake, dz, dm_raw, vI_mk] at *
 all_goals try simp only [sgn_neg] at *
 all_goals have hk : Fit k 64 := by unfold Fit; omega
 case refine_1 => exact ⟨rfl, h1, h2⟩
 case refine_2.refine_1 => exact ⟨okC_fitN hk (by omega), hk.mono (by omega), rfl⟩
 case refine_2.refine_2 => exact hQ
theorem good_qEqual : Good Tryz.prog (GWL [0, 1]) N0 37 s_qEqual := by
 refine goodM 0 (gc good_rSameI gn) Tryz.f37 (by kernel_rfl) (by kernel_rfl) fun ds hp F A Q hF hA hQ => ?_
 obtain ⟨x, y, rfl, hx, hy⟩ := sp2_arg hp
 obtain ⟨s, n, cs, e, rfl, hc⟩ := okE_arg hx
 obtain ⟨t, m, es, f, rfl, hc2⟩ := okE_arg hy
 clear hp hx hy
 cbv
 repeat' (first | with_reducible refine And.intro ?_ ?_ | (with_reducible refine safe_lift hA ?_; kernel_rfl) | (intro hc_; cbv))
 all_goals (repeat (rw [safe_true hA, true_and]; rotate_left; kernel_rfl))
 all_goals subst hF hA
 all_goals simp only [fnOf, find, std, reduceIte, sp2, a2, FnSpec.out, Shape.build, leafCells, oneOf, s_qEqual, s_rSameI, dx] at *
 case refine_1.refine_1 => exact ⟨hc, hc2⟩
 case refine_1.refine_2 => exact Post.b hQ (by rw [hc_, Bool.true_and]; rfl)
 case refine_2 => exact Post.b hQ (by rw [hc_]; rfl)
theorem good_qSign : Good Tryz.prog (GWL [0, 1]) N0 19 s_qSign := by
 refine goodM 0 (gc good_rSign gn) Tryz.f19 (by kernel_rfl) (by kernel_rfl) fun ds hp F A Q hF hA hQ => ?_
 obtain ⟨x, rfl, hx⟩ := sp1_arg hp
 obtain ⟨s, n, cs, e, rfl, hc⟩ := okE_arg hx
 clear hp hx
 cbv
 repeat' (first | with_reducible refine And.intro ?_ ?_ | (with_reducible refine safe_lift hA ?_; kernel_rfl) | (intro hc_; cbv))
 all_goals (repeat (rw [safe_true hA, true_and]; rotate_left; kernel_rfl))
 all_goals subst hF hA
 all_goals simp only [fnOf, find, reduceIte, sp1, a1, FnSpec.out, Shape.build, leafCells, oneOf, s_qSign, s_rSign, dm_raw] at *
 case refine_1 => exact hc
 case refine_2 => exact hQ
theorem good_qTop : Good Tryz.prog (GWL [0, 1]) N0 164 s_qTop := by
 refine goodM 0 (gc good_qSign <| gc good_rBits gn) Tryz.f164 (by kernel_rfl) (by kernel_rfl) fun ds hp F A Q hF hA hQ => ?_
 obtain ⟨x, rfl, hx⟩ := sp1_arg hp
 obtain ⟨z, e, s, n, cs, rfl, hs, hn, hcs, hz, he, hfz, he1, he2⟩ := canD_arg hx
 clear hp hx
 cbv
 repeat' (first | with_reducible refine And.intro ?_ ?_ | (with_reducible refine safe_lift hA ?_; kernel_rfl) | (intro hc_; cbv))
 all_goals (repeat (rw [safe_true hA, true_and]; rotate_left; kernel_rfl))
 all_goals subst hF hA
 all_goals simp only [fnOf, find, std, reduceIte, Nat.reduceEqDiff, sp1, a1, FnSpec.out, Shape.build, leafCells, oneOf, s_qTop, s_qSign, s_rBits, dl, dx, dm_raw, decide_eq_true_eq, decide_eq_false_iff_not, sg_beq] at *
 all_goals subst hs hn hcs
 all_goals try simp only [vI_N0, vL_N0n] at *
 all_goals have hc : okC (N0.ln z) (N0.lm z) := okC_fitN hfz (by omega)
 all_goals have hln : N0.ln z ≤ 1000 := ln_fit hfz
 case refine_1 => exact hc
 case refine_2.refine_1 => exact Post.i hQ (if_pos hc_)
 case refine_2.refine_2.refine_1 => exact hc
 case refine_2.refine_2.refine_2 =>
  have h1 : nb z.natAbs ≤ 32000 := nb_le_of_lt hfz
  have hw : IntKind.i64.wrap ((nb z.natAbs : Int) - 1) = (nb z.natAbs : Int) - 1 := wrap_in (by omega) (by omega)
  rw [hw, wrap_in (by omega) (by omega)]
  exact Post.i hQ (if_neg hc_)
theorem good_qNeg : Good Tryz.prog (GWL [0, 1]) N0 108 s_qNeg := by
 refine goodM 0 (gc good_rNeg gn) Tryz.f108 (by kernel_rfl) (by kernel_rfl) fun ds hp F A Q hF hA hQ => ?_
 obtain ⟨x, rfl, hx⟩ := sp1_arg hp
 obtain ⟨z, e, s, n, cs, rfl, hs, hn, hcs, hz, he, hfz, he1, he2⟩ := canD_arg hx
 clear hp hx
 cbv
 repeat' (first | with_reducible refine And.intro ?_ ?_ | (with_reducible refine safe_lift hA ?_; kernel_rfl) | (intro hc_; cbv))
 all_goals (repeat (rw [safe_true hA, true_and]; rotate_left; kernel_rfl))
 all_goals subst hF hA
 all_goals simp only [fnOf, find, reduceIte, sp1, a1, FnSpec.out, Shape.build, leafs, leafCells, List.cons_append, List.nil_append, s_qNeg, s_rNeg, dx, dm_raw] at *
 all_goals subst hs hn hcs
 all_goals try simp only [vI_N0] at *
 all_goals have hc : okC (N0.ln z) (N0.lm z) := okC_fitN hfz (by omega)
 all_goals have hln : N0.ln z ≤ 1000 := ln_fit hfz
 case refine_1 => exact hc
 case refine_2 => exact Post.d hQ (by rw [tmI_neg, hz]) (by rw [teI_neg, he])
theorem good_qScale : Good Tryz.prog (GWL [0, 1]) N0 54 s_qScale := by
 refine goodM 0 (gc good_qSign gn) Tryz.f54 (by kernel_rfl) (by kernel_rfl) fun ds hp F A Q hF hA hQ => ?_
 obtain ⟨x, y, rfl, hx, hy⟩ := sp2_arg hp
 obtain ⟨z, e, s, n, cs, rfl, hs, hn, hcs, hz, he, hfz, he1, he2⟩ := canD_arg hx
 obtain ⟨k, rfl⟩ := isi_arg hy
 clear hp hx hy
 cbv
 repeat' (first | with_reducible refine And.intro ?_ ?_ | (with_reducible refine safe_lift hA ?_; kernel_rfl) | (intro hc_; cbv))
 all_goals (repeat (rw [safe_true hA, true_and]; rotate_left; kernel_rfl))
 all_goals subst hF hA
 all_goals simp only [fnOf, find, std, reduceIte, sp1, sp2, a1, a2, FnSpec.out, Shape.build, leafs, leafCells, List.cons_append, List.nil_append, s_qScale, s_qSign, dz, dx, dm_raw, decide_eq_true_eq, decide_eq_false_iff_not, sg_beq] at *
 all_goals subst hs hn hcs
 all_goals try simp only [vI_N0, min_if] at *
 all_goals have hc : okC (N0.ln z) (N0.lm z) := okC_fitN hfz (by omega)
 all_goals have hln : N0.ln z ≤ 1000 := ln_fit hfz
 case refine_1 => exact hc
 case refine_2.refine_1 => exact Post.d hQ hz (by rw [hc_, teI_zero]; rw [hc_, teI_zero] at he; exact he)
 case refine_2.refine_2 =>
  rw [wrap_in (by omega) (by omega)]
  refine Post.d hQ hz ?_
  rw [teI_ne hc_] at he ⊢
  omega
theorem good_qMul : Good Tryz.prog (GWL [0, 1]) N0 16 s_qMul := by
 refine goodM 0 (gc good_rMulI <| gc good_qExact gn) Tryz.f16 (by kernel_rfl) (by kernel_rfl) fun ds hp F A Q hF hA hQ => ?_
 obtain ⟨x, y, rfl, hx, hy, hb, hb2, hF1⟩ := sp2_arg hp
 obtain ⟨s, n, cs, e, rfl, hc, he1, he2⟩ := okD_arg hx
 obtain ⟨t, m, es, f, rfl, hc2, hf1, hf2⟩ := okD_arg hy
 clear hp hx hy
 cbv
 repeat' (first | with_reducible refine And.intro ?_ ?_ | (with_reducible refine safe_lift hA ?_; kernel_rfl) | (intro hc_; cbv))
 all_goals (repeat (rw [safe_true hA, true_and]; rotate_left; kernel_rfl))
 all_goals subst hF hA
 all_goals simp only [fnOf, find, std, reduceIte, Nat.reduceEqDiff, sp2, a2, FnSpec.out, Shape.build, leafs, leafCells, List.cons_append, List.nil_append, s_qMul, s_rMulI, s_qExact, dz, dx, dcn, dm_raw, vI_mk] at *
 all_goals try simp only [sgn_neg] at *
 all_goals have hw : IntKind.i64.wrap (e + f) = e + f := wrap_in (by omega) (by omega)
 case refine_1 => exact ⟨hc, hc2, by omega, by omega⟩
 case refine_2.refine_1 => exact ⟨okC_fitN hF1 (by omega), hF1, rfl, by omega, by omega⟩
 case refine_2.refine_2 => rw [hw]; exact hQ
theorem good_qAdd : Good Tryz.prog (GWL [0, 1]) N0 104 s_qAdd := by
 refine goodM 0 (gc good_rSign <| gc good_rShlI <| gc good_rAddI <| gc good_qExact gn) Tryz.f104 (by kernel_rfl) (by kernel_rfl) fun ds hp F A Q hF hA hQ => ?_
 obtain ⟨x, y, rfl, hx, hy, hnear⟩ := sp2_arg hp
 obtain ⟨z, e, s, n, cs, rfl, hs, hn, hcs, hz, he, hfz, he1, he2⟩ := canD_arg hx
 obtain ⟨v, f, t, m, es, rfl, ht, hm, hes, hv, hf, hfv, hf1, hf2⟩ := canD_arg hy
 clear hp hx hy
 cbv
 repeat' (first | with_reducible refine And.intro ?_ ?_ | (with_reducible refine safe_lift hA ?_; kernel_rfl) | (intro hc_; cbv))
 all_goals (repeat (rw [safe_true hA, true_and]; rotate_left; kernel_rfl))
 all_goals subst hF hA
 all_goals simp only [fnOf, find, std, reduceIte, Nat.reduceEqDiff, sp1, sp2, a1, a2, FnSpec.out, Shape.build, leafs, leafCells, List.cons_append, List.nil_append, s_qAdd, s_rSign, s_rShlI, s_rAddI, s_qExact, near, upx, dz, dx, dcn, dm_raw, vI_mk, decide_eq_true_eq, decide_eq_false_iff_not, sg_beq] at *
 all_goals subst hs hn hcs ht hm hes
 all_goals try simp only [vI_N0, sgn_neg, min_if] at *
 all_goals have hc : okC (N0.ln z) (N0.lm z) := okC_fitN hfz (by omega)
 all_goals have hln : N0.ln z ≤ 1000 := ln_fit hfz
 all_goals have hc2 : okC (N0.ln v) (N0.lm v) := okC_fitN hfv (by omega)
 all_goals have hln2 : N0.ln v ≤ 1000 := ln_fit hfv
 case refine_1 => exact hc
 case refine_2.refine_1 => exact Post.d hQ ((addM_zl hc_).1.trans hv) ((addM_zl hc_).2.trans hf)
 case refine_2.refine_2.refine_1 => exact hc2
 case refine_2.refine_2.refine_2.refine_1 => exact Post.d hQ ((addM_zr hc_).1.trans hz) ((addM_zr hc_).2.trans he)
 all_goals
  have hnr := hnear (by assumption) (by assumption)
  have hw1 : IntKind.i64.wrap (e - min e f) = e - min e f := wrap_in (by omega) (by omega)
  have hw2 : IntKind.i64.wrap (f - min e f) = f - min e f := wrap_in (by omega) (by omega)
  have hN1 : heldN (e - min e f) = (e - min e f).toNat := by unfold heldN; omega
  have hN2 : heldN (f - min e f) = (f - min e f).toNat := by unfold heldN; omega
  have hF1 : Fit (z * 2 ^ (e - min e f).toNat) 95000 := hfz.shl (by omega)
  have hF2 : Fit (v * 2 ^ (f - min e f).toNat) 95000 := hfv.shl (by omega)
  have hF3 : Fit (z * 2 ^ (e - min e f).toNat + v * 2 ^ (f - min e f).toNat) 96000 := hF1.add hF2 (by omega) (by omega)
  have hL1 : N0.ln (z * 2 ^ (e - min e f).toNat) ≤ 90000 := hF1.ln (by omega)
  have hL2 : N0.ln (v * 2 ^ (f - min e f).toNat) ≤ 90000 := hF2.ln (by omega)
  simp only [hw1, hw2, hN1, hN2]
 case refine_2.refine_2.refine_2.refine_2.refine_1 => exact ⟨hc, rfl, by omega, by omega⟩
 case refine_2.refine_2.refine_2.refine_2.refine_2.refine_1 => exact ⟨hc2, rfl, by omega, by omega⟩
 case refine_2.refine_2.refine_2.refine_2.refine_2.refine_2.refine_1 => exact ⟨okC_fitN hF1 (by omega), okC_fitN hF2 (by omega), hL1, hL2⟩
 case refine_2.refine_2.refine_2.refine_2.refine_2.refine_2.refine_2.refine_1 => exact ⟨okC_fitN hF3 (by omega), hF3.mono (by omega), rfl, by omega, by omega⟩
 case refine_2.refine_2.refine_2.refine_2.refine_2.refine_2.refine_2.refine_2 => exact hQ
theorem good_qSub : Good Tryz.prog (GWL [0, 1]) N0 103 s_qSub := by
 refine goodM 0 (gc good_qNeg <| gc good_qAdd gn) Tryz.f103 (by kernel_rfl) (by kernel_rfl) fun ds hp F A Q hF hA hQ => ?_
 obtain ⟨x, y, rfl, hx, hy, hnear⟩ := sp2_arg hp
 obtain ⟨z, e, s, n, cs, rfl, hs, hn, hcs, hz, he, hfz, he1, he2⟩ := canD_arg hx
 obtain ⟨v, f, t, m, es, rfl, ht, hm, hes, hv, hf, hfv, hf1, hf2⟩ := canD_arg hy
 clear hp hx hy
 cbv
 repeat' (first | with_reducible refine And.intro ?_ ?_ | (with_reducible refine safe_lift hA ?_; kernel_rfl) | (intro hc_; cbv))
 all_goals (repeat (rw [safe_true hA, true_and]; rotate_left; kernel_rfl))
 all_goals subst hF hA
 all_goals simp only [fnOf, find, reduceIte, Nat.reduceEqDiff, sp1, sp2, a1, a2, FnSpec.out, Shape.build, leafs, leafCells, List.cons_append, List.nil_append, s_qSub, s_qNeg, s_qAdd, near, upx, dx, dm_raw, vI_mk] at *
 all_goals subst hs hn hcs ht hm hes
 all_goals try simp only [vI_N0, sgn_neg] at *
 all_goals have hc : okC (N0.ln z) (N0.lm z) := okC_fitN hfz (by omega)
 all_goals have hln : N0.ln z ≤ 1000 := ln_fit hfz
 all_goals have hc2 : okC (N0.ln v) (N0.lm v) := okC_fitN hfv (by omega)
 all_goals have hln2 : N0.ln v ≤ 1000 := ln_fit hfv
 all_goals have hfn : Fit (-v) 32000 := hfv.neg
 all_goals have hvn : tmI (-v) = -v := by rw [tmI_neg, hv]
 all_goals have hvf : teI (-v) f = f := by rw [teI_neg, hf]
 all_goals try simp only [hvn, hvf]
 all_goals have hKz : canD (.agg [.bool (N0.neg z), .sl (N0.ln z) (N0.lm z), .int .i64 e]) := canD_N0 hz he hfz he1 he2
 all_goals have hKv : canD (.agg [.bool (N0.neg v), .sl (N0.ln v) (N0.lm v), .int .i64 f]) := canD_N0 hv hf hfv hf1 hf2
 all_goals have hKn : canD (.agg [.bool (N0.neg (-v)), .sl (N0.ln (-v)) (N0.lm (-v)), .int .i64 f]) := canD_N0 hvn hvf hfn hf1 hf2
 case refine_1 => exact hKv
 case refine_2.refine_1 => exact ⟨hKz, hKn, fun h1 h2 => hnear h1 (by omega)⟩
 case refine_2.refine_2 => exact hQ
theorem good_qCmp : Good Tryz.prog (GWL [0, 1]) N0 99 s_qCmp := by
 refine goodM 0 (gc good_qSub <| gc good_qSign gn) Tryz.f99 (by kernel_rfl) (by kernel_rfl) fun ds hp F A Q hF hA hQ => ?_
 obtain ⟨x, y, rfl, hx, hy, hnear⟩ := sp2_arg hp
 obtain ⟨z, e, s, n, cs, rfl, hs, hn, hcs, hz, he, hfz, he1, he2⟩ := canD_arg hx
 obtain ⟨v, f, t, m, es, rfl, ht, hm, hes, hv, hf, hfv, hf1, hf2⟩ := canD_arg hy
 clear hp hx hy
 cbv
 repeat' (first | with_reducible refine And.intro ?_ ?_ | (with_reducible refine safe_lift hA ?_; kernel_rfl) | (intro hc_; cbv))
 all_goals (repeat (rw [safe_true hA, true_and]; rotate_left; kernel_rfl))
 all_goals subst hF hA
 all_goals simp only [fnOf, find, reduceIte, Nat.reduceEqDiff, sp1, sp2, a1, a2, FnSpec.out, Shape.build, leafCells, oneOf, s_qCmp, s_qSub, s_qSign, near, upx, dx, dm_raw, vI_mk] at *
 all_goals subst hs hn hcs ht hm hes
 all_goals try simp only [vI_N0, sgn_neg] at *
 all_goals have hc : okC (N0.ln z) (N0.lm z) := okC_fitN hfz (by omega)
 all_goals have hln : N0.ln z ≤ 1000 := ln_fit hfz
 all_goals have hc2 : okC (N0.ln v) (N0.lm v) := okC_fitN hfv (by omega)
 all_goals have hln2 : N0.ln v ≤ 1000 := ln_fit hfv
 all_goals have hfn : Fit (-v) 32000 := hfv.neg
 all_goals have hvn : tmI (-v) = -v := by rw [tmI_neg, hv]
 all_goals have hvf : teI (-v) f = f := by rw [teI_neg, hf]
 all_goals try simp only [hvn, hvf]
 all_goals have hKz : canD (.agg [.bool (N0.neg z), .sl (N0.ln z) (N0.lm z), .int .i64 e]) := canD_N0 hz he hfz he1 he2
 all_goals have hKv : canD (.agg [.bool (N0.neg v), .sl (N0.ln v) (N0.lm v), .int .i64 f]) := canD_N0 hv hf hfv hf1 hf2
 all_goals have hKn : canD (.agg [.bool (N0.neg (-v)), .sl (N0.ln (-v)) (N0.lm (-v)), .int .i64 f]) := canD_N0 hvn hvf hfn hf1 hf2
 case refine_1 => exact ⟨hKz, hKv, hnear⟩
 case refine_2.refine_1 => exact okC_fitN (fit_addM hfz hfn fun h1 h2 => hnear h1 (by omega)) (by omega)
 case refine_2.refine_2 => exact Post.i hQ (by rw [sg_tmI]; exact cmpD_sub z e v f)
end Go.Proofs.YtnjjfakjnkhhjaaGreatDoor.Ev
