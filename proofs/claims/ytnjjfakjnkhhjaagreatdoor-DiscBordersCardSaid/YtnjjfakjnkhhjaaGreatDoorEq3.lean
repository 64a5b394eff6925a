import Derived.Test.YtnjjfakjnkhhjaaGreatDoorEq1
set_option maxHeartbeats 2000000
set_option maxRecDepth 100000
set_option linter.all false
namespace Go.Proofs.YtnjjfakjnkhhjaaGreatDoor.Ev
open Go Go.RowKit
def flX (S R k : Nat) : Nat := S * 2 ^ (32 * k) * (S * 2 ^ (32 * k)) + R
def flG (S R k : Nat) : Nat := rt (flX S R k) - S * 2 ^ (32 * k)
theorem fl_iff (S R k g : Nat) : (2 * S * 2 ^ (32 * k) + g) * g ≤ R ↔ g ≤ flG S R k := by
 unfold flG
 have h1 : S * 2 ^ (32 * k) ≤ rt (flX S R k) := le_rt (by unfold flX; omega)
 have h2 : ∀ P : Nat, (2 * S * P + g) * g + S * P * (S * P) = (S * P + g) * (S * P + g) := by intro P; grind
 have h3 := h2 (2 ^ (32 * k))
 constructor
 ·intro h
  have : S * 2 ^ (32 * k) + g ≤ rt (flX S R k) := le_rt (by unfold flX; omega)
  omega
 ·intro h
  have h4 : S * 2 ^ (32 * k) + g ≤ rt (flX S R k) := by omega
  have h5 := Nat.mul_le_mul h4 h4
  have h6 := (rt_spec (flX S R k)).1
  unfold flX at h6 h5
  omega
theorem fl_guess {S R k : Nat} (hS : 0 < S) : flG S R k ≤ R / 2 ^ (32 * k) / (2 * S) := by
 have h := (fl_iff S R k (flG S R k)).2 (Nat.le_refl _)
 have hp : 0 < 2 ^ (32 * k) := Nat.pow_pos (by decide)
 rw [Nat.div_div_eq_div_mul, Nat.le_div_iff_mul_le (Nat.mul_pos hp (by omega))]
 refine Nat.le_trans ?_ h
 rw [Nat.mul_comm (2 ^ (32 * k)), Nat.mul_comm]
 exact Nat.mul_le_mul_right _ (Nat.le_add_right _ _)
theorem fl_root (S R k : Nat) : S * 2 ^ (32 * k) + flG S R k = rt (flX S R k) := by
 unfold flG
 have h1 : S * 2 ^ (32 * k) ≤ rt (flX S R k) := le_rt (by unfold flX; omega)
 omega
theorem fl_left (S R k : Nat) : R - (2 * S * 2 ^ (32 * k) + flG S R k) * flG S R k = flX S R k - rt (flX S R k) * rt (flX S R k) := by
 have h2 : ∀ P g : Nat, (2 * S * P + g) * g + S * P * (S * P) = (S * P + g) * (S * P + g) := by intro P g; grind
 have h3 := h2 (2 ^ (32 * k)) (flG S R k)
 rw [fl_root] at h3
 have h6 := (rt_spec (flX S R k)).1
 unfold flX at h6 h3 ⊢
 omega
def s_kFollow : FnSpec := ⟨.tup [(false, [.L]), (false, [.L])], fun ds => match ds with | [.sl n cs, .sl m es, .int .i64 k] => okC n cs ∧ okC m es ∧ 0 < vL cs ∧ 0 ≤ k ∧ k ≤ m ∧ n ≤ 15000 ∧ m ≤ 30000 | _ => False,
 fun ds i => match ds with | [.sl _ cs, .sl _ es, .int _ k] => (match i with | 0 => ((rt (flX (vL cs).toNat (vL es).toNat k.toNat) : Nat) : Int) | _ => ((flX (vL cs).toNat (vL es).toNat k.toNat - rt (flX (vL cs).toNat (vL es).toNat k.toNat) * rt (flX (vL cs).toNat (vL es).toNat k.toNat) : Nat) : Int)) | _ => 0,
 fun _ _ => false, fun _ _ => 0, fun _ _ => []⟩
theorem follow_arg {ds : List D} (h : s_kFollow.p ds) : ∃ n cs m es k, ds = [.sl n cs, .sl m es, .int .i64 k] ∧ okC n cs ∧ okC m es ∧ 0 < vL cs ∧ 0 ≤ k ∧ k ≤ m ∧ n ≤ 15000 ∧ m ≤ 30000 := by
 match ds, h with
 | [.sl n cs, .sl m es, .int .i64 k], h => exact ⟨n, cs, m, es, k, rfl, h⟩
theorem okN {x b : Nat} (h : x < 2 ^ b) (hb : b ≤ 3200000) : okC (N0.ln ((x : Nat) : Int)) (N0.lm ((x : Nat) : Int)) := okC_fitN (k := b) (by unfold Fit; rw [Int.natAbs_natCast]; exact h) hb
theorem ln_okN {x b c : Nat} (h : x < 2 ^ b) (hb : b ≤ 32 * c) : N0.ln ((x : Nat) : Int) ≤ c := Fit.ln (k := b) (by unfold Fit; rw [Int.natAbs_natCast]; exact h) hb
theorem heldN_1 : heldN 1 = 1 := by unfold heldN; omega
theorem fl_sum {S P g n m : Nat} (hS : S < 2 ^ (32 * n)) (hP : P ≤ 2 ^ (32 * m)) (hg : g < 2 ^ (32 * m)) : 2 * S * P + g < 2 ^ (32 * n + 32 * m + 2) ∧ S * P + g < 2 ^ (32 * n + 32 * m + 2) ∧ (2 * S * P + g) * g < 2 ^ (32 * n + 64 * m + 2) := by
 have h1 : S * P ≤ 2 ^ (32 * n) * 2 ^ (32 * m) := Nat.mul_le_mul (Nat.le_of_lt hS) hP
 rw [← Nat.pow_add] at h1
 have h2 : 2 ^ (32 * m) ≤ 2 ^ (32 * n + 32 * m) := Nat.pow_le_pow_right (by decide) (by omega)
 have h3 : 2 ^ (32 * n + 32 * m + 2) = 4 * 2 ^ (32 * n + 32 * m) := by rw [Nat.pow_add, Nat.mul_comm]
 have h4 : 2 * S * P = 2 * (S * P) := Nat.mul_assoc ..
 have h5 : 2 * S * P + g < 2 ^ (32 * n + 32 * m + 2) := by omega
 refine ⟨h5, by omega, ?_⟩
 rw [show 32 * n + 64 * m + 2 = 32 * n + 32 * m + 2 + 32 * m by omega, Nat.pow_add _ (32 * n + 32 * m + 2)]
 exact Nat.mul_lt_mul'' h5 hg
theorem Post.two {Q : Post} {z z' y y' : Int} (h : Q.R (.tup [.sl (N0.ln z) (N0.lm z), .sl (N0.ln y) (N0.lm y)])) (hz : z' = z) (hy : y' = y) : Q.R (.tup [.sl (N0.ln z') (N0.lm z'), .sl (N0.ln y') (N0.lm y')]) := by
 subst hz hy; exact h
theorem slN {x y : Int} (h : x = y) : D.sl (N0.ln x) (N0.lm x) = D.sl (N0.ln y) (N0.lm y) := by rw [h]
theorem good_kFollow : Good Tryz.prog (GWL [0, 1]) N0 227 s_kFollow := by
 refine goodM 1 (gc good_nShl <| gc good_nDiv <| gc goodS_kAbove.weak <| gc good_nAdd <| gc good_nMul <| gc good_nSub gn) Tryz.f227 (by kernel_rfl) (by kernel_rfl) fun ds hp F A Q hF hA hQ => ?_
 obtain ⟨n, cs, m, es, k, rfl, hc, he, h0, hk0, hk1, hn, hm⟩ := follow_arg hp
 clear hp
 obtain ⟨K, rfl⟩ := Int.eq_ofNat_of_zero_le hk0
 obtain ⟨J, hJ⟩ : ∃ J : Nat → Int, ∀ j : Nat, J j = ((max ((vL es).toNat / 2 ^ (32 * K) / (2 * (vL cs).toNat) - (j + 1)) (flG (vL cs).toNat (vL es).toNat K) : Nat) : Int) := ⟨_, fun _ => rfl⟩
 obtain ⟨W, hW⟩ : ∃ W : Int, W = ((2 * (vL cs).toNat : Nat) : Int) := ⟨_, rfl⟩
 obtain ⟨N, hN⟩ : ∃ N, N = K := ⟨_, rfl⟩
 obtain ⟨M, hM⟩ : ∃ M : Nat, M = (vL es).toNat / 2 ^ (32 * K) / (2 * (vL cs).toNat) - flG (vL cs).toNat (vL es).toNat K := ⟨_, rfl⟩
 cbv
 refine scope_by 0 rfl (fun j st => ⟨((st.tmps.set 8 (.sl (F.ln W) (F.lm W))).set 9 (.slx N (A.zeros N [.int .u32 0]))).set 10 (.sl (F.ln (J j)) (F.lm (J j))), st.heap⟩) M ?_ (fun j hj => ?_)
 ·cbv
  repeat' (first | with_reducible refine And.intro ?_ ?_ | (with_reducible refine safe_lift hA ?_; kernel_rfl) | (intro hc_; cbv))
  all_goals (repeat (rw [safe_true hA, true_and]; rotate_left; kernel_rfl))
  all_goals subst hF hA
  all_goals simp only [fnOf, find, std, reduceIte, Nat.reduceEqDiff, sp1, sp2, a1, a2, FnSpec.out, Shape.build, leafs, leafCells, tups, oneOf, List.cons_append, List.nil_append, List.length_cons, List.length_nil, s_kFollow, s_nShl, s_nDiv, s_kAbove, s_nAdd, s_nMul, s_nSub, dl, dz, dx, dcn, dcs, dm_raw, vI_N0, decide_eq_true_eq, decide_eq_false_iff_not, sg_beq, min_if] at *
  all_goals
   have hS := vL_lt hc
   have hR := vL_lt he
   have hk1' : (K : Int) ≤ (m : Int) := hk1
   have hKm : K ≤ m := by omega
   clear hk1
   have hdr := drop_toNat he K
   have hS0 : 0 < (vL cs).toNat := by omega
   have hh : (vL cs).toNat * 2 ^ heldN 1 = 2 * (vL cs).toNat := by rw [heldN_1, Nat.pow_one, Nat.mul_comm]
   have h2S : 2 * (vL cs).toNat < 2 ^ (32 * n + 1) := by rw [Nat.pow_succ]; omega
   have o2 := okN h2S (by omega)
   have l2 : N0.ln ((2 * (vL cs).toNat : Nat) : Int) ≤ n + 1 := ln_okN h2S (by omega)
   have hP : 2 ^ (32 * K) ≤ 2 ^ (32 * m) := Nat.pow_le_pow_right (by decide) (by omega)
   have ha2 := app_toNat (q := K) o2
   have ha := app_toNat (q := K) hc
   have oz := okC_app (k := K) (n := 0) (cs := []) okC_nil (by omega)
   rw [List.append_nil, Nat.add_zero] at oz
   have o2z := okC_app (k := K) o2 (by omega)
   have ocz := okC_app (k := K) hc (by omega)
   have hG := fl_guess (R := (vL es).toNat) (k := K) hS0
   have hgR : (vL es).toNat / 2 ^ (32 * K) / (2 * (vL cs).toNat) ≤ (vL es).toNat := Nat.le_trans (Nat.div_le_self _ _) (Nat.div_le_self _ _)
   have hle := fl_iff (vL cs).toNat (vL es).toNat K
   have hrt := fl_root (vL cs).toNat (vL es).toNat K
   have hlf := fl_left (vL cs).toNat (vL es).toNat K
   simp only [Int.ofNat_eq_natCast, Int.toNat_natCast] at *
   simp only [hh, hdr, vL_N0n, Int.natAbs_natCast, ha2, ha, hJ, hW, hN, vL_1] at *
  all_goals
   generalize (vL cs).toNat = S at *
   generalize (vL es).toNat = X at *
   generalize flG S X K = G at *
   generalize X / 2 ^ (32 * K) / (2 * S) = g0 at *
  all_goals
   have hg : g0 < 2 ^ (32 * m) := by omega
   have hgG : G ≤ g0 := hG
   have hcas := hle (g0)
   obtain ⟨f1, f2, f3⟩ := fl_sum (P := 2 ^ (32 * K)) hS hP hg
   generalize hgg : g0 = g at *
  all_goals (try simp only [Bool.not_eq_true', Bool.not_eq_false', decide_eq_true_eq, decide_eq_false_iff_not] at hc_)
  all_goals first
   | exact ⟨hc, rfl⟩
   | exact ⟨by omega, by omega⟩
   | exact ⟨by omega, by omega, he.2.1⟩
   | exact ⟨okC_drop he, o2⟩
   | exact ⟨o2, oz, Nat.le_trans (Nat.add_le_add_left l2 _) (by omega)⟩
   | exact ⟨o2z, okN hg (by omega)⟩
   | exact ⟨okN f1 (by omega), okN hg (by omega)⟩
   | exact ⟨he, okN f3 (by omega)⟩
   | exact ⟨okN hg (by omega), okC_1⟩
   | exact ⟨hc, oz, by omega⟩
   | exact ⟨ocz, okN hg (by omega)⟩
   | (show j + 1 ≤ M; omega)
   | exact slN (congrArg Nat.cast (by omega))
   | (have hgG2 : g = G := by omega
      subst hgG2
      refine Post.two hQ ?_ ?_
      ·rw [hrt]
      ·rw [hlf])
   | trace_state
 ·cbv
  repeat' (first | with_reducible refine And.intro ?_ ?_ | (with_reducible refine safe_lift hA ?_; kernel_rfl) | (intro hc_; cbv))
  all_goals (repeat (rw [safe_true hA, true_and]; rotate_left; kernel_rfl))
  all_goals subst hF hA
  all_goals simp only [fnOf, find, std, reduceIte, Nat.reduceEqDiff, sp1, sp2, a1, a2, FnSpec.out, Shape.build, leafs, leafCells, tups, oneOf, List.cons_append, List.nil_append, List.length_cons, List.length_nil, s_kFollow, s_nShl, s_nDiv, s_kAbove, s_nAdd, s_nMul, s_nSub, dl, dz, dx, dcn, dcs, dm_raw, vI_N0, decide_eq_true_eq, decide_eq_false_iff_not, sg_beq, min_if] at *
  all_goals
   have hS := vL_lt hc
   have hR := vL_lt he
   have hk1' : (K : Int) ≤ (m : Int) := hk1
   have hKm : K ≤ m := by omega
   clear hk1
   have hdr := drop_toNat he K
   have hS0 : 0 < (vL cs).toNat := by omega
   have hh : (vL cs).toNat * 2 ^ heldN 1 = 2 * (vL cs).toNat := by rw [heldN_1, Nat.pow_one, Nat.mul_comm]
   have h2S : 2 * (vL cs).toNat < 2 ^ (32 * n + 1) := by rw [Nat.pow_succ]; omega
   have o2 := okN h2S (by omega)
   have l2 : N0.ln ((2 * (vL cs).toNat : Nat) : Int) ≤ n + 1 := ln_okN h2S (by omega)
   have hP : 2 ^ (32 * K) ≤ 2 ^ (32 * m) := Nat.pow_le_pow_right (by decide) (by omega)
   have ha2 := app_toNat (q := K) o2
   have ha := app_toNat (q := K) hc
   have oz := okC_app (k := K) (n := 0) (cs := []) okC_nil (by omega)
   rw [List.append_nil, Nat.add_zero] at oz
   have o2z := okC_app (k := K) o2 (by omega)
   have ocz := okC_app (k := K) hc (by omega)
   have hG := fl_guess (R := (vL es).toNat) (k := K) hS0
   have hgR : (vL es).toNat / 2 ^ (32 * K) / (2 * (vL cs).toNat) ≤ (vL es).toNat := Nat.le_trans (Nat.div_le_self _ _) (Nat.div_le_self _ _)
   have hle := fl_iff (vL cs).toNat (vL es).toNat K
   have hrt := fl_root (vL cs).toNat (vL es).toNat K
   have hlf := fl_left (vL cs).toNat (vL es).toNat K
   simp only [Int.ofNat_eq_natCast, Int.toNat_natCast] at *
   simp only [hh, hdr, vL_N0n, Int.natAbs_natCast, ha2, ha, hJ, hW, hN, vL_1] at *
  all_goals
   generalize (vL cs).toNat = S at *
   generalize (vL es).toNat = X at *
   generalize flG S X K = G at *
   generalize X / 2 ^ (32 * K) / (2 * S) = g0 at *
  all_goals
   have hg : max (g0 - (j + 1)) G < 2 ^ (32 * m) := by omega
   have hgG : G ≤ max (g0 - (j + 1)) G := Nat.le_max_right _ _
   have hcas := hle (max (g0 - (j + 1)) G)
   obtain ⟨f1, f2, f3⟩ := fl_sum (P := 2 ^ (32 * K)) hS hP hg
   generalize hgg : max (g0 - (j + 1)) G = g at *
  all_goals (try simp only [Bool.not_eq_true', Bool.not_eq_false', decide_eq_true_eq, decide_eq_false_iff_not] at hc_)
  all_goals first
   | exact ⟨hc, rfl⟩
   | exact ⟨by omega, by omega⟩
   | exact ⟨by omega, by omega, he.2.1⟩
   | exact ⟨okC_drop he, o2⟩
   | exact ⟨o2, oz, Nat.le_trans (Nat.add_le_add_left l2 _) (by omega)⟩
   | exact ⟨o2z, okN hg (by omega)⟩
   | exact ⟨okN f1 (by omega), okN hg (by omega)⟩
   | exact ⟨he, okN f3 (by omega)⟩
   | exact ⟨okN hg (by omega), okC_1⟩
   | exact ⟨hc, oz, by omega⟩
   | exact ⟨ocz, okN hg (by omega)⟩
   | (show j + 1 ≤ M; omega)
   | exact slN (congrArg Nat.cast (by omega))
   | (have hgG2 : g = G := by omega
      subst hgG2
      refine Post.two hQ ?_ ?_
      ·rw [hrt]
      ·rw [hlf])
   | trace_state
end Go.Proofs.YtnjjfakjnkhhjaaGreatDoor.Ev
