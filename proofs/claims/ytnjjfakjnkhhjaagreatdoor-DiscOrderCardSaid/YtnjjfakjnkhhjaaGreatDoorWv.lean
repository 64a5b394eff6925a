import Derived.Test.YtnjjfakjnkhhjaaGreatDoorXc
import Derived.Test.YtnjjfakjnkhhjaaGreatDoorRoot
set_option maxHeartbeats 2000000
set_option maxRecDepth 100000
set_option linter.all false
namespace Go.Proofs.YtnjjfakjnkhhjaaGreatDoor.Ev
open Go Go.RowKit
def okK : D → Prop | .sl n cs => ∃ N : Nat, n = N0.ln N ∧ cs = N0.lm N | _ => False
theorem okK_arg {x : D} (h : okK x) : ∃ (N n : Nat) (cs : List D), x = .sl n cs ∧ N0.ln N = n ∧ N0.lm N = cs := by
 match x, h with
 | .sl n cs, ⟨N, h1, h2⟩ => exact ⟨N, n, cs, rfl, h1.symm, h2.symm⟩
def dlN (x : D) : Nat := (dl x).toNat
theorem okL_C {n : Nat} {cs : List D} (h : okC n cs) : okL (.sl n cs) := h
theorem vL_nn (cs : List D) : ∃ N : Nat, vL cs = N := ⟨_, rfl⟩
theorem ln_neg (z : Int) : N0.ln (-z) = N0.ln z := by unfold N0; dsimp only; rw [Int.natAbs_neg]
theorem lm_neg (z : Int) : N0.lm (-z) = N0.lm z := by unfold N0; dsimp only; rw [Int.natAbs_neg]
theorem ln_pos_nat (N : Nat) : (0 : Int) < ((N0.ln (N : Int) : Nat) : Int) ↔ N ≠ 0 := by
 unfold N0; dsimp only
 have : ln N = 0 ↔ N = 0 := ln_zero_iff
 rw [Int.natAbs_natCast]; omega
def sgz (s : Int) (N : Nat) : Int := if s < 0 then -(N : Int) else N
theorem sgz_n {s : Int} {N : Nat} (h : s < 0) : sgz s N = -(N : Int) := if_pos h
theorem sgz_p {s : Int} {N : Nat} (h : ¬s < 0) : sgz s N = N := if_neg h
theorem neg_sgz {s : Int} {N : Nat} (h : s < 0) : N0.neg (sgz s N) = decide ((0 : Int) < ((N0.ln (N : Int) : Nat) : Int)) := by
 rw [sgz_n h]
 show decide (-(N : Int) < 0) = _
 rw [Bool.eq_iff_iff, decide_eq_true_iff, decide_eq_true_iff, ln_pos_nat]; omega
theorem neg_sgzp {s : Int} {N : Nat} (h : ¬s < 0) : N0.neg (sgz s N) = false := by
 rw [sgz_p h]
 show decide ((N : Int) < 0) = _
 rw [decide_eq_false]; omega
theorem ln_sgz (s : Int) (N : Nat) : N0.ln (sgz s N) = N0.ln (N : Int) := by
 unfold sgz; split
 ·rw [ln_neg]
 ·rfl
theorem lm_sgz (s : Int) (N : Nat) : N0.lm (sgz s N) = N0.lm (N : Int) := by
 unfold sgz; split
 ·rw [lm_neg]
 ·rfl
theorem sgz_vI (s : Bool) (cs : List D) : sgz (sg (vI s cs)) (vL cs).toNat = vI s cs := by
 unfold sgz vI vL
 rw [Int.toNat_natCast]
 by_cases h : sg (sgn s (val (nums cs))) < 0
 ·rw [if_pos h]; rw [sg_sign] at h; cases s
  ·simp only [sgn_false] at h; omega
  ·rw [sgn_true]
 ·rw [if_neg h]; rw [sg_sign] at h; cases s
  ·rw [sgn_false]
  ·rw [sgn_true] at h ⊢; omega
theorem sgz_neg (s : Bool) (cs : List D) : sgz (-sg (vI s cs)) (vL cs).toNat = -vI s cs := by
 have := sgz_vI s cs
 rcases sg_cases (vI s cs) with ⟨h, e⟩ | ⟨h, e⟩ | ⟨h, e⟩
 ·rw [e] at this ⊢; rw [sgz_n (by omega)] at this; rw [sgz_p (by omega)]; omega
 ·rw [e] at this ⊢; rw [sgz_p (by omega)] at this; rw [show -(0 : Int) = 0 from rfl, sgz_p (by omega)]; omega
 ·rw [e] at this ⊢; rw [sgz_p (by omega)] at this; rw [sgz_n (by omega)]; omega
theorem vL_vI (s : Bool) (cs : List D) : vL cs = ((vI s cs).natAbs : Nat) := by unfold vL vI; rw [sgn_natAbs]
theorem vL_zero {s : Bool} {cs : List D} : vL cs = 0 ↔ vI s cs = 0 := by rw [vL_vI s]; omega
theorem vI_sign {s : Bool} {cs : List D} (h : vL cs ≠ 0) : sg (vI s cs) = if s = true then -1 else 1 := by
 have h1 : 0 < vL cs := by have h2 : 0 ≤ vL cs := Int.natCast_nonneg _; omega
 unfold vI vL at *
 cases s
 ·rw [sgn_false, sg_pos (by omega)]; rfl
 ·rw [sgn_true, sg_neg (by omega)]; rfl
theorem nb_vL (cs : List D) : ((nb (vL cs).toNat : Nat) : Int) = 0 ↔ vL cs = 0 := by
 unfold vL; rw [Int.toNat_natCast]
 have := nb_zero_iff (n := val (nums cs))
 omega
def s_wSigned : FnSpec := sp2 (.agg [.I]) (fun x y => isi .i64 x ∧ okK y) (fun x y _ => sgz (dz x) (dlN y)) (fun _ _ _ => false)
def s_nTrm : FnSpec := sp1 (.one .L) okL (fun x _ => dl x) (fun _ _ => false)
section
variable {G : World → Prop}
theorem good_nTrm : Good Tryz.prog G N0 190 s_nTrm := by
 refine ⟨callable (by kernel_rfl), fun ds hp => ?_⟩
 obtain ⟨x, rfl, hx⟩ := sp1_arg hp
 obtain ⟨n, cs, rfl, hc⟩ := okL_arg hx
 refine s_L hc fun X w A c hG hX hl => ?_
 have hn := hc.2.2.2
 exact (trim_any w A n c (nums cs) hl).mono fun _ _ h => tellsL h hX
end
theorem good_nLow0 : Good Tryz.prog (GWL [0]) N0 186 s_nLow := good_nLow fun _ h => tab_at h (by decide)
theorem dm_N0 (z : Int) (r : List D) : dm (.agg (.bool (N0.neg z) :: .sl (N0.ln z) (N0.lm z) :: r)) = z := vI_N0 z
theorem dm_raw (s : Bool) (n : Nat) (cs r : List D) : dm (.agg (.bool s :: .sl n cs :: r)) = vI s cs := rfl
theorem dl_N0 (z : Int) (n : Nat) : dl (.sl n (N0.lm z)) = z.natAbs := vL_N0 z
theorem Post.W {Q : Post} {s : Int} {N : Nat} {z : Int} {b : Bool} (h : Q.R (.agg [.bool (N0.neg z), .sl (N0.ln z) (N0.lm z)])) (hz : z = sgz s N) (hb : b = N0.neg z) : Q.R (.agg [.bool b, .sl (N0.ln (N : Int)) (N0.lm (N : Int))]) := by
 rw [hb]; rw [hz] at h ⊢; rw [ln_sgz, lm_sgz] at h; exact h
theorem Post.Z {Q : Post} {z z' : Int} (h : Q.R (.agg [.bool (N0.neg z), .sl (N0.ln z) (N0.lm z)])) (hz : z' = z) : Q.R (.agg [.bool (N0.neg z'), .sl (N0.ln z') (N0.lm z')]) := by rw [hz]; exact h
theorem Post.v {Q : Post} {k : IntKind} {a b : Int} (h : Q.R (.int k a)) (hab : b = a) : Q.R (.int k b) := hab ▸ h
theorem Post.t {Q : Post} {a b : Bool} (h : Q.R (.bool a)) (hab : b = a) : Q.R (.bool b) := hab ▸ h
def s_nanI : FnSpec := sp1 (.one .b) (isi .i64) (fun _ _ => 0) (fun _ _ => false)
def s_cmpI : FnSpec := sp2 (.one (.i .i64)) (fun x y => isi .i64 x ∧ isi .i64 y) (fun x y _ => sg (dz x - dz y)) (fun _ _ _ => false)
theorem sg_in (z : Int) : -1 ≤ sg z ∧ sg z ≤ 1 := by rcases sg_cases z with ⟨_, h⟩ | ⟨_, h⟩ | ⟨_, h⟩ <;> omega
theorem wrap_sg (z : Int) : IntKind.i64.wrap (sg z) = sg z := IntWalk.i64_in _ (by have := sg_in z; omega)
theorem wrap_nsg (z : Int) : IntKind.i64.wrap (0 - sg z) = -sg z := by rw [show 0 - sg z = -sg z by omega]; exact IntWalk.i64_in _ (by have := sg_in z; omega)
theorem okK_nat (N : Nat) : okK (.sl (N0.ln (N : Int)) (N0.lm (N : Int))) := ⟨N, rfl, rfl⟩
theorem Post.N {Q : Post} {s : Bool} {cs : List D} {b : Bool} (h : Q.R (.agg [.bool (N0.neg (vI s cs)), .sl (N0.ln (vI s cs)) (N0.lm (vI s cs))])) (hb : b = N0.neg (vI s cs)) : Q.R (.agg [.bool b, .sl (N0.ln (vL cs)) (N0.lm (vL cs))]) := by
 have e1 : N0.ln (vL cs) = N0.ln (vI s cs) := by unfold N0; dsimp only; rw [vL_vI s, Int.natAbs_natCast]
 have e2 : N0.lm (vL cs) = N0.lm (vI s cs) := by unfold N0; dsimp only; rw [vL_vI s, Int.natAbs_natCast]
 rw [hb, e1, e2]; exact h
theorem ln_vL_pos (s : Bool) (cs : List D) : (0 : Int) < ((N0.ln (vL cs) : Nat) : Int) ↔ vI s cs ≠ 0 := by
 rw [show vL cs = ((vI s cs).natAbs : Nat) from vL_vI s cs, ln_pos_nat]; omega
theorem neg_vI_p {cs : List D} {s : Bool} (h : (0 : Int) < ((N0.ln (vL cs) : Nat) : Int)) (hs : s = true) : N0.neg (vI s cs) = true := by
 rw [ln_vL_pos s] at h; subst hs
 show decide (vI true cs < 0) = true
 rw [decide_eq_true_iff]; unfold vI at *; rw [sgn_true] at *; omega
theorem neg_vI_0 {cs : List D} {s : Bool} (h : ¬(0 : Int) < ((N0.ln (vL cs) : Nat) : Int)) : N0.neg (vI s cs) = false := by
 rw [ln_vL_pos s] at h
 show decide (vI s cs < 0) = false
 rw [decide_eq_false_iff_not]; omega
theorem neg_vI_n {cs : List D} {s : Bool} (hs : s = false) : N0.neg (vI s cs) = false := by
 subst hs
 show decide (vI false cs < 0) = false
 rw [decide_eq_false_iff_not]; unfold vI; rw [sgn_false]; omega
theorem ln_int0 (z : Int) : ((N0.ln z : Nat) : Int) = 0 ↔ z = 0 := by
 unfold N0; dsimp only
 have := ln_zero_iff (n := z.natAbs)
 omega
theorem sg_dif {X Y : Int} (h : ¬sg X = sg Y) : sg (sg X - sg Y) = sg (X - Y) := by
 rcases sg_cases X with ⟨h1, e1⟩ | ⟨h1, e1⟩ | ⟨h1, e1⟩ <;> rcases sg_cases Y with ⟨h2, e2⟩ | ⟨h2, e2⟩ | ⟨h2, e2⟩ <;> rw [e1, e2] at h ⊢ <;> first
  | omega
  | (rw [sg_neg (by omega), sg_neg (by omega)])
  | (rw [sg_pos (by omega), sg_pos (by omega)])
theorem sg_cmpZ {X Y : Int} (h : sg X = sg Y) : sg X * cmpN X.natAbs Y.natAbs = sg (X - Y) := by
 unfold cmpN
 rcases sg_cases X with ⟨a1, e1⟩ | ⟨a1, e1⟩ | ⟨a1, e1⟩ <;> rcases sg_cases Y with ⟨a2, e2⟩ | ⟨a2, e2⟩ | ⟨a2, e2⟩ <;> rw [e1, e2] at h <;> first
  | omega
  | (rw [e1]; rcases Int.lt_trichotomy X Y with g | g | g
     ·rw [sg_neg (X := X - Y) (by omega)]; (repeat' split) <;> omega
     ·rw [sg_zero (X := X - Y) (by omega)]; (repeat' split) <;> omega
     ·rw [sg_pos (X := X - Y) (by omega)]; (repeat' split) <;> omega)
theorem sg_cmp {s t : Bool} {cs es : List D} (h : sg (vI s cs) = sg (vI t es)) : IntKind.i64.wrap (sg (vI s cs) * cmpN (vL cs).toNat (vL es).toNat) = sg (vI s cs - vI t es) := by
 rw [vL_vI s cs, vL_vI t es, Int.toNat_natCast, Int.toNat_natCast, sg_cmpZ h, wrap_sg]
theorem pow_cast (k : Nat) : ((2 ^ k : Nat) : Int) = 2 ^ k := by rw [Int.natCast_pow]; rfl
theorem tw0 : IntKind.i64.wrap 0 = 0 := by decide
theorem tw1 : IntKind.i64.wrap 1 = 1 := by decide
theorem tw2 : IntKind.i64.wrap 2 = 2 := by decide
theorem wrap_sg1 (X : Int) : IntKind.i64.wrap (sg X + 1) = sg X + 1 := IntWalk.i64_in _ (by have := sg_in X; omega)
theorem in3 (X : Int) : 0 ≤ IntKind.i64.wrap (sg X + 1) ∧ IntKind.i64.wrap (sg X + 1) < ((3 : Nat) : Int) := by rw [wrap_sg1]; have := sg_in X; omega
theorem idx9 (X Y : Int) : 0 + (IntKind.i64.wrap (sg X + 1)).toNat * 3 + (IntKind.i64.wrap (sg Y + 1)).toNat * 1 < 9 := by rw [wrap_sg1, wrap_sg1]; have := sg_in X; have := sg_in Y; omega
theorem mul_tab (X Y : Int) : ([1, 0, -1, 0, 0, 0, -1, 0, 1] : List Int).getD (0 + (IntKind.i64.wrap (sg X + 1)).toNat * 3 + (IntKind.i64.wrap (sg Y + 1)).toNat * 1) 0 = sg X * sg Y := by
 rw [wrap_sg1, wrap_sg1]
 rcases sg_cases X with ⟨_, h⟩ | ⟨_, h⟩ | ⟨_, h⟩ <;> rcases sg_cases Y with ⟨_, k⟩ | ⟨_, k⟩ | ⟨_, k⟩ <;> rw [h, k] <;> decide
theorem sgz_mul (s t : Bool) (cs es : List D) : sgz (sg (vI s cs) * sg (vI t es)) ((vL cs).toNat * (vL es).toNat) = vI s cs * vI t es := by
 have h := sgz_vI s cs
 have k := sgz_vI t es
 obtain ⟨X, hX⟩ : ∃ X, vI s cs = X := ⟨_, rfl⟩
 obtain ⟨Y, hY⟩ : ∃ Y, vI t es = Y := ⟨_, rfl⟩
 obtain ⟨M, hM⟩ : ∃ M, (vL cs).toNat = M := ⟨_, rfl⟩
 obtain ⟨N, hN⟩ : ∃ N, (vL es).toNat = N := ⟨_, rfl⟩
 rw [hX, hM] at h; rw [hY, hN] at k; rw [hX, hY, hM, hN]
 unfold sgz at *
 rcases sg_cases X with ⟨a1, e1⟩ | ⟨a1, e1⟩ | ⟨a1, e1⟩ <;> rcases sg_cases Y with ⟨a2, e2⟩ | ⟨a2, e2⟩ | ⟨a2, e2⟩ <;> rw [e1] at h ⊢ <;> rw [e2] at k ⊢ <;> simp at h k <;> rw [← h, ← k] <;> simp <;> first
  | (rw [Int.neg_mul_neg]; done)
  | (rw [Int.neg_mul]; done)
  | (rw [Int.mul_neg]; done)
  | (have h0 : (N : Int) = 0 := by omega
     rw [h0]; simp; done)
  | (have h0 : (M : Int) = 0 := by omega
     rw [h0]; simp; done)
theorem sum_pp (M N : Nat) : 1 * (M : Int) + 1 * (N : Int) = sgz 1 (M + N) := by rw [sgz_p (by decide)]; omega
theorem sum_nn (M N : Nat) : -1 * (M : Int) + -1 * (N : Int) = sgz (-1) (M + N) := by rw [sgz_n (by decide)]; omega
theorem sub_p {M N : Nat} (h : N ≤ M) : 1 * (M : Int) + -1 * (N : Int) = sgz 1 (M - N) := by rw [sgz_p (by decide)]; omega
theorem sub_nW {M N : Nat} (h : N ≤ M) : -1 * (M : Int) + 1 * (N : Int) = sgz (-1) (M - N) := by rw [sgz_n (by decide)]; omega
theorem sub_p' {M N : Nat} (h : ¬N ≤ M) : -1 * (M : Int) + 1 * (N : Int) = sgz 1 (N - M) := by rw [sgz_p (by decide)]; omega
theorem sub_nW' {M N : Nat} (h : ¬N ≤ M) : 1 * (M : Int) + -1 * (N : Int) = sgz (-1) (N - M) := by rw [sgz_n (by decide)]; omega
theorem shr_p {s : Bool} {cs : List D} (h : ¬sg (vI s cs) < 0) (j : Nat) : vI s cs / 2 ^ j = sgz (sg (vI s cs)) ((vL cs).toNat / 2 ^ j) := by
 have k := sgz_vI s cs
 rw [sgz_p h] at k ⊢
 rw [← k, Int.natCast_ediv, pow_cast]
theorem shr_nW {s : Bool} {cs : List D} (h : sg (vI s cs) < 0) {j : Nat} (hd : 2 ^ j ∣ (vL cs).toNat) : vI s cs / 2 ^ j = sgz (sg (vI s cs)) ((vL cs).toNat / 2 ^ j) := by
 have k := sgz_vI s cs
 rw [sgz_n h] at k ⊢
 obtain ⟨q, hq⟩ := hd
 have h2 : (0 : Int) < 2 ^ j := Int.pow_pos (by decide)
 rw [← k, hq, Nat.mul_div_cancel_left _ (Nat.pow_pos (by decide)), Int.natCast_mul, pow_cast, ← Int.mul_neg, Int.mul_ediv_cancel_left _ (by omega)]
theorem shr_m {s : Bool} {cs : List D} (h : sg (vI s cs) < 0) {j : Nat} (hd : ¬2 ^ j ∣ (vL cs).toNat) : vI s cs / 2 ^ j = sgz (sg (vI s cs)) ((vL cs).toNat / 2 ^ j + 1) := by
 have k := sgz_vI s cs
 rw [sgz_n h] at k ⊢
 obtain ⟨M, hM⟩ : ∃ M, M = (vL cs).toNat := ⟨_, rfl⟩
 rw [← hM] at k hd ⊢
 obtain ⟨P, hP⟩ : ∃ P, P = 2 ^ j := ⟨_, rfl⟩
 have h2 : 0 < P := by rw [hP]; exact Nat.pow_pos (by decide)
 rw [← k, ← pow_cast, ← hP]
 rw [← hP] at hd
 have e := Nat.div_add_mod M P
 have l := Nat.mod_lt M h2
 have h0 : M % P ≠ 0 := fun h => hd (Nat.dvd_of_mod_eq_zero h)
 obtain ⟨q, hq⟩ : ∃ q, q = M / P := ⟨_, rfl⟩
 obtain ⟨r, hr⟩ : ∃ r, r = M % P := ⟨_, rfl⟩
 rw [← hq, ← hr] at e; rw [← hr] at l h0; rw [← hq]
 have e2 : -(M : Int) = -((q : Int) + 1) * (P : Int) + ((P : Int) - r) := by
  rw [← e, Int.natCast_add, Int.natCast_mul, Int.neg_mul, Int.add_mul, Int.one_mul, Int.mul_comm (P : Int)]; omega
 rw [e2, Int.add_comm, Int.add_mul_ediv_right _ _ (by omega), Int.ediv_eq_zero_of_lt (by omega) (by omega)]
 omega
theorem vL_1W : (vL [.int .u32 1]).toNat = 1 := by decide
theorem okC_one1 : okC 1 [.int .u32 1] := by
 refine ⟨rfl, rfl, ?_, by omega⟩
 exact Ok.of_mem fun x hx => by rw [show nums [.int .u32 1] = [1] from rfl] at hx; rw [Bs_eq]; simp at hx; omega
theorem dvd_iff {n j : Nat} (h : n ≠ 0) : 2 ^ j ∣ n ↔ j ≤ tz n := by
 obtain ⟨m, hm⟩ := tz_spec h
 constructor
 ·intro hd
  rcases Nat.lt_or_ge (tz n) j with hl | hl
  ·have h1 : 2 ^ (tz n + 1) ∣ n := Nat.dvd_trans (Nat.pow_dvd_pow 2 hl) hd
   obtain ⟨q, hq⟩ := h1
   rw [Nat.pow_succ, Nat.mul_assoc] at hq
   have h2 : 2 ^ tz n * (2 * m + 1) = 2 ^ tz n * (2 * q) := by rw [← hm]; exact hq
   have h3 := Nat.eq_of_mul_eq_mul_left (Nat.pow_pos (by decide)) h2
   omega
  ·exact hl
 ·intro hl
  have h0 : 2 ^ tz n ∣ n := ⟨2 * m + 1, hm⟩
  exact Nat.dvd_trans (Nat.pow_dvd_pow 2 hl) h0
theorem low_lt {t : Nat} {k : Int} (h : (t : Int) < if 100000 < k then 100000 else k) : t < heldN k := by
 unfold heldN; split at h <;> omega
theorem low_ge {t : Nat} {k : Int} (h : ¬(t : Int) < if 100000 < k then 100000 else k) : heldN k ≤ t := by
 unfold heldN; split at h <;> omega
theorem vL_ne {s : Bool} {cs : List D} (h : sg (vI s cs) < 0) : (vL cs).toNat ≠ 0 := by
 have h1 := vL_vI s cs
 rw [sg_sign] at h; omega
theorem okC_div {n : Nat} {cs : List D} (hc : okC n cs) (j : Nat) : okC (N0.ln (((vL cs).toNat / 2 ^ j : Nat) : Int)) (N0.lm (((vL cs).toNat / 2 ^ j : Nat) : Int)) := by
 refine okC_N0 ?_
 rw [Int.natAbs_natCast]
 have h1 := okC_ln hc
 have h2 := hc.2.2.2
 have h3 : ln ((vL cs).toNat / 2 ^ j) ≤ ln (val (nums cs)) := ln_mono (Nat.div_le_self _ _)
 omega
theorem neg_vI_d {s : Bool} {cs : List D} (hs : s = true) : decide ((0 : Int) < ((N0.ln (vL cs) : Nat) : Int)) = N0.neg (vI s cs) := by
 by_cases h : (0 : Int) < ((N0.ln (vL cs) : Nat) : Int)
 ·rw [neg_vI_p h hs, decide_eq_true h]
 ·rw [neg_vI_0 h, decide_eq_false h]
theorem wrap32 (N : Nat) : IntKind.u32.wrap (N : Int) = ((N % 4294967296 : Nat) : Int) := by
 simp [IntKind.wrap, IntKind.bits, IntKind.signed]
theorem w64p {z : Int} (h : ¬z < 0) (h2 : z ≤ 9223372036854775807) : IntKind.u64.wrap z = ((z.natAbs : Nat) : Int) := by
 simp [IntKind.wrap, IntKind.bits, IntKind.signed]; omega
theorem w64n {z : Int} (h : z < 0) (h1 : -9223372036854775808 ≤ z) : IntKind.u64.wrap (0 - IntKind.u64.wrap z) = ((z.natAbs : Nat) : Int) := by
 simp [IntKind.wrap, IntKind.bits, IntKind.signed]; omega
theorem of_cells (N : Nat) (h : N < 18446744073709551616) : okC 2 [.int .u32 (IntKind.u32.wrap (N : Int)), .int .u32 (IntKind.u32.wrap ((N : Int).fdiv (2 ^ min (Int.toNat 32) IntKind.u64.bits)))] ∧
  val (nums [.int .u32 (IntKind.u32.wrap (N : Int)), .int .u32 (IntKind.u32.wrap ((N : Int).fdiv (2 ^ min (Int.toNat 32) IntKind.u64.bits)))]) = N := by
 have e : (2 : Int) ^ min (Int.toNat 32) IntKind.u64.bits = 4294967296 := by decide
 rw [e, Int.fdiv_eq_ediv_of_nonneg _ (by decide), show (N : Int) / 4294967296 = ((N / 4294967296 : Nat) : Int) from by omega, wrap32, wrap32, Nat.mod_eq_of_lt (a := N / 4294967296) (by omega)]
 have e2 : nums [.int .u32 ((N % 4294967296 : Nat) : Int), .int .u32 ((N / 4294967296 : Nat) : Int)] = [N % 4294967296, N / 4294967296] := by simp only [nums, num1, List.map_cons, List.map_nil, Int.toNat_natCast]
 refine ⟨⟨by rw [e2]; rfl, rfl, ?_, by omega⟩, ?_⟩
 ·rw [e2]; exact Ok.of_mem fun x hx => by rw [Bs_eq]; simp at hx; omega
 ·rw [e2, val_cons, val_single, Bs_eq]; omega
theorem vI_not (s : Bool) (cs : List D) : vI (!s) cs = -vI s cs := by unfold vI; cases s <;> simp [sgn]
theorem good_nanI0 : Good Tryz.prog (GWL []) N0 183 s_nanI := by
 refine goodM 0 gn Tryz.f183 (by kernel_rfl) (by kernel_rfl) fun ds hp F A Q hF hA hQ => ?_
 obtain ⟨x, rfl, hx⟩ := sp1_arg hp
 obtain ⟨k, rfl⟩ := isi_arg hx
 cbv
 repeat' (first | with_reducible refine And.intro ?_ ?_ | (with_reducible refine safe_lift hA ?_; kernel_rfl) | (intro hc_; cbv))
 all_goals (repeat (rw [safe_true hA, true_and]; rotate_left; kernel_rfl))
 all_goals subst hF hA
 all_goals simp only [fnOf, find, std, reduceIte, Nat.reduceEqDiff, sp1, sp2, a1, a2, FnSpec.out, Shape.build, leafs, leafCells, tups, oneOf, List.cons_append, List.nil_append, List.length_cons, List.length_nil, s_nanI, dm, dl, dlN, dz, dcs, dcn, vI_N0, vL_N0, Int.natAbs_natCast, Int.toNat_natCast, decide_eq_true_eq, decide_eq_false_iff_not] at *
 exact Post.t hQ (by simp)
theorem good_cmpI0 : Good Tryz.prog (GWL []) N0 150 s_cmpI := by
 refine goodM 0 (gl good_nanI0 rfl gn) Tryz.f150 (by kernel_rfl) (by kernel_rfl) fun ds hp F A Q hF hA hQ => ?_
 obtain ⟨x, y, rfl, hx, hy⟩ := sp2_arg hp
 obtain ⟨k, rfl⟩ := isi_arg hx
 obtain ⟨l, rfl⟩ := isi_arg hy
 clear hp hx hy
 cbv
 repeat' (first | with_reducible refine And.intro ?_ ?_ | (with_reducible refine safe_lift hA ?_; kernel_rfl) | (intro hc_; cbv))
 all_goals (repeat (rw [safe_true hA, true_and]; rotate_left; kernel_rfl))
 all_goals subst hF hA
 all_goals simp only [fnOf, find, std, reduceIte, Nat.reduceEqDiff, sp1, sp2, a1, a2, FnSpec.out, Shape.build, leafs, leafCells, tups, oneOf, List.cons_append, List.nil_append, List.length_cons, List.length_nil, s_cmpI, s_nanI, dm, dl, dlN, dz, dcs, dcn, vI_N0, vL_N0, Int.natAbs_natCast, Int.toNat_natCast, decide_eq_true_eq, decide_eq_false_iff_not] at *
 all_goals first
  | (exfalso; simp at *; done)
  | skip
 all_goals first
  | (refine Post.v hQ ?_; rw [sg_neg (by omega)])
  | (refine Post.v hQ ?_; rw [sg_pos (by omega)])
  | (refine Post.v hQ ?_; rw [sg_zero (by omega)])
  | exact ⟨rfl, rfl⟩
  | exact rfl
  | trace_state
theorem good_wSigned0 : Good Tryz.prog (GWL []) N0 188 s_wSigned := by
 refine goodM 0 gn Tryz.f188 (by kernel_rfl) (by kernel_rfl) fun ds hp F A Q hF hA hQ => ?_
 obtain ⟨x, y, rfl, hx, hy⟩ := sp2_arg hp
 obtain ⟨k, rfl⟩ := isi_arg hx
 obtain ⟨N, n, cs, rfl, hn, hcs⟩ := okK_arg hy
 clear hp hx hy
 cbv
 repeat' (first | with_reducible refine And.intro ?_ ?_ | (with_reducible refine safe_lift hA ?_; kernel_rfl) | (intro hc_; cbv))
 all_goals (repeat (rw [safe_true hA, true_and]; rotate_left; kernel_rfl))
 all_goals subst hF hA
 all_goals simp only [fnOf, find, std, reduceIte, Nat.reduceEqDiff, sp1, sp2, a1, a2, FnSpec.out, Shape.build, leafs, leafCells, tups, oneOf, List.cons_append, List.nil_append, List.length_cons, List.length_nil, s_wSigned, dm, dl, dlN, dz, dcs, dcn, vI_N0, vL_N0, Int.natAbs_natCast, Int.toNat_natCast, decide_eq_true_eq, decide_eq_false_iff_not] at *
 all_goals first
  | (exfalso; simp_all; done)
  | skip
 all_goals subst hn hcs
 all_goals simp only [vL_N0, Int.natAbs_natCast, Int.toNat_natCast] at hQ
 all_goals first
  | (refine Post.W (s := k) (N := N) hQ rfl ?_; rw [neg_sgz (by assumption)])
  | (refine Post.W (s := k) (N := N) hQ rfl ?_; rw [neg_sgzp (by simpa using hc_)])
  | trace_state
theorem good_wSign0 : Good Tryz.prog (GWL []) N0 145 s_wSign := by
 refine goodM 0 (gc good_nBits gn) Tryz.f145 (by kernel_rfl) (by kernel_rfl) fun ds hp F A Q hF hA hQ => ?_
 obtain ⟨x, rfl, hx⟩ := sp1_arg hp
 obtain ⟨s, n, cs, rfl, hc⟩ := okI_arg hx
 clear hp hx
 cbv
 repeat' (first | with_reducible refine And.intro ?_ ?_ | (with_reducible refine safe_lift hA ?_; kernel_rfl) | (intro hc_; cbv))
 all_goals (repeat (rw [safe_true hA, true_and]; rotate_left; kernel_rfl))
 all_goals subst hF hA
 all_goals simp only [fnOf, find, std, reduceIte, Nat.reduceEqDiff, sp1, sp2, a1, a2, FnSpec.out, Shape.build, leafs, leafCells, tups, oneOf, List.cons_append, List.nil_append, List.length_cons, List.length_nil, s_wSign, s_nBits, dm, dl, dlN, dz, dcs, dcn, vI_N0, vL_N0, Int.natAbs_natCast, Int.toNat_natCast, decide_eq_true_eq, decide_eq_false_iff_not] at *
 all_goals first
  | (exfalso; simp_all; done)
  | skip
 all_goals first
  | exact okL_C hc
  | exact hc
  | (refine Post.v hQ ?_; have h0 := (nb_vL cs).1 (by simpa using hc_); rw [vL_zero (s := s)] at h0; rw [sg_zero h0])
  | (refine Post.v hQ ?_; have h0 : vL cs ≠ 0 := fun h => (by rw [(nb_vL cs).2 h] at hc_; cases hc_); rw [vI_sign h0]; simp_all; done)
  | trace_state
theorem good_wNorm0 : Good Tryz.prog (GWL []) N0 174 s_wNorm := by
 refine goodM 0 (gl good_wSign0 rfl <| gc good_nTrm <| gl good_wSigned0 rfl gn) Tryz.f174 (by kernel_rfl) (by kernel_rfl) fun ds hp F A Q hF hA hQ => ?_
 obtain ⟨x, rfl, hx⟩ := sp1_arg hp
 obtain ⟨s, n, cs, rfl, hc⟩ := okI_arg hx
 cbv
 repeat' (first | with_reducible refine And.intro ?_ ?_ | (with_reducible refine safe_lift hA ?_; kernel_rfl) | (intro hc_; cbv))
 all_goals (repeat (rw [safe_true hA, true_and]; rotate_left; kernel_rfl))
 all_goals subst hF hA
 all_goals simp only [fnOf, find, std, reduceIte, Nat.reduceEqDiff, sp1, sp2, a1, a2, FnSpec.out, Shape.build, leafs, leafCells, tups, oneOf, List.cons_append, List.nil_append, List.length_cons, List.length_nil, s_wNorm, s_wSign, s_nTrm, s_wSigned, dm, dl, dlN, dz, dcs, dcn, vI_N0, vL_N0, Int.natAbs_natCast, Int.toNat_natCast, decide_eq_true_eq, decide_eq_false_iff_not] at *
 all_goals first
  | exact hc
  | exact ⟨rfl, okK_nat _⟩
  | exact ⟨rfl, ⟨_, rfl, rfl⟩⟩
  | (refine Post.Z hQ ?_; exact sgz_vI s cs)
  | trace_state
theorem good_wNeg0 : Good Tryz.prog (GWL []) N0 156 s_wNeg := by
 refine goodM 0 (gl good_wSign0 rfl <| gc good_nTrm <| gl good_wSigned0 rfl gn) Tryz.f156 (by kernel_rfl) (by kernel_rfl) fun ds hp F A Q hF hA hQ => ?_
 obtain ⟨x, rfl, hx⟩ := sp1_arg hp
 obtain ⟨s, n, cs, rfl, hc⟩ := okI_arg hx
 cbv
 repeat' (first | with_reducible refine And.intro ?_ ?_ | (with_reducible refine safe_lift hA ?_; kernel_rfl) | (intro hc_; cbv))
 all_goals (repeat (rw [safe_true hA, true_and]; rotate_left; kernel_rfl))
 all_goals subst hF hA
 all_goals simp only [fnOf, find, std, reduceIte, Nat.reduceEqDiff, sp1, sp2, a1, a2, FnSpec.out, Shape.build, leafs, leafCells, tups, oneOf, List.cons_append, List.nil_append, List.length_cons, List.length_nil, s_wNeg, s_wSign, s_nTrm, s_wSigned, dm, dl, dlN, dz, dcs, dcn, vI_N0, vL_N0, Int.natAbs_natCast, Int.toNat_natCast, decide_eq_true_eq, decide_eq_false_iff_not] at *
 all_goals first
  | exact hc
  | exact ⟨rfl, ⟨_, rfl, rfl⟩⟩
  | (refine Post.Z hQ ?_; rw [wrap_nsg]; exact sgz_neg s cs)
  | trace_state
theorem good_wCmp0 : Good Tryz.prog (GWL []) N0 153 s_wCmp := by
 refine goodM 0 (gl good_wSign0 rfl <| gc good_nCmp <| gl good_cmpI0 rfl gn) Tryz.f153 (by kernel_rfl) (by kernel_rfl) fun ds hp F A Q hF hA hQ => ?_
 obtain ⟨x, y, rfl, hx, hy⟩ := sp2_arg hp
 obtain ⟨s, n, cs, rfl, hc⟩ := okI_arg hx
 obtain ⟨t, m, es, rfl, he⟩ := okI_arg hy
 clear hp hx hy
 cbv
 repeat' (first | with_reducible refine And.intro ?_ ?_ | (with_reducible refine safe_lift hA ?_; kernel_rfl) | (intro hc_; cbv))
 all_goals (repeat (rw [safe_true hA, true_and]; rotate_left; kernel_rfl))
 all_goals subst hF hA
 all_goals simp only [fnOf, find, std, reduceIte, Nat.reduceEqDiff, sp1, sp2, a1, a2, FnSpec.out, Shape.build, leafs, leafCells, tups, oneOf, List.cons_append, List.nil_append, List.length_cons, List.length_nil, s_wCmp, s_wSign, s_nCmp, s_cmpI, dm, dl, dlN, dz, dcs, dcn, vI_N0, vL_N0, Int.natAbs_natCast, Int.toNat_natCast, decide_eq_true_eq, decide_eq_false_iff_not] at *
 all_goals first
  | (exfalso; simp_all; done)
  | skip
 all_goals first
  | exact hc
  | exact he
  | exact ⟨hc, he⟩
  | exact ⟨rfl, rfl⟩
  | (refine Post.v hQ ?_; exact sg_dif (by simpa using hc_))
  | (refine Post.v hQ ?_; exact sg_cmp (by simpa using hc_))
  | trace_state
theorem good_wMul0 : Good Tryz.prog (GWL [3]) N0 155 s_wMul := by
 refine goodM 0 (gl good_wSign0 rfl <| gc good_nMul <| gl good_wSigned0 rfl gn) Tryz.f155 (by kernel_rfl) (by kernel_rfl) fun ds hp F A Q hF hA hQ => ?_
 obtain ⟨x, y, rfl, hx, hy⟩ := sp2_arg hp
 obtain ⟨s, n, cs, rfl, hc⟩ := okI_arg hx
 obtain ⟨t, m, es, rfl, he⟩ := okI_arg hy
 clear hp hx hy
 cbv
 repeat' (first | with_reducible refine And.intro ?_ ?_ | (with_reducible refine safe_lift hA ?_; kernel_rfl) | (intro hc_; cbv))
 all_goals (repeat (rw [safe_true hA, true_and]; rotate_left; kernel_rfl))
 all_goals subst hF hA
 all_goals simp only [fnOf, find, std, reduceIte, Nat.reduceEqDiff, sp1, sp2, a1, a2, FnSpec.out, Shape.build, leafs, leafCells, tups, oneOf, List.cons_append, List.nil_append, List.length_cons, List.length_nil, s_wMul, s_wSign, s_nMul, s_wSigned, dm, dl, dlN, dz, dcs, dcn, vI_N0, vL_N0, Int.natAbs_natCast, Int.toNat_natCast, decide_eq_true_eq, decide_eq_false_iff_not] at *
 all_goals first
  | exact hc
  | exact he
  | exact ⟨hc, he⟩
  | exact ⟨rfl, ⟨_, rfl, rfl⟩⟩
  | exact in3 _
  | exact idx9 _ _
  | (refine Post.Z hQ ?_; rw [mul_tab]; exact sgz_mul s t cs es)
  | trace_state
def s_wSum : FnSpec := ⟨.agg [.I], fun ds => match ds with | [.sl n cs, .sl m es, .int .i64 s, .int .i64 t] => (okC n cs ∧ okC m es) ∧ ((s = -1 ∨ s = 0 ∨ s = 1) ∧ (s = 0 → vL cs = 0)) ∧ (t = -1 ∨ t = 0 ∨ t = 1) ∧ (t = 0 → vL es = 0) | _ => False,
 fun ds _ => match ds with | [.sl _ cs, .sl _ es, .int _ s, .int _ t] => s * vL cs + t * vL es | _ => 0, fun _ _ => false, fun _ _ => 0, fun _ _ => []⟩
theorem wSum_arg {ds : List D} (h : s_wSum.p ds) : ∃ n cs m es s t, ds = [.sl n cs, .sl m es, .int .i64 s, .int .i64 t] ∧ (okC n cs ∧ okC m es) ∧ ((s = -1 ∨ s = 0 ∨ s = 1) ∧ (s = 0 → vL cs = 0)) ∧ (t = -1 ∨ t = 0 ∨ t = 1) ∧ (t = 0 → vL es = 0) := by
 unfold s_wSum at h
 dsimp only at h
 split at h
 ·exact ⟨_, _, _, _, _, _, rfl, h⟩
 ·exact h.elim
theorem sg_three (z : Int) : sg z = -1 ∨ sg z = 0 ∨ sg z = 1 := by rcases sg_cases z with ⟨_, h⟩ | ⟨_, h⟩ | ⟨_, h⟩ <;> omega
theorem sg_vL0 {s : Bool} {cs : List D} (h : sg (vI s cs) = 0) : vL cs = 0 := by
 rw [vL_zero (s := s)]; rcases sg_cases (vI s cs) with ⟨_, e⟩ | ⟨e, _⟩ | ⟨_, e⟩ <;> omega
theorem sg_mul_vL (s : Bool) (cs : List D) : sg (vI s cs) * vL cs = vI s cs := by
 have h := vL_vI s cs
 rcases sg_cases (vI s cs) with ⟨h1, e⟩ | ⟨h1, e⟩ | ⟨h1, e⟩ <;> rw [e, h] <;> omega
theorem good_wSum0 : Good Tryz.prog (GWL [2]) N0 192 s_wSum := by
 refine goodM 0 (gc good_nTrm <| gl good_wSigned0 rfl <| gc good_nAdd <| gc good_nSub gn) Tryz.f192 (by kernel_rfl) (by kernel_rfl) fun ds hp F A Q hF hA hQ => ?_
 obtain ⟨n, cs, m, es, s, t, rfl, ⟨hc, he⟩, ⟨hs, h1⟩, ht, h2⟩ := wSum_arg hp
 clear hp
 obtain ⟨M, ka⟩ := vL_nn cs
 obtain ⟨N, kb⟩ := vL_nn es
 rw [ka] at h1
 rw [kb] at h2
 rcases hs with rfl | rfl | rfl <;> rcases ht with rfl | rfl | rfl
 all_goals cbv
 all_goals (repeat' (first | with_reducible refine And.intro ?_ ?_ | (with_reducible refine safe_lift hA ?_; kernel_rfl) | (intro hc_; cbv)))
 all_goals (repeat (rw [safe_true hA, true_and]; rotate_left; kernel_rfl))
 all_goals subst hF hA
 all_goals simp only [fnOf, find, std, reduceIte, Nat.reduceEqDiff, sp1, sp2, a1, a2, FnSpec.out, Shape.build, leafs, leafCells, tups, oneOf, List.cons_append, List.nil_append, List.length_cons, List.length_nil, s_wSum, s_nTrm, s_wSigned, s_nAdd, s_nSub, dm, dl, dlN, dz, dcs, dcn, vI_N0, vL_N0, Int.natAbs_natCast, Int.toNat_natCast, decide_eq_true_eq, decide_eq_false_iff_not] at *
 all_goals first
  | exact hc
  | exact he
  | exact ⟨hc, he⟩
  | exact ⟨he, hc⟩
  | exact ⟨rfl, ⟨_, rfl, rfl⟩⟩
  | decide
  | (exfalso; simp [tw0, tw1, tw2] at *; done)
  | (refine Post.Z hQ ?_; rw [ka, kb]; simp only [Int.toNat_natCast]; first | exact (sum_nn _ _).symm | exact (sum_pp _ _).symm)
  | (have e1 : (vL cs).toNat = M := (by rw [ka]; rfl); have e2 : (vL es).toNat = N := (by rw [kb]; rfl); have hd : N ≤ M := (by have h9 : (vL es).toNat ≤ (vL cs).toNat := of_decide_eq_true hc_; rw [e1, e2] at h9; exact h9); refine Post.Z hQ ?_; rw [e1, e2, ka, kb]; first | exact (sub_p hd).symm | exact (sub_nW hd).symm)
  | (have e1 : (vL cs).toNat = M := (by rw [ka]; rfl); have e2 : (vL es).toNat = N := (by rw [kb]; rfl); have hd : ¬N ≤ M := (by have h9 : ¬(vL es).toNat ≤ (vL cs).toNat := of_decide_eq_false hc_; rw [e1, e2] at h9; exact h9); refine Post.Z hQ ?_; rw [e1, e2, ka, kb]; first | exact (sub_p' hd).symm | exact (sub_nW' hd).symm)
  | (refine Post.Z hQ ?_; simp only [ka, kb, Int.toNat_natCast, Int.natAbs_natCast, sgz] at *; simp [tw0, tw1, tw2] at *; omega)
  | (refine Post.Z hQ ?_; simp [sgz, ka, kb]; done)
  | trace_state
theorem good_wAdd0 : Good Tryz.prog (GWL [2]) N0 160 s_wAdd := by
 refine goodM 0 (gl good_wSign0 rfl <| gl good_wSum0 rfl gn) Tryz.f160 (by kernel_rfl) (by kernel_rfl) fun ds hp F A Q hF hA hQ => ?_
 obtain ⟨x, y, rfl, hx, hy⟩ := sp2_arg hp
 obtain ⟨s, n, cs, rfl, hc⟩ := okI_arg hx
 obtain ⟨t, m, es, rfl, he⟩ := okI_arg hy
 cbv
 repeat' (first | with_reducible refine And.intro ?_ ?_ | (with_reducible refine safe_lift hA ?_; kernel_rfl) | (intro hc_; cbv))
 all_goals (repeat (rw [safe_true hA, true_and]; rotate_left; kernel_rfl))
 all_goals subst hF hA
 all_goals simp only [fnOf, find, std, reduceIte, Nat.reduceEqDiff, sp1, sp2, a1, a2, FnSpec.out, Shape.build, leafs, leafCells, tups, oneOf, List.cons_append, List.nil_append, List.length_cons, List.length_nil, s_wAdd, s_wSign, s_wSum, dm, dl, dlN, dz, dcs, dcn, vI_N0, vL_N0, Int.natAbs_natCast, Int.toNat_natCast, decide_eq_true_eq, decide_eq_false_iff_not] at *
 all_goals first
  | exact hc
  | exact he
  | exact ⟨⟨hc, he⟩, ⟨sg_three _, sg_vL0⟩, sg_three _, sg_vL0⟩
  | (refine Post.Z hQ ?_; rw [sg_mul_vL, sg_mul_vL])
  | trace_state
theorem good_wShr0 : Good Tryz.prog (GWL [0]) N0 213 s_wShr := by
 refine goodM 0 (gl good_wSign0 rfl <| gc good_nShr <| gl good_nLow0 rfl <| gc good_nAdd <| gl good_wSigned0 rfl gn) Tryz.f213 (by kernel_rfl) (by kernel_rfl) fun ds hp F A Q hF hA hQ => ?_
 obtain ⟨x, y, rfl, hx, hy⟩ := sp2_arg hp
 obtain ⟨s, n, cs, rfl, hc⟩ := okI_arg hx
 obtain ⟨k, rfl⟩ := isi_arg hy
 clear hp hx hy
 cbv
 repeat' (first | with_reducible refine And.intro ?_ ?_ | (with_reducible refine safe_lift hA ?_; kernel_rfl) | (intro hc_; cbv))
 all_goals (repeat (rw [safe_true hA, true_and]; rotate_left; kernel_rfl))
 all_goals subst hF hA
 all_goals simp only [fnOf, find, std, reduceIte, Nat.reduceEqDiff, sp1, sp2, a1, a2, FnSpec.out, Shape.build, leafs, leafCells, tups, oneOf, List.cons_append, List.nil_append, List.length_cons, List.length_nil, s_wShr, s_wSign, s_nShr, s_nLow, s_nAdd, s_wSigned, dm, dl, dlN, dz, dcs, dcn, vI_N0, vL_N0, Int.natAbs_natCast, Int.toNat_natCast, decide_eq_true_eq, decide_eq_false_iff_not] at *
 all_goals first
  | exact hc
  | exact ⟨hc, rfl⟩
  | exact ⟨rfl, ⟨_, rfl, rfl⟩⟩
  | exact ⟨okC_div hc _, okC_one1⟩
  | (refine Post.Z hQ ?_; rw [vL_1W]; exact (shr_m (by assumption) fun hd => by rw [dvd_iff (vL_ne (by assumption))] at hd; have := low_lt hc_; omega).symm)
  | (refine Post.Z hQ ?_; exact (shr_nW (by assumption) ((dvd_iff (vL_ne (by assumption))).2 (low_ge hc_))).symm)
  | (refine Post.Z hQ ?_; exact (shr_p (by simpa using hc_) _).symm)
  | trace_state
theorem good_rNorm0 : Good Tryz.prog (GWL []) N0 92 s_rNorm := by
 refine goodM 0 (gc good_rTrim gn) Tryz.f92 (by kernel_rfl) (by kernel_rfl) fun ds hp F A Q hF hA hQ => ?_
 obtain ⟨x, rfl, hx⟩ := sp1_arg hp
 obtain ⟨s, n, cs, rfl, hc⟩ := okI_arg hx
 clear hp hx
 cbv
 repeat' (first | with_reducible refine And.intro ?_ ?_ | (with_reducible refine safe_lift hA ?_; kernel_rfl) | (intro hc_; cbv))
 all_goals (repeat (rw [safe_true hA, true_and]; rotate_left; kernel_rfl))
 all_goals subst hF hA
 all_goals simp only [fnOf, find, std, reduceIte, Nat.reduceEqDiff, sp1, sp2, a1, a2, FnSpec.out, Shape.build, leafs, leafCells, tups, oneOf, List.cons_append, List.nil_append, List.length_cons, List.length_nil, s_rNorm, s_rTrim, dm, dl, dlN, dz, dcs, dcn, vI_N0, vL_N0, Int.natAbs_natCast, Int.toNat_natCast, decide_eq_true_eq, decide_eq_false_iff_not] at *
 all_goals first
  | exact hc
  | exact Post.N (s := s) hQ (neg_vI_d (by assumption))
  | (refine Post.N (s := s) hQ ?_; rw [neg_vI_n (by simp_all)])
  | trace_state
theorem good_rSign0 : Good Tryz.prog (GWL []) N0 91 s_rSign := by
 refine goodM 0 (gl good_rNorm0 rfl gn) Tryz.f91 (by kernel_rfl) (by kernel_rfl) fun ds hp F A Q hF hA hQ => ?_
 obtain ⟨x, rfl, hx⟩ := sp1_arg hp
 obtain ⟨s, n, cs, rfl, hc⟩ := okI_arg hx
 clear hp hx
 cbv
 repeat' (first | with_reducible refine And.intro ?_ ?_ | (with_reducible refine safe_lift hA ?_; kernel_rfl) | (intro hc_; cbv))
 all_goals (repeat (rw [safe_true hA, true_and]; rotate_left; kernel_rfl))
 all_goals subst hF hA
 all_goals simp only [fnOf, find, std, reduceIte, Nat.reduceEqDiff, sp1, sp2, a1, a2, FnSpec.out, Shape.build, leafs, leafCells, tups, oneOf, List.cons_append, List.nil_append, List.length_cons, List.length_nil, s_rSign, s_rNorm, dm, dl, dlN, dz, dcs, dcn, vI_N0, vL_N0, Int.natAbs_natCast, Int.toNat_natCast, decide_eq_true_eq, decide_eq_false_iff_not] at *
 all_goals first
  | exact hc
  | (refine Post.v hQ ?_; rw [sg_zero ((ln_int0 _).1 (by simpa using hc_))])
  | (refine Post.v hQ ?_; rw [sg_neg (of_decide_eq_true (by assumption))])
  | (refine Post.v hQ ?_; have h1 : ¬vI s cs < 0 := of_decide_eq_false (by assumption); have h2 : vI s cs ≠ 0 := fun h => (by rw [(ln_int0 _).2 h] at hc_; cases hc_); rw [sg_pos (by omega)])
  | trace_state
theorem good_rNeg0 : Good Tryz.prog (GWL []) N0 161 s_rNeg := by
 refine goodM 0 (gl good_rNorm0 rfl gn) Tryz.f161 (by kernel_rfl) (by kernel_rfl) fun ds hp F A Q hF hA hQ => ?_
 obtain ⟨x, rfl, hx⟩ := sp1_arg hp
 obtain ⟨s, n, cs, rfl, hc⟩ := okI_arg hx
 clear hp hx
 cbv
 repeat' (first | with_reducible refine And.intro ?_ ?_ | (with_reducible refine safe_lift hA ?_; kernel_rfl) | (intro hc_; cbv))
 all_goals (repeat (rw [safe_true hA, true_and]; rotate_left; kernel_rfl))
 all_goals subst hF hA
 all_goals simp only [fnOf, find, std, reduceIte, Nat.reduceEqDiff, sp1, sp2, a1, a2, FnSpec.out, Shape.build, leafs, leafCells, tups, oneOf, List.cons_append, List.nil_append, List.length_cons, List.length_nil, s_rNeg, s_rNorm, dm, dl, dlN, dz, dcs, dcn, vI_N0, vL_N0, Int.natAbs_natCast, Int.toNat_natCast, decide_eq_true_eq, decide_eq_false_iff_not] at *
 all_goals first
  | exact hc
  | exact Post.Z hQ (vI_not s cs)
  | trace_state
theorem good_wOf0 : Good Tryz.prog (GWL []) N0 165 s_wOf := by
 refine goodM 0 (gl good_wNorm0 rfl gn) Tryz.f165 (by kernel_rfl) (by kernel_rfl) fun ds hp F A Q hF hA hQ => ?_
 obtain ⟨x, rfl, hx, h1, h2⟩ := sp1_arg hp
 obtain ⟨z, rfl⟩ := isi_arg hx
 have h1 : -9223372036854775808 ≤ z := h1
 have h2 : z ≤ 9223372036854775807 := h2
 clear hp hx
 cbv
 repeat' (first | with_reducible refine And.intro ?_ ?_ | (with_reducible refine safe_lift hA ?_; kernel_rfl) | (intro hc_; cbv))
 all_goals (repeat (rw [safe_true hA, true_and]; rotate_left; kernel_rfl))
 all_goals subst hF hA
 all_goals simp only [fnOf, find, std, reduceIte, Nat.reduceEqDiff, sp1, sp2, a1, a2, FnSpec.out, Shape.build, leafs, leafCells, tups, oneOf, List.cons_append, List.nil_append, List.length_cons, List.length_nil, s_wOf, s_wNorm, dm, dl, dlN, dz, dcs, dcn, vI_N0, vL_N0, Int.natAbs_natCast, Int.toNat_natCast, decide_eq_true_eq, decide_eq_false_iff_not] at *
 all_goals first
  | decide
  | (rw [w64n (by assumption) h1]; exact (of_cells _ (by omega)).1)
  | (rw [w64p (by assumption) h2]; exact (of_cells _ (by omega)).1)
  | (refine Post.Z hQ ?_; rw [w64n (by assumption) h1]; unfold vI; rw [(of_cells _ (by omega)).2]; exact sgn_of z)
  | (refine Post.Z hQ ?_; rw [w64p (by assumption) h2]; unfold vI; rw [(of_cells _ (by omega)).2]; exact sgn_of z)
  | trace_state
theorem good_rOf0 : Good Tryz.prog (GWL []) N0 89 s_rOf := by
 refine goodM 0 (gl good_rNorm0 rfl gn) Tryz.f89 (by kernel_rfl) (by kernel_rfl) fun ds hp F A Q hF hA hQ => ?_
 obtain ⟨x, rfl, hx, h1, h2⟩ := sp1_arg hp
 obtain ⟨z, rfl⟩ := isi_arg hx
 have h1 : -9223372036854775808 ≤ z := h1
 have h2 : z ≤ 9223372036854775807 := h2
 clear hp hx
 cbv
 repeat' (first | with_reducible refine And.intro ?_ ?_ | (with_reducible refine safe_lift hA ?_; kernel_rfl) | (intro hc_; cbv))
 all_goals (repeat (rw [safe_true hA, true_and]; rotate_left; kernel_rfl))
 all_goals subst hF hA
 all_goals simp only [fnOf, find, std, reduceIte, Nat.reduceEqDiff, sp1, sp2, a1, a2, FnSpec.out, Shape.build, leafs, leafCells, tups, oneOf, List.cons_append, List.nil_append, List.length_cons, List.length_nil, s_rOf, s_rNorm, dm, dl, dlN, dz, dcs, dcn, vI_N0, vL_N0, Int.natAbs_natCast, Int.toNat_natCast, decide_eq_true_eq, decide_eq_false_iff_not] at *
 all_goals first
  | decide
  | (rw [w64n (by assumption) h1]; exact (of_cells _ (by omega)).1)
  | (rw [w64p (by assumption) h2]; exact (of_cells _ (by omega)).1)
  | (refine Post.Z hQ ?_; rw [w64n (by assumption) h1]; unfold vI; rw [(of_cells _ (by omega)).2]; exact sgn_of z)
  | (refine Post.Z hQ ?_; rw [w64p (by assumption) h2]; unfold vI; rw [(of_cells _ (by omega)).2]; exact sgn_of z)
  | trace_state
theorem good_cmpI {G : World → Prop} : Good Tryz.prog G N0 150 s_cmpI := good_cmpI0.mono fun _ _ => GWL.nil
theorem good_wNorm {G : World → Prop} : Good Tryz.prog G N0 174 s_wNorm := good_wNorm0.mono fun _ _ => GWL.nil
theorem good_wNeg {G : World → Prop} : Good Tryz.prog G N0 156 s_wNeg := good_wNeg0.mono fun _ _ => GWL.nil
theorem good_wSign {G : World → Prop} : Good Tryz.prog G N0 145 s_wSign := good_wSign0.mono fun _ _ => GWL.nil
theorem good_wOf {G : World → Prop} : Good Tryz.prog G N0 165 s_wOf := good_wOf0.mono fun _ _ => GWL.nil
theorem good_wCmp {G : World → Prop} : Good Tryz.prog G N0 153 s_wCmp := good_wCmp0.mono fun _ _ => GWL.nil
theorem good_rNorm {G : World → Prop} : Good Tryz.prog G N0 92 s_rNorm := good_rNorm0.mono fun _ _ => GWL.nil
theorem good_rNeg {G : World → Prop} : Good Tryz.prog G N0 161 s_rNeg := good_rNeg0.mono fun _ _ => GWL.nil
theorem good_rSign {G : World → Prop} : Good Tryz.prog G N0 91 s_rSign := good_rSign0.mono fun _ _ => GWL.nil
theorem good_rOf {G : World → Prop} : Good Tryz.prog G N0 89 s_rOf := good_rOf0.mono fun _ _ => GWL.nil
theorem good_wAdd {G : World → Prop} (hT : ∀ w, G w → SumsT w) : Good Tryz.prog G N0 160 s_wAdd := good_wAdd0.mono fun w h => GWL.cons (laid_one rfl (hT w h)) GWL.nil
theorem good_wMul {G : World → Prop} (hT : ∀ w, G w → ProductsT w) : Good Tryz.prog G N0 155 s_wMul := good_wMul0.mono fun w h => GWL.cons (laid_one rfl (hT w h)) GWL.nil
theorem good_wShr {G : World → Prop} (hT : ∀ w, G w → Tab w) : Good Tryz.prog G N0 213 s_wShr := good_wShr0.mono fun w h => GWL.cons (laid_one rfl (laid_tab (hT w h))) GWL.nil
end Go.Proofs.YtnjjfakjnkhhjaaGreatDoor.Ev
