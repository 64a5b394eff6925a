/- Powers of dyads. -/
import Derived.Test.YtbamplgleeofhaaDoorEvq
namespace Go.Proofs.YtbamplgleeofhaaDoor.Ev
open Go Go.RowKit
set_option linter.unusedSimpArgs false
set_option linter.unusedVariables false
def powN (k : Int) : Nat := (min (max k 0) 64).toNat
def s_dPow : FnSpec := sp2 (.agg [.I, .i .i64]) (fun x y => okD x ∧ isi .i64 y ∧ dcn x ≤ 3) (fun x y i => match i with | 0 => tmI (tmI (dm x) ^ powN (dz y)) | _ => teI (tmI (dm x) ^ powN (dz y)) (powN (dz y) * teI (dm x) (dx x))) (fun _ _ _ => false)
def s_qPow : FnSpec := sp2 (.agg [.I, .i .i64]) (fun x y => canD x ∧ isi .i64 y ∧ dcn x ≤ 3 ∧ -1000000 ≤ dx x ∧ dx x ≤ 1000000) (fun x y i => match i with | 0 => tmI (tmI (dm x) ^ powN (dz y)) | _ => teI (tmI (dm x) ^ powN (dz y)) (powN (dz y) * teI (dm x) (dx x))) (fun _ _ _ => false)
theorem mul_bound {p t B : Int} (h0 : 0 ≤ p) (h1 : p ≤ 64) (h2 : -B ≤ t) (h3 : t ≤ B) (hB : 0 ≤ B) : -(64 * B) ≤ p * t ∧ p * t ≤ 64 * B := by
  have a := Int.mul_le_mul_of_nonneg_left h3 h0
  have b := Int.mul_le_mul_of_nonneg_left h2 h0
  have c := Int.mul_le_mul_of_nonneg_right h1 hB
  rw [Int.mul_neg] at b
  omega
theorem fit_powI {x : Int} {k : Nat} (h : Fit x k) : ∀ i : Nat, Fit (x ^ i) (k * i + 1)
  | 0 => by rw [Int.pow_zero]; unfold Fit; rw [Nat.mul_zero]; decide
  | i + 1 => by
    rw [Int.pow_succ]
    exact (fit_powI h i).mul h (by rw [Nat.mul_succ]; omega)
theorem pow_fit {x : Int} (h : Fit x 96) {i : Nat} (hi : i ≤ 64) : Fit (x ^ i) 6145 := (fit_powI h i).mono (by omega)
theorem powN_le (k : Int) : powN k ≤ 64 := by unfold powN; omega
theorem powN_min (k : Int) : min (if 0 > k then 0 else k) 64 = (powN k : Int) := by
  unfold powN
  split <;> omega
theorem tmI_mulL (a b : Int) : tmI (tmI a * b) = tmI (a * b) := by
  rw [← tmI_shift (tmI a * b) (tz a.natAbs), Int.mul_assoc, Int.mul_comm b, ← Int.mul_assoc, tmI_mul]
theorem teI_mulL (a b x e : Int) : teI (tmI a * b) (teI a x + e) = teI (a * b) (x + e) := by
  by_cases h : a = 0
  · rw [h, tmI_zero, Int.zero_mul, teI_zero, teI_zero]
  · rw [teI_ne h]
    have := teI_shift (tmI a * b) (x + e) (tz a.natAbs)
    rw [Int.mul_assoc, Int.mul_comm b, ← Int.mul_assoc, tmI_mul] at this
    rw [this]
    congr 1
    omega
end Go.Proofs.YtbamplgleeofhaaDoor.Ev
/- The laws of dyads. -/
namespace Go.Proofs.YtbamplgleeofhaaDoor.Ev
open Go Go.RowKit
set_option linter.unusedSimpArgs false
set_option linter.unusedVariables false
/-- a dyad as an argument: what lies in its slice is told only of few limbs. -/
def okW : D → Prop | .agg [.bool _, .sl n cs, .int .i64 e] => (n ≤ 100000 → okC n cs) ∧ -9223372036854775808 ≤ e ∧ e ≤ 9223372036854775807 | _ => False
theorem okW_arg {x : D} (h : okW x) : ∃ s n cs e, x = .agg [.bool s, .sl n cs, .int .i64 e] ∧ (n ≤ 100000 → okC n cs) ∧ -9223372036854775808 ≤ e ∧ e ≤ 9223372036854775807 := by
  match x, h with
  | .agg [.bool s, .sl n cs, .int .i64 e], h => exact ⟨s, n, cs, e, rfl, h⟩
theorem okW_mk {s : Bool} {n : Nat} {cs : List D} {e : Int} (h : n ≤ 100000 → okC n cs) (h1 : -9223372036854775808 ≤ e) (h2 : e ≤ 9223372036854775807) : okW (.agg [.bool s, .sl n cs, .int .i64 e]) := ⟨h, h1, h2⟩
def s_few : FnSpec := sp1 (.one .b) okW (fun _ _ => 0) (fun x _ => decide (dcn x ≤ 20 ∧ -2000 ≤ dx x ∧ dx x ≤ 2000))
def s_known4 : FnSpec := ⟨.one .b, fun ds => ds = [], fun _ _ => 0, fun _ _ => true, fun _ _ => 0, fun _ _ => []⟩
theorem tz_is {m c : Int} {k : Nat} (h : m = c * 2 ^ k) (hc : c.natAbs % 2 = 1) : tz m.natAbs = k := by
  have h1 : m.natAbs = c.natAbs * 2 ^ k := by rw [h, Int.natAbs_mul, Int.natAbs_pow]; rfl
  have h2 := tz_mul_pow (n := c.natAbs) (by omega) k
  rw [h1, h2, tz_odd hc, Nat.zero_add]
theorem tmI_is {m c : Int} {k : Nat} (h : m = c * 2 ^ k) (hc : c.natAbs % 2 = 1) (hm : m ≠ 0) : tmI m = c := by
  have h1 := tmI_mul m
  rw [tz_is h hc] at h1
  refine Int.eq_of_mul_eq_mul_right (Int.ne_of_gt (pow_pos' k)) ?_
  rw [h1, h]
theorem teI_is {m c e : Int} {k : Nat} (h : m = c * 2 ^ k) (hc : c.natAbs % 2 = 1) (hm : m ≠ 0) : teI m e = e + k := by
  rw [teI_ne hm, tz_is h hc]
theorem isCan_N0 (z : Int) : isCan (.agg [.bool (N0.neg z), .sl (N0.ln z) (N0.lm z)]) = true := by
  have h1 : nums (N0.lm z) = lim z.natAbs := nums_u32s _
  have h2 : decide (lim (val (nums (N0.lm z))) = nums (N0.lm z)) = true := decide_eq_true (by rw [h1, val_lim])
  have h3 : (N0.neg z && decide (N0.ln z = 0)) = false := by
    by_cases h : z = 0
    · subst h; rfl
    · have : N0.ln z ≠ 0 := fun h2 => by have := ln_zero_iff.1 (show ln z.natAbs = 0 from h2); omega
      rw [decide_eq_false this, Bool.and_false]
  show (decide (lim (val (nums (N0.lm z))) = nums (N0.lm z)) && !(N0.neg z && decide (N0.ln z = 0))) = true
  rw [h2, h3]; rfl
theorem isCan_0 : isCan (.agg [.bool false, .sl 0 []]) = true := by
  have h := isCan_N0 0
  rwa [N0_ln0, N0_lm0, N0_neg0] at h
theorem vI_nil : vI false [] = 0 := rfl
theorem okC_nil : okC 0 [] := by
  have h := okC_N0 (z := 0) (by rw [show (0 : Int).natAbs = 0 from rfl, ln_zero]; decide)
  rwa [N0_ln0, N0_lm0] at h
theorem few1 {n : Nat} {e : Int} {i : Decidable (n ≤ 20 ∧ -2000 ≤ e ∧ e ≤ 2000)} (h1 : decide ((n : Int) ≤ 20) = true) (h2 : decide (-2000 ≤ e) = true) : @decide _ i = decide (e ≤ 2000) := by
  have h1 := of_decide_eq_true h1
  have h2 := of_decide_eq_true h2
  rw [Bool.eq_iff_iff, decide_eq_true_eq, decide_eq_true_eq]
  omega
theorem few2 {n : Nat} {e : Int} {i : Decidable (n ≤ 20 ∧ -2000 ≤ e ∧ e ≤ 2000)} (h : ¬((n : Int) ≤ 20) ∨ ¬(-2000 ≤ e)) : @decide _ i = false := by
  rw [decide_eq_false_iff_not]
  omega
theorem k12 : tmI 12 = 3 := tmI_is (k := 2) (by decide) (by decide) (by decide)
theorem k12e (e : Int) : teI 12 e = e + 2 := teI_is (c := 3) (k := 2) (by decide) (by decide) (by decide)
theorem k1n : tmI (-1) = -1 := tmI_is (k := 0) (by decide) (by decide) (by decide)
theorem k1ne (e : Int) : teI (-1) e = e := (teI_is (c := -1) (k := 0) (by decide) (by decide) (by decide)).trans (Int.add_zero e)
theorem k3 : tmI 3 = 3 := tmI_is (k := 0) (by decide) (by decide) (by decide)
theorem k3z : tz (Int.natAbs 3) = 0 := tz_is (c := 3) (k := 0) (by decide) (by decide)
theorem k47 : tmI 47 = 47 := tmI_is (k := 0) (by decide) (by decide) (by decide)
theorem k47e (e : Int) : teI 47 e = e := (teI_is (c := 47) (k := 0) (by decide) (by decide) (by decide)).trans (Int.add_zero e)
theorem k3n : tmI (-3) = -3 := tmI_is (k := 0) (by decide) (by decide) (by decide)
theorem k3ne (e : Int) : teI (-3) e = e := (teI_is (c := -3) (k := 0) (by decide) (by decide) (by decide)).trans (Int.add_zero e)
theorem k1 : tmI 1 = 1 := tmI_is (k := 0) (by decide) (by decide) (by decide)
theorem k1e (e : Int) : teI 1 e = e := (teI_is (c := 1) (k := 0) (by decide) (by decide) (by decide)).trans (Int.add_zero e)
theorem kmm0 : min (max (0 : Int) (-20000)) 20000 = 0 := by decide
theorem kmm2 : min (max (-2 : Int) (-20000)) 20000 = -2 := by decide
theorem kmm4 : min (max (-4 : Int) (-20000)) 20000 = -4 := by decide
theorem kadd : addM 3 2 (-1) (-2) = 47 := by decide
theorem kcmp : cmpD 3 2 (-1) (-2) = 1 := by decide
theorem kpow : (-1 : Int) ^ powN 2 = 1 := by decide
theorem kpowN : (powN 2 : Int) = 2 := by decide
theorem cmpD_self (m e : Int) : cmpD m e m e = 0 := by unfold cmpD; rw [Int.sub_self]; exact sg_zero rfl
theorem ktop : topI 3 2 = 3 := by
  unfold topI
  rw [if_neg (by decide)]
  decide
theorem ln_small {z : Int} (h : z.natAbs < 4294967296) : N0.ln z ≤ 1 := (show Fit z 32 from h).ln (by omega)
theorem okC_small {z : Int} (h : z.natAbs < 4294967296) : okC (N0.ln z) (N0.lm z) := okC_fitN (k := 32) h (by omega)
theorem kmin : min (2 : Int) (-2) = -2 := by decide
theorem kmin2 : (2 : Int) + -2 = 0 := by decide
theorem kmm1 : (-1 : Int) * 3 = -3 := by decide
theorem kmm3 : (3 : Int) * -1 = -3 := by decide
theorem kmul : (2 : Int) * -2 = -4 := by decide
end Go.Proofs.YtbamplgleeofhaaDoor.Ev
/- The laws of dyads: what they lean on. -/
namespace Go.Proofs.YtbamplgleeofhaaDoor.Ev
open Go Go.RowKit
set_option linter.unusedSimpArgs false
set_option linter.unusedVariables false
/-- a dyad's value, in units of two to the power of -k. -/
def V (k : Nat) (m e : Int) : Int := m * 2 ^ (e + k).toNat
theorem V_zero (k : Nat) (e : Int) : V k 0 e = 0 := Int.zero_mul _
theorem V_neg (k : Nat) (m e : Int) : V k (-m) e = -V k m e := Int.neg_mul _ _
theorem V_nrm {k : Nat} {m e : Int} (h : -(k : Int) ≤ e) : V k (tmI m) (teI m e) = V k m e := by
  by_cases h0 : m = 0
  · rw [h0, tmI_zero]; unfold V; rw [Int.zero_mul, Int.zero_mul]
  · have := tm_val (m := m) (e := e) (k := -(k : Int)) h h0
    unfold V
    rwa [Int.sub_neg, Int.sub_neg] at this
theorem V_add {k : Nat} {mx ex my ey : Int} (h1 : -(k : Int) ≤ ex) (h2 : -(k : Int) ≤ ey) : V k (addM mx ex my ey) (min ex ey) = V k mx ex + V k my ey := by
  have := addM_low (mx := mx) (my := my) h1 h2
  unfold V
  rwa [Int.sub_neg, Int.sub_neg, Int.sub_neg] at this
theorem sg_V (k : Nat) (m e : Int) : sg (V k m e) = sg m := sg_pow _ _
theorem V_inj {k : Nat} {m e n f : Int} (h1 : -(k : Int) ≤ e) (h2 : -(k : Int) ≤ f) (h : V k m e = V k n f) : tmI m = tmI n ∧ teI m e = teI n f := by
  refine nrm_eq (k := -(k : Int)) h1 h2 ?_
  unfold V at h
  rwa [Int.sub_neg, Int.sub_neg]
theorem cmp_V {k : Nat} {mx ex my ey : Int} (h1 : -(k : Int) ≤ ex) (h2 : -(k : Int) ≤ ey) : cmpD mx ex my ey = sg (V k mx ex - V k my ey) := by
  rw [cmpD_sub, ← sg_V k _ (min ex ey), V_add h1 h2, V_neg, Int.sub_eq_add_neg]
theorem V_mul {k l : Nat} {m e n f : Int} (h1 : -(k : Int) ≤ e) (h2 : -(l : Int) ≤ f) : V (k + l) (m * n) (e + f) = V k m e * V l n f := by
  unfold V
  rw [show e + f + ((k + l : Nat) : Int) = (e + k) + (f + l) by omega, pow_sum (by omega) (by omega), Int.mul_assoc, Int.mul_assoc]
  congr 1
  rw [← Int.mul_assoc, ← Int.mul_assoc, Int.mul_comm n]
theorem V_scale {k j : Nat} {m e s : Int} (h : (k : Int) + s = j) : V k m (e + s) = V j m e := by
  unfold V
  rw [show e + s + (k : Int) = e + j by omega]
theorem V_pos {k : Nat} {m e : Int} (h : 0 < m) : 0 < V k m e := Int.mul_pos h (Int.pow_pos (by decide))
theorem V_iff {k : Nat} {m e n f : Int} (h1 : -(k : Int) ≤ e) (h2 : -(k : Int) ≤ f) : (tmI m = tmI n ∧ teI m e = teI n f) ↔ V k m e = V k n f :=
  ⟨fun h => by rw [← V_nrm h1, ← V_nrm h2, h.1, h.2], V_inj h1 h2⟩
theorem cmp0 (m e n f : Int) : (cmpD m e n f == 0) = (decide (teI m e = teI n f) && decide (tmI m = tmI n)) := by
  have h1 : -((e.natAbs + f.natAbs : Nat) : Int) ≤ e := by omega
  have h2 : -((e.natAbs + f.natAbs : Nat) : Int) ≤ f := by omega
  rw [cmp_V h1 h2, sg_beq, Bool.eq_iff_iff, decide_eq_true_eq, Bool.and_eq_true, decide_eq_true_eq, decide_eq_true_eq, And.comm, V_iff h1 h2]
  omega
theorem tmI_addL (a e b f : Int) : tmI (addM (tmI a) (teI a e) b f) = tmI (addM a e b f) := (addM_norm2 a e b f).1
theorem teI_addL (a e b f : Int) : teI (addM (tmI a) (teI a e) b f) (min (teI a e) f) = teI (addM a e b f) (min e f) := (addM_norm2 a e b f).2
theorem tmI_addR (a e b f : Int) : tmI (addM a e (tmI b) (teI b f)) = tmI (addM a e b f) := (addM_norm a e b f).1
theorem teI_addR (a e b f : Int) : teI (addM a e (tmI b) (teI b f)) (min e (teI b f)) = teI (addM a e b f) (min e f) := (addM_norm a e b f).2
theorem tmI_addN (a e b f : Int) : tmI (addM a e (-tmI b) (teI b f)) = tmI (addM a e (-b) f) := by rw [← tmI_neg, ← teI_neg]; exact tmI_addR _ _ _ _
theorem teI_addN (a e b f : Int) : teI (addM a e (-tmI b) (teI b f)) (min e (teI b f)) = teI (addM a e (-b) f) (min e f) := by
  have h := teI_addR a e (-b) f
  rwa [tmI_neg, teI_neg b f] at h
theorem tmI_mulR (a b : Int) : tmI (a * tmI b) = tmI (a * b) := by rw [Int.mul_comm, tmI_mulL, Int.mul_comm]
theorem teI_mulR (a b x e : Int) : teI (a * tmI b) (x + teI b e) = teI (a * b) (x + e) := by rw [Int.mul_comm, Int.add_comm, teI_mulL, Int.mul_comm, Int.add_comm]
theorem teI_scale (a e s : Int) : teI (tmI a) (teI a e + s) = teI a (e + s) := by
  by_cases h : a = 0
  · rw [h, tmI_zero, teI_zero, teI_zero]
  · rw [teI_ne h, teI_ne h, teI_ne (tmI_ne h), tmI_odd h]; omega
theorem topI_nrm (a e : Int) : topI (tmI a) (teI a e) = topI a e := by
  by_cases h : a = 0
  · rw [h, tmI_zero, teI_zero]; rfl
  · unfold topI
    rw [if_neg h, if_neg (tmI_ne h), teI_ne h]
    have h1 := congrArg Int.natAbs (tmI_mul a)
    rw [natAbs_pow2] at h1
    have h2 := nb_mul_pow (n := (tmI a).natAbs) (by have := tmI_ne h; omega) (tz a.natAbs)
    rw [h1] at h2
    omega
theorem cmpD_nrm (a e b f : Int) : cmpD (tmI a) (teI a e) (tmI b) (teI b f) = cmpD a e b f := by
  rw [cmpD_sub, cmpD_sub, ← sg_tmI, tmI_addN, tmI_addL, sg_tmI]
theorem held_few {e : Int} (h1 : -2000 ≤ e) (h2 : e ≤ 2000) : min (max e (-20000)) 20000 = e := by omega
theorem clamp30 (k : Int) : max (-3000) (min k 3000) = min (max k (-3000)) 3000 := by omega
theorem clamp30b (k : Int) : (if (if 3000 < k then 3000 else k) > -3000 then if 3000 < k then 3000 else k else -3000) = min (max k (-3000)) 3000 := by
  simp only [Int.min_def, Int.max_def]
  repeat' split
  all_goals omega
theorem clamp30c (k : Int) : min (max (min (max k (-3000)) 3000) (-20000)) 20000 = min (max k (-3000)) 3000 := by omega
def s_DyadTells : FnSpec := ⟨.one .b, fun ds => match ds with | [x, y, .int .i64 _, .int .i64 v] => okW x ∧ okW y ∧ -9223372036854775808 ≤ v ∧ v ≤ 9223372036854775807 | _ => False, fun _ _ => 0, fun _ _ => true, fun _ _ => 0, fun _ _ => []⟩
theorem tells4_arg {ds : List D} (h : s_DyadTells.p ds) : ∃ x y k v, ds = [x, y, .int .i64 k, .int .i64 v] ∧ okW x ∧ okW y ∧ -9223372036854775808 ≤ v ∧ v ≤ 9223372036854775807 := by
  match ds, h with
  | [x, y, .int .i64 k, .int .i64 v], h => exact ⟨x, y, k, v, rfl, h⟩
theorem three {a b : Prop} [Decidable a] [Decidable b] : ¬a ∨ (a ∧ ¬b) ∨ (a ∧ b) := by
  by_cases h : a
  · by_cases h2 : b
    · exact .inr (.inr ⟨h, h2⟩)
    · exact .inr (.inl ⟨h, h2⟩)
  · exact .inl h
theorem cmp0d (m e n f : Int) : decide (cmpD m e n f = 0) = (decide (teI m e = teI n f) && decide (tmI m = tmI n)) := cmp0 m e n f
theorem clamp30e (k : Int) : (if min k 3000 > -3000 then min k 3000 else -3000) = min (max k (-3000)) 3000 := by
  split <;> omega
theorem te_few {X e : Int} (h : Fit X 640) (h1 : -2000 ≤ e) (h2 : e ≤ 2000) : -2000 ≤ teI X e ∧ teI X e ≤ 2640 := by
  rcases teI_bound (e := e) h with h3 | ⟨_, h3, h4⟩ <;> omega
theorem sum_few {X Y e f : Int} (h : Fit X 640) (h' : Fit Y 640) (h1 : -2000 ≤ e) (h2 : e ≤ 2000) (h3 : -2000 ≤ f) (h4 : f ≤ 2000) : Fit (tmI (addM X e Y f)) 6000 :=
  (Fit.add (h.shl (m := 5000) (by omega)) (h'.shl (m := 5000) (by omega)) (by omega) (by omega)).le (tmI_le _)
theorem fit_abs {X : Int} {k : Nat} (h : Fit X k) : Fit (X.natAbs : Int) k := h.le (by omega)
theorem fit_tm {X : Int} {k : Nat} (h : Fit X k) : Fit (tmI X) k := h.le (tmI_le _)
theorem isi_int (k : IntKind) (z : Int) : isi k (.int k z) := rfl
theorem okI_mk {s : Bool} {n : Nat} {cs : List D} (h : okC n cs) : okI (.agg [.bool s, .sl n cs]) := h
theorem okE_mk {s : Bool} {n : Nat} {cs : List D} {e : Int} (h : okC n cs) : okE (.agg [.bool s, .sl n cs, .int .i64 e]) := h
theorem okD_mk {s : Bool} {n : Nat} {cs : List D} {e : Int} (h : okC n cs) (h1 : -100000000 ≤ e) (h2 : e ≤ 100000000) : okD (.agg [.bool s, .sl n cs, .int .i64 e]) := ⟨h, h1, h2⟩
theorem canD_mk {z e : Int} (h1 : tmI z = z) (h2 : teI z e = e) (h3 : Fit z 32000) (h4 : -50000000 ≤ e) (h5 : e ≤ 50000000) : canD (.agg [.bool (N0.neg z), .sl (N0.ln z) (N0.lm z), .int .i64 e]) := canD_N0 h1 h2 h3 h4 h5
theorem okC_fit6 {z : Int} (h : Fit z 32000) : okC (N0.ln z) (N0.lm z) := okC_fitN h (by omega)
theorem ln_fit6 {z : Int} {b : Nat} (h : Fit z 32000) (hb : 1000 ≤ b) : N0.ln z ≤ b := Nat.le_trans (Fit.ln h (n := 1000) (by omega)) hb
theorem fit_mul4 {x y : Int} {k : Nat} (hk : 20000 ≤ k) (h : Fit x 10000) (h' : Fit y 10000) : Fit (x * y) k := h.mul h' (by omega)
theorem near_mk {b : Int} {a1 a2 b1 b2 : D} {e f : Int} (h1 : e - min e f ≤ b) (h2 : f - min f e ≤ b) : near b (.agg [a1, a2, .int .i64 e]) (.agg [b1, b2, .int .i64 f]) := fun _ _ => ⟨h1, h2⟩
theorem te_in {m e a b c : Int} {k : Nat} (h : Fit m k) (h1 : a ≤ e) (h2 : e ≤ b) (ha : a ≤ 0) (hb : 0 ≤ b) (hc : b + (k : Int) = c) : a ≤ teI m e ∧ teI m e ≤ c := by
  rcases teI_bound (e := e) h with h3 | ⟨_, h3, h4⟩ <;> omega
theorem isD_N0 {M E : Int} (h1 : -20000 ≤ teI M E) (h2 : teI M E ≤ 20000) : isD (.agg [.bool (N0.neg (tmI M)), .sl (N0.ln (tmI M)) (N0.lm (tmI M)), .int .i64 (teI M E)]) = true := by
  unfold isD
  rw [show dMof (.agg [.bool (N0.neg (tmI M)), .sl (N0.ln (tmI M)) (N0.lm (tmI M)), .int .i64 (teI M E)]) = .agg [.bool (N0.neg (tmI M)), .sl (N0.ln (tmI M)) (N0.lm (tmI M))] from rfl, isCan_N0, dm_N0, Bool.true_and]
  by_cases h : M = 0
  · rw [if_pos (by rw [h]; exact tmI_zero)]
    exact decide_eq_true (by rw [h]; exact teI_zero E)
  · rw [if_neg (tmI_ne h), decide_eq_true (tmI_odd h), Bool.true_and]
    exact decide_eq_true ⟨h1, h2⟩
theorem min_addl (x e f : Int) : min (x + e) (x + f) = x + min e f := by omega
theorem min_addr (e f k : Int) : min (e + k) (f + k) = min e f + k := by omega
theorem mul_addM (a b c x e f : Int) : addM (a * b) (x + e) (a * c) (x + f) = a * addM b e c f := by
  unfold addM
  rw [min_addl, show x + e - (x + min e f) = e - min e f by omega, show x + f - (x + min e f) = f - min e f by omega, Int.mul_add, Int.mul_assoc, Int.mul_assoc]
theorem addM_shift (a e b f k : Int) : addM a (e + k) b (f + k) = addM a e b f := by
  unfold addM
  rw [min_addr, show e + k - (min e f + k) = e - min e f by omega, show f + k - (min e f + k) = f - min e f by omega]
theorem cmp_addsub (a e b f : Int) : cmpD (addM (addM a e b f) (min e f) (-b) f) (min (min e f) f) a e = 0 := by
  have h1 : -((e.natAbs + f.natAbs : Nat) : Int) ≤ e := by omega
  have h2 : -((e.natAbs + f.natAbs : Nat) : Int) ≤ f := by omega
  rw [cmp_V (k := e.natAbs + f.natAbs) (by omega) h1, V_add (by omega) h2, V_add h1 h2, V_neg]
  exact sg_zero (by omega)
theorem cmp_comm (a e b f : Int) : cmpD (addM a e b f) (min e f) (addM b f a e) (min f e) = 0 := by
  rw [addM_comm a, Int.min_comm e]; exact cmpD_self _ _
theorem cmpD_nrmL (a e b f : Int) : cmpD (tmI a) (teI a e) b f = cmpD a e b f := by
  rw [cmpD_sub, cmpD_sub, ← sg_tmI, tmI_addL, sg_tmI]
theorem cmpD_nrmR (a e b f : Int) : cmpD a e (tmI b) (teI b f) = cmpD a e b f := by
  rw [cmpD_sub, cmpD_sub, ← sg_tmI, tmI_addN, sg_tmI]
theorem sub_cmp (a e b f : Int) : sg (addM a e (-b) f) = cmpD a e b f := (cmpD_sub a e b f).symm
theorem sg_abs0 (n : Nat) : decide (0 ≤ sg (n : Int)) = true := decide_eq_true (by unfold sg; split <;> (try split) <;> omega)
theorem sg_mulW (X Y : Int) : IntKind.i64.wrap (sg X * sg Y) = sg (X * Y) := by
  have key : sg X * sg Y = sg (X * Y) := by
    rcases sg_cases X with ⟨h1, h2⟩ | ⟨h1, h2⟩ | ⟨h1, h2⟩ <;> rcases sg_cases Y with ⟨h3, h4⟩ | ⟨h3, h4⟩ | ⟨h3, h4⟩ <;> rw [h2, h4]
    · exact (sg_pos (Int.mul_pos_of_neg_of_neg h1 h3)).symm
    · exact (sg_zero (by rw [h3, Int.mul_zero])).symm
    · exact (sg_neg (Int.mul_neg_of_neg_of_pos h1 h3)).symm
    · exact (sg_zero (by rw [h1, Int.zero_mul])).symm
    · exact (sg_zero (by rw [h1, Int.zero_mul])).symm
    · exact (sg_zero (by rw [h1, Int.zero_mul])).symm
    · exact (sg_neg (Int.mul_neg_of_pos_of_neg h1 h3)).symm
    · exact (sg_zero (by rw [h3, Int.mul_zero])).symm
    · exact (sg_pos (Int.mul_pos h1 h3)).symm
  rw [key]
  have := sg_range (X * Y)
  exact wrap_in (by omega) (by omega)
theorem fit_0 {k : Nat} : Fit 0 k := Nat.pow_pos (by omega)
theorem fit_1 : Fit 1 32000 := (fit_pow 0).mono (by omega)
def s_DyadLaws : FnSpec := ⟨.one .b, fun ds => match ds with | [x, y, z, .int .i8 k] => okW x ∧ okW y ∧ okW z ∧ -128 ≤ k ∧ k ≤ 127 | _ => False, fun _ _ => 0, fun _ _ => true, fun _ _ => 0, fun _ _ => []⟩
theorem laws4_arg {ds : List D} (h : s_DyadLaws.p ds) : ∃ x y z k, ds = [x, y, z, .int .i8 k] ∧ okW x ∧ okW y ∧ okW z ∧ -128 ≤ k ∧ k ≤ 127 := by
  match ds, h with
  | [x, y, z, .int .i8 k], h => exact ⟨x, y, z, k, rfl, h⟩
theorem four {a b c : Prop} [Decidable a] [Decidable b] [Decidable c] : ¬a ∨ (a ∧ ¬b) ∨ (a ∧ b ∧ ¬c) ∨ (a ∧ b ∧ c) := by
  by_cases h : a
  · by_cases h2 : b
    · by_cases h3 : c
      · exact .inr (.inr (.inr ⟨h, h2, h3⟩))
      · exact .inr (.inr (.inl ⟨h, h2, h3⟩))
    · exact .inr (.inl ⟨h, h2⟩)
  · exact .inl h
theorem topI_neg (m e : Int) : topI (-m) e = topI m e := by
  unfold topI
  rw [Int.natAbs_neg]
  by_cases h : m = 0
  · rw [if_pos h, if_pos (by omega)]
  · rw [if_neg h, if_neg (by omega)]
theorem tm_abs1 (X e : Int) : ((tmI X).natAbs : Int) = tmI (X.natAbs : Int) ∧ teI X e = teI (X.natAbs : Int) e := ⟨(tmI_abs X).symm, (teI_abs X e).symm⟩
theorem nb_low {N : Nat} (h : N ≠ 0) : 2 ^ (nb N - 1) ≤ N := by
  rw [nb_pos h, Nat.add_sub_cancel]
  exact Nat.log2_self_le h
theorem top_le {X e : Int} (h : X ≠ 0) : cmpD 1 (topI X e) ((tmI X).natAbs : Int) (teI X e) ≤ 0 := by
  rw [(tm_abs1 X e).1, (tm_abs1 X e).2, cmpD_nrmR]
  have hn : X.natAbs ≠ 0 := by omega
  have ht : topI X e = (nb X.natAbs : Int) - 1 + e := if_neg h
  have h0 : nb X.natAbs ≠ 0 := fun h => hn (nb_zero_iff.1 h)
  have h1 : -((e.natAbs : Nat) : Int) ≤ e := by omega
  rw [cmp_V (k := e.natAbs) (by omega) h1]
  have h2 := nb_low hn
  have h3 : V e.natAbs 1 (topI X e) ≤ V e.natAbs (X.natAbs : Int) e := by
    unfold V
    rw [Int.one_mul, ht, show (nb X.natAbs : Int) - 1 + e + (e.natAbs : Int) = ((nb X.natAbs - 1 : Nat) : Int) + (e + e.natAbs) by omega, pow_sum (by omega) (by omega), Int.toNat_natCast]
    refine Int.mul_le_mul_of_nonneg_right ?_ (Int.le_of_lt (pow_pos' _))
    have : ((2 ^ (nb X.natAbs - 1) : Nat) : Int) ≤ (X.natAbs : Int) := by omega
    rwa [Int.natCast_pow] at this
  rcases Int.lt_or_le (V e.natAbs 1 (topI X e)) (V e.natAbs (X.natAbs : Int) e) with h4 | h4
  · rw [sg_neg (by omega)]; omega
  · rw [sg_zero (by omega)]; omega
theorem top_lt {X e : Int} (h : X ≠ 0) : cmpD ((tmI X).natAbs : Int) (teI X e) 1 (topI X e + 1) < 0 := by
  rw [(tm_abs1 X e).1, (tm_abs1 X e).2, cmpD_nrmL]
  have hn : X.natAbs ≠ 0 := by omega
  have ht : topI X e = (nb X.natAbs : Int) - 1 + e := if_neg h
  have h0 : nb X.natAbs ≠ 0 := fun h => hn (nb_zero_iff.1 h)
  have h1 : -((e.natAbs : Nat) : Int) ≤ e := by omega
  rw [cmp_V (k := e.natAbs) h1 (by omega)]
  have h2 := lt_pow_nb X.natAbs
  have h3 : V e.natAbs (X.natAbs : Int) e < V e.natAbs 1 (topI X e + 1) := by
    unfold V
    rw [Int.one_mul, ht, show (nb X.natAbs : Int) - 1 + e + 1 + (e.natAbs : Int) = ((nb X.natAbs : Nat) : Int) + (e + e.natAbs) by omega, pow_sum (a := ((nb X.natAbs : Nat) : Int)) (b := e + e.natAbs) (by omega) (by omega), Int.toNat_natCast]
    refine Int.mul_lt_mul_of_pos_right ?_ (pow_pos' _)
    have : (X.natAbs : Int) < ((2 ^ nb X.natAbs : Nat) : Int) := by omega
    rwa [Int.natCast_pow] at this
  rw [sg_neg (by omega)]; omega
theorem top_mul {X Y e f : Int} (h : X ≠ 0) (k : Y ≠ 0) : topI (X * Y) (e + f) - topI X e - topI Y f = 0 ∨ topI (X * Y) (e + f) - topI X e - topI Y f = 1 := by
  have hn : X.natAbs ≠ 0 := by omega
  have hm : Y.natAbs ≠ 0 := by omega
  have hXY : X * Y ≠ 0 := Int.mul_ne_zero h k
  have h0 : nb X.natAbs ≠ 0 := fun h => hn (nb_zero_iff.1 h)
  have k0 : nb Y.natAbs ≠ 0 := fun h => hm (nb_zero_iff.1 h)
  unfold topI
  rw [if_neg hXY, if_neg h, if_neg k, Int.natAbs_mul]
  have h1 := nb_low hn
  have h2 := lt_pow_nb X.natAbs
  have k1 := nb_low hm
  have k2 := lt_pow_nb Y.natAbs
  have hhi : nb (X.natAbs * Y.natAbs) ≤ nb X.natAbs + nb Y.natAbs := nb_le_of_lt (by rw [Nat.pow_add]; exact Nat.mul_lt_mul_of_lt_of_lt h2 k2)
  have hlo : 2 ^ (nb X.natAbs - 1 + (nb Y.natAbs - 1)) ≤ X.natAbs * Y.natAbs := by rw [Nat.pow_add]; exact Nat.mul_le_mul h1 k1
  have hlo2 : nb X.natAbs - 1 + (nb Y.natAbs - 1) < nb (X.natAbs * Y.natAbs) := by
    have h5 := lt_pow_nb (X.natAbs * Y.natAbs)
    have h6 := Nat.lt_of_le_of_lt hlo h5
    exact (Nat.pow_lt_pow_iff_right (by omega)).1 h6
  omega
theorem topI_in {X e : Int} (h : Fit X 640) (h1 : -2000 ≤ e) (h2 : e ≤ 2000) : -2000 ≤ topI X e ∧ topI X e ≤ 2640 := by
  unfold topI
  have h3 : nb X.natAbs ≤ 640 := nb_le_of_lt h
  split
  · omega
  · have : nb X.natAbs ≠ 0 := fun h => by have := nb_zero_iff.1 h; omega
    omega
theorem cmp_shift (M E : Int) (j : Nat) : cmpD M E (M * 2 ^ j) (E - j) = 0 := by
  have h1 : -((E.natAbs + j : Nat) : Int) ≤ E - j := by omega
  rw [cmp_V (k := E.natAbs + j) (by omega) h1]
  refine sg_zero ?_
  unfold V
  rw [show E + ((E.natAbs + j : Nat) : Int) = (j : Int) + (E - j + ((E.natAbs + j : Nat) : Int)) by omega, pow_sum (by omega) (by omega), Int.toNat_natCast, Int.mul_assoc]
  omega
theorem cmp_anti (a e b f : Int) (h : cmpD a e b f = 0) : cmpD b f a e = 0 := by
  have h1 : -((e.natAbs + f.natAbs : Nat) : Int) ≤ e := by omega
  have h2 : -((e.natAbs + f.natAbs : Nat) : Int) ≤ f := by omega
  rw [cmp_V h1 h2] at h
  rw [cmp_V h2 h1]
  rcases sg_cases (V (e.natAbs + f.natAbs) a e - V (e.natAbs + f.natAbs) b f) with ⟨h3, h4⟩ | ⟨h3, h4⟩ | ⟨h3, h4⟩
  · omega
  · exact sg_zero (by omega)
  · omega
theorem tmI_add0 (a e f : Int) : tmI (addM a e 0 f) = tmI a := (addM_zr rfl).1
theorem teI_add0 (a e f : Int) : teI (addM a e 0 f) (min e f) = teI a e := (addM_zr rfl).2
theorem five {a b c d : Prop} [Decidable a] [Decidable b] [Decidable c] [Decidable d] : ¬a ∨ (a ∧ ¬b) ∨ (a ∧ b ∧ c) ∨ (a ∧ b ∧ ¬c ∧ d) ∨ (a ∧ b ∧ ¬c ∧ ¬d) := by
  by_cases h : a
  · by_cases h2 : b
    · by_cases h3 : c
      · exact .inr (.inr (.inl ⟨h, h2, h3⟩))
      · by_cases h4 : d
        · exact .inr (.inr (.inr (.inl ⟨h, h2, h3, h4⟩)))
        · exact .inr (.inr (.inr (.inr ⟨h, h2, h3, h4⟩)))
    · exact .inr (.inl ⟨h, h2⟩)
  · exact .inl h
def s_DyadTops : FnSpec := ⟨.one .b, fun ds => match ds with | [x, y] => okW x ∧ okW y | _ => False, fun _ _ => 0, fun _ _ => true, fun _ _ => 0, fun _ _ => []⟩
theorem tops4_arg {ds : List D} (h : s_DyadTops.p ds) : ∃ x y, ds = [x, y] ∧ okW x ∧ okW y := by
  match ds, h with
  | [x, y], h => exact ⟨x, y, rfl, h⟩
def okJ : D → Prop | .agg [.bool _, .sl n cs] => n ≤ 100000 → okC n cs | _ => False
theorem okJ_arg {x : D} (h : okJ x) : ∃ s n cs, x = .agg [.bool s, .sl n cs] ∧ (n ≤ 100000 → okC n cs) := by
  match x, h with
  | .agg [.bool s, .sl n cs], h => exact ⟨s, n, cs, rfl, h⟩
def s_DyadForms : FnSpec := ⟨.one .b, fun ds => match ds with | [x, .int .i16 e, .int .u8 k] => okJ x ∧ (-32768 ≤ e ∧ e ≤ 32767) ∧ 0 ≤ k ∧ k ≤ 255 | _ => False, fun _ _ => 0, fun _ _ => true, fun _ _ => 0, fun _ _ => []⟩
theorem forms4_arg {ds : List D} (h : s_DyadForms.p ds) : ∃ x e k, ds = [x, .int .i16 e, .int .u8 k] ∧ okJ x ∧ (-32768 ≤ e ∧ e ≤ 32767) ∧ 0 ≤ k ∧ k ≤ 255 := by
  match ds, h with
  | [x, .int .i16 e, .int .u8 k], h => exact ⟨x, e, k, rfl, h⟩
def s_DyadPowers : FnSpec := ⟨.one .b, fun ds => match ds with | [x, .int .i64 _, .int .i64 _] => okW x | _ => False, fun _ _ => 0, fun _ _ => true, fun _ _ => 0, fun _ _ => []⟩
theorem powers4_arg {ds : List D} (h : s_DyadPowers.p ds) : ∃ x k l, ds = [x, .int .i64 k, .int .i64 l] ∧ okW x := by
  match ds, h with
  | [x, .int .i64 k, .int .i64 l], h => exact ⟨x, k, l, rfl, h⟩
end Go.Proofs.YtbamplgleeofhaaDoor.Ev
