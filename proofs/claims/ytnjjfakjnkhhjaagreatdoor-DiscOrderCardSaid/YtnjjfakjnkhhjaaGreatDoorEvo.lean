import Derived.Test.YtnjjfakjnkhhjaaGreatDoorEve
set_option maxHeartbeats 2000000
set_option maxRecDepth 100000
set_option linter.all false
namespace Go.Proofs.YtnjjfakjnkhhjaaGreatDoor.Ev
open Go Go.RowKit
def modeN (mode : Int) : Int := if mode = 0 ∨ mode = 1 then mode else 2
def outw (mode sign between : Int) : Int := outwardL.getD (0 + (modeN mode).toNat * 8 + ((IntKind.i64.wrap ((IntKind.i64.wrap (sign + 1)).tdiv 2))).toNat * 4 + between.toNat * 1) 0
def restN (h g : Nat) (gone : Int) : Int := if h % 2 = 0 then 0 else if 1 < gone then 3 else if g % 2 = 1 then 2 else 1
def gridI (m : Int) (n : Nat) (mode : Int) : Int := sgn (decide (m < 0)) (m.natAbs / 2 ^ n + (outw mode (sg m) (restN (m.natAbs / 2 ^ (n - 1)) (m.natAbs / 2 ^ n) n)).toNat)
def clampE (e : Int) : Int := min (max e (-20000)) 20000
def stepI (m e p : Int) : Int := clampE (topI m e - min (max p 1) 4000 + 1)
def s_oHeld : FnSpec := s_dHeld
def s_oFar : FnSpec := ⟨.one (.i .i64), fun ds => match ds with | [.int .i64 _, .int .i64 s, .int .i64 b] => (s = -1 ∨ s = 1) ∧ 0 ≤ b ∧ b ≤ 3 | _ => False, fun ds _ => match ds with | [.int _ m, .int _ s, .int _ b] => outw m s b | _ => 0, fun _ _ => false, fun _ _ => 0, fun _ _ => []⟩
def s_oOdd : FnSpec := sp1 (.one .b) canI (fun _ _ => 0) (fun x _ => decide ((dm x).natAbs % 2 = 1))
def s_oRest : FnSpec := ⟨.one (.i .i64), fun ds => match ds with | [x, y, .int .i64 _] => canI x ∧ canI y | _ => False, fun ds _ => match ds with | [x, y, .int _ k] => restN (dm x).natAbs (dm y).natAbs k | _ => 0, fun _ _ => false, fun _ _ => 0, fun _ _ => []⟩
def s_oWritten : FnSpec := sp1 (.agg [.I, .i .i64]) (fun x => okD x ∧ dcn x ≤ 90000) (fun x i => match i with | 0 => tmI (dm x) | _ => teI (dm x) (dx x)) (fun _ _ => false)
def s_oLies : FnSpec := sp2 (.one .b) (fun x y => okD x ∧ isi .i64 y) (fun _ _ _ => 0) (fun x y _ => decide (dm x = 0) || decide (dz y ≤ dx x))
def s_oWithout : FnSpec := sp2 (.agg [.I]) (fun x y => okI x ∧ dcn x ≤ 90000 ∧ isi .i64 y ∧ 0 ≤ dz y ∧ dz y ≤ 1000000000000) (fun x y _ => ((dm x).natAbs / 2 ^ (dz y).toNat : Nat)) (fun _ _ _ => false)
def s_oStep : FnSpec := sp2 (.one (.i .i64)) (fun x y => okD x ∧ isi .i64 y) (fun x y _ => stepI (dm x) (dx x) (dz y)) (fun _ _ _ => false)
def gm (m e E mode : Int) : Int := if m = 0 ∨ E ≤ teI m e then tmI m else tmI (gridI (tmI m) (E - teI m e).toNat mode)
def ge (m e E mode : Int) : Int := if m = 0 ∨ E ≤ teI m e then teI m e else teI (gridI (tmI m) (E - teI m e).toNat mode) E
def s_oGrid : FnSpec := ⟨.agg [.I, .i .i64], fun ds => match ds with | [x, .int .i64 _, .int .i64 _] => okD x ∧ dcn x ≤ 80000 ∧ -90000000 ≤ dx x ∧ dx x ≤ 90000000 | _ => False, fun ds i => match ds with | [x, .int _ e, .int _ mode] => (match i with | 0 => gm (dm x) (dx x) (clampE e) mode | _ => ge (dm x) (dx x) (clampE e) mode) | _ => 0, fun _ _ => false, fun _ _ => 0, fun _ _ => []⟩
def s_oTo : FnSpec := ⟨.agg [.I, .i .i64], fun ds => match ds with | [x, .int .i64 _, .int .i64 _] => okD x ∧ dcn x ≤ 80000 ∧ -90000000 ≤ dx x ∧ dx x ≤ 90000000 | _ => False, fun ds i => match ds with | [x, .int _ p, .int _ mode] => (match i with | 0 => gm (dm x) (dx x) (stepI (dm x) (dx x) p) mode | _ => ge (dm x) (dx x) (stepI (dm x) (dx x) p) mode) | _ => 0, fun _ _ => false, fun _ _ => 0, fun _ _ => []⟩
theorem far_arg {ds : List D} (h : s_oFar.p ds) : ∃ m s b, ds = [.int .i64 m, .int .i64 s, .int .i64 b] ∧ (s = -1 ∨ s = 1) ∧ 0 ≤ b ∧ b ≤ 3 := by
 match ds, h with
 | [.int .i64 m, .int .i64 s, .int .i64 b], h => exact ⟨m, s, b, rfl, h⟩
theorem rest_arg {ds : List D} (h : s_oRest.p ds) : ∃ x y k, ds = [x, y, .int .i64 k] ∧ canI x ∧ canI y := by
 match ds, h with
 | [x, y, .int .i64 k], h => exact ⟨x, y, k, rfl, h⟩
theorem grid_arg {ds : List D} (h : s_oGrid.p ds) : ∃ x e k, ds = [x, .int .i64 e, .int .i64 k] ∧ okD x ∧ dcn x ≤ 80000 ∧ -90000000 ≤ dx x ∧ dx x ≤ 90000000 := by
 match ds, h with
 | [x, .int .i64 e, .int .i64 k], h => exact ⟨x, e, k, rfl, h⟩
theorem lm_head {z : Int} (h : z ≠ 0) : ∃ es, N0.lm z = D.int .u32 ((z.natAbs % Bs : Nat) : Int) :: es := by
 have h1 : z.natAbs ≠ 0 := by omega
 refine ⟨u32s (lim (z.natAbs / Bs)), ?_⟩
 show u32s (lim z.natAbs) = _
 rw [lim_pos h1]; rfl
def docI (m : Int) (n : Nat) (mode : Int) : Int :=
 if mode = 0 then m / 2 ^ n else if mode = 1 then m / 2 ^ n + 1 else
 if 0 < sg ((m - m / 2 ^ n * 2 ^ n) * 2 ^ 1 - 1 * 2 ^ n) ∨ (sg ((m - m / 2 ^ n * 2 ^ n) * 2 ^ 1 - 1 * 2 ^ n) = 0 ∧ (m / 2 ^ n).natAbs % 2 = 1) then m / 2 ^ n + 1 else m / 2 ^ n
theorem outw_tab (mode b : Int) (hb : b = 0 ∨ b = 1 ∨ b = 2 ∨ b = 3) : outw mode 1 b = (if mode = 0 then 0 else if mode = 1 then 1 else if 2 ≤ b then 1 else 0) ∧ outw mode (-1) b = (if mode = 0 then 1 else if mode = 1 then 0 else if 2 ≤ b then 1 else 0) := by
 unfold outw modeN
 by_cases h0 : mode = 0
 ·subst h0
  rcases hb with rfl | rfl | rfl | rfl <;> decide
 ·by_cases h1 : mode = 1
  ·subst h1
   rcases hb with rfl | rfl | rfl | rfl <;> decide
  ·rw [if_neg (by omega), if_neg h0, if_neg h1, if_neg h0, if_neg h1]
   rcases hb with rfl | rfl | rfl | rfl <;> decide
theorem restN_in (h g : Nat) (k : Int) : restN h g k = 0 ∨ restN h g k = 1 ∨ restN h g k = 2 ∨ restN h g k = 3 := by
 unfold restN
 split
 ·exact .inl rfl
 ·split
  ·exact .inr (.inr (.inr rfl))
  ·split
   ·exact .inr (.inr (.inl rfl))
   ·exact .inr (.inl rfl)
theorem half_rest {a n : Nat} (hn : 1 ≤ n) (ha : a % 2 = 1) : (2 ≤ restN (a / 2 ^ (n - 1)) (a / 2 ^ n) n ↔ (2 ^ n < 2 * (a % 2 ^ n) ∨ (2 ^ n = 2 * (a % 2 ^ n) ∧ (a / 2 ^ n) % 2 = 1))) ∧ a % 2 ^ n ≠ 0 := by
 obtain ⟨k, rfl⟩ : ∃ k, n = k + 1 := ⟨n - 1, by omega⟩
 rw [Nat.add_sub_cancel]
 have hp : (2 : Nat) ^ (k + 1) = 2 ^ k * 2 := Nat.pow_succ ..
 have hH : 0 < (2 : Nat) ^ k := Nat.pow_pos (by omega)
 have h1 : a / 2 ^ (k + 1) = a / 2 ^ k / 2 := by rw [hp, Nat.div_div_eq_div_mul]
 have h2 := Nat.div_add_mod a (2 ^ k)
 have h3 := Nat.mod_lt a hH
 have h4 : a % 2 ^ (k + 1) = a % 2 ^ k + 2 ^ k * (a / 2 ^ k % 2) := by rw [hp, Nat.mod_mul]
 have hm : a / 2 ^ k % 2 = 0 ∨ a / 2 ^ k % 2 = 1 := by omega
 have hk0 : k = 0 ∨ 2 ^ k % 2 = 0 := by
  rcases Nat.eq_zero_or_pos k with h | h
  ·exact .inl h
  ·exact .inr (by obtain ⟨j, rfl⟩ : ∃ j, k = j + 1 := ⟨k - 1, by omega⟩; rw [Nat.pow_succ]; omega)
 have hpar : k ≠ 0 → a % 2 ^ k % 2 = 1 := fun h => by
  have h6 : 2 ^ k % 2 = 0 := by rcases hk0 with h7 | h7 <;> omega
  have h7 : (2 ^ k * (a / 2 ^ k)) % 2 = 0 := by rw [Nat.mul_mod, h6, Nat.zero_mul]
  omega
 unfold restN
 rw [h4, h1, hp]
 rcases hk0 with hk | hk
 ·subst hk
  have h5 : a % 2 ^ 0 = 0 := by rw [Nat.pow_zero, Nat.mod_one]
  have h6 : a / 2 ^ 0 = a := by rw [Nat.pow_zero, Nat.div_one]
  rw [h5, h6]
  rw [if_neg (by omega), if_neg (by omega)]
  simp only [Nat.pow_zero]
  split <;> omega
 ·have hk1 : k ≠ 0 := fun h => by subst h; simp at hk
  have h5 := hpar hk1
  rcases hm with h6 | h6
  ·rw [h6, if_pos rfl, Nat.mul_zero]
   omega
  ·rw [h6, if_neg (by omega), if_pos (by omega), Nat.mul_one]
   omega
theorem sg_gt (z : Int) : 0 < sg z ↔ 0 < z := by rcases sg_cases z with ⟨h1, h2⟩ | ⟨h1, h2⟩ | ⟨h1, h2⟩ <;> rw [h2] <;> omega
theorem sg_eq (z : Int) : sg z = 0 ↔ z = 0 := by rcases sg_cases z with ⟨h1, h2⟩ | ⟨h1, h2⟩ | ⟨h1, h2⟩ <;> rw [h2] <;> omega
theorem grid_eq {m : Int} {n : Nat} (hm : m.natAbs % 2 = 1) (hn : 1 ≤ n) (mode : Int) : gridI m n mode = docI m n mode := by
 obtain ⟨hr, hr0⟩ := half_rest hn hm
 have hin := restN_in (m.natAbs / 2 ^ (n - 1)) (m.natAbs / 2 ^ n) n
 have ho := outw_tab mode _ hin
 have hP : (0 : Int) < 2 ^ n := pow_pos' n
 have hd := Nat.div_add_mod m.natAbs (2 ^ n)
 have hlt := Nat.mod_lt m.natAbs (Nat.pow_pos (n := n) (show 0 < 2 by omega))
 have hpc : ((2 ^ n : Nat) : Int) = 2 ^ n := by rw [Int.natCast_pow]; rfl
 unfold gridI
 generalize restN (m.natAbs / 2 ^ (n - 1)) (m.natAbs / 2 ^ n) n = B at *
 rcases Int.lt_or_le m 0 with hs | hs
 ·rw [sg_neg hs, decide_eq_true hs, ho.2]
  have hq : m / 2 ^ n = -((m.natAbs / 2 ^ n : Nat) : Int) - 1 := by
   have := Int.ediv_emod_unique (a := m) (b := 2 ^ n) (q := -((m.natAbs / 2 ^ n : Nat) : Int) - 1) (r := 2 ^ n - ((m.natAbs % 2 ^ n : Nat) : Int)) hP
   refine (this.2 ⟨?_, by omega, by omega⟩).1
   have e : ((2 ^ n * (m.natAbs / 2 ^ n) + m.natAbs % 2 ^ n : Nat) : Int) = (m.natAbs : Int) := by rw [hd]
   rw [Int.natCast_add, Int.natCast_mul, hpc] at e
   rw [Int.mul_sub, Int.mul_neg, Int.mul_one]
   omega
  unfold docI
  rw [hq]
  have e : ((2 ^ n * (m.natAbs / 2 ^ n) + m.natAbs % 2 ^ n : Nat) : Int) = (m.natAbs : Int) := by rw [hd]
  rw [Int.natCast_add, Int.natCast_mul, hpc] at e
  have hx : (m - (-((m.natAbs / 2 ^ n : Nat) : Int) - 1) * 2 ^ n) * 2 ^ 1 - 1 * 2 ^ n = 2 ^ n - 2 * ((m.natAbs % 2 ^ n : Nat) : Int) := by
   have e2 : (-((m.natAbs / 2 ^ n : Nat) : Int) - 1) * 2 ^ n = -(2 ^ n * ((m.natAbs / 2 ^ n : Nat) : Int)) - 2 ^ n := by
    rw [Int.sub_mul, Int.neg_mul, Int.one_mul, Int.mul_comm]
   rw [e2, show (2 : Int) ^ 1 = 2 from rfl]
   omega
  rw [hx]
  generalize m.natAbs / 2 ^ n = g at *
  generalize m.natAbs % 2 ^ n = r at *
  simp only [sg_gt, sg_eq]
  rw [sgn_true]
  clear ho hd hlt hm hin hq hx
  by_cases h0 : mode = 0
  ·rw [if_pos h0, if_pos h0, show (1 : Int).toNat = 1 from rfl]; omega
  ·by_cases h1 : mode = 1
   ·rw [if_neg h0, if_pos h1, if_neg h0, if_pos h1, show (0 : Int).toNat = 0 from rfl]; omega
   ·rw [if_neg h0, if_neg h1, if_neg h0, if_neg h1]
    by_cases h2 : 2 ≤ B
    ·rw [if_pos h2, if_neg (by have := hr.1 h2; omega), show (1 : Int).toNat = 1 from rfl]; omega
    ·rw [if_neg h2, if_pos (by have := fun h => h2 (hr.2 h); omega), show (0 : Int).toNat = 0 from rfl]; omega
 ·have hs' : 0 < m := by omega
  rw [sg_pos hs', decide_eq_false (by omega), ho.1]
  have hq : m / 2 ^ n = ((m.natAbs / 2 ^ n : Nat) : Int) := by
   rw [Int.natCast_ediv, hpc]; congr 1; omega
  have e : ((2 ^ n * (m.natAbs / 2 ^ n) + m.natAbs % 2 ^ n : Nat) : Int) = (m.natAbs : Int) := by rw [hd]
  rw [Int.natCast_add, Int.natCast_mul, hpc] at e
  unfold docI
  rw [hq]
  have hx : (m - ((m.natAbs / 2 ^ n : Nat) : Int) * 2 ^ n) * 2 ^ 1 - 1 * 2 ^ n = 2 * ((m.natAbs % 2 ^ n : Nat) : Int) - 2 ^ n := by
   rw [Int.mul_comm _ (2 ^ n), show (2 : Int) ^ 1 = 2 from rfl]
   omega
  rw [hx]
  generalize m.natAbs / 2 ^ n = g at *
  generalize m.natAbs % 2 ^ n = r at *
  simp only [sg_gt, sg_eq]
  rw [sgn_false]
  clear ho hd hlt hm hin hq hx
  by_cases h0 : mode = 0
  ·rw [if_pos h0, if_pos h0, show (0 : Int).toNat = 0 from rfl]; omega
  ·by_cases h1 : mode = 1
   ·rw [if_neg h0, if_pos h1, if_neg h0, if_pos h1, show (1 : Int).toNat = 1 from rfl]; omega
   ·rw [if_neg h0, if_neg h1, if_neg h0, if_neg h1]
    by_cases h2 : 2 ≤ B
    ·rw [if_pos h2, if_pos (by have := hr.1 h2; omega), show (1 : Int).toNat = 1 from rfl]; omega
    ·rw [if_neg h2, if_neg (by have := fun h => h2 (hr.2 h); omega), show (0 : Int).toNat = 0 from rfl]; omega
theorem s_oFar_else {m s b : Int} (h0 : ¬m = 0) (h1 : ¬m = 1) : s_oFar.z [.int .i64 m, .int .i64 s, .int .i64 b] 0 = outw 2 s b := by
 show outw m s b = outw 2 s b
 unfold outw modeN
 rw [if_neg (by omega), if_neg (by omega)]
theorem lm_len (z : Int) : (N0.lm z).length = N0.ln z := by
 show (u32s (lim z.natAbs)).length = ln z.natAbs
 unfold u32s ln; rw [List.length_map]
theorem ln_posI {z : Int} (h : 0 < ((N0.ln z : Nat) : Int)) : z ≠ 0 := fun h0 => by
 rw [h0, N0_ln0] at h; omega
theorem ln_zeroI {z : Int} (h : ¬0 < ((N0.ln z : Nat) : Int)) : z = 0 := by
 have h1 : ln z.natAbs = 0 := by have : N0.ln z = ln z.natAbs := rfl; omega
 have := ln_zero_iff.1 h1; omega
theorem odd_head (z : Int) : decide (z.natAbs % 2 = 1) = !(((z.natAbs % Bs : Nat) : Int).tmod 2 == 0) := by
 rw [Int.tmod_eq_emod_of_nonneg (by omega), Bs_eq, Bool.eq_iff_iff, decide_eq_true_eq, Bool.not_eq_true', beq_eq_false_iff_ne]
 omega
theorem z00 : min (max (0 : Int) (-20000)) 20000 = 0 := by decide
theorem tm0 {X : Int} (h : tmI X = 0) : X = 0 := Classical.byContradiction fun h1 => tmI_ne h1 h
theorem te_bd {m e : Int} {k : Nat} (h : Fit m k) : teI m e = 0 ∨ (e ≤ teI m e ∧ teI m e ≤ e + k) := by
 by_cases h0 : m = 0
 ·exact .inl (by rw [h0]; exact teI_zero _)
 ·have := tz_lt h h0
  have h1 : teI m e = e + tz m.natAbs := if_neg h0
  exact .inr ⟨by omega, by omega⟩
theorem te_add {m e : Int} (h : m ≠ 0) : e + teI m 0 = teI m e := by
 have h1 : teI m e = e + tz m.natAbs := if_neg h
 have h2 : teI m 0 = 0 + tz m.natAbs := if_neg h
 omega
theorem without_val {n j : Nat} {cs : List D} (s : Bool) (hc : okC n cs) : vI false (cs.drop (min (j / 32) n)) / 2 ^ (j % 32) = (((vI s cs).natAbs / 2 ^ j : Nat) : Int) := by
 have hv : vI false (cs.drop (min (j / 32) n)) = ((val (nums cs) / 2 ^ (32 * min (j / 32) n) : Nat) : Int) := by
  have hn : nums (cs.drop (min (j / 32) n)) = (nums cs).drop (min (j / 32) n) := by unfold nums; rw [List.map_drop]
  unfold vI
  rw [sgn_false, hn, val_drop hc.2.2.1, Bs_pow_eq]
 have hX : (vI s cs).natAbs = val (nums cs) := by unfold vI; rw [sgn_natAbs]
 have hf : val (nums cs) < 2 ^ (32 * n) := by rw [← hX]; exact okC_fit hc s
 rw [hv, hX, show (2 : Int) ^ (j % 32) = ((2 ^ (j % 32) : Nat) : Int) by rw [Int.natCast_pow]; rfl, ← Int.natCast_ediv, Nat.div_div_eq_div_mul, ← Nat.pow_add]
 by_cases h : j / 32 ≤ n
 ·rw [Nat.min_eq_left h, show 32 * (j / 32) + j % 32 = j by omega]
 ·rw [Nat.min_eq_right (by omega)]
  have h1 : val (nums cs) / 2 ^ (32 * n + j % 32) = 0 := Nat.div_eq_of_lt (Nat.lt_of_lt_of_le hf (Nat.pow_le_pow_right (by omega) (by omega)))
  have h2 : val (nums cs) / 2 ^ j = 0 := Nat.div_eq_of_lt (Nat.lt_of_lt_of_le hf (Nat.pow_le_pow_right (by omega) (by omega)))
  rw [h1, h2]
theorem top_bd {X e : Int} {k : Nat} (h : Fit X k) : topI X e = 0 ∨ (e ≤ topI X e ∧ topI X e ≤ e + k) := by
 unfold topI
 split
 ·exact .inl rfl
 ·have h1 : nb X.natAbs ≤ k := nb_le_of_lt h
  have h2 : nb X.natAbs ≠ 0 := fun h => by have := nb_zero_iff.1 h; omega
  exact .inr ⟨by omega, by omega⟩
theorem max_if1 (k : Int) : (if 1 > k then 1 else k) = max k 1 := by simp only [Int.max_def]; repeat' split <;> omega
theorem clamp_step (m e p : Int) : clampE (stepI m e p) = stepI m e p := by unfold stepI clampE; omega
theorem Post.z0 {Q : Post} {m e : Int} (h : Q.R (.agg [.bool (N0.neg m), .sl (N0.ln m) (N0.lm m), .int .i64 e])) (hm : m = 0) (he : e = 0) : Q.R (.agg [.bool false, .sl 0 [], .int .i64 0]) := by
 subst hm he
 rw [N0_neg0, N0_ln0, N0_lm0] at h
 exact h
theorem or_lies1 {X k e : Int} {i1 : Decidable (X = 0)} {i2 : Decidable (k ≤ e)} (h : ¬X = 0) : (@decide _ i1 || @decide _ i2) = decide (k ≤ e) := by
 by_cases hk : k ≤ e
 ·rw [decide_eq_true hk]; simp []
 ·rw [decide_eq_false hk]; simp [h]
theorem or_lies0 {X k e : Int} {i1 : Decidable (X = 0)} {i2 : Decidable (k ≤ e)} (h : X = 0) : (@decide _ i1 || @decide _ i2) = true := by
 rw [Bool.or_eq_true, decide_eq_true_eq]; exact .inl h
theorem held20 (k : Int) : s_dHeld.z [D.int IntKind.i64 k, D.int IntKind.i64 20000] 0 = clampE k := rfl
theorem gm_lies {m e E mode : Int} (h : m = 0 ∨ E ≤ teI m e) : gm m e E mode = tmI m ∧ ge m e E mode = teI m e := ⟨if_pos h, if_pos h⟩
theorem gm_far {m e E mode : Int} (h : ¬(m = 0 ∨ E ≤ teI m e)) : gm m e E mode = tmI (gridI (tmI m) (E - teI m e).toNat mode) ∧ ge m e E mode = teI (gridI (tmI m) (E - teI m e).toNat mode) E := ⟨if_neg h, if_neg h⟩
theorem or_true {X E T : Int} {i1 : Decidable (tmI X = 0)} {i2 : Decidable (E ≤ T)} (h : (@decide _ i1 || @decide _ i2) = true) : X = 0 ∨ E ≤ T := by
 rw [Bool.or_eq_true, decide_eq_true_eq, decide_eq_true_eq] at h
 rcases h with h | h
 ·exact .inl (tm0 h)
 ·exact .inr h
theorem or_false {X E T : Int} {i1 : Decidable (tmI X = 0)} {i2 : Decidable (E ≤ T)} (h : (@decide _ i1 || @decide _ i2) = false) : X ≠ 0 ∧ T < E := by
 rw [Bool.or_eq_false_iff, decide_eq_false_iff_not, decide_eq_false_iff_not] at h
 exact ⟨fun hX => h.1 (by rw [hX]; exact tmI_zero), by have := h.2; omega⟩
theorem held1 (a g : Nat) (hg : 1 ≤ g) : ((a / 2 ^ (g - 1) : Nat) : Int) / 2 ^ heldN 1 = ((a / 2 ^ g : Nat) : Int) := by
 rw [show heldN 1 = 1 from rfl, show (2 : Int) ^ 1 = ((2 : Nat) : Int) from rfl, ← Int.natCast_ediv, Nat.div_div_eq_div_mul, show 2 ^ (g - 1) * 2 = 2 ^ g by rw [← Nat.pow_succ]; congr 1; omega]
theorem outw_in (mode : Int) {sign : Int} (hs : sign = -1 ∨ sign = 1) (h g : Nat) (k : Int) : 0 ≤ outw mode sign (restN h g k) ∧ outw mode sign (restN h g k) ≤ 1 := by
 have h1 := outw_tab mode _ (restN_in h g k)
 rcases hs with rfl | rfl
 ·rw [h1.2]; repeat' split
  all_goals omega
 ·rw [h1.1]; repeat' split
  all_goals omega
theorem sg_tm1 {X : Int} (h : X ≠ 0) : sg (tmI X) = -1 ∨ sg (tmI X) = 1 := by
 have := tmI_ne h
 rcases sg_cases (tmI X) with ⟨_, h2⟩ | ⟨h1, _⟩ | ⟨_, h2⟩
 ·exact .inl h2
 ·exact absurd h1 this
 ·exact .inr h2
theorem restN_le (h g : Nat) (k : Int) : 0 ≤ restN h g k ∧ restN h g k ≤ 3 := by
 have := restN_in h g k; omega
theorem grid_sum {m o : Int} {g : Nat} (h0 : 0 ≤ o) : sgn (N0.neg m) (((m.natAbs / 2 ^ g : Nat) : Int) + o).natAbs = sgn (decide (m < 0)) (m.natAbs / 2 ^ g + o.toNat) := by
 show sgn (decide (m < 0)) _ = _
 congr 1; generalize m.natAbs / 2 ^ g = a; omega
theorem vI_mk2 (s : Bool) (z : Int) : vI s (N0.lm z) = sgn s z.natAbs := by
 unfold vI N0
 dsimp only
 rw [nums_u32s, val_lim]
theorem fit_one {a : Nat} {o : Int} {k : Nat} (h : Fit (a : Int) k) (h0 : 0 ≤ o) (h1 : o ≤ 1) : Fit ((a : Int) + o) (k + 1) := by
 unfold Fit at *
 rw [Int.natAbs_natCast] at h
 rw [Nat.pow_succ]
 have : 0 < 2 ^ k := Nat.pow_pos (by decide)
 omega
theorem good_oHeld : Good Tryz.prog (GWL [0, 1]) N0 218 s_oHeld := by
 refine goodM 0 gn Tryz.f218 (by kernel_rfl) (by kernel_rfl) fun ds hp F A Q hF hA hQ => ?_
 obtain ⟨x, y, rfl, hx, hy, h1, h2⟩ := sp2_arg hp
 obtain ⟨n, rfl⟩ := isi_arg hx
 obtain ⟨m, rfl⟩ := isi_arg hy
 cbv
 all_goals (repeat (rw [safe_true hA, true_and]; rotate_left; kernel_rfl))
 all_goals subst hF hA
 all_goals simp only [std, sp2, a2, FnSpec.out, Shape.build, leafCells, oneOf, s_oHeld, s_dHeld] at hQ ⊢
 have e1 : IntKind.i64.wrap (0 - m) = -m := by rw [show (0 - m : Int) = -m by omega]; exact IntWalk.i64_in _ (by simp only [dz] at h1 h2; omega)
 have e2 : (if m < (if -m > n then -m else n) then m else (if -m > n then -m else n)) = min (max n (-m)) m := by
  simp only [Int.min_def, Int.max_def]
  repeat' split
  all_goals omega
 simp only [dz] at hQ
 first | (rw [e1, e2]; exact hQ) | (rw [e1]; rw [← e2] at hQ; exact hQ)
theorem good_oFar : Good Tryz.prog (GWL [0, 1, 2, 4]) N0 221 s_oFar := by
 refine goodM 0 gn Tryz.f221 (by kernel_rfl) (by kernel_rfl) fun ds hp F A Q hF hA hQ => ?_
 obtain ⟨mo, sg_, bt, rfl, hs, hb1, hb2⟩ := far_arg hp
 clear hp
 have hb : bt = 0 ∨ bt = 1 ∨ bt = 2 ∨ bt = 3 := by omega
 clear hb1 hb2
 have hm : mo = 0 ∨ mo = 1 ∨ (¬mo = 0 ∧ ¬mo = 1) := by omega
 rcases hm with rfl | rfl | ⟨hm0, hm1⟩ <;> rcases hs with rfl | rfl <;> rcases hb with rfl | rfl | rfl | rfl
 all_goals cbv
 all_goals repeat' (first | with_reducible refine And.intro ?_ ?_ | (with_reducible refine safe_lift hA ?_; kernel_rfl) | (intro hc_; (first | (exfalso; clear hQ; subst hF hA; simp only [fnOf, find, std, reduceIte, Nat.reduceEqDiff, sp1, sp2, a1, a2, FnSpec.out, Shape.build, leafs, leafCells, tups, oneOf, List.cons_append, List.nil_append, List.length_cons, List.length_nil, s_oFar, decide_eq_true_eq, decide_eq_false_iff_not, Bool.not_eq_eq_eq_not, Bool.not_true, Bool.not_false, beq_iff_eq, beq_eq_false_iff_ne, ne_eq, eq_self, not_true_eq_false, not_false_eq_true, reduceCtorEq, Bool.true_eq_false, Bool.false_eq_true] at hc_; done) | (exfalso; clear hQ; subst hF hA; simp [std] at hc_; omega) | (clear hc_; cbv))))
 all_goals subst hF hA
 all_goals first
  | exact Post.i hQ (by decide)
  | exact Post.i hQ ((s_oFar_else hm0 hm1).trans (by decide))
  | decide
  | (simp only [std]; decide)
theorem good_oOdd : Good Tryz.prog (GWL [0, 1]) N0 236 s_oOdd := by
 refine goodM 0 gn Tryz.f236 (by kernel_rfl) (by kernel_rfl) fun ds hp F A Q hF hA hQ => ?_
 obtain ⟨x, rfl, hx⟩ := sp1_arg hp
 obtain ⟨z, s, n, cs, rfl, hs, hn, hcs, hz⟩ := canI_arg hx
 clear hp hx
 cbv
 repeat' (first | with_reducible refine And.intro ?_ ?_ | (with_reducible refine safe_lift hA ?_; kernel_rfl) | (intro hc_; cbv))
 all_goals (repeat (rw [safe_true hA, true_and]; rotate_left; kernel_rfl))
 all_goals subst hF hA
 all_goals simp only [std, sp1, a1, FnSpec.out, Shape.build, leafCells, oneOf, s_oOdd, dm_raw, decide_eq_true_eq, min_if] at *
 all_goals subst hs hn hcs
 all_goals (try simp only [vI_N0] at *)
 all_goals have hl := lm_len z
 all_goals first
  | decide
  | exact ⟨by omega, hc_, hl⟩
  | (obtain ⟨es, he⟩ := lm_head (ln_posI hc_); rw [he]; exact ⟨_, rfl⟩)
  | (obtain ⟨es, he⟩ := lm_head (ln_posI hc_); rw [he]; exact Post.b hQ (odd_head z))
  | (have h0 := ln_zeroI (of_decide_eq_false hc_); subst h0; exact hQ)
theorem good_oRest : Good Tryz.prog (GWL [0, 1]) N0 222 s_oRest := by
 refine goodM 0 (gc good_oOdd gn) Tryz.f222 (by kernel_rfl) (by kernel_rfl) fun ds hp F A Q hF hA hQ => ?_
 obtain ⟨x, y, k, rfl, hx, hy⟩ := rest_arg hp
 obtain ⟨z, s, n, cs, rfl, hs, hn, hcs, hz⟩ := canI_arg hx
 obtain ⟨v, t, m, es, rfl, ht, hm, hes, hv⟩ := canI_arg hy
 clear hp hx hy
 cbv
 repeat' (first | with_reducible refine And.intro ?_ ?_ | (with_reducible refine safe_lift hA ?_; kernel_rfl) | (intro hc_; cbv))
 all_goals (repeat (rw [safe_true hA, true_and]; rotate_left; kernel_rfl))
 all_goals subst hF hA
 all_goals simp only [fnOf, find, std, reduceIte, sp1, a1, FnSpec.out, Shape.build, leafCells, oneOf, s_oRest, s_oOdd, dm_raw, decide_eq_true_eq, decide_eq_false_iff_not, min_if] at *
 all_goals subst hs hn hcs ht hm hes
 all_goals (try simp only [vI_N0] at *)
 all_goals first
  | exact canI_dI hz
  | exact canI_dI hv
  | (refine Post.i hQ ?_; (try simp only [Bool.not_eq_eq_eq_not, Bool.not_true, Bool.not_false, decide_eq_true_eq, decide_eq_false_iff_not] at *); unfold restN; repeat' split; all_goals first | rfl | omega)
theorem good_oWritten : Good Tryz.prog (GWL [0, 1]) N0 217 s_oWritten := by
 refine goodM 0 (gc good_dMake <| gc good_dSign <| gc good_oHeld gn) Tryz.f217 (by kernel_rfl) (by kernel_rfl) fun ds hp F A Q hF hA hQ => ?_
 obtain ⟨x, rfl, hx, hb⟩ := sp1_arg hp
 obtain ⟨s, n, cs, e, rfl, hc, he1, he2⟩ := okD_arg hx
 clear hp hx
 cbv
 repeat' (first | with_reducible refine And.intro ?_ ?_ | (with_reducible refine safe_lift hA ?_; kernel_rfl) | (intro hc_; cbv))
 all_goals (repeat (rw [safe_true hA, true_and]; rotate_left; kernel_rfl))
 all_goals subst hF hA
 all_goals simp only [fnOf, find, std, reduceIte, Nat.reduceEqDiff, sp1, sp2, a1, a2, FnSpec.out, Shape.build, leafs, leafCells, List.cons_append, List.nil_append, s_oWritten, s_dMake, s_dSign, s_oHeld, dz, dx, dcn, dm_raw, vI_N0, decide_eq_true_eq, decide_eq_false_iff_not, sg_beq, min_if, s_dHeld] at *
 all_goals (try simp only [z00] at *)
 all_goals
  have hf := okC_fit hc s
  have hg : Fit (tmI (vI s cs)) (32 * n) := hf.le (tmI_le _)
  have hb0 := te_bd (e := 0) hf
  have hb1 := te_bd (e := e) hf
 all_goals first
  | exact ⟨hc, hb, rfl⟩
  | exact ⟨okC_fitN hg (by omega), by omega, by omega⟩
  | exact ⟨rfl, rfl, by omega, by omega⟩
  | (have h0 := tm0 hc_; exact Post.d hQ rfl (by rw [h0, teI_zero, teI_zero]))
  | (have h0 : vI s cs ≠ 0 := fun h => hc_ (by rw [h]; exact tmI_zero)
     rw [show min (max e (-4611686018427387903)) 4611686018427387903 = e by omega, te_add h0, wrap_in (by omega) (by omega)]
     exact hQ)
theorem good_oLies : Good Tryz.prog (GWL [0, 1]) N0 219 s_oLies := by
 refine goodM 0 (gc good_dSign gn) Tryz.f219 (by kernel_rfl) (by kernel_rfl) fun ds hp F A Q hF hA hQ => ?_
 obtain ⟨x, y, rfl, hx, hy⟩ := sp2_arg hp
 obtain ⟨s, n, cs, e, rfl, hc, he1, he2⟩ := okD_arg hx
 obtain ⟨k, rfl⟩ := isi_arg hy
 clear hp hx hy
 cbv
 repeat' (first | with_reducible refine And.intro ?_ ?_ | (with_reducible refine safe_lift hA ?_; kernel_rfl) | (intro hc_; cbv))
 all_goals (repeat (rw [safe_true hA, true_and]; rotate_left; kernel_rfl))
 all_goals subst hF hA
 all_goals simp only [fnOf, find, std, reduceIte, sp1, sp2, a1, a2, FnSpec.out, Shape.build, leafCells, oneOf, s_oLies, s_dSign, dz, dx, dm_raw, decide_eq_false_iff_not, sg_beq, min_if] at *
 all_goals first
  | exact ⟨hc, he1, he2⟩
  | exact Post.b hQ (or_lies1 hc_)
  | exact Post.b hQ (or_lies0 (by simpa using hc_))
theorem good_oWithout : Good Tryz.prog (GWL [0, 1]) N0 220 s_oWithout := by
 refine goodM 0 (gc (good_wShr fun _ h => tab_at h (by decide)) gn) Tryz.f220 (by kernel_rfl) (by kernel_rfl) fun ds hp F A Q hF hA hQ => ?_
 obtain ⟨x, y, rfl, hx, hb, hy, hk1, hk2⟩ := sp2_arg hp
 obtain ⟨s, n, cs, rfl, hc⟩ := okI_arg hx
 obtain ⟨k, rfl⟩ := isi_arg hy
 clear hp hx hy
 cbv
 repeat' (first | with_reducible refine And.intro ?_ ?_ | (with_reducible refine safe_lift hA ?_; kernel_rfl) | (intro hc_; cbv))
 all_goals (repeat (rw [safe_true hA, true_and]; rotate_left; kernel_rfl))
 all_goals subst hF hA
 all_goals simp only [fnOf, find, std, reduceIte, sp2, a2, FnSpec.out, Shape.build, leafs, leafCells, List.cons_append, List.nil_append, s_oWithout, s_wShr, dz, dcn, dm_raw, min_if] at *
 all_goals obtain ⟨j, rfl⟩ := Int.eq_ofNat_of_zero_le hk1
 all_goals
  have hq : IntKind.i64.wrap ((j : Int).tdiv 32) = ((j / 32 : Nat) : Int) := by rw [Int.tdiv_eq_ediv_of_nonneg (by omega), wrap_in (by omega) (by omega)]; omega
  have hr : (j : Int).tmod 32 = ((j % 32 : Nat) : Int) := by rw [Int.tmod_eq_emod_of_nonneg (by omega)]; omega
  have hm : (min ((j / 32 : Nat) : Int) (n : Int)).toNat = min (j / 32) n := by omega
  have hN : heldN ((j % 32 : Nat) : Int) = j % 32 := by unfold heldN; omega
  (try rw [hq])
  (try rw [hr])
  (try rw [hm])
 all_goals first
  | decide
  | exact ⟨by omega, by omega, hc.2.1⟩
  | exact ⟨okC_drop hc, rfl⟩
  | (rw [hN, without_val s hc]; exact hQ)
theorem good_oStep : Good Tryz.prog (GWL [0, 1]) N0 194 s_oStep := by
 refine goodM 0 (gc good_dTop <| gc good_oHeld gn) Tryz.f194 (by kernel_rfl) (by kernel_rfl) fun ds hp F A Q hF hA hQ => ?_
 obtain ⟨x, y, rfl, hx, hy⟩ := sp2_arg hp
 obtain ⟨s, n, cs, e, rfl, hc, he1, he2⟩ := okD_arg hx
 obtain ⟨k, rfl⟩ := isi_arg hy
 clear hp hx hy
 cbv
 repeat' (first | with_reducible refine And.intro ?_ ?_ | (with_reducible refine safe_lift hA ?_; kernel_rfl) | (intro hc_; cbv))
 all_goals (repeat (rw [safe_true hA, true_and]; rotate_left; kernel_rfl))
 all_goals subst hF hA
 all_goals simp only [fnOf, find, std, reduceIte, Nat.reduceEqDiff, sp1, sp2, a1, a2, FnSpec.out, Shape.build, leafCells, oneOf, s_oStep, s_dTop, s_oHeld, dz, dx, dm_raw, min_if, s_dHeld, stepI] at *
 all_goals first
  | exact ⟨hc, he1, he2⟩
  | exact ⟨rfl, rfl, by decide, by decide⟩
  | (have ht := top_bd (e := e) (okC_fit hc s)
     have hn := hc.2.2.2
     refine Post.i hQ ?_
     rw [max_if1, wrap_in (z := topI (vI s cs) e - min (max k 1) 4000) (by omega) (by omega), wrap_in (by omega) (by omega)]
     rfl)
theorem good_oGrid : Good Tryz.prog (GWL [0, 1, 2, 4]) N0 193 s_oGrid := by
 refine goodM 0 (gl good_oWritten rfl <| gl good_oHeld rfl <| gl good_oLies rfl <| gl good_oWithout rfl <| gc (good_wShr fun _ h => tab_at h (by decide)) <| gc good_wOf <| gc good_oFar <| gl good_dSign rfl <| gl good_oRest rfl <| gc (good_wAdd fun _ h => sums_at h (by decide)) <| gl good_dMake rfl gn) Tryz.f193 (by kernel_rfl) (by kernel_rfl) fun ds hp F A Q hF hA hQ => ?_
 obtain ⟨x, k, md, rfl, hx, hb, hx1, hx2⟩ := grid_arg hp
 obtain ⟨s, n, cs, e, rfl, hc, he1, he2⟩ := okD_arg hx
 clear hp hx
 cbv
 repeat' (first | with_reducible refine And.intro ?_ ?_ | (with_reducible refine safe_lift hA ?_; kernel_rfl) | (intro hc_; cbv))
 all_goals (repeat (rw [safe_true hA, true_and]; rotate_left; kernel_rfl))
 all_goals subst hF hA
 all_goals simp only [fnOf, find, std, reduceIte, Nat.reduceEqDiff, sp1, sp2, a1, a2, FnSpec.out, Shape.build, leafs, leafCells, List.cons_append, List.nil_append, s_oGrid, s_oWritten, s_oHeld, s_oLies, s_oWithout, s_wShr, s_wOf, s_oFar, s_dSign, s_oRest, s_wAdd, s_dMake, dz, dx, dcn, dm_raw, vI_N0, min_if] at *
 all_goals (try simp only [held20] at *)
 all_goals
  have hf := okC_fit hc s
  have hg : Fit (tmI (vI s cs)) (32 * n) := hf.le (tmI_le _)
  have hb1 := te_bd (e := e) hf
  have hE : -20000 ≤ clampE k ∧ clampE k ≤ 20000 := by unfold clampE; omega
  have hcM : okC (N0.ln (tmI (vI s cs))) (N0.lm (tmI (vI s cs))) := okC_fitN hg (by omega)
  have hlM : N0.ln (tmI (vI s cs)) ≤ 90000 := Nat.le_trans (Fit.ln hg (n := n) (by omega)) (by omega)
 case refine_1 => exact ⟨⟨hc, he1, he2⟩, by omega⟩
 case refine_2.refine_1 => exact ⟨rfl, rfl, by decide, by decide⟩
 case refine_2.refine_2.refine_1 => exact ⟨⟨hcM, by omega, by omega⟩, rfl⟩
 case refine_2.refine_2.refine_2.refine_1 =>
  have h := gm_lies (mode := md) (or_true hc_)
  exact Post.d hQ h.1 h.2
 all_goals
  obtain ⟨hX, hT⟩ := or_false hc_
  obtain ⟨g, hgE, hg1⟩ : ∃ g : Nat, clampE k - teI (vI s cs) e = g ∧ 1 ≤ g := ⟨(clampE k - teI (vI s cs) e).toNat, by omega, by omega⟩
  have hw1 : IntKind.i64.wrap (clampE k - teI (vI s cs) e) = (g : Int) := by rw [hgE]; exact wrap_in (by omega) (by omega)
  have hw2 : IntKind.i64.wrap ((g : Int) - 1) = ((g - 1 : Nat) : Int) := by rw [wrap_in (by omega) (by omega)]; omega
  have hgm := gm_far (E := clampE k) (m := vI s cs) (e := e) (mode := md) (by omega)
  rw [hgE, Int.toNat_natCast] at hgm
  rw [hgm.1, hgm.2] at hQ
  (try simp only [hw1, hw2, Int.toNat_natCast, held1 _ _ hg1, Int.natAbs_natCast])
  clear hgm hc_ hw1 hw2
  have hs := sg_tm1 hX
  have ho := outw_in md hs ((tmI (vI s cs)).natAbs / 2 ^ (g - 1)) ((tmI (vI s cs)).natAbs / 2 ^ g) (g : Int)
  have hr := restN_le ((tmI (vI s cs)).natAbs / 2 ^ (g - 1)) ((tmI (vI s cs)).natAbs / 2 ^ g) (g : Int)
  have hfa : ∀ j, Fit (((tmI (vI s cs)).natAbs / 2 ^ j : Nat) : Int) (32 * n) := fun j => by unfold Fit at hg ⊢; rw [Int.natAbs_natCast]; exact Nat.lt_of_le_of_lt (Nat.div_le_self _ _) hg
 all_goals
  have hG : gridI (tmI (vI s cs)) g md = sgn (decide (tmI (vI s cs) < 0)) ((tmI (vI s cs)).natAbs / 2 ^ g + (outw md (sg (tmI (vI s cs))) (restN ((tmI (vI s cs)).natAbs / 2 ^ (g - 1)) ((tmI (vI s cs)).natAbs / 2 ^ g) (g : Int))).toNat) := rfl
  rw [hG] at hQ
  clear hG
  generalize outw md (sg (tmI (vI s cs))) (restN ((tmI (vI s cs)).natAbs / 2 ^ (g - 1)) ((tmI (vI s cs)).natAbs / 2 ^ g) (g : Int)) = o at *
  generalize restN ((tmI (vI s cs)).natAbs / 2 ^ (g - 1)) ((tmI (vI s cs)).natAbs / 2 ^ g) (g : Int) = r at *
  have hfo : Fit o 64 := by unfold Fit; omega
  have hfs := fit_one (hfa g) ho.1 ho.2
 all_goals first
  | exact ⟨hcM, hlM, rfl, by omega, by omega⟩
  | exact ⟨okC_fitN (hfa _) (by omega), rfl⟩
  | exact ⟨hcM, by omega, by omega⟩
  | exact ⟨canI_N0 (hfa _) (by omega), canI_N0 (hfa _) (by omega)⟩
  | exact ⟨hs, hr⟩
  | exact ⟨rfl, by omega, by omega⟩
  | exact ⟨okC_fitN (hfa _) (by omega), okC_fitN hfo (by omega)⟩
  | exact ⟨okC_fitN hfs (by omega), Nat.le_trans (Fit.ln hfs (n := n + 1) (by omega)) (by omega), rfl⟩
  | (rw [vI_mk2, grid_sum ho.1, show min (max (clampE k) (-20000)) 20000 = clampE k by omega]; exact hQ)
theorem good_oTo : Good Tryz.prog (GWL [0, 1, 2, 4]) N0 162 s_oTo := by
 refine goodM 0 (gl good_oStep rfl <| gc good_oGrid gn) Tryz.f162 (by kernel_rfl) (by kernel_rfl) fun ds hp F A Q hF hA hQ => ?_
 obtain ⟨x, k, md, rfl, hx, hb, hx1, hx2⟩ := grid_arg hp
 obtain ⟨s, n, cs, e, rfl, hc, he1, he2⟩ := okD_arg hx
 clear hp hx
 cbv
 repeat' (first | with_reducible refine And.intro ?_ ?_ | (with_reducible refine safe_lift hA ?_; kernel_rfl) | (intro hc_; cbv))
 all_goals (repeat (rw [safe_true hA, true_and]; rotate_left; kernel_rfl))
 all_goals subst hF hA
 all_goals simp only [fnOf, find, reduceIte, Nat.reduceEqDiff, sp2, a2, FnSpec.out, Shape.build, leafs, leafCells, List.cons_append, List.nil_append, s_oTo, s_oStep, s_oGrid, dz, dx, dcn, dm_raw] at *
 all_goals first
  | exact ⟨⟨hc, he1, he2⟩, rfl⟩
  | exact ⟨⟨hc, he1, he2⟩, hb, hx1, hx2⟩
  | (rw [clamp_step]; exact hQ)
end Go.Proofs.YtnjjfakjnkhhjaaGreatDoor.Ev
