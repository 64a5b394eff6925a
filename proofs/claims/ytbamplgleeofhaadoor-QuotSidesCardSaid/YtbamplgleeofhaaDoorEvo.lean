/- Package round: to so many bits. -/
import Derived.Test.YtbamplgleeofhaaDoorEve
namespace Go.Proofs.YtbamplgleeofhaaDoor.Ev
open Go Go.RowKit
set_option linter.unusedSimpArgs false
set_option linter.unusedVariables false
def modeN (mode : Int) : Int := if mode = 0 ∨ mode = 1 then mode else 2
/-- how many multiples farther from 0 a mode goes. -/
def outw (mode sign between : Int) : Int := outwardL.getD (0 + (modeN mode).toNat * 8 + ((IntKind.i64.wrap ((IntKind.i64.wrap (sign + 1)).tdiv 2))).toNat * 4 + between.toNat * 1) 0
/-- what stands between a number and the multiple beside it. -/
def restN (h g : Nat) (gone : Int) : Int := if h % 2 = 0 then 0 else if 1 < gone then 3 else if g % 2 = 1 then 2 else 1
/-- the multiple that m is rounded to, of two to the power of n, as a multiple. -/
def gridI (m : Int) (n : Nat) (mode : Int) : Int := sgn (decide (m < 0)) (m.natAbs / 2 ^ n + (outw mode (sg m) (restN (m.natAbs / 2 ^ (n - 1)) (m.natAbs / 2 ^ n) n)).toNat)
def clampE (e : Int) : Int := min (max e (-20000)) 20000
def stepI (m e p : Int) : Int := clampE (topI m e - min (max p 1) 4000 + 1)
def s_oHeld : FnSpec := s_dHeld
def s_oFar : FnSpec := ⟨.one (.i .i64), fun ds => match ds with | [.int .i64 _, .int .i64 s, .int .i64 b] => (s = -1 ∨ s = 1) ∧ 0 ≤ b ∧ b ≤ 3 | _ => False, fun ds _ => match ds with | [.int _ m, .int _ s, .int _ b] => outw m s b | _ => 0, fun _ _ => false, fun _ _ => 0, fun _ _ => []⟩
def s_oOdd : FnSpec := sp1 (.one .b) canI (fun _ _ => 0) (fun x _ => decide ((dm x).natAbs % 2 = 1))
def s_oRest : FnSpec := ⟨.one (.i .i64), fun ds => match ds with | [x, y, .int .i64 _] => canI x ∧ canI y | _ => False, fun ds _ => match ds with | [x, y, .int _ k] => restN (dm x).natAbs (dm y).natAbs k | _ => 0, fun _ _ => false, fun _ _ => 0, fun _ _ => []⟩
def s_oWritten : FnSpec := sp1 (.agg [.I, .i .i64]) (fun x => okD x ∧ dcn x ≤ 90000) (fun x i => match i with | 0 => tmI (dm x) | _ => teI (dm x) (dx x)) (fun _ _ => false)
def s_oLies : FnSpec := sp2 (.one .b) (fun x y => okD x ∧ isi .i64 y) (fun _ _ _ => 0) (fun x y _ => decide (dm x = 0) || decide (dz y ≤ dx x))
def s_oWithout : FnSpec := sp2 (.agg [.I]) (fun x y => okI x ∧ dcn x ≤ 90000 ∧ isi .i64 y ∧ 0 ≤ dz y ∧ dz y ≤ 1000000000000) (fun x y _ => ((dm x).natAbs / 2 ^ (dz y).toNat : Nat)) (fun _ _ _ => false)
def s_oStep : FnSpec := sp2 (.one (.i .i64)) (fun x y => okD x ∧ isi .i64 y) (fun x y _ => stepI (dm x) (dx x) (dz y)) (fun _ _ _ => false)
/-- a dyad that is rounded to multiples of two to the power of E. -/
def gm (m e E mode : Int) : Int := if m = 0 ∨ E ≤ teI m e then tmI m else tmI (gridI (tmI m) (E - teI m e).toNat mode)
def ge (m e E mode : Int) : Int := if m = 0 ∨ E ≤ teI m e then teI m e else teI (gridI (tmI m) (E - teI m e).toNat mode) E
def s_oGrid : FnSpec := ⟨.agg [.I, .i .i64], fun ds => match ds with | [x, .int .i64 _, .int .i64 _] => okD x ∧ dcn x ≤ 80000 ∧ -90000000 ≤ dx x ∧ dx x ≤ 90000000 | _ => False, fun ds i => match ds with | [x, .int _ e, .int _ mode] => (match i with | 0 => gm (dm x) (dx x) (clampE e) mode | _ => ge (dm x) (dx x) (clampE e) mode) | _ => 0, fun _ _ => false, fun _ _ => 0, fun _ _ => []⟩
def s_oTo : FnSpec := ⟨.agg [.I, .i .i64], fun ds => match ds with | [x, .int .i64 _, .int .i64 _] => okD x ∧ dcn x ≤ 80000 ∧ -90000000 ≤ dx x ∧ dx x ≤ 90000000 | _ => False, fun ds i => match ds with | [x, .int _ p, .int _ mode] => (match i with | 0 => gm (dm x) (dx x) (stepI (dm x) (dx x) p) mode | _ => ge (dm x) (dx x) (stepI (dm x) (dx x) p) mode) | _ => 0, fun _ _ => false, fun _ _ => 0, fun _ _ => []⟩
def s_oUlp : FnSpec := sp2 (.agg [.I, .i .i64]) (fun x y => okD x ∧ isi .i64 y) (fun x y i => if dm x = 0 then 0 else match i with | 0 => 1 | _ => stepI (dm x) (dx x) (dz y)) (fun _ _ _ => false)
/-- whether a dyad fits into so many bits. -/
def fitsB (m e p : Int) : Bool := decide (m = 0) || decide (stepI m e p ≤ teI m e)
def s_oFits : FnSpec := sp2 (.one .b) (fun x y => okD x ∧ dcn x ≤ 80000 ∧ isi .i64 y ∧ -90000000 ≤ dx x ∧ dx x ≤ 90000000) (fun _ _ _ => 0) (fun x y _ => fitsB (dm x) (dx x) (dz y))
theorem far_arg {ds : List D} (h : s_oFar.p ds) : ∃ m s b, ds = [.int .i64 m, .int .i64 s, .int .i64 b] ∧ (s = -1 ∨ s = 1) ∧ 0 ≤ b ∧ b ≤ 3 := by
  match ds, h with
  | [.int .i64 m, .int .i64 s, .int .i64 b], h => exact ⟨m, s, b, rfl, h⟩
theorem rest_arg {ds : List D} (h : s_oRest.p ds) : ∃ x y k, ds = [x, y, .int .i64 k] ∧ canI x ∧ canI y := by
  match ds, h with
  | [x, y, .int .i64 k], h => exact ⟨x, y, k, rfl, h⟩
theorem grid_arg {ds : List D} (h : s_oGrid.p ds) : ∃ x e k, ds = [x, .int .i64 e, .int .i64 k] ∧ okD x ∧ dcn x ≤ 80000 ∧ -90000000 ≤ dx x ∧ dx x ≤ 90000000 := by
  match ds, h with
  | [x, .int .i64 e, .int .i64 k], h => exact ⟨x, e, k, rfl, h⟩
theorem lm_head {z : Int} (h : z ≠ 0) : ∃ es, N0.lm z = D.int .u32 ((z.natAbs % Bs : Nat) : Int) :: es := by
  have h1 : z.natAbs ≠ 0 := by omega
  refine ⟨u32s (lim (z.natAbs / Bs)), ?_⟩
  show u32s (lim z.natAbs) = _
  rw [lim_pos h1]; rfl
/-- the document's rounding: floors. -/
def docI (m : Int) (n : Nat) (mode : Int) : Int :=
  if mode = 0 then m / 2 ^ n else if mode = 1 then m / 2 ^ n + 1 else
  if 0 < sg ((m - m / 2 ^ n * 2 ^ n) * 2 ^ 1 - 1 * 2 ^ n) ∨ (sg ((m - m / 2 ^ n * 2 ^ n) * 2 ^ 1 - 1 * 2 ^ n) = 0 ∧ (m / 2 ^ n).natAbs % 2 = 1) then m / 2 ^ n + 1 else m / 2 ^ n
theorem outw_tab (mode b : Int) (hb : b = 0 ∨ b = 1 ∨ b = 2 ∨ b = 3) : outw mode 1 b = (if mode = 0 then 0 else if mode = 1 then 1 else if 2 ≤ b then 1 else 0) ∧ outw mode (-1) b = (if mode = 0 then 1 else if mode = 1 then 0 else if 2 ≤ b then 1 else 0) := by
  unfold outw modeN
  by_cases h0 : mode = 0
  · subst h0
    rcases hb with rfl | rfl | rfl | rfl <;> decide
  · by_cases h1 : mode = 1
    · subst h1
      rcases hb with rfl | rfl | rfl | rfl <;> decide
    · rw [if_neg (by omega), if_neg h0, if_neg h1, if_neg h0, if_neg h1]
      rcases hb with rfl | rfl | rfl | rfl <;> decide
theorem restN_in (h g : Nat) (k : Int) : restN h g k = 0 ∨ restN h g k = 1 ∨ restN h g k = 2 ∨ restN h g k = 3 := by
  unfold restN
  split
  · exact .inl rfl
  · split
    · exact .inr (.inr (.inr rfl))
    · split
      · exact .inr (.inr (.inl rfl))
      · exact .inr (.inl rfl)
/-- where the rest lies against the half. -/
theorem half_rest {a n : Nat} (hn : 1 ≤ n) (ha : a % 2 = 1) : (2 ≤ restN (a / 2 ^ (n - 1)) (a / 2 ^ n) n ↔ (2 ^ n < 2 * (a % 2 ^ n) ∨ (2 ^ n = 2 * (a % 2 ^ n) ∧ (a / 2 ^ n) % 2 = 1))) ∧ a % 2 ^ n ≠ 0 := by
  obtain ⟨k, rfl⟩ : ∃ k, n = k + 1 := ⟨n - 1, by omega⟩
  rw [Nat.add_sub_cancel]
  have hp : (2 : Nat) ^ (k + 1) = 2 ^ k * 2 := Nat.pow_succ ..
  have hH : 0 < (2 : Nat) ^ k := Nat.pow_pos (by omega)
  have h1 : a / 2 ^ (k + 1) = a / 2 ^ k / 2 := by rw [hp, Nat.div_div_eq_div_mul]
  have h2 := Nat.div_add_mod a (2 ^ k)
  have h3 := Nat.mod_lt a hH
  have h4 : a % 2 ^ (k + 1) = a % 2 ^ k + 2 ^ k * (a / 2 ^ k % 2) := by rw [hp, Nat.mod_mul]
  have hm : a / 2 ^ k % 2 = 0 ∨ a / 2 ^ k % 2 = 1 := by omega
  have hk0 : k = 0 ∨ 2 ^ k % 2 = 0 := by
    rcases Nat.eq_zero_or_pos k with h | h
    · exact .inl h
    · exact .inr (by obtain ⟨j, rfl⟩ : ∃ j, k = j + 1 := ⟨k - 1, by omega⟩; rw [Nat.pow_succ]; omega)
  have hpar : k ≠ 0 → a % 2 ^ k % 2 = 1 := fun h => by
    have h6 : 2 ^ k % 2 = 0 := by rcases hk0 with h7 | h7 <;> omega
    have h7 : (2 ^ k * (a / 2 ^ k)) % 2 = 0 := by rw [Nat.mul_mod, h6, Nat.zero_mul]
    omega
  unfold restN
  rw [h4, h1, hp]
  rcases hk0 with hk | hk
  · subst hk
    have h5 : a % 2 ^ 0 = 0 := by rw [Nat.pow_zero, Nat.mod_one]
    have h6 : a / 2 ^ 0 = a := by rw [Nat.pow_zero, Nat.div_one]
    rw [h5, h6]
    rw [if_neg (by omega), if_neg (by omega)]
    simp only [Nat.pow_zero]
    split <;> omega
  · have hk1 : k ≠ 0 := fun h => by subst h; simp at hk
    have h5 := hpar hk1
    rcases hm with h6 | h6
    · rw [h6, if_pos rfl, Nat.mul_zero]
      omega
    · rw [h6, if_neg (by omega), if_pos (by omega), Nat.mul_one]
      omega
theorem sg_gt (z : Int) : 0 < sg z ↔ 0 < z := by rcases sg_cases z with ⟨h1, h2⟩ | ⟨h1, h2⟩ | ⟨h1, h2⟩ <;> rw [h2] <;> omega
theorem sg_eq (z : Int) : sg z = 0 ↔ z = 0 := by rcases sg_cases z with ⟨h1, h2⟩ | ⟨h1, h2⟩ | ⟨h1, h2⟩ <;> rw [h2] <;> omega
set_option maxHeartbeats 1000000 in
theorem grid_eq {m : Int} {n : Nat} (hm : m.natAbs % 2 = 1) (hn : 1 ≤ n) (mode : Int) : gridI m n mode = docI m n mode := by
  obtain ⟨hr, hr0⟩ := half_rest hn hm
  have hin := restN_in (m.natAbs / 2 ^ (n - 1)) (m.natAbs / 2 ^ n) n
  have ho := outw_tab mode _ hin
  have hP : (0 : Int) < 2 ^ n := pow_pos' n
  have hd := Nat.div_add_mod m.natAbs (2 ^ n)
  have hlt := Nat.mod_lt m.natAbs (Nat.pow_pos (n := n) (show 0 < 2 by omega))
  have hpc : ((2 ^ n : Nat) : Int) = 2 ^ n := by rw [Int.natCast_pow]; rfl
  unfold gridI
  generalize restN (m.natAbs / 2 ^ (n - 1)) (m.natAbs / 2 ^ n) n = B at *
  rcases Int.lt_or_le m 0 with hs | hs
  · rw [sg_neg hs, decide_eq_true hs, ho.2]
    have hq : m / 2 ^ n = -((m.natAbs / 2 ^ n : Nat) : Int) - 1 := by
      have := Int.ediv_emod_unique (a := m) (b := 2 ^ n) (q := -((m.natAbs / 2 ^ n : Nat) : Int) - 1) (r := 2 ^ n - ((m.natAbs % 2 ^ n : Nat) : Int)) hP
      refine (this.2 ⟨?_, by omega, by omega⟩).1
      have e : ((2 ^ n * (m.natAbs / 2 ^ n) + m.natAbs % 2 ^ n : Nat) : Int) = (m.natAbs : Int) := by rw [hd]
      rw [Int.natCast_add, Int.natCast_mul, hpc] at e
      rw [Int.mul_sub, Int.mul_neg, Int.mul_one]
      omega
    unfold docI
    rw [hq]
    have e : ((2 ^ n * (m.natAbs / 2 ^ n) + m.natAbs % 2 ^ n : Nat) : Int) = (m.natAbs : Int) := by rw [hd]
    rw [Int.natCast_add, Int.natCast_mul, hpc] at e
    have hx : (m - (-((m.natAbs / 2 ^ n : Nat) : Int) - 1) * 2 ^ n) * 2 ^ 1 - 1 * 2 ^ n = 2 ^ n - 2 * ((m.natAbs % 2 ^ n : Nat) : Int) := by
      have e2 : (-((m.natAbs / 2 ^ n : Nat) : Int) - 1) * 2 ^ n = -(2 ^ n * ((m.natAbs / 2 ^ n : Nat) : Int)) - 2 ^ n := by
        rw [Int.sub_mul, Int.neg_mul, Int.one_mul, Int.mul_comm]
      rw [e2, show (2 : Int) ^ 1 = 2 from rfl]
      omega
    rw [hx]
    generalize m.natAbs / 2 ^ n = g at *
    generalize m.natAbs % 2 ^ n = r at *
    simp only [sg_gt, sg_eq]
    rw [sgn_true]
    clear ho hd hlt hm hin hq hx
    by_cases h0 : mode = 0
    · rw [if_pos h0, if_pos h0, show (1 : Int).toNat = 1 from rfl]; omega
    · by_cases h1 : mode = 1
      · rw [if_neg h0, if_pos h1, if_neg h0, if_pos h1, show (0 : Int).toNat = 0 from rfl]; omega
      · rw [if_neg h0, if_neg h1, if_neg h0, if_neg h1]
        by_cases h2 : 2 ≤ B
        · rw [if_pos h2, if_neg (by have := hr.1 h2; omega), show (1 : Int).toNat = 1 from rfl]; omega
        · rw [if_neg h2, if_pos (by have := fun h => h2 (hr.2 h); omega), show (0 : Int).toNat = 0 from rfl]; omega
  · have hs' : 0 < m := by omega
    rw [sg_pos hs', decide_eq_false (by omega), ho.1]
    have hq : m / 2 ^ n = ((m.natAbs / 2 ^ n : Nat) : Int) := by
      rw [Int.natCast_ediv, hpc]; congr 1; omega
    have e : ((2 ^ n * (m.natAbs / 2 ^ n) + m.natAbs % 2 ^ n : Nat) : Int) = (m.natAbs : Int) := by rw [hd]
    rw [Int.natCast_add, Int.natCast_mul, hpc] at e
    unfold docI
    rw [hq]
    have hx : (m - ((m.natAbs / 2 ^ n : Nat) : Int) * 2 ^ n) * 2 ^ 1 - 1 * 2 ^ n = 2 * ((m.natAbs % 2 ^ n : Nat) : Int) - 2 ^ n := by
      rw [Int.mul_comm _ (2 ^ n), show (2 : Int) ^ 1 = 2 from rfl]
      omega
    rw [hx]
    generalize m.natAbs / 2 ^ n = g at *
    generalize m.natAbs % 2 ^ n = r at *
    simp only [sg_gt, sg_eq]
    rw [sgn_false]
    clear ho hd hlt hm hin hq hx
    by_cases h0 : mode = 0
    · rw [if_pos h0, if_pos h0, show (0 : Int).toNat = 0 from rfl]; omega
    · by_cases h1 : mode = 1
      · rw [if_neg h0, if_pos h1, if_neg h0, if_pos h1, show (1 : Int).toNat = 1 from rfl]; omega
      · rw [if_neg h0, if_neg h1, if_neg h0, if_neg h1]
        by_cases h2 : 2 ≤ B
        · rw [if_pos h2, if_pos (by have := hr.1 h2; omega), show (1 : Int).toNat = 1 from rfl]; omega
        · rw [if_neg h2, if_neg (by have := fun h => h2 (hr.2 h); omega), show (0 : Int).toNat = 0 from rfl]; omega
theorem s_oFar_else {m s b : Int} (h0 : ¬m = 0) (h1 : ¬m = 1) : s_oFar.z [.int .i64 m, .int .i64 s, .int .i64 b] 0 = outw 2 s b := by
  show outw m s b = outw 2 s b
  unfold outw modeN
  rw [if_neg (by omega), if_neg (by omega)]
theorem lm_len (z : Int) : (N0.lm z).length = N0.ln z := by
  show (u32s (lim z.natAbs)).length = ln z.natAbs
  unfold u32s ln; rw [List.length_map]
theorem ln_posI {z : Int} (h : 0 < ((N0.ln z : Nat) : Int)) : z ≠ 0 := fun h0 => by
  rw [h0, N0_ln0] at h; omega
theorem ln_zeroI {z : Int} (h : ¬0 < ((N0.ln z : Nat) : Int)) : z = 0 := by
  have h1 : ln z.natAbs = 0 := by have : N0.ln z = ln z.natAbs := rfl; omega
  have := ln_zero_iff.1 h1; omega
theorem odd_head (z : Int) : decide (z.natAbs % 2 = 1) = !(((z.natAbs % Bs : Nat) : Int).tmod 2 == 0) := by
  rw [Int.tmod_eq_emod_of_nonneg (by omega), Bs_eq, Bool.eq_iff_iff, decide_eq_true_eq, Bool.not_eq_true', beq_eq_false_iff_ne]
  omega
theorem okI_mk0 {s : Bool} {n : Nat} {cs : List D} (h : okC n cs) : okI (.agg [.bool s, .sl n cs]) := h
theorem z00 : min (max (0 : Int) (-20000)) 20000 = 0 := by decide
theorem tm0 {X : Int} (h : tmI X = 0) : X = 0 := Classical.byContradiction fun h1 => tmI_ne h1 h
theorem te_bd {m e : Int} {k : Nat} (h : Fit m k) : teI m e = 0 ∨ (e ≤ teI m e ∧ teI m e ≤ e + k) := by
  by_cases h0 : m = 0
  · exact .inl (by rw [h0]; exact teI_zero _)
  · have := tz_lt h h0
    have h1 : teI m e = e + tz m.natAbs := if_neg h0
    exact .inr ⟨by omega, by omega⟩
theorem te_add {m e : Int} (h : m ≠ 0) : e + teI m 0 = teI m e := by
  have h1 : teI m e = e + tz m.natAbs := if_neg h
  have h2 : teI m 0 = 0 + tz m.natAbs := if_neg h
  omega
theorem without_val {n j : Nat} {cs : List D} (s : Bool) (hc : okC n cs) : vI false (cs.drop (min (j / 32) n)) / 2 ^ (j % 32) = (((vI s cs).natAbs / 2 ^ j : Nat) : Int) := by
  have hv : vI false (cs.drop (min (j / 32) n)) = ((val (nums cs) / 2 ^ (32 * min (j / 32) n) : Nat) : Int) := by
    have hn : nums (cs.drop (min (j / 32) n)) = (nums cs).drop (min (j / 32) n) := by unfold nums; rw [List.map_drop]
    unfold vI
    rw [sgn_false, hn, val_drop hc.2.2.1, Bs_pow_eq]
  have hX : (vI s cs).natAbs = val (nums cs) := by unfold vI; rw [sgn_natAbs]
  have hf : val (nums cs) < 2 ^ (32 * n) := by rw [← hX]; exact okC_fit hc s
  rw [hv, hX, show (2 : Int) ^ (j % 32) = ((2 ^ (j % 32) : Nat) : Int) by rw [Int.natCast_pow]; rfl, ← Int.natCast_ediv, Nat.div_div_eq_div_mul, ← Nat.pow_add]
  by_cases h : j / 32 ≤ n
  · rw [Nat.min_eq_left h, show 32 * (j / 32) + j % 32 = j by omega]
  · rw [Nat.min_eq_right (by omega)]
    have h1 : val (nums cs) / 2 ^ (32 * n + j % 32) = 0 := Nat.div_eq_of_lt (Nat.lt_of_lt_of_le hf (Nat.pow_le_pow_right (by omega) (by omega)))
    have h2 : val (nums cs) / 2 ^ j = 0 := Nat.div_eq_of_lt (Nat.lt_of_lt_of_le hf (Nat.pow_le_pow_right (by omega) (by omega)))
    rw [h1, h2]
theorem top_bd {X e : Int} {k : Nat} (h : Fit X k) : topI X e = 0 ∨ (e ≤ topI X e ∧ topI X e ≤ e + k) := by
  unfold topI
  split
  · exact .inl rfl
  · have h1 : nb X.natAbs ≤ k := nb_le_of_lt h
    have h2 : nb X.natAbs ≠ 0 := fun h => by have := nb_zero_iff.1 h; omega
    exact .inr ⟨by omega, by omega⟩
theorem max_if1 (k : Int) : (if 1 > k then 1 else k) = max k 1 := by simp only [Int.max_def]; repeat' split <;> omega
theorem clamp_step (m e p : Int) : clampE (stepI m e p) = stepI m e p := by unfold stepI clampE; omega
theorem Post.z0 {Q : Post} {m e : Int} (h : Q.R (.agg [.bool (N0.neg m), .sl (N0.ln m) (N0.lm m), .int .i64 e])) (hm : m = 0) (he : e = 0) : Q.R (.agg [.bool false, .sl 0 [], .int .i64 0]) := by
  subst hm he
  rw [N0_neg0, N0_ln0, N0_lm0] at h
  exact h
theorem tz1 : tz (Int.natAbs 1) = 0 := tz_odd (by decide)
theorem tmI1 : tmI 1 = 1 := by unfold tmI; rw [tz1]; decide
theorem teI1 (e : Int) : teI 1 e = e := by unfold teI; rw [tz1, if_neg (by decide)]; omega
theorem or_lies1 {X k e : Int} {i1 : Decidable (X = 0)} {i2 : Decidable (k ≤ e)} (h : ¬X = 0) : (@decide _ i1 || @decide _ i2) = decide (k ≤ e) := by
  by_cases hk : k ≤ e
  · rw [decide_eq_true hk]; simp [hk]
  · rw [decide_eq_false hk]; simp [hk, h]
theorem or_lies0 {X k e : Int} {i1 : Decidable (X = 0)} {i2 : Decidable (k ≤ e)} (h : X = 0) : (@decide _ i1 || @decide _ i2) = true := by
  rw [Bool.or_eq_true, decide_eq_true_eq]; exact .inl h
theorem or_liesT {X k e : Int} {i1 : Decidable (X = 0)} {i3 : Decidable (tmI X = 0)} {i2 i2' : Decidable (k ≤ e)} : (@decide _ i1 || @decide _ i2) = (@decide _ i3 || @decide _ i2') := by
  by_cases h : X = 0
  · subst h; simp [tmI_zero]
  · have h2 : ¬tmI X = 0 := fun g => h (tm0 g)
    simp [h, h2]
theorem held20 (k : Int) : s_dHeld.z [D.int IntKind.i64 k, D.int IntKind.i64 20000] 0 = clampE k := rfl
theorem gm_lies {m e E mode : Int} (h : m = 0 ∨ E ≤ teI m e) : gm m e E mode = tmI m ∧ ge m e E mode = teI m e := ⟨if_pos h, if_pos h⟩
theorem gm_far {m e E mode : Int} (h : ¬(m = 0 ∨ E ≤ teI m e)) : gm m e E mode = tmI (gridI (tmI m) (E - teI m e).toNat mode) ∧ ge m e E mode = teI (gridI (tmI m) (E - teI m e).toNat mode) E := ⟨if_neg h, if_neg h⟩
theorem or_true {X E T : Int} {i1 : Decidable (tmI X = 0)} {i2 : Decidable (E ≤ T)} (h : (@decide _ i1 || @decide _ i2) = true) : X = 0 ∨ E ≤ T := by
  rw [Bool.or_eq_true, decide_eq_true_eq, decide_eq_true_eq] at h
  rcases h with h | h
  · exact .inl (tm0 h)
  · exact .inr h
theorem or_false {X E T : Int} {i1 : Decidable (tmI X = 0)} {i2 : Decidable (E ≤ T)} (h : (@decide _ i1 || @decide _ i2) = false) : X ≠ 0 ∧ T < E := by
  rw [Bool.or_eq_false_iff, decide_eq_false_iff_not, decide_eq_false_iff_not] at h
  exact ⟨fun hX => h.1 (by rw [hX]; exact tmI_zero), by have := h.2; omega⟩
theorem held1 (a g : Nat) (hg : 1 ≤ g) : ((a / 2 ^ (g - 1) : Nat) : Int) / 2 ^ heldN 1 = ((a / 2 ^ g : Nat) : Int) := by
  rw [show heldN 1 = 1 from rfl, show (2 : Int) ^ 1 = ((2 : Nat) : Int) from rfl, ← Int.natCast_ediv, Nat.div_div_eq_div_mul, show 2 ^ (g - 1) * 2 = 2 ^ g by rw [← Nat.pow_succ]; congr 1; omega]
theorem outw_in (mode : Int) {sign : Int} (hs : sign = -1 ∨ sign = 1) (h g : Nat) (k : Int) : 0 ≤ outw mode sign (restN h g k) ∧ outw mode sign (restN h g k) ≤ 1 := by
  have h1 := outw_tab mode _ (restN_in h g k)
  rcases hs with rfl | rfl
  · rw [h1.2]; repeat' split
    all_goals omega
  · rw [h1.1]; repeat' split
    all_goals omega
theorem sg_tm1 {X : Int} (h : X ≠ 0) : sg (tmI X) = -1 ∨ sg (tmI X) = 1 := by
  have := tmI_ne h
  rcases sg_cases (tmI X) with ⟨_, h2⟩ | ⟨h1, _⟩ | ⟨_, h2⟩
  · exact .inl h2
  · exact absurd h1 this
  · exact .inr h2
theorem restN_le (h g : Nat) (k : Int) : 0 ≤ restN h g k ∧ restN h g k ≤ 3 := by
  have := restN_in h g k; omega
theorem grid_sum {m o : Int} {g : Nat} (h0 : 0 ≤ o) : sgn (N0.neg m) (((m.natAbs / 2 ^ g : Nat) : Int) + o).natAbs = sgn (decide (m < 0)) (m.natAbs / 2 ^ g + o.toNat) := by
  show sgn (decide (m < 0)) _ = _
  congr 1; generalize m.natAbs / 2 ^ g = a; omega
theorem vI_mk2 (s : Bool) (z : Int) : vI s (N0.lm z) = sgn s z.natAbs := by
  unfold vI N0
  dsimp only
  rw [nums_u32s, val_lim]
theorem fit_one {a : Nat} {o : Int} {k : Nat} (h : Fit (a : Int) k) (h0 : 0 ≤ o) (h1 : o ≤ 1) : Fit ((a : Int) + o) (k + 1) := by
  unfold Fit at *
  rw [Int.natAbs_natCast] at h
  rw [Nat.pow_succ]
  have : 0 < 2 ^ k := Nat.pow_pos (by decide)
  omega
set_option maxRecDepth 100000 in
set_option maxHeartbeats 2000000 in
theorem good_oHeld : Good Tryd.prog (GWL [0, 1]) N0 72 s_oHeld := by
  refine goodL (l := [0, 1]) (tab := []) (shs := []) rfl trivial Tryd.f72 (by kernel_rfl) (by kernel_rfl) (by kernel_rfl) (fun ds hp F A Q hF hA hQ => ⟨0, ?_⟩)
  obtain ⟨x, y, rfl, hx, hy, h1, h2⟩ := sp2_arg hp
  obtain ⟨n, rfl⟩ := isi_arg hx
  obtain ⟨m, rfl⟩ := isi_arg hy
  cbv
  all_goals (repeat (rw [safe_true hA, true_and]; rotate_left; kernel_rfl))
  all_goals subst hF hA
  all_goals simp only [fnOf, find, std, reduceIte, Nat.reduceEqDiff, sp1, sp2, a1, a2, FnSpec.out, Shape.build, leafs, leafCells, tups, oneOf, List.cons_append, List.nil_append, List.length_cons, List.length_nil, s_oHeld, s_dHeld] at hQ ⊢
  have e1 : IntKind.i64.wrap (0 - m) = -m := by rw [show (0 - m : Int) = -m by omega]; exact IntWalk.i64_in _ (by simp only [dz] at h1 h2; omega)
  have e2 : (if m < (if -m > n then -m else n) then m else (if -m > n then -m else n)) = min (max n (-m)) m := by
    simp only [Int.min_def, Int.max_def]
    repeat' split
    all_goals omega
  simp only [dz] at hQ
  first | (rw [e1, e2]; exact hQ) | (rw [e1]; rw [← e2] at hQ; exact hQ)
set_option maxRecDepth 100000 in
set_option maxHeartbeats 2000000 in
theorem good_oWritten : Good Tryd.prog (GWL [0, 1]) N0 41 s_oWritten := by
  refine goodL (l := [0, 1]) (tab := [(48, s_dMake), (9, s_dSign), (72, s_oHeld)]) (shs := [(48, .agg [.I, .i .i64]), (9, .one (.i .i64)), (72, .one (.i .i64))]) rfl ⟨good_dMake, good_dSign, good_oHeld, trivial⟩ Tryd.f41 (by kernel_rfl) (by kernel_rfl) (by kernel_rfl) (fun ds hp F A Q hF hA hQ => ⟨0, ?_⟩)
  obtain ⟨x, rfl, hx, hb⟩ := sp1_arg hp
  obtain ⟨s, n, cs, e, rfl, hc, he1, he2⟩ := okD_arg hx
  clear hp hx
  cbv
  repeat' (first | with_reducible refine And.intro ?_ ?_ | (with_reducible refine safe_lift hA ?_; kernel_rfl) | (intro hc_; cbv))
  all_goals (repeat (rw [safe_true hA, true_and]; rotate_left; kernel_rfl))
  all_goals subst hF hA
  all_goals simp only [fnOf, find, std, reduceIte, Nat.reduceEqDiff, sp1, sp2, a1, a2, FnSpec.out, Shape.build, leafs, leafCells, tups, oneOf, List.cons_append, List.nil_append, List.length_cons, List.length_nil, s_oWritten, s_dMake, s_dSign, s_oHeld, dl, dz, dx, dcn, dcs, dm_raw, vI_N0, decide_eq_true_eq, decide_eq_false_iff_not, sg_beq, min_if, s_dHeld] at *
  all_goals (try simp only [z00] at *)
  all_goals
    have hf := okC_fit hc s
    have hg : Fit (tmI (vI s cs)) (32 * n) := hf.le (tmI_le _)
    have hb0 := te_bd (e := 0) hf
    have hb1 := te_bd (e := e) hf
  all_goals first
    | exact ⟨hc, hb, rfl⟩
    | exact ⟨okC_fitN hg (by omega), by omega, by omega⟩
    | exact ⟨rfl, rfl, by omega, by omega⟩
    | (have h0 := tm0 hc_; exact Post.d hQ rfl (by rw [h0, teI_zero, teI_zero]))
    | (have h0 : vI s cs ≠ 0 := fun h => hc_ (by rw [h]; exact tmI_zero)
       rw [show min (max e (-4611686018427387903)) 4611686018427387903 = e by omega, te_add h0, wrap_in (by omega) (by omega)]
       exact hQ)
set_option maxRecDepth 100000 in
set_option maxHeartbeats 2000000 in
theorem good_oLies : Good Tryd.prog (GWL [0, 1]) N0 40 s_oLies := by
  refine goodL (l := [0, 1]) (tab := [(9, s_dSign)]) (shs := [(9, .one (.i .i64))]) rfl ⟨good_dSign, trivial⟩ Tryd.f40 (by kernel_rfl) (by kernel_rfl) (by kernel_rfl) (fun ds hp F A Q hF hA hQ => ⟨0, ?_⟩)
  obtain ⟨x, y, rfl, hx, hy⟩ := sp2_arg hp
  obtain ⟨s, n, cs, e, rfl, hc, he1, he2⟩ := okD_arg hx
  obtain ⟨k, rfl⟩ := isi_arg hy
  clear hp hx hy
  cbv
  repeat' (first | with_reducible refine And.intro ?_ ?_ | (with_reducible refine safe_lift hA ?_; kernel_rfl) | (intro hc_; cbv))
  all_goals (repeat (rw [safe_true hA, true_and]; rotate_left; kernel_rfl))
  all_goals subst hF hA
  all_goals simp only [fnOf, find, std, reduceIte, Nat.reduceEqDiff, sp1, sp2, a1, a2, FnSpec.out, Shape.build, leafs, leafCells, tups, oneOf, List.cons_append, List.nil_append, List.length_cons, List.length_nil, s_oLies, s_dSign, dl, dz, dx, dcn, dcs, dm_raw, vI_N0, decide_eq_true_eq, decide_eq_false_iff_not, sg_beq, min_if] at *
  all_goals first
    | exact ⟨hc, he1, he2⟩
    | exact Post.b hQ (or_lies1 hc_)
    | exact Post.b hQ (or_lies0 (by simpa using hc_))
set_option maxRecDepth 100000 in
set_option maxHeartbeats 2000000 in
theorem good_oStep : Good Tryd.prog (GWL [0, 1]) N0 42 s_oStep := by
  refine goodL (l := [0, 1]) (tab := [(33, s_dTop), (72, s_oHeld)]) (shs := [(33, .one (.i .i64)), (72, .one (.i .i64))]) rfl ⟨good_dTop, good_oHeld, trivial⟩ Tryd.f42 (by kernel_rfl) (by kernel_rfl) (by kernel_rfl) (fun ds hp F A Q hF hA hQ => ⟨0, ?_⟩)
  obtain ⟨x, y, rfl, hx, hy⟩ := sp2_arg hp
  obtain ⟨s, n, cs, e, rfl, hc, he1, he2⟩ := okD_arg hx
  obtain ⟨k, rfl⟩ := isi_arg hy
  clear hp hx hy
  cbv
  repeat' (first | with_reducible refine And.intro ?_ ?_ | (with_reducible refine safe_lift hA ?_; kernel_rfl) | (intro hc_; cbv))
  all_goals (repeat (rw [safe_true hA, true_and]; rotate_left; kernel_rfl))
  all_goals subst hF hA
  all_goals simp only [fnOf, find, std, reduceIte, Nat.reduceEqDiff, sp1, sp2, a1, a2, FnSpec.out, Shape.build, leafs, leafCells, tups, oneOf, List.cons_append, List.nil_append, List.length_cons, List.length_nil, s_oStep, s_dTop, s_oHeld, dl, dz, dx, dcn, dcs, dm_raw, vI_N0, decide_eq_true_eq, decide_eq_false_iff_not, sg_beq, min_if, s_dHeld, stepI] at *
  all_goals first
    | exact ⟨hc, he1, he2⟩
    | exact ⟨rfl, rfl, by decide, by decide⟩
    | (have ht := top_bd (e := e) (okC_fit hc s)
       have hn := hc.2.2.2
       refine Post.i hQ ?_
       rw [max_if1, wrap_in (z := topI (vI s cs) e - min (max k 1) 4000) (by omega) (by omega), wrap_in (by omega) (by omega)]
       rfl)
set_option maxRecDepth 100000 in
set_option maxHeartbeats 2000000 in
theorem good_oUlp : Good Tryd.prog (GWL [0, 1]) N0 18 s_oUlp := by
  refine goodL (l := [0, 1]) (tab := [(9, s_dSign), (49, s_wOf), (42, s_oStep), (48, s_dMake)]) (shs := [(9, .one (.i .i64)), (49, .agg [.I]), (42, .one (.i .i64)), (48, .agg [.I, .i .i64])]) rfl ⟨good_dSign, good_wOf, good_oStep, good_dMake, trivial⟩ Tryd.f18 (by kernel_rfl) (by kernel_rfl) (by kernel_rfl) (fun ds hp F A Q hF hA hQ => ⟨0, ?_⟩)
  obtain ⟨x, y, rfl, hx, hy⟩ := sp2_arg hp
  obtain ⟨s, n, cs, e, rfl, hc, he1, he2⟩ := okD_arg hx
  obtain ⟨k, rfl⟩ := isi_arg hy
  clear hp hx hy
  cbv
  repeat' (first | with_reducible refine And.intro ?_ ?_ | (with_reducible refine safe_lift hA ?_; kernel_rfl) | (intro hc_; cbv))
  all_goals (repeat (rw [safe_true hA, true_and]; rotate_left; kernel_rfl))
  all_goals subst hF hA
  all_goals simp only [fnOf, find, std, reduceIte, Nat.reduceEqDiff, sp1, sp2, a1, a2, FnSpec.out, Shape.build, leafs, leafCells, tups, oneOf, List.cons_append, List.nil_append, List.length_cons, List.length_nil, s_oUlp, s_dSign, s_wOf, s_oStep, s_dMake, dl, dz, dx, dcn, dcs, dm_raw, vI_N0, decide_eq_true_eq, decide_eq_false_iff_not, sg_beq, min_if] at *
  all_goals first
    | exact ⟨hc, he1, he2⟩
    | exact ⟨⟨hc, he1, he2⟩, rfl⟩
    | exact ⟨rfl, by decide, by decide⟩
    | exact ⟨okC_fitN (k := 1) (z := 1) (fit_pow 0) (by omega), Nat.le_trans (Fit.ln (fit_pow 0) (n := 1) (by omega)) (by omega), rfl⟩
    | exact Post.z0 hQ (if_pos hc_) (if_pos hc_)
    | (refine Post.d hQ ((if_neg hc_).trans tmI1.symm) ((if_neg hc_).trans ?_); rw [teI1]; exact (clamp_step _ _ _).symm)
set_option maxRecDepth 100000 in
set_option maxHeartbeats 2000000 in
theorem good_oFits : Good Tryd.prog (GWL [0, 1]) N0 13 s_oFits := by
  refine goodL (l := [0, 1]) (tab := [(41, s_oWritten), (42, s_oStep), (40, s_oLies)]) (shs := [(41, .agg [.I, .i .i64]), (42, .one (.i .i64)), (40, .one .b)]) rfl ⟨good_oWritten, good_oStep, good_oLies, trivial⟩ Tryd.f13 (by kernel_rfl) (by kernel_rfl) (by kernel_rfl) (fun ds hp F A Q hF hA hQ => ⟨0, ?_⟩)
  obtain ⟨x, y, rfl, hx, hb, hy, hx1, hx2⟩ := sp2_arg hp
  obtain ⟨s, n, cs, e, rfl, hc, he1, he2⟩ := okD_arg hx
  obtain ⟨k, rfl⟩ := isi_arg hy
  clear hp hx hy
  cbv
  repeat' (first | with_reducible refine And.intro ?_ ?_ | (with_reducible refine safe_lift hA ?_; kernel_rfl) | (intro hc_; cbv))
  all_goals (repeat (rw [safe_true hA, true_and]; rotate_left; kernel_rfl))
  all_goals subst hF hA
  all_goals simp only [fnOf, find, std, reduceIte, Nat.reduceEqDiff, sp1, sp2, a1, a2, FnSpec.out, Shape.build, leafs, leafCells, tups, oneOf, List.cons_append, List.nil_append, List.length_cons, List.length_nil, s_oFits, s_oWritten, s_oStep, s_oLies, dl, dz, dx, dcn, dcs, dm_raw, vI_N0, decide_eq_true_eq, decide_eq_false_iff_not, sg_beq, min_if] at *
  all_goals
    have hf := okC_fit hc s
    have hg : Fit (tmI (vI s cs)) (32 * n) := hf.le (tmI_le _)
    have hb1 := te_bd (e := e) hf
  all_goals first
    | exact ⟨⟨hc, he1, he2⟩, by omega⟩
    | exact ⟨⟨hc, he1, he2⟩, rfl⟩
    | exact ⟨⟨okC_fitN hg (by have := hc.2.2.2; omega), by omega, by omega⟩, rfl⟩
    | (unfold fitsB at hQ; exact Post.b hQ or_liesT)
end Go.Proofs.YtbamplgleeofhaaDoor.Ev
