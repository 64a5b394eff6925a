/- Dyads: the functions of the package. -/
import Derived.Test.YtnnnolmldmbaaaaDoorXc
namespace Go.Proofs.YtnnnolmldmbaaaaDoor.Ev
open Go Go.RowKit
set_option linter.unusedSimpArgs false
set_option linter.unusedVariables false
def dx : D → Int | .agg [_, _, .int _ e] => e | _ => 0
/-- a dyad, however it is written, of an exponent that can be reckoned with. -/
def okD : D → Prop | .agg [.bool _, .sl n cs, .int .i64 e] => okC n cs ∧ -100000000 ≤ e ∧ e ≤ 100000000 | _ => False
theorem okD_arg {x : D} (h : okD x) : ∃ s n cs e, x = .agg [.bool s, .sl n cs, .int .i64 e] ∧ okC n cs ∧ -100000000 ≤ e ∧ e ≤ 100000000 := by
  match x, h with
  | .agg [.bool s, .sl n cs, .int .i64 e], h => exact ⟨s, n, cs, e, rfl, h⟩
/-- a dyad of whatever exponent. -/
def okE : D → Prop | .agg [.bool _, .sl n cs, .int .i64 _] => okC n cs | _ => False
theorem okE_arg {x : D} (h : okE x) : ∃ s n cs e, x = .agg [.bool s, .sl n cs, .int .i64 e] ∧ okC n cs := by
  match x, h with
  | .agg [.bool s, .sl n cs, .int .i64 e], h => exact ⟨s, n, cs, e, rfl, h⟩
/-- a whole number as it is told. -/
def canI (x : D) : Prop := x = dI (dm x) ∧ ln (dm x).natAbs ≤ 90000
theorem dm_dI (z : Int) : dm (dI z) = z := vI_N0 z
theorem canI_arg {x : D} (h : canI x) : ∃ z s n cs, x = .agg [.bool s, .sl n cs] ∧ N0.neg z = s ∧ N0.ln z = n ∧ N0.lm z = cs ∧ ln z.natAbs ≤ 90000 := ⟨dm x, _, _, _, h.1, rfl, rfl, rfl, h.2⟩
theorem canI_dI {z : Int} (h : ln z.natAbs ≤ 90000) : canI (dI z) := by unfold canI; rw [dm_dI]; exact ⟨rfl, h⟩
theorem canI_N0 {z : Int} {k : Nat} (h : Fit z k) (hk : k ≤ 2880000) : canI (.agg [.bool (N0.neg z), .sl (N0.ln z) (N0.lm z)]) := canI_dI (h.ln (by omega))
theorem okC_fitN {z : Int} {k : Nat} (h : Fit z k) (hk : k ≤ 3200000) : okC (N0.ln z) (N0.lm z) := okC_N0 (h.ln (by omega))
theorem dm_N0 (z : Int) (r : List D) : dm (.agg (.bool (N0.neg z) :: .sl (N0.ln z) (N0.lm z) :: r)) = z := vI_N0 z
theorem dm_raw (s : Bool) (n : Nat) (cs r : List D) : dm (.agg (.bool s :: .sl n cs :: r)) = vI s cs := rfl
theorem dl_N0 (z : Int) (n : Nat) : dl (.sl n (N0.lm z)) = z.natAbs := vL_N0 z
theorem vL_abs (s : Bool) (cs : List D) : vL cs = (vI s cs).natAbs := by unfold vL vI; rw [sgn_natAbs]
theorem wrap_in {z : Int} (h1 : -9223372036854775808 ≤ z) (h2 : z ≤ 9223372036854775807) : IntKind.i64.wrap z = z := IntWalk.i64_in _ (by omega)
theorem sgn_shl' (s : Bool) (a k : Nat) : sgn s (a * 2 ^ k) = sgn s a * 2 ^ k := by
  unfold sgn
  cases s <;> simp [Int.neg_mul]
theorem N0_ln0 : N0.ln 0 = 0 := ln_zero
theorem N0_lm0 : N0.lm 0 = [] := by
  show u32s (lim (Int.natAbs 0)) = []
  rw [Int.natAbs_zero, lim_zero]; rfl
theorem N0_neg0 : N0.neg 0 = false := rfl
theorem okC_drop {n j : Nat} {cs : List D} (h : okC n cs) : okC (n - j) (cs.drop j) := by
  obtain ⟨h1, h2, h3, h4⟩ := h
  have hn : nums (cs.drop j) = (nums cs).drop j := by unfold nums; rw [List.map_drop]
  refine ⟨?_, by rw [List.length_drop, h2], by rw [hn]; exact h3.drop j, by omega⟩
  rw [hn]
  unfold u32s
  rw [List.map_drop]
  exact congrArg (List.drop j) h1
theorem vI_drop {n j r : Nat} {s : Bool} {cs : List D} (h : okC n cs) (hd : (2 : Int) ^ (32 * j + r) ∣ vI s cs) : vI s (cs.drop j) / 2 ^ r = vI s cs / 2 ^ (32 * j + r) := by
  have hn : nums (cs.drop j) = (nums cs).drop j := by unfold nums; rw [List.map_drop]
  have hv : val (nums (cs.drop j)) = val (nums cs) / 2 ^ (32 * j) := by rw [hn, val_drop h.2.2.1, Bs_pow_eq]
  obtain ⟨c, hc⟩ := hd
  have hN : val (nums cs) = 2 ^ (32 * j) * (2 ^ r * c.natAbs) := by
    have := congrArg Int.natAbs hc
    unfold vI at this
    rw [sgn_natAbs, Int.natAbs_mul, Int.natAbs_pow, Nat.pow_add] at this
    rw [this, Nat.mul_assoc]; rfl
  have h1 : val (nums (cs.drop j)) = 2 ^ r * c.natAbs := by rw [hv, hN, Nat.mul_div_cancel_left _ (Nat.pow_pos (by decide))]
  have hp : (2 : Int) ^ (32 * j + r) ≠ 0 := Int.pow_ne_zero (by decide)
  have hp2 : (2 : Int) ^ r ≠ 0 := Int.pow_ne_zero (by decide)
  rw [hc, Int.mul_ediv_cancel_left _ hp]
  have h2 : vI s (cs.drop j) = 2 ^ r * sgn s c.natAbs := by
    unfold vI
    rw [h1, Nat.mul_comm, sgn_shl']
    exact Int.mul_comm _ _
  rw [h2, Int.mul_ediv_cancel_left _ hp2]
  have h3 : (2 : Int) ^ (32 * j + r) * sgn s c.natAbs = 2 ^ (32 * j + r) * c := by
    rw [← hc]
    unfold vI
    rw [hN, ← Nat.mul_assoc, ← Nat.pow_add, Nat.mul_comm _ c.natAbs, sgn_shl']
    exact Int.mul_comm _ _
  exact Int.eq_of_mul_eq_mul_left hp h3
def s_dSign : FnSpec := sp1 (.one (.i .i64)) okD (fun x _ => sg (dm x)) (fun _ _ => false)
def s_dTaken : FnSpec := ⟨.agg [.R, .i .i64], fun ds => match ds with | [x] => okD x | _ => False, a1 0 fun x _ => dx x, a1 false fun x _ => (dcs x).1, a1 0 fun x _ => dcn x, a1 [] fun x _ => u32s (dcs x).2⟩
def s_dHeld : FnSpec := sp2 (.one (.i .i64)) (fun x y => isi .i64 x ∧ isi .i64 y ∧ 0 ≤ dz y ∧ dz y ≤ 4611686018427387904) (fun x y _ => min (max (dz x) (-dz y)) (dz y)) (fun _ _ _ => false)
def s_dLow : FnSpec := sp2 (.agg [.I]) (fun x y => canI x ∧ isi .i64 y ∧ 0 ≤ dz y ∧ dz y ≤ tz (dm x).natAbs ∧ dm x ≠ 0) (fun x y _ => dm x / 2 ^ (dz y).toNat) (fun _ _ _ => false)
def s_dTold : FnSpec := sp2 (.agg [.I, .i .i64]) (fun x y => canI x ∧ isi .i64 y ∧ -1000000000000 ≤ dz y ∧ dz y ≤ 1000000000000) (fun x y i => match i with | 0 => tmI (dm x) | _ => teI (dm x) (dz y)) (fun _ _ _ => false)
def s_dWritten : FnSpec := sp1 (.agg [.I, .i .i64]) (fun x => okD x ∧ dcn x ≤ 90000) (fun x i => match i with | 0 => tmI (dm x) | _ => teI (dm x) (dx x)) (fun _ _ => false)
def s_dMake : FnSpec := sp2 (.agg [.I, .i .i64]) (fun x y => okI x ∧ dcn x ≤ 90000 ∧ isi .i64 y) (fun x y i => match i with | 0 => tmI (dm x) | _ => teI (dm x) (min (max (dz y) (-20000)) 20000)) (fun _ _ _ => false)
def s_dOf : FnSpec := sp1 (.agg [.I, .i .i64]) (fun x => isi .i64 x ∧ -9223372036854775808 ≤ dz x ∧ dz x ≤ 9223372036854775807) (fun x i => match i with | 0 => tmI (dz x) | _ => teI (dz x) 0) (fun _ _ => false)
def s_dMul : FnSpec := sp2 (.agg [.I, .i .i64]) (fun x y => okD x ∧ okD y ∧ dcn x ≤ 40000 ∧ dcn y ≤ 40000) (fun x y i => match i with | 0 => tmI (dm x * dm y) | _ => teI (dm x * dm y) (dx x + dx y)) (fun _ _ _ => false)
def s_dNeg : FnSpec := sp1 (.agg [.I, .i .i64]) (fun x => okD x ∧ dcn x ≤ 90000) (fun x i => match i with | 0 => tmI (-dm x) | _ => teI (-dm x) (dx x)) (fun _ _ => false)
def s_dAbs : FnSpec := sp1 (.agg [.I, .i .i64]) (fun x => okD x ∧ dcn x ≤ 90000) (fun x i => match i with | 0 => tmI (dm x).natAbs | _ => teI (dm x).natAbs (dx x)) (fun _ _ => false)
def s_dScale : FnSpec := sp2 (.agg [.I, .i .i64]) (fun x y => okD x ∧ dcn x ≤ 90000 ∧ isi .i64 y) (fun x y i => match i with | 0 => tmI (dm x) | _ => teI (dm x) (dx x + min (max (dz y) (-20000)) 20000)) (fun _ _ _ => false)
def s_dTop : FnSpec := sp1 (.one (.i .i64)) okD (fun x _ => topI (dm x) (dx x)) (fun _ _ => false)
def dMof : D → D | .agg (b :: s :: _) => .agg [b, s] | d => d
def isD (x : D) : Bool := isCan (dMof x) && (if dm x = 0 then decide (dx x = 0) else decide (tz (dm x).natAbs = 0) && decide (-20000 ≤ dx x ∧ dx x ≤ 20000))
def s_dIs : FnSpec := sp1 (.one .b) okE (fun _ _ => 0) (fun x _ => isD x)
/-- what is shifted up, as it is left or told. -/
def rsB (x : D) (k : Int) : Bool := if k = 0 then (dcs x).1 else N0.neg (dm x * 2 ^ k.toNat)
def rsN (x : D) (k : Int) : Nat := if k = 0 then dcn x else N0.ln (dm x * 2 ^ k.toNat)
def rsC (x : D) (k : Int) : List D := if k = 0 then u32s (dcs x).2 else N0.lm (dm x * 2 ^ k.toNat)
def s_dRaised : FnSpec := ⟨.agg [.R], fun ds => match ds with | [x, y] => okI x ∧ dcn x ≤ 25000 ∧ isi .i64 y ∧ 0 ≤ dz y ∧ dz y ≤ 2000000 | _ => False, fun _ _ => 0, a2 false fun x y _ => rsB x (dz y), a2 0 fun x y _ => rsN x (dz y), a2 [] fun x y _ => rsC x (dz y)⟩
/-- how far a dyad is raised to the lesser exponent. -/
def upx (x y : D) : Int := dx x - min (dx x) (dx y)
def s_dAligned : FnSpec := ⟨.tup [(true, [.R]), (true, [.R]), (false, [.i .i64])], fun ds => match ds with | [x, y] => okD x ∧ okD y ∧ dcn x ≤ 25000 ∧ dcn y ≤ 25000 ∧ upx x y ≤ 2000000 ∧ upx y x ≤ 2000000 | _ => False,
  a2 0 fun x y _ => min (dx x) (dx y), a2 false fun x y i => match i with | 0 => rsB (dMof x) (upx x y) | _ => rsB (dMof y) (upx y x), a2 0 fun x y i => match i with | 0 => rsN (dMof x) (upx x y) | _ => rsN (dMof y) (upx y x), a2 [] fun x y i => match i with | 0 => rsC (dMof x) (upx x y) | _ => rsC (dMof y) (upx y x)⟩
theorem rs_vI {s : Bool} {n : Nat} {cs : List D} {k : Int} (hc : okC n cs) (r : List D) : vI (rsB (.agg (.bool s :: .sl n cs :: r)) k) (rsC (.agg (.bool s :: .sl n cs :: r)) k) = vI s cs * 2 ^ k.toNat := by
  unfold rsB rsC
  split
  · rename_i h; rw [h]; simp only [dcs]; rw [← hc.1]; simp
  · rw [vI_N0]; rfl
theorem rs_okC {s : Bool} {n : Nat} {cs : List D} {k : Int} (hc : okC n cs) (hn : n ≤ 25000) (hk : k ≤ 2000000) (r : List D) : okC (rsN (.agg (.bool s :: .sl n cs :: r)) k) (rsC (.agg (.bool s :: .sl n cs :: r)) k) := by
  unfold rsN rsC
  split
  · simp only [dcs, dcn]; rw [← hc.1]; exact hc
  · exact okC_fitN ((okC_fit hc s).shl (n := k.toNat) (Nat.le_refl _)) (by omega)
def s_dCmp : FnSpec := sp2 (.one (.i .i64)) (fun x y => okD x ∧ okD y ∧ dcn x ≤ 20000 ∧ dcn y ≤ 20000) (fun x y _ => cmpD (dm x) (dx x) (dm y) (dx y)) (fun _ _ _ => false)
def s_dSame : FnSpec := sp2 (.one .b) (fun x y => okD x ∧ okD y ∧ dcn x ≤ 20000 ∧ dcn y ≤ 20000) (fun _ _ _ => 0) (fun x y _ => cmpD (dm x) (dx x) (dm y) (dx y) == 0)
def near (b : Int) (x y : D) : Prop := dm x ≠ 0 → dm y ≠ 0 → upx x y ≤ b ∧ upx y x ≤ b
def s_dAdd : FnSpec := sp2 (.agg [.I, .i .i64]) (fun x y => okD x ∧ okD y ∧ dcn x ≤ 20000 ∧ dcn y ≤ 20000 ∧ near 1500000 x y) (fun x y i => match i with | 0 => tmI (addM (dm x) (dx x) (dm y) (dx y)) | _ => teI (addM (dm x) (dx x) (dm y) (dx y)) (min (dx x) (dx y))) (fun _ _ _ => false)
def s_dSub : FnSpec := sp2 (.agg [.I, .i .i64]) (fun x y => okD x ∧ okD y ∧ dcn x ≤ 20000 ∧ dcn y ≤ 15000 ∧ near 1000000 x y ∧ -90000000 ≤ dx y ∧ dx y ≤ 90000000) (fun x y i => match i with | 0 => tmI (addM (dm x) (dx x) (-dm y) (dx y)) | _ => teI (addM (dm x) (dx x) (-dm y) (dx y)) (min (dx x) (dx y))) (fun _ _ _ => false)
theorem Post.b {Q : Post} {a b : Bool} (h : Q.R (.bool a)) (hab : a = b) : Q.R (.bool b) := hab ▸ h
theorem Post.i {Q : Post} {k : IntKind} {a b : Int} (h : Q.R (.int k a)) (hab : a = b) : Q.R (.int k b) := hab ▸ h
theorem Post.d {Q : Post} {m m' e e' : Int} (h : Q.R (.agg [.bool (N0.neg m), .sl (N0.ln m) (N0.lm m), .int .i64 e])) (hm : m = m') (he : e = e') : Q.R (.agg [.bool (N0.neg m'), .sl (N0.ln m') (N0.lm m'), .int .i64 e']) := by
  subst hm he; exact h
def s_nanI : FnSpec := sp1 (.one .b) (isi .i64) (fun _ _ => 0) (fun _ _ => false)
def s_cmpI : FnSpec := sp2 (.one (.i .i64)) (fun x y => isi .i64 x ∧ isi .i64 y) (fun x y _ => sg (dz x - dz y)) (fun _ _ _ => false)
end Go.Proofs.YtnnnolmldmbaaaaDoor.Ev
