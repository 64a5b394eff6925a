import Derived.Test.YtnjjfakjnkhhjaaGreatDoorEvn
import Derived.Test.YtnjjfakjnkhhjaaGreatDoorWa
import Derived.Test.YtnjjfakjnkhhjaaGreatDoorLa
import Derived.Deep.RegionHeld3
import Derived.Test.YtnjjfakjnkhhjaaGreatDoorDv
import Derived.Lib.AppendZeros
import Derived.Lib.AppendZerosOnto
import Derived.Test.YtnjjfakjnkhhjaaGreatDoorLb
import Derived.Deep.DeepCutAuto
import Derived.BigQuiet
import Derived.Deep.QuietTactic
import Derived.Lib.LaidTab
import Derived.OpenShut
import Derived.ProofKit
import Derived.LaidMore
import Derived.Stop.Joined
import Derived.SevenTiedAt
set_option maxHeartbeats 2000000
set_option maxRecDepth 100000
set_option linter.all false
namespace Go.Proofs.YtnjjfakjnkhhjaaGreatDoor.Ev
open Go Go.RowKit
def dx : D → Int | .agg [_, _, .int _ e] => e | _ => 0
def okD : D → Prop | .agg [.bool _, .sl n cs, .int .i64 e] => okC n cs ∧ -100000000 ≤ e ∧ e ≤ 100000000 | _ => False
theorem okD_arg {x : D} (h : okD x) : ∃ s n cs e, x = .agg [.bool s, .sl n cs, .int .i64 e] ∧ okC n cs ∧ -100000000 ≤ e ∧ e ≤ 100000000 := by
 match x, h with
 | .agg [.bool s, .sl n cs, .int .i64 e], h => exact ⟨s, n, cs, e, rfl, h⟩
def okE : D → Prop | .agg [.bool _, .sl n cs, .int .i64 _] => okC n cs | _ => False
theorem okE_arg {x : D} (h : okE x) : ∃ s n cs e, x = .agg [.bool s, .sl n cs, .int .i64 e] ∧ okC n cs := by
 match x, h with
 | .agg [.bool s, .sl n cs, .int .i64 e], h => exact ⟨s, n, cs, e, rfl, h⟩
def canI (x : D) : Prop := x = dI (dm x) ∧ ln (dm x).natAbs ≤ 90000
theorem dm_dI (z : Int) : dm (dI z) = z := vI_N0 z
theorem canI_arg {x : D} (h : canI x) : ∃ z s n cs, x = .agg [.bool s, .sl n cs] ∧ N0.neg z = s ∧ N0.ln z = n ∧ N0.lm z = cs ∧ ln z.natAbs ≤ 90000 := ⟨dm x, _, _, _, h.1, rfl, rfl, rfl, h.2⟩
theorem canI_dI {z : Int} (h : ln z.natAbs ≤ 90000) : canI (dI z) := by unfold canI; rw [dm_dI]; exact ⟨rfl, h⟩
theorem canI_N0 {z : Int} {k : Nat} (h : Fit z k) (hk : k ≤ 2880000) : canI (.agg [.bool (N0.neg z), .sl (N0.ln z) (N0.lm z)]) := canI_dI (h.ln (by omega))
theorem okC_fitN {z : Int} {k : Nat} (h : Fit z k) (hk : k ≤ 3200000) : okC (N0.ln z) (N0.lm z) := okC_N0 (h.ln (by omega))
theorem vL_abs (s : Bool) (cs : List D) : vL cs = (vI s cs).natAbs := by unfold vL vI; rw [sgn_natAbs]
theorem wrap_in {z : Int} (h1 : -9223372036854775808 ≤ z) (h2 : z ≤ 9223372036854775807) : IntKind.i64.wrap z = z := IntWalk.i64_in _ (by omega)
theorem sgn_shl' (s : Bool) (a k : Nat) : sgn s (a * 2 ^ k) = sgn s a * 2 ^ k := by
 unfold sgn
 cases s <;> simp [Int.neg_mul]
theorem N0_ln0 : N0.ln 0 = 0 := ln_zero
theorem N0_lm0 : N0.lm 0 = [] := by
 show u32s (lim (Int.natAbs 0)) = []
 rw [Int.natAbs_zero, lim_zero]; rfl
theorem N0_neg0 : N0.neg 0 = false := rfl
theorem okC_drop {n j : Nat} {cs : List D} (h : okC n cs) : okC (n - j) (cs.drop j) := by
 obtain ⟨h1, h2, h3, h4⟩ := h
 have hn : nums (cs.drop j) = (nums cs).drop j := by unfold nums; rw [List.map_drop]
 refine ⟨?_, by rw [List.length_drop, h2], by rw [hn]; exact h3.drop j, by omega⟩
 rw [hn]
 unfold u32s
 rw [List.map_drop]
 exact congrArg (List.drop j) h1
theorem vI_drop {n j r : Nat} {s : Bool} {cs : List D} (h : okC n cs) (hd : (2 : Int) ^ (32 * j + r) ∣ vI s cs) : vI s (cs.drop j) / 2 ^ r = vI s cs / 2 ^ (32 * j + r) := by
 have hn : nums (cs.drop j) = (nums cs).drop j := by unfold nums; rw [List.map_drop]
 have hv : val (nums (cs.drop j)) = val (nums cs) / 2 ^ (32 * j) := by rw [hn, val_drop h.2.2.1, Bs_pow_eq]
 obtain ⟨c, hc⟩ := hd
 have hN : val (nums cs) = 2 ^ (32 * j) * (2 ^ r * c.natAbs) := by
  have := congrArg Int.natAbs hc
  unfold vI at this
  rw [sgn_natAbs, Int.natAbs_mul, Int.natAbs_pow, Nat.pow_add] at this
  rw [this, Nat.mul_assoc]; rfl
 have h1 : val (nums (cs.drop j)) = 2 ^ r * c.natAbs := by rw [hv, hN, Nat.mul_div_cancel_left _ (Nat.pow_pos (by decide))]
 have hp : (2 : Int) ^ (32 * j + r) ≠ 0 := Int.pow_ne_zero (by decide)
 have hp2 : (2 : Int) ^ r ≠ 0 := Int.pow_ne_zero (by decide)
 rw [hc, Int.mul_ediv_cancel_left _ hp]
 have h2 : vI s (cs.drop j) = 2 ^ r * sgn s c.natAbs := by
  unfold vI
  rw [h1, Nat.mul_comm, sgn_shl']
  exact Int.mul_comm _ _
 rw [h2, Int.mul_ediv_cancel_left _ hp2]
 have h3 : (2 : Int) ^ (32 * j + r) * sgn s c.natAbs = 2 ^ (32 * j + r) * c := by
  rw [← hc]
  unfold vI
  rw [hN, ← Nat.mul_assoc, ← Nat.pow_add, Nat.mul_comm _ c.natAbs, sgn_shl']
  exact Int.mul_comm _ _
 exact Int.eq_of_mul_eq_mul_left hp h3
def s_dSign : FnSpec := sp1 (.one (.i .i64)) okD (fun x _ => sg (dm x)) (fun _ _ => false)
def s_dTaken : FnSpec := ⟨.agg [.R, .i .i64], fun ds => match ds with | [x] => okD x | _ => False, a1 0 fun x _ => dx x, a1 false fun x _ => (dcs x).1, a1 0 fun x _ => dcn x, a1 [] fun x _ => u32s (dcs x).2⟩
def s_dHeld : FnSpec := sp2 (.one (.i .i64)) (fun x y => isi .i64 x ∧ isi .i64 y ∧ 0 ≤ dz y ∧ dz y ≤ 4611686018427387904) (fun x y _ => min (max (dz x) (-dz y)) (dz y)) (fun _ _ _ => false)
def s_dLow : FnSpec := sp2 (.agg [.I]) (fun x y => canI x ∧ isi .i64 y ∧ 0 ≤ dz y ∧ dz y ≤ tz (dm x).natAbs ∧ dm x ≠ 0) (fun x y _ => dm x / 2 ^ (dz y).toNat) (fun _ _ _ => false)
def s_dTold : FnSpec := sp2 (.agg [.I, .i .i64]) (fun x y => canI x ∧ isi .i64 y ∧ -1000000000000 ≤ dz y ∧ dz y ≤ 1000000000000) (fun x y i => match i with | 0 => tmI (dm x) | _ => teI (dm x) (dz y)) (fun _ _ _ => false)
def s_dWritten : FnSpec := sp1 (.agg [.I, .i .i64]) (fun x => okD x ∧ dcn x ≤ 90000) (fun x i => match i with | 0 => tmI (dm x) | _ => teI (dm x) (dx x)) (fun _ _ => false)
def s_dMake : FnSpec := sp2 (.agg [.I, .i .i64]) (fun x y => okI x ∧ dcn x ≤ 90000 ∧ isi .i64 y) (fun x y i => match i with | 0 => tmI (dm x) | _ => teI (dm x) (min (max (dz y) (-20000)) 20000)) (fun _ _ _ => false)
def s_dOf : FnSpec := sp1 (.agg [.I, .i .i64]) (fun x => isi .i64 x ∧ -9223372036854775808 ≤ dz x ∧ dz x ≤ 9223372036854775807) (fun x i => match i with | 0 => tmI (dz x) | _ => teI (dz x) 0) (fun _ _ => false)
def s_dMul : FnSpec := sp2 (.agg [.I, .i .i64]) (fun x y => okD x ∧ okD y ∧ dcn x ≤ 40000 ∧ dcn y ≤ 40000) (fun x y i => match i with | 0 => tmI (dm x * dm y) | _ => teI (dm x * dm y) (dx x + dx y)) (fun _ _ _ => false)
def s_dNeg : FnSpec := sp1 (.agg [.I, .i .i64]) (fun x => okD x ∧ dcn x ≤ 90000) (fun x i => match i with | 0 => tmI (-dm x) | _ => teI (-dm x) (dx x)) (fun _ _ => false)
def s_dScale : FnSpec := sp2 (.agg [.I, .i .i64]) (fun x y => okD x ∧ dcn x ≤ 90000 ∧ isi .i64 y) (fun x y i => match i with | 0 => tmI (dm x) | _ => teI (dm x) (dx x + min (max (dz y) (-20000)) 20000)) (fun _ _ _ => false)
def s_dTop : FnSpec := sp1 (.one (.i .i64)) okD (fun x _ => topI (dm x) (dx x)) (fun _ _ => false)
def dMof : D → D | .agg (b :: s :: _) => .agg [b, s] | d => d
def rsB (x : D) (k : Int) : Bool := if k = 0 then (dcs x).1 else N0.neg (dm x * 2 ^ k.toNat)
def rsN (x : D) (k : Int) : Nat := if k = 0 then dcn x else N0.ln (dm x * 2 ^ k.toNat)
def rsC (x : D) (k : Int) : List D := if k = 0 then u32s (dcs x).2 else N0.lm (dm x * 2 ^ k.toNat)
def s_dRaised : FnSpec := ⟨.agg [.R], fun ds => match ds with | [x, y] => okI x ∧ dcn x ≤ 25000 ∧ isi .i64 y ∧ 0 ≤ dz y ∧ dz y ≤ 2000000 | _ => False, fun _ _ => 0, a2 false fun x y _ => rsB x (dz y), a2 0 fun x y _ => rsN x (dz y), a2 [] fun x y _ => rsC x (dz y)⟩
def upx (x y : D) : Int := dx x - min (dx x) (dx y)
def s_dAligned : FnSpec := ⟨.tup [(true, [.R]), (true, [.R]), (false, [.i .i64])], fun ds => match ds with | [x, y] => okD x ∧ okD y ∧ dcn x ≤ 25000 ∧ dcn y ≤ 25000 ∧ upx x y ≤ 2000000 ∧ upx y x ≤ 2000000 | _ => False,
 a2 0 fun x y _ => min (dx x) (dx y), a2 false fun x y i => match i with | 0 => rsB (dMof x) (upx x y) | _ => rsB (dMof y) (upx y x), a2 0 fun x y i => match i with | 0 => rsN (dMof x) (upx x y) | _ => rsN (dMof y) (upx y x), a2 [] fun x y i => match i with | 0 => rsC (dMof x) (upx x y) | _ => rsC (dMof y) (upx y x)⟩
theorem rs_vI {s : Bool} {n : Nat} {cs : List D} {k : Int} (hc : okC n cs) (r : List D) : vI (rsB (.agg (.bool s :: .sl n cs :: r)) k) (rsC (.agg (.bool s :: .sl n cs :: r)) k) = vI s cs * 2 ^ k.toNat := by
 unfold rsB rsC
 split
 ·rename_i h; rw [h]; simp only [dcs]; rw [← hc.1]; simp
 ·rw [vI_N0]; rfl
theorem rs_okC {s : Bool} {n : Nat} {cs : List D} {k : Int} (hc : okC n cs) (hn : n ≤ 25000) (hk : k ≤ 2000000) (r : List D) : okC (rsN (.agg (.bool s :: .sl n cs :: r)) k) (rsC (.agg (.bool s :: .sl n cs :: r)) k) := by
 unfold rsN rsC
 split
 ·simp only [dcs, dcn]; rw [← hc.1]; exact hc
 ·exact okC_fitN ((okC_fit hc s).shl (n := k.toNat) (Nat.le_refl _)) (by omega)
def s_dCmp : FnSpec := sp2 (.one (.i .i64)) (fun x y => okD x ∧ okD y ∧ dcn x ≤ 20000 ∧ dcn y ≤ 20000) (fun x y _ => cmpD (dm x) (dx x) (dm y) (dx y)) (fun _ _ _ => false)
def s_dSame : FnSpec := sp2 (.one .b) (fun x y => okD x ∧ okD y ∧ dcn x ≤ 20000 ∧ dcn y ≤ 20000) (fun _ _ _ => 0) (fun x y _ => cmpD (dm x) (dx x) (dm y) (dx y) == 0)
def near (b : Int) (x y : D) : Prop := dm x ≠ 0 → dm y ≠ 0 → upx x y ≤ b ∧ upx y x ≤ b
def s_dAdd : FnSpec := sp2 (.agg [.I, .i .i64]) (fun x y => okD x ∧ okD y ∧ dcn x ≤ 20000 ∧ dcn y ≤ 20000 ∧ near 1500000 x y) (fun x y i => match i with | 0 => tmI (addM (dm x) (dx x) (dm y) (dx y)) | _ => teI (addM (dm x) (dx x) (dm y) (dx y)) (min (dx x) (dx y))) (fun _ _ _ => false)
def s_dSub : FnSpec := sp2 (.agg [.I, .i .i64]) (fun x y => okD x ∧ okD y ∧ dcn x ≤ 20000 ∧ dcn y ≤ 15000 ∧ near 1000000 x y ∧ -90000000 ≤ dx y ∧ dx y ≤ 90000000) (fun x y i => match i with | 0 => tmI (addM (dm x) (dx x) (-dm y) (dx y)) | _ => teI (addM (dm x) (dx x) (-dm y) (dx y)) (min (dx x) (dx y))) (fun _ _ _ => false)
theorem Post.b {Q : Post} {a b : Bool} (h : Q.R (.bool a)) (hab : a = b) : Q.R (.bool b) := hab ▸ h
theorem Post.i {Q : Post} {k : IntKind} {a b : Int} (h : Q.R (.int k a)) (hab : a = b) : Q.R (.int k b) := hab ▸ h
theorem Post.d {Q : Post} {m m' e e' : Int} (h : Q.R (.agg [.bool (N0.neg m), .sl (N0.ln m) (N0.lm m), .int .i64 e])) (hm : m = m') (he : e = e') : Q.R (.agg [.bool (N0.neg m'), .sl (N0.ln m') (N0.lm m'), .int .i64 e']) := by
 subst hm he; exact h
theorem good_dSign : Good Tryz.prog (GWL [0, 1]) N0 90 s_dSign := by
 refine goodM 0 (gc good_wSign gn) Tryz.f90 (by kernel_rfl) (by kernel_rfl) fun ds hp F A Q hF hA hQ => ?_
 obtain ⟨x, rfl, hx⟩ := sp1_arg hp
 obtain ⟨s, n, cs, e, rfl, hc, he1, he2⟩ := okD_arg hx
 cbv
 all_goals subst hF hA
 exact ⟨hc, hQ⟩
theorem good_dHeld : Good Tryz.prog (GWL [0, 1]) N0 175 s_dHeld := by
 refine goodM 0 gn Tryz.f175 (by kernel_rfl) (by kernel_rfl) fun ds hp F A Q hF hA hQ => ?_
 obtain ⟨x, y, rfl, hx, hy, h1, h2⟩ := sp2_arg hp
 obtain ⟨n, rfl⟩ := isi_arg hx
 obtain ⟨m, rfl⟩ := isi_arg hy
 cbv
 all_goals (repeat (rw [safe_true hA, true_and]; rotate_left; kernel_rfl))
 all_goals subst hF hA
 all_goals simp only [std, sp2, a2, FnSpec.out, Shape.build, leafCells, oneOf, s_dHeld] at hQ ⊢
 have e1 : IntKind.i64.wrap (0 - m) = -m := by rw [show (0 - m : Int) = -m by omega]; exact IntWalk.i64_in _ (by simp only [dz] at h1 h2; omega)
 have e2 : (if m < (if -m > n then -m else n) then m else (if -m > n then -m else n)) = min (max n (-m)) m := by
  simp only [Int.min_def, Int.max_def]
  repeat' split
  all_goals omega
 simp only [dz] at hQ
 first | (rw [e1, e2]; exact hQ) | (rw [e1]; rw [← e2] at hQ; exact hQ)
theorem good_dTaken : Good Tryz.prog (GWL [0, 1]) N0 152 s_dTaken := by
 refine goodM 0 (gc good_dHeld gn) Tryz.f152 (by kernel_rfl) (by kernel_rfl) fun ds hp F A Q hF hA hQ => ?_
 obtain ⟨x, rfl, hx⟩ := sp1_arg hp
 obtain ⟨s, n, cs, e, rfl, hc, he1, he2⟩ := okD_arg hx
 cbv
 all_goals (repeat (rw [safe_true hA, true_and]; rotate_left; kernel_rfl))
 all_goals subst hF hA
 all_goals simp only [fnOf, find, reduceIte, sp2, a1, a2, FnSpec.out, Shape.build, leafs, leafCells, List.cons_append, List.nil_append, s_dTaken, s_dHeld] at hQ ⊢
 simp only [dz, dx, dcs, dcn] at hQ ⊢
 rw [show min (max e (-1073741824)) 1073741824 = e by omega]
 rw [← hc.1] at hQ
 exact ⟨⟨rfl, rfl, by omega, by omega⟩, hQ⟩
theorem good_dLow : Good Tryz.prog (GWL [0, 1]) N0 187 s_dLow := by
 refine goodM 0 (gc (good_wShr fun _ h => tab_at h (by decide)) gn) Tryz.f187 (by kernel_rfl) (by kernel_rfl) fun ds hp F A Q hF hA hQ => ?_
 obtain ⟨x, y, rfl, hx, hy, h1, h2, h0⟩ := sp2_arg hp
 obtain ⟨z, s, n, cs, rfl, hs, hn, hcs, hl⟩ := canI_arg hx
 obtain ⟨e, rfl⟩ := isi_arg hy
 cbv
 refine ⟨fun h => ?_, fun h => ?_⟩
 all_goals cbv
 all_goals (repeat (rw [safe_true hA, true_and]; rotate_left; kernel_rfl))
 all_goals subst hF hA
 all_goals simp only [fnOf, find, std, reduceIte, Nat.reduceEqDiff, sp1, sp2, a1, a2, FnSpec.out, Shape.build, leafs, leafCells, tups, oneOf, List.cons_append, List.nil_append, List.length_cons, List.length_nil, s_dLow, s_wShr] at hQ ⊢
 all_goals (try simp only [fnOf, find, std, reduceIte, Nat.reduceEqDiff, sp1, sp2, a1, a2, FnSpec.out, Shape.build, leafs, leafCells, tups, oneOf, List.cons_append, List.nil_append, List.length_cons, List.length_nil, s_dLow, s_wShr] at h)
 all_goals subst hs hn hcs
 all_goals simp only [dm_N0, dz] at h1 h2 h0 hQ ⊢
 case refine_1 =>
  have he : e = 0 := by simpa using h
  rw [he] at hQ
  have : z / 2 ^ (0 : Int).toNat = z := by simp
  rw [this] at hQ
  exact hQ
 case refine_2 =>
  have hf := tz_lt (fit_ln (Nat.le_refl (ln z.natAbs))) h0
  have hc : okC (N0.ln z) (N0.lm z) := okC_N0 (by omega)
  obtain ⟨k, rfl⟩ : ∃ k : Nat, e = k := ⟨e.toNat, by omega⟩
  have hk : k ≤ tz z.natAbs := Int.ofNat_le.1 h2
  clear h1 h2
  have hq : (k : Int).tdiv 32 = ((k / 32 : Nat) : Int) := by rw [Int.tdiv_eq_ediv_of_nonneg (by omega)]; omega
  have hr : (k : Int).tmod 32 = ((k % 32 : Nat) : Int) := by rw [Int.tmod_eq_emod_of_nonneg (by omega)]; omega
  have hw : IntKind.i64.wrap ((k : Int).tdiv 32) = ((k / 32 : Nat) : Int) := by rw [hq]; exact wrap_in (by omega) (by omega)
  rw [hw, hr]
  have hln : N0.ln z = ln z.natAbs := rfl
  have hN : (heldN ((k % 32 : Nat) : Int)) = k % 32 := by unfold heldN; omega
  refine ⟨by omega, ⟨by omega, by rw [hln]; omega, hc.2.1⟩, by omega, ⟨okC_drop hc, rfl⟩, ?_⟩
  have hv := vI_drop (j := k / 32) (r := k % 32) (s := N0.neg z) hc (by rw [vI_N0]; exact Int.dvd_trans (pow_dvd (by omega)) (dvd_tz z))
  rw [vI_N0, show 32 * (k / 32) + k % 32 = k by omega] at hv
  simp only [dm_raw, hN, Int.toNat_natCast, dz] at hQ ⊢
  rw [hv]
  exact hQ
theorem good_dTold : Good Tryz.prog (GWL [0, 1]) N0 154 s_dTold := by
 refine goodM 0 (gc good_wSign <| gc (good_nLow fun _ h => tab_at h (by decide)) <| gc good_dLow gn) Tryz.f154 (by kernel_rfl) (by kernel_rfl) fun ds hp F A Q hF hA hQ => ?_
 obtain ⟨x, y, rfl, hx, hy, h1, h2⟩ := sp2_arg hp
 obtain ⟨z, s, n, cs, rfl, hs, hn, hcs, hl⟩ := canI_arg hx
 obtain ⟨e, rfl⟩ := isi_arg hy
 cbv
 refine ⟨?_, fun h => ?_, fun h => ?_⟩
 case' refine_2 => cbv
 case' refine_3 => cbv
 all_goals (repeat (rw [safe_true hA, true_and]; rotate_left; kernel_rfl))
 all_goals subst hF hA
 all_goals simp only [fnOf, find, std, reduceIte, Nat.reduceEqDiff, sp1, sp2, a1, a2, FnSpec.out, Shape.build, leafs, leafCells, List.cons_append, List.nil_append, s_dTold, s_wSign, s_nLow, s_dLow] at hQ ⊢
 all_goals (try simp only [fnOf, find, std, reduceIte, Nat.reduceEqDiff, sp1, sp2, a1, s_wSign, s_nLow, s_dLow] at h)
 all_goals subst hs hn hcs
 all_goals simp only [dm_N0, dl_N0, dz, Int.toNat_natCast] at h1 h2 hQ ⊢
 case refine_1 => exact okC_N0 (by omega)
 case refine_2 =>
  have hz : z = 0 := by rw [dm_N0] at h; rcases sg_cases z with ⟨_, h3⟩ | ⟨h3, _⟩ | ⟨_, h3⟩ <;> first | exact h3 | (rw [h3] at h; cases h)
  rw [hz, tmI_zero, teI_zero] at hQ
  rw [N0_ln0, N0_lm0, N0_neg0] at hQ
  exact hQ
 case refine_3 =>
  have hz : z ≠ 0 := fun h0 => by rw [dm_N0, sg_zero h0] at h; cases h
  have hf := tz_lt (fit_ln hl) hz
  rw [wrap_in (by omega) (by omega)]
  refine ⟨okC_N0 (by omega), ⟨canI_dI hl, rfl, by omega, Int.le_refl _, hz⟩, ?_⟩
  rw [show tmI z = z / 2 ^ tz z.natAbs from if_neg hz, show teI z e = e + tz z.natAbs from if_neg hz] at hQ
  exact hQ
theorem good_dWritten : Good Tryz.prog (GWL [0, 1]) N0 159 s_dWritten := by
 refine goodM 0 (gc good_dTaken <| gc good_wNorm <| gc good_dTold gn) Tryz.f159 (by kernel_rfl) (by kernel_rfl) fun ds hp F A Q hF hA hQ => ?_
 obtain ⟨x, rfl, hx, hb⟩ := sp1_arg hp
 obtain ⟨s, n, cs, e, rfl, hc, he1, he2⟩ := okD_arg hx
 cbv
 all_goals (repeat (rw [safe_true hA, true_and]; rotate_left; kernel_rfl))
 all_goals subst hF hA
 all_goals simp only [fnOf, find, reduceIte, Nat.reduceEqDiff, sp1, sp2, a1, a2, FnSpec.out, Shape.build, leafs, leafCells, List.cons_append, List.nil_append, s_dWritten, s_dTaken, s_wNorm, s_dTold] at hQ ⊢
 simp only [dx, dz, dcs, dcn, dm_N0] at hb hQ ⊢
 rw [← hc.1]
 simp only [dm_raw] at hQ ⊢
 exact ⟨⟨hc, he1, he2⟩, hc, ⟨canI_N0 (okC_fit hc s) (by omega), rfl, by omega, by omega⟩, hQ⟩
theorem good_dMake : Good Tryz.prog (GWL [0, 1]) N0 223 s_dMake := by
 refine goodM 0 (gc good_wNorm <| gc good_dHeld <| gc good_dTold gn) Tryz.f223 (by kernel_rfl) (by kernel_rfl) fun ds hp F A Q hF hA hQ => ?_
 obtain ⟨x, y, rfl, hx, hb, hy⟩ := sp2_arg hp
 obtain ⟨s, n, cs, rfl, hc⟩ := okI_arg hx
 obtain ⟨e, rfl⟩ := isi_arg hy
 cbv
 all_goals (repeat (rw [safe_true hA, true_and]; rotate_left; kernel_rfl))
 all_goals subst hF hA
 all_goals simp only [fnOf, find, reduceIte, Nat.reduceEqDiff, sp1, sp2, a1, a2, FnSpec.out, Shape.build, leafs, leafCells, List.cons_append, List.nil_append, s_dMake, s_wNorm, s_dHeld, s_dTold] at hQ ⊢
 simp only [dz, dcn, dm_N0] at hb hQ ⊢
 simp only [dm_raw] at hQ ⊢
 exact ⟨hc, ⟨rfl, rfl, by omega, by omega⟩, ⟨canI_N0 (okC_fit hc s) (by omega), rfl, by omega, by omega⟩, hQ⟩
theorem good_dOf : Good Tryz.prog (GWL [0, 1]) N0 115 s_dOf := by
 refine goodM 0 (gc good_wOf <| gc good_dTold gn) Tryz.f115 (by kernel_rfl) (by kernel_rfl) fun ds hp F A Q hF hA hQ => ?_
 obtain ⟨x, rfl, hx, h1, h2⟩ := sp1_arg hp
 obtain ⟨e, rfl⟩ := isi_arg hx
 cbv
 all_goals (repeat (rw [safe_true hA, true_and]; rotate_left; kernel_rfl))
 all_goals subst hF hA
 all_goals simp only [fnOf, find, reduceIte, Nat.reduceEqDiff, sp1, sp2, a1, a2, FnSpec.out, Shape.build, leafs, leafCells, List.cons_append, List.nil_append, s_dOf, s_wOf, s_dTold] at hQ ⊢
 simp only [dz, dm_N0] at h1 h2 hQ ⊢
 have hf : Fit e 64 := by unfold Fit; omega
 exact ⟨⟨rfl, h1, h2⟩, ⟨canI_N0 hf (by omega), rfl, by omega, by omega⟩, hQ⟩
theorem good_dMul : Good Tryz.prog (GWL [0, 1, 3]) N0 98 s_dMul := by
 refine goodM 0 (gc (good_wMul fun _ h => products_at h (by decide)) <| gl good_dTaken rfl <| gl good_dTold rfl gn) Tryz.f98 (by kernel_rfl) (by kernel_rfl) fun ds hp F A Q hF hA hQ => ?_
 obtain ⟨x, y, rfl, hx, hy, hb, hb2⟩ := sp2_arg hp
 obtain ⟨s, n, cs, e, rfl, hc, he1, he2⟩ := okD_arg hx
 obtain ⟨t, m, es, f, rfl, hc2, hf1, hf2⟩ := okD_arg hy
 cbv
 all_goals (repeat (rw [safe_true hA, true_and]; rotate_left; kernel_rfl))
 all_goals subst hF hA
 all_goals simp only [fnOf, find, std, reduceIte, Nat.reduceEqDiff, sp2, a1, a2, FnSpec.out, Shape.build, leafs, leafCells, List.cons_append, List.nil_append, s_dMul, s_wMul, s_dTaken, s_dTold] at hQ ⊢
 simp only [dx, dz, dcn, dm_N0] at hb hb2 hQ ⊢
 simp only [dm_raw] at hQ ⊢
 rw [wrap_in (by omega) (by omega)]
 exact ⟨⟨hc, hc2⟩, ⟨hc, he1, he2⟩, ⟨hc2, hf1, hf2⟩, ⟨canI_N0 ((okC_fit hc s).mul (okC_fit hc2 t) (Nat.le_refl _)) (by omega), rfl, by omega, by omega⟩, hQ⟩
theorem good_dNeg : Good Tryz.prog (GWL [0, 1]) N0 102 s_dNeg := by
 refine goodM 0 (gc good_wNeg <| gc good_dTaken <| gc good_dTold gn) Tryz.f102 (by kernel_rfl) (by kernel_rfl) fun ds hp F A Q hF hA hQ => ?_
 obtain ⟨x, rfl, hx, hb⟩ := sp1_arg hp
 obtain ⟨s, n, cs, e, rfl, hc, he1, he2⟩ := okD_arg hx
 cbv
 all_goals (repeat (rw [safe_true hA, true_and]; rotate_left; kernel_rfl))
 all_goals subst hF hA
 all_goals simp only [fnOf, find, reduceIte, Nat.reduceEqDiff, sp1, sp2, a1, a2, FnSpec.out, Shape.build, leafs, leafCells, List.cons_append, List.nil_append, s_dNeg, s_wNeg, s_dTaken, s_dTold] at hQ ⊢
 simp only [dx, dz, dcn, dm_N0] at hb hQ ⊢
 simp only [dm_raw] at hQ ⊢
 exact ⟨hc, ⟨hc, he1, he2⟩, ⟨canI_N0 (okC_fit hc s).neg (by omega), rfl, by omega, by omega⟩, hQ⟩
theorem good_dScale : Good Tryz.prog (GWL [0, 1]) N0 125 s_dScale := by
 refine goodM 0 (gc good_wNorm <| gc good_dTaken <| gc good_dHeld <| gc good_dTold gn) Tryz.f125 (by kernel_rfl) (by kernel_rfl) fun ds hp F A Q hF hA hQ => ?_
 obtain ⟨x, y, rfl, hx, hb, hy⟩ := sp2_arg hp
 obtain ⟨s, n, cs, e, rfl, hc, he1, he2⟩ := okD_arg hx
 obtain ⟨k, rfl⟩ := isi_arg hy
 cbv
 all_goals (repeat (rw [safe_true hA, true_and]; rotate_left; kernel_rfl))
 all_goals subst hF hA
 all_goals simp only [fnOf, find, std, reduceIte, Nat.reduceEqDiff, sp1, sp2, a1, a2, FnSpec.out, Shape.build, leafs, leafCells, List.cons_append, List.nil_append, s_dScale, s_wNorm, s_dTaken, s_dHeld, s_dTold] at hQ ⊢
 simp only [dx, dz, dcn, dm_N0] at hb hQ ⊢
 simp only [dm_raw] at hQ ⊢
 rw [wrap_in (by omega) (by omega)]
 exact ⟨hc, ⟨hc, he1, he2⟩, ⟨rfl, rfl, by omega, by omega⟩, ⟨canI_N0 (okC_fit hc s) (by omega), rfl, by omega, by omega⟩, hQ⟩
theorem good_dTop : Good Tryz.prog (GWL [0, 1]) N0 149 s_dTop := by
 refine goodM 0 (gc good_dSign <| gc good_nBits <| gc good_dTaken gn) Tryz.f149 (by kernel_rfl) (by kernel_rfl) fun ds hp F A Q hF hA hQ => ?_
 obtain ⟨x, rfl, hx⟩ := sp1_arg hp
 obtain ⟨s, n, cs, e, rfl, hc, he1, he2⟩ := okD_arg hx
 cbv
 refine ⟨?_, fun h => ?_, fun h => ?_⟩
 case' refine_2 => cbv
 case' refine_3 => cbv
 all_goals (repeat (rw [safe_true hA, true_and]; rotate_left; kernel_rfl))
 all_goals subst hF hA
 all_goals simp only [fnOf, find, std, reduceIte, Nat.reduceEqDiff, sp1, a1, FnSpec.out, Shape.build, leafCells, oneOf, s_dTop, s_dSign, s_nBits, s_dTaken] at hQ ⊢
 all_goals (try simp only [fnOf, find, std, reduceIte, Nat.reduceEqDiff, sp1, a1, s_dSign, s_nBits, s_dTaken] at h)
 all_goals simp only [dx, dl, dm_raw] at hQ ⊢
 all_goals (try simp only [dm_raw] at h)
 case refine_1 => exact ⟨hc, he1, he2⟩
 case refine_2 =>
  have hz : vI s cs = 0 := by rcases sg_cases (vI s cs) with ⟨_, h3⟩ | ⟨h3, _⟩ | ⟨_, h3⟩ <;> first | exact h3 | (rw [h3] at h; cases h)
  rw [hz] at hQ
  exact hQ
 case refine_3 =>
  have hz : vI s cs ≠ 0 := fun h0 => by rw [sg_zero h0] at h; cases h
  have hv : (vL cs).toNat = (vI s cs).natAbs := by rw [vL_abs s]; rfl
  have hnb : nb (vI s cs).natAbs ≤ 32 * n := nb_le_of_lt (okC_fit hc s)
  have hn := hc.2.2.2
  rw [hv, wrap_in (z := (nb (vI s cs).natAbs : Int) - 1) (by omega) (by omega), wrap_in (by omega) (by omega)]
  rw [show topI (vI s cs) e = (nb (vI s cs).natAbs : Int) - 1 + e from if_neg hz] at hQ
  exact ⟨hc, ⟨hc, he1, he2⟩, hQ⟩
end Go.Proofs.YtnjjfakjnkhhjaaGreatDoor.Ev
namespace Go.Proofs.YtnjjfakjnkhhjaaGreatDoor
open Go.RowKit
end Go.Proofs.YtnjjfakjnkhhjaaGreatDoor
namespace Go.Proofs.YtnjjfakjnkhhjaaGreatDoor
open Go.RowKit
theorem sg_eq {X Y σ : Int} {a b : Nat} (h : sg X = σ) (h' : sg Y = σ) (ha : X.natAbs = a) (hb : Y.natAbs = b) : σ * cmpN a b = sg (X - Y) ∧ (-1 ≤ σ * cmpN a b ∧ σ * cmpN a b ≤ 1) := by
 have h3 : σ * cmpN a b = sg (X - Y) := by
  subst h
  rcases sg_cases X with ⟨h, e⟩ | ⟨h, e⟩ | ⟨h, e⟩ <;> rcases sg_cases Y with ⟨h4, e'⟩ | ⟨h4, e'⟩ | ⟨h4, e'⟩ <;> rw [e] at h' ⊢ <;> rw [e'] at h' <;> (try omega)
  all_goals
   unfold cmpN sg
   split <;> (try split) <;> (try split) <;> (try split) <;> omega
 exact ⟨h3, by rw [h3]; exact sg_range _⟩
end Go.Proofs.YtnjjfakjnkhhjaaGreatDoor
namespace Go.Proofs.YtnjjfakjnkhhjaaGreatDoor
open Go.RowKit
end Go.Proofs.YtnjjfakjnkhhjaaGreatDoor
namespace Go.Proofs.YtnjjfakjnkhhjaaGreatDoor
open Go.RowKit
end Go.Proofs.YtnjjfakjnkhhjaaGreatDoor
namespace Go.Proofs.YtnjjfakjnkhhjaaGreatDoor
open Go.RowKit
def fits (Z : Int) : Bool := decide (-9223372036854775808 ≤ Z ∧ Z ≤ 9223372036854775807)
end Go.Proofs.YtnjjfakjnkhhjaaGreatDoor
namespace Go.Proofs.YtnjjfakjnkhhjaaGreatDoor
open Go.RowKit
end Go.Proofs.YtnjjfakjnkhhjaaGreatDoor
namespace Go.Proofs.YtnjjfakjnkhhjaaGreatDoor
open Go.RowKit
def RowZ (w : World) (b : Nat) (v : Value) (xs : List Nat) : Prop := w.ownsRow b 124 1 v xs.length (xs.map d32)
theorem RowZ.own {w : World} {b : Nat} {v : Value} {xs : List Nat} (h : RowZ w b v xs) : ∀ k, v.ownBlock = some k → b ≤ k ∧ k < w.heap.size := World.ownsRow.lt h
theorem RowZ.alloc {w : World} {b : Nat} {v : Value} {xs : List Nat} (h : RowZ w b v xs) (o : Obj) : RowZ (w.alloc o) b v xs := World.ownsRow.alloc h o
theorem RowZ.drew {w : World} {b : Nat} {v : Value} {xs : List Nat} (h : RowZ w b v xs) : RowZ w.drew b v xs := h
theorem RowZ.lm {w : World} {b : Nat} {v : Value} {xs : List Nat} (h : RowZ w b v xs) (hok : Ok xs) (hb : xs.length ≤ 1000000) : ∃ A c, v = .slice A xs.length c ∧ Lm w A xs.length c xs := by
 rcases h.2 with ⟨rfl, h0⟩ | ⟨g, cap, cur, rfl, hge, hh, hnc, hcm, hcs, hct⟩
 ·have hx : xs = [] := List.eq_nil_of_length_eq_zero h0
  subst hx
  exact ⟨none, 0, rfl, Lm.nil w⟩
 ·refine ⟨_, cap, rfl, ⟨rfl, hnc, by omega⟩, hok, fun _ => ⟨g, 0, rfl, ?_, fun j hj => ?_⟩⟩
  ·apply Nat.lt_of_not_le; intro cc; rw [Array.getElem?_eq_none cc] at hh; cases hh
  ·rw [cell_of_row w g _ _ _ _ hh, Nat.zero_add]
   have h2 : (cur.toList.take (xs.length * 1))[j]? = some (d32 (dig xs j)) := by
    rw [hct, List.getElem?_map, dig_get hj, List.getElem?_eq_getElem hj]; rfl
   rw [List.getElem?_take, if_pos (by omega)] at h2
   simpa using h2
end Go.Proofs.YtnjjfakjnkhhjaaGreatDoor
namespace Go.Proofs.YtnjjfakjnkhhjaaGreatDoor
open Go.RowKit
end Go.Proofs.YtnjjfakjnkhhjaaGreatDoor
namespace Go.Proofs.YtnjjfakjnkhhjaaGreatDoor
open Go.RowKit
end Go.Proofs.YtnjjfakjnkhhjaaGreatDoor
namespace Go.Proofs.YtnjjfakjnkhhjaaGreatDoor
open Go.RowKit
end Go.Proofs.YtnjjfakjnkhhjaaGreatDoor
namespace Go.Proofs.YtnjjfakjnkhhjaaGreatDoor
open Go.RowKit
end Go.Proofs.YtnjjfakjnkhhjaaGreatDoor
namespace Go.Proofs.YtnjjfakjnkhhjaaGreatDoor
open Go.RowKit
end Go.Proofs.YtnjjfakjnkhhjaaGreatDoor
namespace Go.Proofs.YtnjjfakjnkhhjaaGreatDoor
open Go.RowKit
end Go.Proofs.YtnjjfakjnkhhjaaGreatDoor
namespace Go.Proofs.YtnjjfakjnkhhjaaGreatDoor
open Go.RowKit
theorem Two.alloc {w : World} {g : Nat} (h : Two w g) (o : Obj) : Two (w.alloc o) g := h.bel (bel_alloc _ _)
def NumAt (w : World) (g : Nat) (Z : Int) : Prop := ∃ A m c, Box w g (decide (Z < 0)) A m c ∧ Lm w A m c (lim Z.natAbs) ∧ m ≤ 1000000
theorem NumAt.bel {w w' : World} {g : Nat} {Z : Int} (h : NumAt w g Z) (hb : Below w.heap.size w w') : NumAt w' g Z := by
 obtain ⟨A, m, c, h1, h2, h3⟩ := h
 exact ⟨A, m, c, h1.bel hb, h2.bel hb, h3⟩
end Go.Proofs.YtnjjfakjnkhhjaaGreatDoor
namespace Go.Proofs.YtnjjfakjnkhhjaaGreatDoor
open Go.RowKit
theorem wshl_g (w : World) (X : Int) (k : Int) (sa : Bool) (Aa : Option Addr) (na ca : Nat) (xa : List Nat) (La : Lm w Aa na ca xa) (ha : sgn sa (val xa) = X) (hna : na ≤ 1000000000) {Z : Int} (hZ : X * 2 ^ heldN k = Z) :
  Calls Tryz.prog 210 #[.agg #[.bool sa, .slice Aa na ca], .int .i64 k] w (TellsI w Z (na + heldN k / 32 + 1)) := by
 subst ha; subst hZ; exact wshl_any w sa Aa na ca xa La k hna
end Go.Proofs.YtnjjfakjnkhhjaaGreatDoor
namespace Go.Proofs.YtnjjfakjnkhhjaaGreatDoor
open Go.RowKit
end Go.Proofs.YtnjjfakjnkhhjaaGreatDoor
namespace Go.Proofs.YtnjjfakjnkhhjaaGreatDoor
open Go.RowKit
end Go.Proofs.YtnjjfakjnkhhjaaGreatDoor
namespace Go.Proofs.YtnjjfakjnkhhjaaGreatDoor
open Go Go.RowKit Go.ChangeShapes Go.WideShapes Go.ChangeAt
theorem vars_read {P : Program} {w : World} : ∀ {l : List (String × DataW Unit)} {ps : List MemPlace}, DataW.LaidVars P w l ps → ∀ n d, (n, d) ∈ l →
  ∃ g t cs fuel p, P.globalNamed n = some g ∧ (P.globals[g]?).map (·.type) = some t ∧ w.var? P n = some cs ∧ DataW.trod (fun _ => ()) P w 0 (fun _ => true) false fuel t cs.toList = some (d, p)
 | [], _, _, _, _, hm => by cases hm
 | (n', d') :: r, ps, h, n, d, hm => by
  obtain ⟨g, t, cs, fuel, p, q, h1, h2, h3, h4, h5, _⟩ := h
  rcases List.mem_cons.1 hm with e | e
  ·cases e
   exact ⟨g, t, cs, fuel, p, h1, h2, h3, h4⟩
  ·exact vars_read h5 n d e
theorem cells3 {H : Type} {enc : TypeId × Value → H} {P : Program} {w : World} {base : Nat} {sp : Nat → Bool} {held : Bool} {fuel : Nat} {t e e' : TypeId} {k : IntKind} {cs : List Value} {r0 r1 r2 : List Int} {p : List MemPlace}
  (ht : P.underlying t = some (.array 3 e)) (hte : P.underlying e = some (.array 3 e')) (he : P.underlying e' = some (.int k)) (hc1 : P.cellsOf e' = 1) (hc3 : P.cellsOf e = 3) (hc9 : P.cellsOf t = 9)
  (h : DataW.trod enc P w base sp held fuel t cs = some (.agg [Lib.tabData k r0, Lib.tabData k r1, Lib.tabData k r2], p)) : cs = (r0 ++ r1 ++ r2).map fun z => Value.int k z := by
 obtain ⟨xs, m, _, hx, hl, hxl, hall⟩ := DataW.trod_array ht h
 rw [hc9] at hl
 rw [hc3] at hall
 match xs, hxl with
 | [x0, x1, x2], _ =>
 simp only [Prod.mk.injEq, DataW.agg.injEq, List.map_cons, List.map_nil, List.cons.injEq, and_true] at hx
 obtain ⟨⟨e0, e1, e2⟩, _⟩ := hx
 obtain ⟨x0a, x0b⟩ := x0
 obtain ⟨x1a, x1b⟩ := x1
 obtain ⟨x2a, x2b⟩ := x2
 subst e0; subst e1; subst e2
 have a0 := Lib.cells_of_tab hte he hc1 hc3 (hall 0 (by omega))
 have a1 := Lib.cells_of_tab hte he hc1 hc3 (hall 1 (by omega))
 have a2 := Lib.cells_of_tab hte he hc1 hc3 (hall 2 (by omega))
 match cs, hl with
 | [c0, c1, c2, c3, c4, c5, c6, c7, c8], _ =>
 simp only [Nat.zero_mul, Nat.one_mul, List.drop_zero, List.drop_succ_cons, List.take_succ_cons, List.take_zero] at a0 a1 a2
 rw [List.map_append, List.map_append, ← a0, ← a1, ← a2]
 rfl
end Go.Proofs.YtnjjfakjnkhhjaaGreatDoor
namespace Go.Proofs.YtnjjfakjnkhhjaaGreatDoor
open Go.RowKit
theorem bel_drw {B w : World} (h : Below B.heap.size B w) : Below B.heap.size B w.drew := h.drew
theorem bel_al {B w : World} {o : Obj} (h : Below B.heap.size B w) : Below B.heap.size B (w.alloc o) := bel_next h (bel_alloc _ _)
end Go.Proofs.YtnjjfakjnkhhjaaGreatDoor
