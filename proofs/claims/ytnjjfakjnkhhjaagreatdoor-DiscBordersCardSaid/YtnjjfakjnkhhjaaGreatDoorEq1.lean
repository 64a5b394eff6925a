import Derived.Test.YtnjjfakjnkhhjaaGreatDoorEve
import Derived.Test.YtnjjfakjnkhhjaaGreatDoorXm
set_option maxHeartbeats 8000000
set_option maxRecDepth 100000
set_option linter.all false
namespace Go.Proofs.YtnjjfakjnkhhjaaGreatDoor.Ev
open Go Go.RowKit
theorem val_cons (x : Nat) (xs : List Nat) : val (x :: xs) = x + Bs * val xs := by
 have h := val_drop_succ (x :: xs) 0
 rw [List.drop_zero, List.drop_succ_cons, List.drop_zero, dig_cons_zero] at h
 exact h
theorem val_app (xs ys : List Nat) : val (xs ++ ys) = val xs + Bs ^ xs.length * val ys := by
 induction xs with
 | nil => rw [List.nil_append, val_nil, List.length_nil, Nat.pow_zero, Nat.one_mul, Nat.zero_add]
 | cons x xs ih =>
  rw [List.cons_append, val_cons, val_cons, ih, List.length_cons, Nat.pow_succ, Nat.mul_add, Nat.add_assoc, ← Nat.mul_assoc, Nat.mul_comm Bs (Bs ^ _)]
theorem zeros_u32 : ∀ k : Nat, (List.replicate k [D.int .u32 0]).flatten = u32s (List.replicate k 0)
 | 0 => rfl
 | k + 1 => by rw [List.replicate_succ, List.flatten_cons, zeros_u32 k]; rfl
theorem frz_u32s (xs : List Nat) : (u32s xs).all D.frz = true := by
 unfold u32s
 rw [List.all_map]
 exact List.all_eq_true.2 fun x _ => rfl
theorem okC_app {k n : Nat} {cs : List D} (h : okC n cs) (hk : k + n ≤ 100000) : okC (k + n) ((List.replicate k [D.int .u32 0]).flatten ++ cs) := by
 obtain ⟨h1, h2, h3, h4⟩ := h
 have he : (List.replicate k [D.int .u32 0]).flatten ++ cs = u32s (List.replicate k 0 ++ nums cs) := by rw [zeros_u32, u32s_app, ← h1]
 refine ⟨by rw [he, nums_u32s], by rw [he, len_u32s, List.length_append, List.length_replicate]; unfold nums; rw [List.length_map]; omega, ?_, hk⟩
 rw [he, nums_u32s]
 exact ok_append (Ok.zeros _) h3
theorem vL_app {k n : Nat} {cs : List D} (h : okC n cs) : vL ((List.replicate k [D.int .u32 0]).flatten ++ cs) = vL cs * 2 ^ (32 * k) := by
 have he : (List.replicate k [D.int .u32 0]).flatten ++ cs = u32s (List.replicate k 0 ++ nums cs) := by rw [zeros_u32, u32s_app, ← h.1]
 unfold vL
 rw [he, nums_u32s, val_app, val_zeros, List.length_replicate, Nat.zero_add, Bs_pow_eq, Nat.mul_comm, Int.natCast_mul, Int.natCast_pow]; rfl
theorem vL_drop {n : Nat} {cs : List D} (h : okC n cs) (k : Nat) : vL (cs.drop k) = (((vL cs).toNat / 2 ^ (32 * k) : Nat) : Int) := by
 have he : nums (cs.drop k) = (nums cs).drop k := by unfold nums; rw [List.map_drop]
 unfold vL
 rw [he, val_drop h.2.2.1, Bs_pow_eq, Int.toNat_natCast]
def s_kScaled : FnSpec := ⟨.one .L, fun ds => match ds with | [.sl n cs, .int .i64 k] => okC n cs ∧ n ≤ 50000 ∧ -1000000 ≤ k ∧ k ≤ 1000000 | _ => False, fun ds _ => match ds with | [.sl n cs, .int _ k] => (scaleN (vL cs).toNat k : Nat) | _ => 0, fun _ _ => false, fun _ _ => 0, fun _ _ => []⟩
theorem scaled_arg {ds : List D} (h : s_kScaled.p ds) : ∃ n cs k, ds = [.sl n cs, .int .i64 k] ∧ okC n cs ∧ n ≤ 50000 ∧ -1000000 ≤ k ∧ k ≤ 1000000 := by
 match ds, h with
 | [.sl n cs, .int .i64 k], h => exact ⟨n, cs, k, rfl, h⟩
theorem tdiv32 {k : Int} (h : 0 ≤ k) (h2 : k ≤ 1000000) : IntKind.i64.wrap (k.tdiv 32) = ((k.toNat / 32 : Nat) : Int) := by
 rw [Int.tdiv_eq_ediv_of_nonneg h, wrap_in (by omega) (by omega)]; omega
theorem tmod32 {k : Int} (h : 0 ≤ k) : k.tmod 32 = ((k.toNat % 32 : Nat) : Int) := by
 rw [Int.tmod_eq_emod_of_nonneg h]; omega
theorem wrap_neg {k : Int} (h1 : -1000000 ≤ k) (h2 : k ≤ 1000000) : IntKind.i64.wrap (0 - k) = -k := by rw [wrap_in (by omega) (by omega)]; omega
theorem held32 (q : Nat) : heldN ((q % 32 : Nat) : Int) = q % 32 := by unfold heldN; omega
theorem scale_up {v : Nat} {k : Int} (h : 0 ≤ k) : v * 2 ^ (32 * (k.toNat / 32)) * 2 ^ (k.toNat % 32) = scaleN v k := by
 unfold scaleN
 rw [if_pos h, Nat.mul_assoc, ← Nat.pow_add]
 congr 2; omega
theorem scale_down {v q : Nat} {k : Int} (h : k < 0) (hq : q = (-k).toNat / 32) : v / 2 ^ (32 * q) / 2 ^ ((-k).toNat % 32) = scaleN v k := by
 unfold scaleN
 rw [if_neg (by omega), Nat.div_div_eq_div_mul, ← Nat.pow_add]
 congr 2; omega
theorem scale_none {v n : Nat} {k : Int} (h : k < 0) (hn : n ≤ (-k).toNat / 32) (hv : v < 2 ^ (32 * n)) : 0 = scaleN v k := by
 unfold scaleN
 rw [if_neg (by omega)]
 symm
 apply Nat.div_eq_of_lt
 exact Nat.lt_of_lt_of_le hv (Nat.pow_le_pow_right (by decide) (by omega))
theorem Post.l {Q : Post} {z z' : Int} (h : Q.R (.sl (N0.ln z) (N0.lm z))) (hz : z = z') : Q.R (.sl (N0.ln z') (N0.lm z')) := hz ▸ h
theorem zeros_len (q : Nat) : (List.replicate q [D.int .u32 0]).flatten.length = q * 1 := by rw [zeros_u32, len_u32s, List.length_replicate, Nat.mul_one]
theorem zeros_one (q : Nat) : ((true || (List.replicate q [D.int .u32 0]).flatten.all D.one) && (List.replicate q [D.int .u32 0]).flatten.all D.frz) = true := by rw [zeros_u32, frz_u32s]; rfl
theorem okC_oneB {n : Nat} {cs : List D} (h : okC n cs) : ((true || cs.all D.one) && cs.all D.frz) = true := by rw [h.1, frz_u32s]; rfl
theorem okC_len1 {n : Nat} {cs : List D} (h : okC n cs) : cs.length = n * 1 := by rw [Nat.mul_one]; exact h.2.1
theorem vL_lt {n : Nat} {cs : List D} (h : okC n cs) : (vL cs).toNat < 2 ^ (32 * n) := by
 obtain ⟨h1, h2, h3, _⟩ := h
 unfold vL
 rw [Int.toNat_natCast]
 have := val_lt h3
 rw [Bs_pow_eq] at this
 have hl : (nums cs).length = n := by unfold nums; rw [List.length_map]; exact h2
 rwa [hl] at this
theorem vL_nat {n : Nat} {cs : List D} : vL cs = ((vL cs).toNat : Int) := by unfold vL; rw [Int.toNat_natCast]
theorem app_toNat {q n : Nat} {cs : List D} (h : okC n cs) : (vL ((List.replicate q [D.int .u32 0]).flatten ++ cs)).toNat = (vL cs).toNat * 2 ^ (32 * q) := by
 rw [vL_app h]
 have h2 : vL cs = ((vL cs).toNat : Int) := vL_nat (n := n)
 rw [h2, Int.toNat_natCast]
 rw [show ((vL cs).toNat : Int) * 2 ^ (32 * q) = (((vL cs).toNat * 2 ^ (32 * q) : Nat) : Int) by rw [Int.natCast_mul, Int.natCast_pow]; rfl, Int.toNat_natCast]
theorem drop_toNat {n : Nat} {cs : List D} (h : okC n cs) (q : Nat) : (vL (cs.drop q)).toNat = (vL cs).toNat / 2 ^ (32 * q) := by rw [vL_drop h, Int.toNat_natCast]
def s_kHeld : FnSpec := s_dHeld
def stepQ (top p : Int) (far : Bool) : Int := if far = true ∧ 20000 < top - min (max p 1) 4000 + 1 then top - min (max p 1) 4000 + 1 else clampE (top - min (max p 1) 4000 + 1)
def s_kStep : FnSpec := ⟨.one (.i .i64), fun ds => match ds with | [.int .i64 t, .int .i64 _, .bool _] => -4000000000000000000 ≤ t ∧ t ≤ 4000000000000000000 | _ => False, fun ds _ => match ds with | [.int _ t, .int _ p, .bool far] => stepQ t p far | _ => 0, fun _ _ => false, fun _ _ => 0, fun _ _ => []⟩
theorem kstep_arg {ds : List D} (h : s_kStep.p ds) : ∃ t p far, ds = [.int .i64 t, .int .i64 p, .bool far] ∧ -4000000000000000000 ≤ t ∧ t ≤ 4000000000000000000 := by
 match ds, h with
 | [.int .i64 t, .int .i64 p, .bool far], h => exact ⟨t, p, far, rfl, h⟩
def s_kTimes : FnSpec := sp2 (.agg [.I, .i .i64]) (fun x y => okI x ∧ dcn x ≤ 90000 ∧ isi .i64 y ∧ -4000000000000000000 ≤ dz y ∧ dz y ≤ 4000000000000000000) (fun x y i => match i with | 0 => tmI (dm x) | _ => teI (dm x) (dz y)) (fun _ _ _ => false)
def s_kWritten : FnSpec := sp1 (.agg [.I, .i .i64]) (fun x => okD x ∧ dcn x ≤ 90000 ∧ dm x ≠ 0) (fun x i => match i with | 0 => tmI (dm x) | _ => teI (dm x) (dx x)) (fun _ _ => false)
theorem Post.iQ {Q : Post} {k : IntKind} {z z' : Int} (h : Q.R (.int k z)) (hz : z = z') : Q.R (.int k z') := hz ▸ h
theorem Post.gQ {Q : Post} {a b : D} {z z' : Int} (h : Q.R (.agg [a, b, .int .i64 z])) (hz : z = z') : Q.R (.agg [a, b, .int .i64 z']) := hz ▸ h
theorem fit_scale {M a b : Nat} {k : Int} (h : M < 2 ^ a) (hk : k ≤ b) : Fit (scaleN M k : Nat) (a + b) := by
 unfold Fit scaleN
 rw [Int.natAbs_natCast]
 split
 ·rw [Nat.pow_add]
  exact Nat.lt_of_lt_of_le (Nat.mul_lt_mul_of_pos_right h (Nat.pow_pos (by decide))) (Nat.mul_le_mul_left _ (Nat.pow_le_pow_right (by decide) (by omega)))
 ·refine Nat.lt_of_le_of_lt (Nat.div_le_self _ _) (Nat.lt_of_lt_of_le h (Nat.pow_le_pow_right (by decide) (by omega)))
theorem step_wrap {t p : Int} (h1 : -4000000000000000000 ≤ t) (h2 : t ≤ 4000000000000000000) : IntKind.i64.wrap (IntKind.i64.wrap (t - min (if 1 > p then 1 else p) 4000) + 1) = t - min (max p 1) 4000 + 1 := by
 have h3 : IntKind.i64.wrap (t - min (max p 1) 4000) = t - min (max p 1) 4000 := wrap_in (by omega) (by omega)
 rw [max_if1, h3, wrap_in (by omega) (by omega)]
def s_kOut : FnSpec := ⟨.agg [.R], fun ds => match ds with | [.agg [.bool _, .sl n cs], .bool _, .int .i64 _] => okC n cs ∧ n ≤ 90000 | _ => False, fun _ _ => 0,
 fun ds _ => match ds with | [.agg [.bool s, .sl _ _], .bool _, .int _ _] => s | _ => false,
 fun ds _ => match ds with | [.agg [.bool s, .sl n cs], .bool l, .int _ mode] => (if bump l s mode = true then N0.ln ((vL cs).toNat + 1 : Nat) else n) | _ => 0,
 fun ds _ => match ds with | [.agg [.bool s, .sl _ cs], .bool l, .int _ mode] => (if bump l s mode = true then N0.lm ((vL cs).toNat + 1 : Nat) else cs) | _ => []⟩
theorem out_arg {ds : List D} (h : s_kOut.p ds) : ∃ s n cs l mode, ds = [.agg [.bool s, .sl n cs], .bool l, .int .i64 mode] ∧ okC n cs ∧ n ≤ 90000 := by
 unfold s_kOut at h
 dsimp only at h
 split at h
 ·exact ⟨_, _, _, _, _, rfl, h⟩
 ·exact h.elim
theorem vL_1 : (vL [D.int .u32 1]).toNat = 1 := rfl
theorem okC_1 : okC 1 [D.int .u32 1] := ⟨rfl, rfl, fun i => by rcases i with _ | i <;> first | (show (1 : Nat) < Bs; rw [Bs_eq]; decide) | (show dig [] i < Bs; rw [Bs_eq]; simp [dig]), by decide⟩
theorem bump_eq {l s : Bool} {mode : Int} (h : l = true) : bump l s mode = !(s == (mode == 1)) := by unfold bump; rw [h]; rfl
theorem bump_no {l s : Bool} {mode : Int} (h : l = !true) : bump l s mode = false := by unfold bump; rw [h]; rfl
theorem good_kHeld : Good Tryz.prog (GWL [0, 1]) N0 225 s_kHeld := by
 refine goodM 0 gn Tryz.f225 (by kernel_rfl) (by kernel_rfl) fun ds hp F A Q hF hA hQ => ?_
 obtain ⟨x, y, rfl, hx, hy, h1, h2⟩ := sp2_arg hp
 obtain ⟨n, rfl⟩ := isi_arg hx
 obtain ⟨m, rfl⟩ := isi_arg hy
 cbv
 all_goals (repeat (rw [safe_true hA, true_and]; rotate_left; kernel_rfl))
 all_goals subst hF hA
 all_goals simp only [std, sp2, a2, FnSpec.out, Shape.build, leafCells, oneOf, s_kHeld, s_dHeld] at hQ ⊢
 have e1 : IntKind.i64.wrap (0 - m) = -m := by rw [show (0 - m : Int) = -m by omega]; exact IntWalk.i64_in _ (by simp only [dz] at h1 h2; omega)
 have e2 : (if m < (if -m > n then -m else n) then m else (if -m > n then -m else n)) = min (max n (-m)) m := by
  simp only [Int.min_def, Int.max_def]
  repeat' split
  all_goals omega
 simp only [dz] at hQ
 first | (rw [e1, e2]; exact hQ) | (rw [e1]; rw [← e2] at hQ; exact hQ)
abbrev G_kScaled : Prop := Good Tryz.prog (GWL [0, 1]) N0 201 s_kScaled
abbrev G_kStep : Prop := Good Tryz.prog (GWL [0, 1]) N0 199 s_kStep
abbrev G_kTimes : Prop := Good Tryz.prog (GWL [0, 1]) N0 203 s_kTimes
abbrev G_kWritten : Prop := Good Tryz.prog (GWL [0, 1]) N0 198 s_kWritten
theorem goods_eq11 : G_kScaled ∧ G_kStep ∧ G_kTimes ∧ G_kWritten := by
 refine ⟨?_, ?_, ?_, ?_⟩
 refine goodM 0 (gc good_nShl <| gc good_nShr gn) Tryz.f201 (by kernel_rfl) (by kernel_rfl) fun ds hp F A Q hF hA hQ => ?_
 obtain ⟨n, cs, k, rfl, hc, hn, hk1, hk2⟩ := scaled_arg hp
 clear hp
 rotate_left
 refine goodM 0 (gc good_kHeld gn) Tryz.f199 (by kernel_rfl) (by kernel_rfl) fun ds hp F A Q hF hA hQ => ?_
 obtain ⟨t, p, far, rfl, ht1, ht2⟩ := kstep_arg hp
 clear hp
 rotate_left
 refine goodM 0 (gc good_dMake <| gc good_dSign gn) Tryz.f203 (by kernel_rfl) (by kernel_rfl) fun ds hp F A Q hF hA hQ => ?_
 obtain ⟨x, y, rfl, hx, hn, hy, hy1, hy2⟩ := sp2_arg hp
 obtain ⟨s, n, cs, rfl, hc⟩ := okI_arg hx
 obtain ⟨k, rfl⟩ := isi_arg hy
 clear hp hx hy
 rotate_left
 refine goodM 0 (gc good_dMake <| gc good_kHeld gn) Tryz.f198 (by kernel_rfl) (by kernel_rfl) fun ds hp F A Q hF hA hQ => ?_
 obtain ⟨x, rfl, hx, hn, hx0⟩ := sp1_arg hp
 obtain ⟨s, n, cs, e, rfl, hc, he1, he2⟩ := okD_arg hx
 clear hp hx
 rotate_left
 all_goals cbv
 all_goals (repeat' (first | with_reducible refine And.intro ?_ ?_ | (with_reducible refine safe_lift hA ?_; kernel_rfl) | (intro hc_; cbv)))
 all_goals (repeat (rw [safe_true hA, true_and]; rotate_left; kernel_rfl))
 all_goals subst hF hA
 all_goals simp only [fnOf, find, std, reduceIte, Nat.reduceEqDiff, sp1, sp2, a1, a2, FnSpec.out, Shape.build, leafs, leafCells, tups, oneOf, List.cons_append, List.nil_append, List.length_cons, List.length_nil, s_kScaled, s_nShl, s_nShr, dl, dz, dx, dcn, dcs, dm_raw, vI_N0, decide_eq_true_eq, decide_eq_false_iff_not, sg_beq, min_if, s_kStep, s_kHeld, s_dHeld, s_kTimes, s_dMake, s_dSign, s_kWritten] at *
 all_goals (try (by_cases hk : 0 ≤ k))
 all_goals (try (first | (exfalso; omega) | skip))
 all_goals (try (have e1 := tdiv32 hk hk2; have e2 := tmod32 hk; simp only [e1, e2, held32, Int.toNat_natCast] at hQ ⊢))
 all_goals (try (have e0 := wrap_neg hk1 hk2; have e1 := tdiv32 (k := -k) (by omega) (by omega); have e2 := tmod32 (k := -k) (by omega); simp only [e0, e1, e2, held32, Int.toNat_natCast] at hQ ⊢))
 all_goals (try (simp only [step_wrap ht1 ht2] at *))
 all_goals (try ((try simp only [z00] at *)))
 all_goals (try (have hf := okC_fit hc s))
 all_goals (try (have hb := te_bd (e := 0) hf))
 all_goals first
  | decide
  | exact okC_len1 hc
  | exact zeros_len _
  | exact zeros_one _
  | exact okC_oneB hc
  | exact ⟨by omega, by omega⟩
  | exact ⟨by omega, by omega, hc.2.1⟩
  | exact ⟨okC_app hc (by omega), rfl⟩
  | exact ⟨okC_drop hc, rfl⟩
  | (refine Post.l hQ ?_; rw [app_toNat hc, scale_up hk])
  | (refine Post.l hQ ?_
     rw [drop_toNat hc]
     rcases Nat.lt_or_ge ((-k).toNat / 32) n with h | h
     ·rw [show (min ((((-k).toNat / 32 : Nat)) : Int) (n : Int)).toNat = (-k).toNat / 32 by omega, scale_down (by omega) rfl]
     ·rw [show (min ((((-k).toNat / 32 : Nat)) : Int) (n : Int)).toNat = n by omega, Nat.div_eq_of_lt (vL_lt hc), Nat.zero_div, scale_none (by omega) h (vL_lt hc)])
  | exact ⟨rfl, rfl, by decide, by decide⟩
  | (refine Post.iQ hQ ?_; unfold stepQ; rw [if_pos ⟨by assumption, by assumption⟩])
  | (refine Post.iQ hQ ?_; unfold stepQ clampE; rw [if_neg (fun h => by simp_all)])
  | exact ⟨hc, hn, rfl⟩
  | exact okD_mk (okC_fitN (fit_tm hf) (by omega)) (by omega) (by omega)
  | (have h0 : vI s cs ≠ 0 := fun h0 => (by rw [h0, tmI_zero] at hc_; simp at hc_)
     refine Post.gQ hQ ?_
     rw [wrap_in (by omega) (by omega), Int.add_comm, te_add h0])
  | (have h0 : vI s cs = 0 := tm0 (by simpa using hc_)
     refine Post.gQ hQ ?_
     rw [h0, teI_zero, teI_zero])
  | (refine Post.gQ hQ ?_
     rw [show min (max e (-1152921504606846975)) 1152921504606846975 = e by omega, wrap_in (by omega) (by omega), te_add hx0])
  | fail
theorem good_kScaled : G_kScaled := goods_eq11.1
theorem good_kStep : G_kStep := goods_eq11.2.1
theorem good_kTimes : G_kTimes := goods_eq11.2.2.1
theorem good_kWritten : G_kWritten := goods_eq11.2.2.2
theorem good_kOut : Good Tryz.prog (GWL [0, 1]) N0 202 s_kOut := by
 refine goodM 0 (gc good_nAdd gn) Tryz.f202 (by kernel_rfl) (by kernel_rfl) fun ds hp F A Q hF hA hQ => ?_
 obtain ⟨s, n, cs, l, mode, rfl, hc, hn⟩ := out_arg hp
 clear hp
 cbv
 repeat' (first | with_reducible refine And.intro ?_ ?_ | (with_reducible refine safe_lift hA ?_; kernel_rfl) | (intro hc_; cbv))
 all_goals (repeat (rw [safe_true hA, true_and]; rotate_left; kernel_rfl))
 all_goals subst hF hA
 all_goals simp only [fnOf, find, std, reduceIte, sp2, a2, FnSpec.out, Shape.build, leafs, leafCells, List.cons_append, List.nil_append, s_kOut, s_nAdd, dl, min_if] at *
 ·exact ⟨hc, okC_1⟩
 ·rename_i h; rw [bump_eq h, hc_] at hQ; simp only [vL_1]; exact hQ
 ·rename_i h; rw [bump_eq h, hc_] at hQ; exact hQ
 ·rw [bump_no hc_] at hQ; exact hQ
end Go.Proofs.YtnjjfakjnkhhjaaGreatDoor.Ev
namespace Go.Proofs.YtnjjfakjnkhhjaaGreatDoor.Ev
open Go Go.RowKit
theorem vL_nums (cs : List D) : (vL cs).toNat = val (nums cs) := by unfold vL; rw [Int.toNat_natCast]
theorem ln_pos_iff (x : Nat) : (0 : Int) < ((N0.ln (x : Nat) : Nat) : Int) ↔ x ≠ 0 := by
 have h : N0.ln (x : Nat) = ln x := rfl
 rw [h]
 have := ln_zero_iff (n := x)
 omega
theorem okC_ln' {n : Nat} {cs : List D} (h : okC n cs) : ln (vL cs).toNat ≤ n := by rw [vL_nums]; exact okC_ln h
theorem Post.q {Q : Post} {n n' : Nat} {cs cs' : List D} {b b' : Bool} (h : Q.R (.tup [.sl n cs, .bool b])) (h1 : n = n') (h2 : cs' = cs) (h3 : b = b') : Q.R (.tup [.sl n' cs', .bool b']) := by
 subst h1 h2 h3; exact h
end Go.Proofs.YtnjjfakjnkhhjaaGreatDoor.Ev
