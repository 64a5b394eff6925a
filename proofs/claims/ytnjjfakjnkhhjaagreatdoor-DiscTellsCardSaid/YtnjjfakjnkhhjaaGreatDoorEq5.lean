import Derived.Test.YtnjjfakjnkhhjaaGreatDoorEq4
set_option maxHeartbeats 2000000
set_option maxRecDepth 100000
set_option linter.all false
namespace Go.Proofs.YtnjjfakjnkhhjaaGreatDoor.Ev
open Go Go.RowKit
def qE (X e Y f p : Int) : Int := clampE (topD X e Y f - min (max p 1) 4000 + 1)
def rE (X e p : Int) : Int := clampE (topR X e - min (max p 1) 4000 + 1)
def smD (x : D) : Prop := okD x ∧ dcn x ≤ 5000 ∧ -50000 ≤ dx x ∧ dx x ≤ 50000
def s_kSqrt : FnSpec := ⟨.tup [(true, [.I, .i .i64]), (false, [.i .i64])], fun ds => match ds with | [x, .int .i64 _, .int .i64 _] => smD x | _ => False,
 fun ds i => match ds with | [x, .int _ p, .int _ mode] => (match i with | 0 => tmI (qr (dm x) (dx x) (rE (dm x) (dx x) p) mode) | 1 => teI (qr (dm x) (dx x) (rE (dm x) (dx x) p) mode) (rE (dm x) (dx x) p) | _ => if dm x < 0 then 12 else 0) | _ => 0,
 fun _ _ => false, fun _ _ => 0, fun _ _ => []⟩
theorem ksqrt_arg {ds : List D} (h : s_kSqrt.p ds) : ∃ x p mode, ds = [x, .int .i64 p, .int .i64 mode] ∧ smD x := by
 unfold s_kSqrt at h
 dsimp only at h
 split at h
 ·exact ⟨_, _, _, rfl, h⟩
 ·exact h.elim
theorem Post.dv {Q : Post} {m m' e e' k k' : Int} (h : Q.R (.tup [.agg [.bool (N0.neg m), .sl (N0.ln m) (N0.lm m), .int .i64 e], .int .i64 k])) (h1 : m' = m) (h2 : e' = e) (h3 : k' = k) : Q.R (.tup [.agg [.bool (N0.neg m'), .sl (N0.ln m') (N0.lm m'), .int .i64 e'], .int .i64 k']) := by
 subst h1 h2 h3; exact h
theorem Post.dz0 {Q : Post} {m e k k' : Int} (h : Q.R (.tup [.agg [.bool (N0.neg m), .sl (N0.ln m) (N0.lm m), .int .i64 e], .int .i64 k])) (h1 : m = 0) (h2 : e = 0) (h3 : k = k') : Q.R (.tup [.agg [.bool false, .sl 0 [], .int .i64 0], .int .i64 k']) := by
 subst h1 h2 h3
 have a : N0.neg 0 = false := rfl
 have b : N0.lm 0 = [] := by show u32s (lim 0) = []; rw [lim_zero]; rfl
 have c : N0.ln 0 = 0 := by show ln 0 = 0; exact ln_zero
 rw [a, b, c] at h; exact h
theorem clampE_in (z : Int) : -20000 ≤ clampE z ∧ clampE z ≤ 20000 := by unfold clampE; omega
theorem out_valL {l : Bool} {mode : Int} {r : Nat} : vI false (if bump l false mode = true then N0.lm ((r + 1 : Nat) : Int) else N0.lm ((r : Nat) : Int)) = ((r + if bump l false mode = true then 1 else 0 : Nat) : Int) := by
 split
 ·rw [vI_mk]; rfl
 ·rw [vI_mk]; rfl
theorem out_okL {l : Bool} {mode : Int} {r b : Nat} (h : r + 1 < 2 ^ b) (hb : b ≤ 2000000) : okC (if bump l false mode = true then N0.ln ((r + 1 : Nat) : Int) else N0.ln ((r : Nat) : Int)) (if bump l false mode = true then N0.lm ((r + 1 : Nat) : Int) else N0.lm ((r : Nat) : Int)) ∧
  (if bump l false mode = true then N0.ln ((r + 1 : Nat) : Int) else N0.ln ((r : Nat) : Int)) ≤ 90000 := by
 split
 ·exact ⟨okN h (by omega), ln_okN h (by omega)⟩
 ·exact ⟨okN (b := b) (by omega) (by omega), ln_okN (b := b) (by omega) (by omega)⟩
theorem fdiv_2 (z : Int) : z.fdiv (2 ^ min (Int.toNat 1) IntKind.i64.bits) = z / 2 := by
 show z.fdiv 2 = z / 2
 rw [Int.fdiv_eq_ediv_of_nonneg _ (by omega)]
theorem left_rt {v : Nat} : (v - rt v * rt v = 0) = (rt v * rt v = v) := propext ⟨fun h => by have := (rt_spec v).1; omega, fun h => by omega⟩
theorem sg_m1 (X : Int) : ((sg X == -1) = true) = (X < 0) := by
 rw [beq_iff_eq]
 rcases sg_cases X with ⟨h1, h2⟩ | ⟨h1, h2⟩ | ⟨h1, h2⟩ <;> rw [h2] <;> exact propext ⟨fun h => by omega, fun h => by omega⟩
theorem sg_m1f (X : Int) : ((sg X == -1) = false) = ¬(X < 0) := by
 rw [← sg_m1, Bool.not_eq_true]
theorem fit_ex {x n : Nat} (h : Fit (x : Int) n) : ∃ b, b = n ∧ x < 2 ^ b := ⟨n, rfl, by unfold Fit at h; rwa [Int.natAbs_natCast] at h⟩
theorem good_kSqrt : Good Tryz.prog (GWL [0, 1]) N0 167 s_kSqrt := by
 refine goodM 0 (gc good_dSign <| gc good_kWritten <| gc good_nBits <| gc good_kStep <| gc good_kScaled <| gc good_kRoot <| gc good_kOut <| gc good_kTimes gn) Tryz.f167 (by kernel_rfl) (by kernel_rfl) fun ds hp F A Q hF hA hQ => ?_
 obtain ⟨x, p, mode, rfl, hx, hxn, hxe1, hxe2⟩ := ksqrt_arg hp
 obtain ⟨s, n, cs, e, rfl, hc, he1, he2⟩ := okD_arg hx
 clear hp hx
 cbv
 repeat' (first | with_reducible refine And.intro ?_ ?_ | (with_reducible refine safe_lift hA ?_; kernel_rfl) | (intro hc_; cbv))
 all_goals (repeat (rw [safe_true hA, true_and]; rotate_left; kernel_rfl))
 all_goals subst hF hA
 all_goals simp only [fnOf, find, std, reduceIte, Nat.reduceEqDiff, sp1, sp2, a1, a2, FnSpec.out, Shape.build, leafs, leafCells, tups, oneOf, List.cons_append, List.nil_append, List.length_cons, List.length_nil, s_kSqrt, s_dSign, s_kWritten, s_nBits, s_kStep, s_kScaled, s_kRoot, s_kOut, s_kTimes, dl, dz, dx, dcn, dcs, dm_raw, vI_N0, decide_eq_true_eq, decide_eq_false_iff_not, sg_beq, min_if] at *
 all_goals (try simp only [vL_N0n, ne_eq, Bool.not_false, Bool.not_true, decide_eq_true_eq, decide_eq_false_iff_not, fdiv_2, sg_m1, sg_m1f] at *)
 all_goals first
  | exact okD_mk hc (by omega) (by omega)
  | decide
  | (have hX : vI s cs < 0 := by assumption
     have hq : qr (vI s cs) e (rE (vI s cs) e p) mode = 0 := if_pos (by omega)
     refine Post.dz0 hQ ?_ ?_ ?_
     ·rw [hq, tmI_zero]
     ·rw [hq, teI_zero]
     ·exact if_pos hX)
  | (have hX : vI s cs = 0 := by assumption
     have hq : qr (vI s cs) e (rE (vI s cs) e p) mode = 0 := if_pos (by omega)
     refine Post.dz0 hQ ?_ ?_ ?_
     ·rw [hq, tmI_zero]
     ·rw [hq, teI_zero]
     ·exact if_neg (by omega))
  | skip
 all_goals
  have hX : 0 < vI s cs := by omega
  obtain ⟨X, hXX⟩ : ∃ X, X = vI s cs := ⟨_, rfl⟩
  have fX : Fit X 160000 := by rw [hXX]; exact (okC_fit hc s).mono (by omega)
  simp only [← hXX] at *
  have bX := te_bd (e := e) fX
  have hX0 : X ≠ 0 := by omega
  have hx := tmI_ne hX0
  have gX := fit_tm fX
  have nX := nb_le_of_lt gX
  have htop0 : topI X e = ((nb (tmI X).natAbs : Nat) : Int) - 1 + teI X e := by rw [← topI_nrm]; unfold topI; rw [if_neg hx]
  have hw1 : IntKind.i64.wrap (((nb (tmI X).natAbs : Nat) : Int) - 1) = ((nb (tmI X).natAbs : Nat) : Int) - 1 := wrap_in (by omega) (by omega)
  have hw2 : IntKind.i64.wrap (((nb (tmI X).natAbs : Nat) : Int) - 1 + teI X e) = topI X e := by rw [wrap_in (by omega) (by omega), htop0]
  have htr : topI X e / 2 = topR X e := rfl
  have hT : -300000 ≤ topR X e ∧ topR X e ≤ 300000 := by unfold topR; omega
  have hE := clampE_in (topR X e - min (max p 1) 4000 + 1)
  have hst1 : stepQ (topR X e) p (decide (2000000 < e)) = rE X e p := by
   unfold stepQ rE
   rw [if_neg (fun h => by have := of_decide_eq_true h.1; omega)]
  have hEE : -20000 ≤ rE X e p ∧ rE X e p ≤ 20000 := hE
  have hw3 : IntKind.i64.wrap (2 * rE X e p) = 2 * rE X e p := wrap_in (by omega) (by omega)
  have hk2 : IntKind.i64.wrap (teI X e - 2 * rE X e p) = teI X e - 2 * rE X e p := wrap_in (by omega) (by omega)
  simp only [hw1, hw2, htr, hst1, hw3, hk2] at *
  obtain ⟨E, hEq⟩ : ∃ E, E = rE X e p := ⟨_, rfl⟩
  simp only [← hEq] at *
  obtain ⟨k, hkq⟩ : ∃ k, k = teI X e - 2 * E := ⟨_, rfl⟩
  have hks : scaleN (tmI X).natAbs (teI X e - 2 * E) = scaleN (tmI X).natAbs k := by rw [hkq]
  have hkE : (teI X e < 2 * E) = (k < 0) := propext ⟨fun h => by omega, fun h => by omega⟩
  have fs := fit_scale (k := k) (b := 250000) gX (by omega)
  have os := okC_fitN fs (by omega)
  have ls := fs.ln (n := 13000) (by omega)
  have oX := okC_fitN gX (by omega)
  have lX : N0.ln (tmI X) ≤ 5000 := gX.ln (by omega)
  have ls2 : N0.ln ((scaleN (tmI X).natAbs k : Nat) : Int) ≤ 13000 := ls
  have hrl := rt_le (scaleN (tmI X).natAbs k)
  obtain ⟨b1, hb1, hfs⟩ := fit_ex fs
  clear fs
  have hr1 : rt (scaleN (tmI X).natAbs k) + 1 < 2 ^ (b1 + 1) := by rw [Nat.pow_succ]; omega
  have or1 := okN (x := rt (scaleN (tmI X).natAbs k)) (b := b1) (by omega) (by omega)
  have lr1 : N0.ln ((rt (scaleN (tmI X).natAbs k) : Nat) : Int) ≤ 90000 := ln_okN (b := b1) (by omega) (by omega)
  simp only [hks, hkE, left_rt, Int.natAbs_natCast] at *
 all_goals first
  | exact ⟨okD_mk hc (by omega) (by omega), by omega, hX0⟩
  | exact oX
  | exact ⟨by omega, by omega⟩
  | exact ⟨oX, by omega, by omega, by omega⟩
  | exact ⟨os, rfl, by omega⟩
  | exact ⟨or1, lr1⟩
  | exact ⟨(out_okL hr1 (by omega)).1, (out_okL hr1 (by omega)).2, rfl, by omega, by omega⟩
  | (have hl : (true = true) ↔ (rt (scaleN (tmI X).natAbs k) * rt (scaleN (tmI X).natAbs k) ≠ scaleN (tmI X).natAbs k ∨ k < 0) := ⟨fun _ => .inl (by assumption), fun _ => rfl⟩
     have hM := out_valL.trans (qr_prog mode hX hkq hl)
     exact Post.dv hQ (congrArg tmI hM) (congrArg (fun z => teI z E) hM) (if_neg (by omega)).symm)
  | (have hl : (decide (k < 0) = true) ↔ (rt (scaleN (tmI X).natAbs k) * rt (scaleN (tmI X).natAbs k) ≠ scaleN (tmI X).natAbs k ∨ k < 0) := ⟨fun h => .inr (of_decide_eq_true h), fun h => h.elim (fun h => absurd h (by assumption)) decide_eq_true⟩
     have hM := out_valL.trans (qr_prog mode hX hkq hl)
     exact Post.dv hQ (congrArg tmI hM) (congrArg (fun z => teI z E) hM) (if_neg (by omega)).symm)
  | trace_state
end Go.Proofs.YtnjjfakjnkhhjaaGreatDoor.Ev
namespace Go.Proofs.YtnjjfakjnkhhjaaGreatDoor.Ev
open Go Go.RowKit
theorem sg_nonpos (z : Int) : sg z ≤ 0 ↔ z ≤ 0 := by rcases sg_cases z with ⟨h1, h2⟩ | ⟨h1, h2⟩ | ⟨h1, h2⟩ <;> rw [h2] <;> omega
theorem sg_nonneg (z : Int) : 0 ≤ sg z ↔ 0 ≤ z := by rcases sg_cases z with ⟨h1, h2⟩ | ⟨h1, h2⟩ | ⟨h1, h2⟩ <;> rw [h2] <;> omega
theorem sg_mul (X Y : Int) : sg X * sg Y = sg (X * Y) := by
 have h := sg_mulW X Y
 rw [wrap_in (by rcases sg_cases X with ⟨_, h2⟩ | ⟨_, h2⟩ | ⟨_, h2⟩ <;> rcases sg_cases Y with ⟨_, h4⟩ | ⟨_, h4⟩ | ⟨_, h4⟩ <;> rw [h2, h4] <;> decide) (by rcases sg_cases X with ⟨_, h2⟩ | ⟨_, h2⟩ | ⟨_, h2⟩ <;> rcases sg_cases Y with ⟨_, h4⟩ | ⟨_, h4⟩ | ⟨_, h4⟩ <;> rw [h2, h4] <;> decide)] at h
 exact h
end Go.Proofs.YtnjjfakjnkhhjaaGreatDoor.Ev
namespace Go.Proofs.YtnjjfakjnkhhjaaGreatDoor.Ev
open Go Go.RowKit
theorem qr_parts {X e E : Int} (hX : 0 < X) : ∃ r a d : Nat, 0 < d ∧ a = X.natAbs * 2 ^ (e - 2 * E).toNat ∧ d = 2 ^ (2 * E - e).toNat ∧ r * r * d ≤ a ∧ a < (r + 1) * (r + 1) * d ∧ qr X e E 0 = (r : Int) ∧ qr X e E 1 = ((r + if r * r * d = a then 0 else 1 : Nat) : Int) := by
 have hd : 0 < 2 ^ (2 * E - e).toNat := Nat.pow_pos (by decide)
 obtain ⟨h1, h2⟩ := rt_spec (X.natAbs * 2 ^ (e - 2 * E).toNat / 2 ^ (2 * E - e).toNat)
 refine ⟨rt (X.natAbs * 2 ^ (e - 2 * E).toNat / 2 ^ (2 * E - e).toNat), _, _, hd, rfl, rfl, (Nat.le_div_iff_mul_le hd).1 h1, (Nat.div_lt_iff_lt_mul hd).1 h2, ?_, ?_⟩
 ·unfold qr qrM
  rw [if_neg (show ¬X ≤ 0 by omega), if_neg (fun h => absurd h.2 (by decide)), Nat.add_zero]
 ·unfold qr qrM
  rw [if_neg (show ¬X ≤ 0 by omega)]
  congr 2
  split
  ·rename_i h; rw [if_neg h.1]
  ·rename_i h
   rw [if_pos (Classical.byContradiction fun hc => h ⟨hc, rfl⟩)]
theorem qr_cmp {X e E : Int} (hX : 0 < X) (m : Int) : cmpD (m * m) (E + E) X e = sg (m * m * ((2 ^ (2 * E - e).toNat : Nat) : Int) - ((X.natAbs * 2 ^ (e - 2 * E).toNat : Nat) : Int)) := by
 obtain ⟨k, hk⟩ : ∃ k : Nat, -(k : Int) ≤ E + E ∧ -(k : Int) ≤ e := ⟨E.natAbs + E.natAbs + e.natAbs, by omega⟩
 rw [cmp_V hk.1 hk.2]
 unfold V
 have hj : ∃ j : Nat, (E + E + k).toNat = (2 * E - e).toNat + j ∧ (e + k).toNat = (e - 2 * E).toNat + j := ⟨(min (2 * E) e + k).toNat, by omega, by omega⟩
 obtain ⟨j, h1, h2⟩ := hj
 rw [h1, h2, Int.pow_add, Int.pow_add, ← Int.mul_assoc, ← Int.mul_assoc, ← Int.sub_mul, sg_pow, Int.natCast_mul, pow2_cast, pow2_cast]
 rw [show ((X.natAbs : Nat) : Int) = X by omega]
theorem qr_sides {X e E : Int} (hX : 0 < X) : cmpD (qr X e E 0 * qr X e E 0) (E + E) X e ≤ 0 ∧ 0 ≤ cmpD (qr X e E 1 * qr X e E 1) (E + E) X e ∧ (qr X e E 1 = qr X e E 0 ∨ qr X e E 1 = qr X e E 0 + 1) ∧ 0 ≤ qr X e E 0 := by
 obtain ⟨r, a, d, hd, ha, hdd, h1, h2, h3, h4⟩ := qr_parts (e := e) (E := E) hX
 rw [qr_cmp hX, qr_cmp hX, h3, h4, ← ha, ← hdd]
 have c : ∀ x y : Nat, ((x : Int) * x * ((d : Nat) : Int) - (y : Int)) = (((x * x * d : Nat) : Int) - y) := fun x y => by rw [Int.natCast_mul, Int.natCast_mul]
 rw [c, c, sg_nonpos, sg_nonneg]
 split
 ·rename_i h
  rw [Nat.add_zero]
  exact ⟨by omega, by omega, .inl rfl, by omega⟩
 ·exact ⟨by omega, by omega, .inr (by omega), by omega⟩
theorem qr_top {X e p : Int} (hX : 0 < X) (hp : 1 ≤ p) : ∃ r : Nat, qr X e (topR X e - p + 1) 0 = (r : Int) ∧ 2 ^ (p.toNat - 1) ≤ r ∧ r < 2 ^ p.toNat := by
 obtain ⟨E, hE⟩ : ∃ E, E = topR X e - p + 1 := ⟨_, rfl⟩
 rw [← hE]
 obtain ⟨r, a, d, hd, ha, hdd, h1, h2, h3, h4⟩ := qr_parts (e := e) (E := E) hX
 refine ⟨r, h3, ?_⟩
 have hx : X.natAbs ≠ 0 := by omega
 have n1 := nb_low' hx; have n2 := nb_lt' X.natAbs; have n3 := nb_pos hx
 have ht : topI X e = (nb X.natAbs : Int) - 1 + e := by unfold topI; rw [if_neg (by omega)]
 unfold topR at hE
 rw [ht] at hE
 have b1 : 2 ^ (p.toNat - 1) * 2 ^ (p.toNat - 1) * d ≤ a := by
  rw [ha, hdd, ← Nat.pow_add, ← Nat.pow_add]
  refine Nat.le_trans ?_ (Nat.mul_le_mul_right _ n1)
  rw [← Nat.pow_add]
  exact Nat.pow_le_pow_right (by decide) (by omega)
 have b2 : a < 2 ^ p.toNat * 2 ^ p.toNat * d := by
  rw [ha, hdd, ← Nat.pow_add, ← Nat.pow_add]
  refine Nat.lt_of_lt_of_le (Nat.mul_lt_mul_of_pos_right n2 (Nat.pow_pos (by decide))) ?_
  rw [← Nat.pow_add]
  exact Nat.pow_le_pow_right (by decide) (by omega)
 have c1 := Nat.lt_of_mul_lt_mul_right (Nat.lt_of_le_of_lt b1 h2)
 have c2 := Nat.lt_of_mul_lt_mul_right (Nat.lt_of_le_of_lt h1 b2)
 constructor
 ·apply Nat.le_of_not_lt
  intro h
  have := Nat.mul_le_mul (show r + 1 ≤ 2 ^ (p.toNat - 1) from h) (show r + 1 ≤ 2 ^ (p.toNat - 1) from h)
  omega
 ·apply Nat.lt_of_not_le
  intro h
  have := Nat.mul_le_mul h h
  omega
end Go.Proofs.YtnjjfakjnkhhjaaGreatDoor.Ev
