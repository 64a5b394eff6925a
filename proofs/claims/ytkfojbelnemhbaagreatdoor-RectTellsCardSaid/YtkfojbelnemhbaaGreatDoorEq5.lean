import Derived.Test.YtkfojbelnemhbaaGreatDoorEq2
set_option maxHeartbeats 2000000
set_option maxRecDepth 100000
set_option linter.all false
namespace Go.Proofs.YtkfojbelnemhbaaGreatDoor.Ev
open Go Go.RowKit
def qE (X e Y f p : Int) : Int := clampE (topD X e Y f - min (max p 1) 4000 + 1)
def smD (x : D) : Prop := okD x ∧ dcn x ≤ 5000 ∧ -50000 ≤ dx x ∧ dx x ≤ 50000
def s_kDiv : FnSpec := ⟨.tup [(true, [.I, .i .i64]), (false, [.i .i64])], fun ds => match ds with | [x, y, .int .i64 _, .int .i64 _] => smD x ∧ smD y | _ => False,
 fun ds i => match ds with | [x, y, .int _ p, .int _ mode] => (match i with | 0 => tmI (qm (dm x) (dx x) (dm y) (dx y) (qE (dm x) (dx x) (dm y) (dx y) p) mode) | 1 => teI (qm (dm x) (dx x) (dm y) (dx y) (qE (dm x) (dx x) (dm y) (dx y) p) mode) (qE (dm x) (dx x) (dm y) (dx y) p) | _ => if dm y = 0 then 11 else 0) | _ => 0,
 fun _ _ => false, fun _ _ => 0, fun _ _ => []⟩
theorem kdiv_arg {ds : List D} (h : s_kDiv.p ds) : ∃ x y p mode, ds = [x, y, .int .i64 p, .int .i64 mode] ∧ smD x ∧ smD y := by
 unfold s_kDiv at h
 dsimp only at h
 split at h
 ·exact ⟨_, _, _, _, rfl, h⟩
 ·exact h.elim
theorem okC_fw {k q : Nat} (hk : k ≤ 100000) : okC k (u32s (fw k q)) := ⟨by rw [nums_u32s], by rw [len_u32s, fw_len], by rw [nums_u32s]; exact fw_ok _ _, hk⟩
theorem vL_fw {k q : Nat} (h : q < Bs ^ k) : (vL (u32s (fw k q))).toNat = q := by rw [vL_nums, nums_u32s, fw_val h]
theorem fw_bound {x b : Nat} (hb : b ≠ 0) : x / b < Bs ^ (ln x + 1 - ln b) := by
 rw [Nat.div_lt_iff_lt_mul (by omega)]
 have h1 := lt_pow_ln x
 have h3 : 1 ≤ ln b := by have := ln_zero_iff (n := b); omega
 have h2 : Bs ^ (ln b - 1) ≤ b := by
  apply Nat.le_of_not_lt
  intro h
  have := ln_le_of_lt h
  omega
 have hB : 0 < Bs := by rw [Bs_eq]; omega
 by_cases h : ln b ≤ ln x + 1
 ·refine Nat.lt_of_lt_of_le h1 (Nat.le_trans ?_ (Nat.mul_le_mul_left _ h2))
  rw [← Nat.pow_add]
  exact Nat.pow_le_pow_right hB (by omega)
 ·have h4 : x < b := lt_of_ln (by omega)
  rw [show ln x + 1 - ln b = 0 by omega, Nat.pow_zero, Nat.one_mul]; exact h4
theorem out_val {s l : Bool} {mode : Int} {k q : Nat} (hq : q < Bs ^ k) : vI s (if bump l s mode = true then N0.lm (((vL (u32s (fw k q))).toNat + 1 : Nat) : Int) else u32s (fw k q)) = sgn s (q + if bump l s mode = true then 1 else 0) := by
 split
 ·rw [vI_mk, vL_fw hq]; rfl
 ·unfold vI; rw [nums_u32s, fw_val hq]; rfl
theorem out_okC {s l : Bool} {mode : Int} {k q : Nat} (hq : q < Bs ^ k) (hk : k ≤ 80000) : okC (if bump l s mode = true then N0.ln (((vL (u32s (fw k q))).toNat + 1 : Nat) : Int) else k) (if bump l s mode = true then N0.lm (((vL (u32s (fw k q))).toNat + 1 : Nat) : Int) else u32s (fw k q)) ∧
  (if bump l s mode = true then N0.ln (((vL (u32s (fw k q))).toNat + 1 : Nat) : Int) else k) ≤ 90000 := by
 have h1 : q + 1 < 2 ^ (32 * (k + 1)) := by
  rw [← Bs_pow_eq, Nat.pow_succ]
  have : 0 < Bs ^ k := Nat.pow_pos (by rw [Bs_eq]; omega)
  have : Bs ^ k * 2 ≤ Bs ^ k * Bs := Nat.mul_le_mul_left _ (by rw [Bs_eq]; omega)
  omega
 split
 ·rw [vL_fw hq]
  exact ⟨okN h1 (by omega), ln_okN h1 (by omega)⟩
 ·exact ⟨okC_fw (by omega), by omega⟩
theorem Post.dv {Q : Post} {m m' e e' k k' : Int} (h : Q.R (.tup [.agg [.bool (N0.neg m), .sl (N0.ln m) (N0.lm m), .int .i64 e], .int .i64 k])) (h1 : m' = m) (h2 : e' = e) (h3 : k' = k) : Q.R (.tup [.agg [.bool (N0.neg m'), .sl (N0.ln m') (N0.lm m'), .int .i64 e'], .int .i64 k']) := by
 subst h1 h2 h3; exact h
theorem Post.dz0 {Q : Post} {m e k k' : Int} (h : Q.R (.tup [.agg [.bool (N0.neg m), .sl (N0.ln m) (N0.lm m), .int .i64 e], .int .i64 k])) (h1 : m = 0) (h2 : e = 0) (h3 : k = k') : Q.R (.tup [.agg [.bool false, .sl 0 [], .int .i64 0], .int .i64 k']) := by
 subst h1 h2 h3
 have a : N0.neg 0 = false := rfl
 have b : N0.lm 0 = [] := by show u32s (lim 0) = []; rw [lim_zero]; rfl
 have c : N0.ln 0 = 0 := by show ln 0 = 0; exact ln_zero
 rw [a, b, c] at h; exact h
theorem clampE_in (z : Int) : -20000 ≤ clampE z ∧ clampE z ≤ 20000 := by unfold clampE; omega
theorem good_kDiv : Good Tryz.prog (GWL [0, 1]) N0 212 s_kDiv := by
 refine goodM 0 (gc good_dSign <| gc good_kWritten <| gc good_kTop <| gc good_kStep <| gc good_kScaled <| gc goodS_kQuot.weak <| gc good_kOut <| gc good_kTimes gn) Tryz.f212 (by kernel_rfl) (by kernel_rfl) fun ds hp F A Q hF hA hQ => ?_
 obtain ⟨x, y, p, mode, rfl, ⟨hx, hxn, hxe1, hxe2⟩, hy, hyn, hye1, hye2⟩ := kdiv_arg hp
 obtain ⟨s, n, cs, e, rfl, hc, he1, he2⟩ := okD_arg hx
 obtain ⟨t, m, es, f, rfl, hk, hf1, hf2⟩ := okD_arg hy
 clear hp hx hy
 cbv
 repeat' (first | with_reducible refine And.intro ?_ ?_ | (with_reducible refine safe_lift hA ?_; kernel_rfl) | (intro hc_; cbv))
 all_goals (repeat (rw [safe_true hA, true_and]; rotate_left; kernel_rfl))
 all_goals subst hF hA
 all_goals simp only [fnOf, find, std, reduceIte, Nat.reduceEqDiff, sp1, sp2, a1, a2, FnSpec.out, Shape.build, leafs, leafCells, tups, oneOf, List.cons_append, List.nil_append, List.length_cons, List.length_nil, s_kDiv, s_dSign, s_kWritten, s_kTop, s_kStep, s_kScaled, s_kQuot, s_kOut, s_kTimes, dl, dz, dx, dcn, dm_raw, decide_eq_true_eq, decide_eq_false_iff_not, sg_beq, min_if] at *
 all_goals (try simp only [vL_N0n, ne_eq, Bool.not_false, decide_eq_true_eq] at *)
 all_goals first
  | exact okD_mk hk (by omega) (by omega)
  | exact okD_mk hc (by omega) (by omega)
  | (exfalso; omega)
  | (have hY : vI t es = 0 := by assumption
     refine Post.dz0 hQ ?_ ?_ ?_
     ·rw [hY, qm_zY, tmI_zero]
     ·rw [hY, qm_zY, teI_zero]
     ·exact if_pos hY)
  | skip
 all_goals have hY : ¬vI t es = 0 := by assumption
 all_goals first
  | (have hX : vI s cs = 0 := by assumption
     refine Post.dz0 hQ ?_ ?_ ?_
     ·rw [hX, qm_zX, tmI_zero]
     ·rw [hX, qm_zX, teI_zero]
     ·exact if_neg hY)
  | skip
 all_goals have hX : ¬vI s cs = 0 := by assumption
 all_goals
  obtain ⟨X, hXX⟩ : ∃ X, X = vI s cs := ⟨_, rfl⟩
  obtain ⟨Y, hYY⟩ : ∃ Y, Y = vI t es := ⟨_, rfl⟩
  have fX : Fit X 160000 := by rw [hXX]; exact (okC_fit hc s).mono (by omega)
  have fY : Fit Y 160000 := by rw [hYY]; exact (okC_fit hk t).mono (by omega)
  simp only [← hXX, ← hYY] at *
  have bX := te_bd (e := e) fX
  have bY := te_bd (e := f) fY
  have hx := tmI_ne hX
  have hy := tmI_ne hY
  have gX := fit_tm fX
  have gY := fit_tm fY
  have tb := topQ_low (M := (tmI X).natAbs) (N := (tmI Y).natAbs)
  have nX := nb_le_of_lt gX
  have nY := nb_le_of_lt gY
  have hE := clampE_in (topD X e Y f - min (max p 1) 4000 + 1)
  have hSH : IntKind.i64.wrap (teI X e - teI Y f) = teI X e - teI Y f := wrap_in (by omega) (by omega)
  have htop : IntKind.i64.wrap (teI X e - teI Y f + topQ (tmI X).natAbs (tmI Y).natAbs) = topD X e Y f := by
   rw [← topD_nrm hX hY, wrap_in (by omega) (by omega)]
   unfold topD
   omega
  have hT : -600000 ≤ topD X e Y f ∧ topD X e Y f ≤ 600000 := by rw [← topD_nrm hX hY]; unfold topD; omega
  have hst : ∀ b : Bool, b = false → stepQ (topD X e Y f) p b = qE X e Y f p := fun b hb => by
   unfold stepQ qE
   rw [if_neg (fun h => by rw [hb] at h; cases h.1)]
  have hst1 := hst (decide (f < -2000000)) (decide_eq_false (by omega))
  have hk2 : IntKind.i64.wrap (teI X e - teI Y f - qE X e Y f p) = teI X e - teI Y f - qE X e Y f p := wrap_in (by unfold qE; omega) (by unfold qE; omega)
  have hEE : -20000 ≤ qE X e Y f p ∧ qE X e Y f p ≤ 20000 := hE
  simp only [hSH, htop, hst1, hk2] at *
  obtain ⟨E, hEq⟩ : ∃ E, E = qE X e Y f p := ⟨_, rfl⟩
  simp only [← hEq] at *
  obtain ⟨k, hkq⟩ : ∃ k, k = teI X e - teI Y f - E := ⟨_, rfl⟩
  have hks : scaleN (tmI X).natAbs (teI X e - teI Y f - E) = scaleN (tmI X).natAbs k := by rw [hkq]
  have hkE : (teI X e - teI Y f < E) = (k < 0) := propext ⟨fun h => by omega, fun h => by omega⟩
  have fs := fit_scale (k := k) (b := 450000) gX (by omega)
  have os := okC_fitN fs (by omega)
  have ls := fs.ln (n := 20000) (by omega)
  have hB0 : (tmI Y).natAbs ≠ 0 := by omega
  have hfb := fw_bound (x := scaleN (tmI X).natAbs k) hB0
  have oX := okC_fitN gX (by omega)
  have oY := okC_fitN gY (by omega)
  have lX : N0.ln (tmI X) ≤ 5000 := gX.ln (by omega)
  have lY : N0.ln (tmI Y) ≤ 5000 := gY.ln (by omega)
  have hlk : N0.ln ((scaleN (tmI X).natAbs k : Nat) : Int) + 1 - N0.ln (tmI Y) ≤ 20001 := by
   have : N0.ln ((scaleN (tmI X).natAbs k : Nat) : Int) = ln (scaleN (tmI X).natAbs k : Int).natAbs := rfl
   omega
  have hq : scaleN (tmI X).natAbs k / (tmI Y).natAbs < Bs ^ (N0.ln ((scaleN (tmI X).natAbs k : Nat) : Int) + 1 - N0.ln (tmI Y)) := hfb
  simp only [hks, hkE, Int.natAbs_natCast] at *
 all_goals have vX : ¬vL (N0.lm (tmI X)) = 0 := by rw [vL_N0]; omega
 all_goals have vY : 0 < vL (N0.lm (tmI Y)) := by rw [vL_N0]; omega
 all_goals first
  | exact ⟨okD_mk hc (by omega) (by omega), by omega, hX⟩
  | exact ⟨okD_mk hk (by omega) (by omega), by omega, hY⟩
  | exact ⟨oX, oY, vX, by omega, by omega, by omega⟩
  | exact ⟨by omega, by omega⟩
  | exact ⟨oX, by omega, by omega, by omega⟩
  | exact ⟨os, oY, vY, rfl, rfl, by omega, by omega⟩
  | exact ⟨okC_fw (by omega), by omega⟩
  | exact ⟨(out_okC hq (by omega)).1, (out_okC hq (by omega)).2, rfl, by omega, by omega⟩
  | (have hl : (true = true) ↔ (scaleN (tmI X).natAbs k % (tmI Y).natAbs ≠ 0 ∨ k < 0) := ⟨fun _ => .inl (by assumption), fun _ => rfl⟩
     have hM := (out_val hq).trans (qm_prog mode hX hY hkq hl)
     exact Post.dv hQ (congrArg tmI hM) (congrArg (fun z => teI z E) hM) (if_neg hY).symm)
  | (have hl : (decide (k < 0) = true) ↔ (scaleN (tmI X).natAbs k % (tmI Y).natAbs ≠ 0 ∨ k < 0) := ⟨fun h => .inr (of_decide_eq_true h), fun h => h.elim (fun h => absurd h (by assumption)) decide_eq_true⟩
     have hM := (out_val hq).trans (qm_prog mode hX hY hkq hl)
     exact Post.dv hQ (congrArg tmI hM) (congrArg (fun z => teI z E) hM) (if_neg hY).symm)
  | trace_state
end Go.Proofs.YtkfojbelnemhbaaGreatDoor.Ev
