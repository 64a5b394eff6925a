import Derived.Test.YtnjjfakjnkhhjaaGreatDoorEvq
import Derived.Test.YtnjjfakjnkhhjaaGreatDoorEvo
set_option maxHeartbeats 2000000
set_option maxRecDepth 100000
set_option linter.all false
namespace Go.Proofs.YtnjjfakjnkhhjaaGreatDoor.Ev
open Go Go.RowKit
def s_qgrid : FnSpec := ⟨.agg [.I, .i .i64], fun ds => match ds with | [x, .int .i64 E, .int .i64 _] => canD x ∧ -30000 ≤ E ∧ E ≤ 30000 ∧ -30000 ≤ dx x | _ => False, fun ds i => match ds with | [x, .int _ E, .int _ mode] => (match i with | 0 => gm (dm x) (dx x) E mode | _ => ge (dm x) (dx x) E mode) | _ => 0, fun _ _ => false, fun _ _ => 0, fun _ _ => []⟩
theorem qgrid_arg {ds : List D} (h : s_qgrid.p ds) : ∃ x e k, ds = [x, .int .i64 e, .int .i64 k] ∧ canD x ∧ -30000 ≤ e ∧ e ≤ 30000 ∧ -30000 ≤ dx x := by
 match ds, h with
 | [x, .int .i64 e, .int .i64 k], h => exact ⟨x, e, k, rfl, h⟩
theorem clamp20E (k : Int) : (if (if 20000 < k then 20000 else k) > -20000 then if 20000 < k then 20000 else k else -20000) = clampE k := clamp20 k
theorem clamp20e (k : Int) : (if min k 20000 > -20000 then min k 20000 else -20000) = clampE k := by
 unfold clampE
 split <;> omega
theorem held_1 : heldN 1 = 1 := rfl
theorem docI_down {z md : Int} {g : Nat} (h : (md == 0) = true) : docI z g md = z / 2 ^ g := if_pos (beq_iff_eq.1 h)
theorem docI_up {z md : Int} {g : Nat} (h : (md == 0) = false) (h1 : (md == 1) = true) : docI z g md = z / 2 ^ g + 1 := by
 unfold docI
 rw [if_neg (fun h2 => by rw [h2] at h; exact absurd h (by decide)), if_pos (beq_iff_eq.1 h1)]
theorem docI_near {z md : Int} {g : Nat} (h : (md == 0) = false) (h1 : (md == 1) = false) : docI z g md = if 0 < sg ((z - z / 2 ^ g * 2 ^ g) * 2 ^ 1 - 1 * 2 ^ g) ∨ (sg ((z - z / 2 ^ g * 2 ^ g) * 2 ^ 1 - 1 * 2 ^ g) = 0 ∧ (z / 2 ^ g).natAbs % 2 = 1) then z / 2 ^ g + 1 else z / 2 ^ g := by
 unfold docI
 rw [if_neg (fun h2 => by rw [h2] at h; exact absurd h (by decide)), if_neg (fun h2 => by rw [h2] at h1; exact absurd h1 (by decide))]
theorem docI_gt {z md : Int} {g : Nat} (h : (md == 0) = false) (h1 : (md == 1) = false) (h2 : decide (0 < sg ((z - z / 2 ^ g * 2 ^ g) * 2 ^ 1 - 1 * 2 ^ g)) = !false) : docI z g md = z / 2 ^ g + 1 := by
 rw [docI_near h h1, if_pos (.inl (of_decide_eq_true h2))]
theorem docI_odd {z md : Int} {g : Nat} (h : (md == 0) = false) (h1 : (md == 1) = false) (h2 : (z - z / 2 ^ g * 2 ^ g) * 2 ^ 1 - 1 * 2 ^ g = 0) (h3 : decide ((z / 2 ^ g).natAbs % 2 = 1) = true) : docI z g md = z / 2 ^ g + 1 := by
 rw [docI_near h h1, if_pos (.inr ⟨(sg_eq _).2 h2, of_decide_eq_true h3⟩)]
theorem docI_even {z md : Int} {g : Nat} (h : (md == 0) = false) (h1 : (md == 1) = false) (h2 : ¬0 < sg ((z - z / 2 ^ g * 2 ^ g) * 2 ^ 1 - 1 * 2 ^ g)) (h3 : decide ((z / 2 ^ g).natAbs % 2 = 1) = false) : docI z g md = z / 2 ^ g := by
 rw [docI_near h h1, if_neg (fun h4 => h4.elim h2 fun h5 => of_decide_eq_false h3 h5.2)]
theorem docI_null {z md : Int} {g : Nat} (h : (md == 0) = false) (h1 : (md == 1) = false) (h2 : ¬0 < sg ((z - z / 2 ^ g * 2 ^ g) * 2 ^ 1 - 1 * 2 ^ g)) (h3 : decide (0 < ((N0.ln (z / 2 ^ g) : Nat) : Int)) = !true) : docI z g md = z / 2 ^ g := by
 rw [docI_near h h1, if_neg (fun h4 => h4.elim h2 fun h5 => by
  have := ln_zeroI (of_decide_eq_false h3)
  rw [this] at h5; exact absurd h5.2 (by decide))]
theorem docI_lt {z md : Int} {g : Nat} (h : (md == 0) = false) (h1 : (md == 1) = false) (h2 : ¬0 < sg ((z - z / 2 ^ g * 2 ^ g) * 2 ^ 1 - 1 * 2 ^ g)) (h3 : decide ((z - z / 2 ^ g * 2 ^ g) * 2 ^ 1 - 1 * 2 ^ g = 0) = !true) : docI z g md = z / 2 ^ g := by
 rw [docI_near h h1, if_neg (fun h4 => h4.elim h2 fun h5 => of_decide_eq_false h3 ((sg_eq _).1 h5.1))]
theorem head_and {q : Int} (h : 0 < ((N0.ln q : Nat) : Int)) : ((IntKind.u32.wrap (BitVec.ofInt IntKind.u32.bits (std.cellV (N0.lm q) (0 + Int.toNat 0 * 1)) &&& BitVec.ofInt IntKind.u32.bits 1).toNat : Int) == 1) = decide (q.natAbs % 2 = 1) := by
 obtain ⟨es, he⟩ := lm_head (ln_posI h)
 rw [he]
 show ((IntKind.u32.wrap (BitVec.ofInt IntKind.u32.bits ((q.natAbs % Bs : Nat) : Int) &&& BitVec.ofInt IntKind.u32.bits 1).toNat : Int) == 1) = _
 rw [and1 (q.natAbs % Bs) (Nat.mod_lt _ (by decide)), Bs_eq, Bool.eq_iff_iff, decide_eq_true_eq, decide_eq_true_eq]
 omega
theorem head_get {q : Int} (h : 0 < ((N0.ln q : Nat) : Int)) : ∃ z, (N0.lm q)[0 + Int.toNat 0 * 1]? = some (D.int IntKind.u32 z) := by
 obtain ⟨es, he⟩ := lm_head (ln_posI h)
 rw [he]; exact ⟨_, rfl⟩
theorem fit_fl {z : Int} {k : Nat} (h : Fit z k) (g : Nat) : Fit (z / 2 ^ g) k := h.le (Int.natAbs_ediv_le_natAbs _ _)
theorem fit_p1 {z : Int} {k : Nat} (h : Fit z k) : Fit (z + 1) (k + 1) := by
 unfold Fit at *
 have : 0 < 2 ^ k := Nat.pow_pos (by decide)
 rw [Nat.pow_succ]; omega
theorem fit_mi {z v : Int} {k : Nat} (h : Fit z k) (h' : Fit v k) : Fit (z - v) (k + 1) := by
 unfold Fit at *
 rw [Nat.pow_succ]; omega
theorem fit_lnN {z : Int} {k b : Nat} (h : Fit z k) (hb : k ≤ 32 * b) : N0.ln z ≤ b := Fit.ln h hb
theorem fit_1p (g : Nat) : Fit (1 * 2 ^ g) (g + 1) := by
 unfold Fit
 rw [Int.one_mul, Int.natAbs_pow]
 exact Nat.pow_lt_pow_right (by decide) (by omega)
theorem max_min1 (k : Int) : (if (if 4000 < k then 4000 else k) > 1 then if 4000 < k then 4000 else k else 1) = max 1 (min k 4000) := by
 simp only [Int.min_def, Int.max_def]
 repeat' split
 all_goals omega
theorem max_min2 (k : Int) : (if min k 4000 > 1 then min k 4000 else 1) = max 1 (min k 4000) := by
 simp only [Int.max_def]
 split <;> split <;> omega
theorem good_qgrid : Good Tryz.prog (GWL [0, 1]) N0 163 s_qgrid := by
 refine goodM 0 (gc good_qSign <| gc good_rShrI <| gc good_rOf <| gc good_rAddI <| gc good_rShlI <| gc good_rSubI <| gc good_rCmpI <| gc good_qExact gn) Tryz.f163 (by kernel_rfl) (by kernel_rfl) fun ds hp F A Q hF hA hQ => ?_
 obtain ⟨x, E, md, rfl, hx, hE1, hE2, hxe⟩ := qgrid_arg hp
 obtain ⟨z, e, s, n, cs, rfl, hs, hn, hcs, hz, he, hfz, he1, he2⟩ := canD_arg hx
 clear hp hx
 cbv
 repeat' (first | with_reducible refine And.intro ?_ ?_ | (with_reducible refine safe_lift hA ?_; kernel_rfl) | (intro hc_; cbv))
 all_goals (repeat (rw [safe_true hA, true_and]; rotate_left; kernel_rfl))
 all_goals subst hF hA
 all_goals simp only [fnOf, find, std, reduceIte, Nat.reduceEqDiff, sp1, sp2, a1, a2, FnSpec.out, Shape.build, leafs, leafCells, tups, oneOf, List.cons_append, List.nil_append, List.length_cons, List.length_nil, s_qgrid, s_qSign, s_rShrI, s_rOf, s_rAddI, s_rShlI, s_rSubI, s_rCmpI, s_qExact, clamp20E, clamp20e, dl, dz, dx, dcn, dcs, dm_raw, vL_N0n, vI_mk, Int.natAbs_natCast, decide_eq_true_eq, decide_eq_false_iff_not, sg_beq] at *
 all_goals subst hs hn hcs
 all_goals try simp only [vI_N0, vL_N0n, sgn_neg, min_if, clamp20E, clamp20e] at *
 all_goals have hc : okC (N0.ln z) (N0.lm z) := okC_fitN hfz (by omega)
 all_goals have hln : N0.ln z ≤ 1000 := ln_fit hfz
 case refine_1.refine_1 => exact hc
 case refine_1.refine_2.refine_1 => exact Post.d hQ ((gm_lies (.inl hc_)).1.trans hz) ((gm_lies (.inl hc_)).2.trans he)
 case refine_2 => exact Post.d hQ ((gm_lies (.inr (by rw [he]; exact of_decide_eq_true hc_))).1.trans hz) ((gm_lies (.inr (by rw [he]; exact of_decide_eq_true hc_))).2.trans he)
 all_goals
  have hEe : ¬E ≤ e := by assumption
  have hz0 : ¬z = 0 := by assumption
  obtain ⟨g, hgE, hg1⟩ : ∃ g : Nat, E - e = g ∧ 1 ≤ g := ⟨(E - e).toNat, by omega, by omega⟩
  have hw : heldN (g : Int) = g := heldN_nat (by omega)
  have hwg : IntKind.i64.wrap (E - e) = (g : Int) := by rw [hgE, wrap_in (by omega) (by omega)]
  have hodd : z.natAbs % 2 = 1 := by rw [← hz]; exact (tz0_iff (by have := tmI_ne hz0; omega)).1 (tmI_odd hz0)
  have hgm := gm_far (m := z) (e := e) (E := E) (mode := md) (by rw [he]; omega)
  rw [hz, he, hgE, Int.toNat_natCast, grid_eq hodd hg1] at hgm
  rw [hgm.1, hgm.2] at hQ
  simp only [hw, hwg, held_1] at *
  clear hgm hw hwg
  have hfq := fit_fl hfz g
  have hf1 := fit_p1 hfq
  have hfs : Fit (z / 2 ^ g * 2 ^ g) 93000 := hfq.shl (by omega)
  have hfr := fit_mi (hfz.mono (show 32000 ≤ 93000 by omega)) hfs
  have hfr2 : Fit ((z - z / 2 ^ g * 2 ^ g) * 2 ^ 1) 94000 := hfr.shl (by omega)
  have hfp : Fit (1 * 2 ^ g) 94000 := (fit_1p g).mono (by omega)
 all_goals first
  | exact ⟨rfl, by decide, by decide⟩
  | exact ⟨hc, rfl, by omega⟩
  | exact ⟨okC_fitN hfq (by omega), hfq.mono (by omega), rfl, by omega, by omega⟩
  | exact ⟨okC_fitN hf1 (by omega), hf1.mono (by omega), rfl, by omega, by omega⟩
  | exact ⟨okC_fitN hfq (by omega), rfl, fit_lnN hfq (by omega), by omega⟩
  | exact ⟨okC_fitN hfq (by omega), okC_fitN (fit_pow 0) (by omega), fit_lnN hfq (by omega), fit_lnN (fit_pow 0) (by omega)⟩
  | exact ⟨hc, okC_fitN hfs (by omega), by omega, fit_lnN hfs (by omega)⟩
  | exact ⟨okC_fitN hfr (by omega), rfl, fit_lnN hfr (by omega), by omega⟩
  | exact ⟨okC_fitN (fit_pow 0) (by omega), rfl, fit_lnN (fit_pow 0) (by omega), by omega⟩
  | exact ⟨okC_fitN hfr2 (by omega), okC_fitN hfp (by omega), fit_lnN hfr2 (by omega), fit_lnN hfp (by omega)⟩
  | exact ⟨by omega, hc_, lm_len _⟩
  | exact head_get hc_
  | exact Post.d hQ (congrArg tmI (docI_down (by assumption))) (congrArg (teI · E) (docI_down (by assumption)))
  | exact Post.d hQ (congrArg tmI (docI_up (by assumption) (by assumption))) (congrArg (teI · E) (docI_up (by assumption) (by assumption)))
  | exact Post.d hQ (congrArg tmI (docI_gt (by assumption) (by assumption) (by assumption))) (congrArg (teI · E) (docI_gt (by assumption) (by assumption) (by assumption)))
  | exact Post.d hQ (congrArg tmI (docI_null (by assumption) (by assumption) (by assumption) (by assumption))) (congrArg (teI · E) (docI_null (by assumption) (by assumption) (by assumption) (by assumption)))
  | exact Post.d hQ (congrArg tmI (docI_lt (by assumption) (by assumption) (by assumption) (by assumption))) (congrArg (teI · E) (docI_lt (by assumption) (by assumption) (by assumption) (by assumption)))
  | (have h_ : 0 < ((N0.ln (z / 2 ^ g) : Nat) : Int) := by assumption
     have h4 := (head_and h_).symm.trans hc_
     exact Post.d hQ (congrArg tmI (docI_odd (by assumption) (by assumption) (by assumption) h4)) (congrArg (teI · E) (docI_odd (by assumption) (by assumption) (by assumption) h4)))
  | (have h_ : 0 < ((N0.ln (z / 2 ^ g) : Nat) : Int) := by assumption
     have h4 := (head_and h_).symm.trans hc_
     exact Post.d hQ (congrArg tmI (docI_even (by assumption) (by assumption) (by assumption) h4)) (congrArg (teI · E) (docI_even (by assumption) (by assumption) (by assumption) h4)))
end Go.Proofs.YtnjjfakjnkhhjaaGreatDoor.Ev
