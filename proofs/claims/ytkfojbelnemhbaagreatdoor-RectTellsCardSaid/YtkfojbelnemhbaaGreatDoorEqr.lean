import Derived.Test.YtkfojbelnemhbaaGreatDoorXh
import Derived.Test.YtkfojbelnemhbaaGreatDoorEq5
import Derived.Test.YtkfojbelnemhbaaGreatDoorEvu
import Derived.Test.YtkfojbelnemhbaaGreatDoorXq
set_option maxHeartbeats 2000000
set_option maxRecDepth 100000
set_option linter.all false
namespace Go.Proofs.YtkfojbelnemhbaaGreatDoor.Ev
open Go Go.RowKit
section
variable {G : World → Prop}
end
def s_qSide : FnSpec := ⟨.one (.i .i64), fun ds => match ds with | [.int .i64 _] => True | _ => False, fun ds _ => match ds with | [.int _ m] => sideI m | _ => 0, fun _ _ => false, fun _ _ => 0, fun _ _ => []⟩
theorem side_arg {ds : List D} (h : s_qSide.p ds) : ∃ m, ds = [.int .i64 m] := by
 match ds, h with
 | [.int .i64 m], _ => exact ⟨m, rfl⟩
def s_rqDiv : FnSpec := ⟨.tup [(true, [.I, .i .i64]), (false, [.i .i64])], fun ds => match ds with | [x, y, .int .i64 p, .int .i64 _] => canD x ∧ canD y ∧ p ≤ 1000 ∧ Fit (dm x) 700 ∧ Fit (dm y) 700 ∧ -3000 ≤ dx x ∧ dx x ≤ 3000 ∧ -3000 ≤ dx y ∧ dx y ≤ 3000 | _ => False,
 fun ds i => match ds with | [x, y, .int _ p, .int _ mode] => (match i with | 0 => tmI (qm (dm x) (dx x) (dm y) (dx y) (qE (dm x) (dx x) (dm y) (dx y) p) mode) | 1 => teI (qm (dm x) (dx x) (dm y) (dx y) (qE (dm x) (dx x) (dm y) (dx y) p) mode) (qE (dm x) (dx x) (dm y) (dx y) p) | _ => if dm y = 0 then 11 else 0) | _ => 0,
 fun _ _ => false, fun _ _ => 0, fun _ _ => []⟩
theorem rqdiv_arg {ds : List D} (h : s_rqDiv.p ds) : ∃ x y p mode, ds = [x, y, .int .i64 p, .int .i64 mode] ∧ canD x ∧ canD y ∧ p ≤ 1000 ∧ Fit (dm x) 700 ∧ Fit (dm y) 700 ∧ -3000 ≤ dx x ∧ dx x ≤ 3000 ∧ -3000 ≤ dx y ∧ dx y ≤ 3000 := by
 unfold s_rqDiv at h
 dsimp only at h
 split at h
 ·exact ⟨_, _, _, _, rfl, h⟩
 ·exact h.elim
theorem fit_mul_pow {z : Int} {a k b : Nat} (h : Fit z a) (hb : a + k ≤ b) : z.natAbs * 2 ^ k < 2 ^ b := by
 unfold Fit at h
 refine Nat.lt_of_lt_of_le (Nat.mul_lt_mul_of_pos_right h (Nat.pow_pos (by decide))) ?_
 rw [← Nat.pow_add]
 exact Nat.pow_le_pow_right (by decide) hb
theorem good_qSide : Good Tryz.prog (GWL [0, 1]) N0 205 s_qSide := by
 refine goodM 0 gn Tryz.f205 (by kernel_rfl) (by kernel_rfl) fun ds hp F A Q hF hA hQ => ?_
 obtain ⟨md, rfl⟩ := side_arg hp
 clear hp
 cbv
 repeat' (first | with_reducible refine And.intro ?_ ?_ | (with_reducible refine safe_lift hA ?_; kernel_rfl) | (intro hc_; cbv))
 all_goals (repeat (rw [safe_true hA, true_and]; rotate_left; kernel_rfl))
 all_goals subst hF hA
 all_goals simp only [fnOf, find, std, reduceIte, Nat.reduceEqDiff, sp1, sp2, a1, a2, FnSpec.out, Shape.build, leafs, leafCells, tups, oneOf, List.cons_append, List.nil_append, List.length_cons, List.length_nil, s_qSide, sideI, beq_iff_eq] at *
 case refine_1 => exact Post.i hQ (if_pos hc_)
 case refine_2 => exact Post.i hQ (if_neg (fun h => by rw [h] at hc_; exact absurd hc_ (by decide)))
theorem good_rqDiv : Good Tryz.prog (GWL [0, 1]) N0 213 s_rqDiv := by
 refine goodM 0 (gc good_qSign <| gc good_rBits <| gc good_rShl <| gc good_rDiv <| gc good_rAdd <| gc good_qExact <| gc good_qSide <| gc good_qTo gn) Tryz.f213 (by kernel_rfl) (by kernel_rfl) fun ds hp F A Q hF hA hQ => ?_
 obtain ⟨x, y, p, mode, rfl, hx, hy, hp4, hfx, hfy, hxe1, hxe2, hye1, hye2⟩ := rqdiv_arg hp
 obtain ⟨z, e, s, n, cs, rfl, hs, hn, hcs, hz, he, hfz, he1, he2⟩ := canD_arg hx
 obtain ⟨v, f, t, m, es, rfl, ht, hm, hes, hv, hf, hfv, hf1, hf2⟩ := canD_arg hy
 clear hp hx hy
 cbv
 repeat' (first | with_reducible refine And.intro ?_ ?_ | (with_reducible refine safe_lift hA ?_; kernel_rfl) | (intro hc_; cbv))
 all_goals (repeat (rw [safe_true hA, true_and]; rotate_left; kernel_rfl))
 all_goals subst hF hA
 all_goals simp only [fnOf, find, std, reduceIte, Nat.reduceEqDiff, sp1, sp2, a1, a2, FnSpec.out, Shape.build, leafs, leafCells, tups, oneOf, List.cons_append, List.nil_append, List.length_cons, List.length_nil, s_rqDiv, s_qSign, s_rBits, s_rShl, s_rDiv, s_rAdd, s_qExact, s_qSide, s_qTo, clamp20E, clamp20e, dl, dz, dx, dcn, dcs, dm_raw, vL_N0n, vI_mk, Int.natAbs_natCast, decide_eq_true_eq, decide_eq_false_iff_not, sg_beq, max_min1, max_min2] at *
 all_goals subst hs hn hcs ht hm hes
 all_goals try simp only [vI_N0, vL_N0n, sgn_neg, min_if] at *
 all_goals have hc : okC (N0.ln z) (N0.lm z) := okC_fitN hfz (by omega)
 all_goals have hln : N0.ln z ≤ 1000 := ln_fit hfz
 all_goals have hc2 : okC (N0.ln v) (N0.lm v) := okC_fitN hfv (by omega)
 all_goals have hln2 : N0.ln v ≤ 1000 := ln_fit hfv
 all_goals first
  | exact hc
  | exact hc2
  | (have hY : v = 0 := by with_reducible assumption
     refine Post.dz0 hQ ?_ ?_ ?_
     ·rw [hY, qm_zY, tmI_zero]
     ·rw [hY, qm_zY, teI_zero]
     ·exact if_pos hY)
  | skip
 all_goals have hY : ¬v = 0 := by with_reducible assumption
 all_goals first
  | (have hX : z = 0 := by with_reducible assumption
     refine Post.dz0 hQ ?_ ?_ ?_
     ·rw [hX, qm_zX, tmI_zero]
     ·rw [hX, qm_zX, teI_zero]
     ·exact if_neg hY)
  | skip
 all_goals have hX : ¬z = 0 := by with_reducible assumption
 all_goals
  obtain ⟨P, hP⟩ : ∃ P, P = max 1 (min p 4000) := ⟨_, rfl⟩
  have hP1 : 1 ≤ P := by omega
  have hP2 : P ≤ 1000 := by omega
  have hPp : min (max P 1) 4000 = min (max p 1) 4000 := by omega
  simp only [← hP] at *
  clear hP
  have hv1 : (vL [D.int IntKind.u32 1]).toNat = 1 := rfl
  have hg1 : okL (.sl 1 [D.int IntKind.u32 1]) := okC_one
  have nX := nb_le_of_lt hfx
  have nY := nb_le_of_lt hfy
  have hVn : ¬v.natAbs = 0 := by omega
  obtain ⟨k, hk⟩ : ∃ k : Nat, (k : Int) = max 0 (P + 3 + (nb v.natAbs : Nat) - (nb z.natAbs : Nat)) := ⟨_, Int.toNat_of_nonneg (by omega)⟩
  have hW : (if IntKind.i64.wrap (IntKind.i64.wrap (IntKind.i64.wrap (P + 3) + ((nb v.natAbs : Nat) : Int)) - ((nb z.natAbs : Nat) : Int)) > 0 then IntKind.i64.wrap (IntKind.i64.wrap (IntKind.i64.wrap (P + 3) + ((nb v.natAbs : Nat) : Int)) - ((nb z.natAbs : Nat) : Int)) else 0) = (k : Int) := by
   have e1 : IntKind.i64.wrap (P + 3) = P + 3 := wrap_in (by omega) (by omega)
   have e2 : IntKind.i64.wrap (P + 3 + ((nb v.natAbs : Nat) : Int)) = P + 3 + ((nb v.natAbs : Nat) : Int) := wrap_in (by omega) (by omega)
   have e3 : IntKind.i64.wrap (P + 3 + ((nb v.natAbs : Nat) : Int) - ((nb z.natAbs : Nat) : Int)) = P + 3 + ((nb v.natAbs : Nat) : Int) - ((nb z.natAbs : Nat) : Int) := wrap_in (by omega) (by omega)
   rw [e1, e2, e3]
   split <;> omega
  have hk2 : k ≤ 1703 := by omega
  have hH : heldN (k : Int) = k := heldN_nat (by omega)
  have hE0 : IntKind.i64.wrap (IntKind.i64.wrap (IntKind.i64.wrap (e - f) - (k : Int)) - 1) = e - f - (k : Int) - 1 := by
   rw [wrap_in (z := e - f) (by omega) (by omega), wrap_in (z := e - f - (k : Int)) (by omega) (by omega), wrap_in (by omega) (by omega)]
  simp only [hW, hH, held_1, hv1, if_neg hVn, hE0, Nat.pow_one, ln_pos_iff] at *
  obtain ⟨M, hM⟩ : ∃ M, M = z.natAbs * 2 ^ k := ⟨_, rfl⟩
  obtain ⟨b, hb⟩ : ∃ b : Nat, b = 2403 := ⟨_, rfl⟩
  have hMb : M < 2 ^ b := by rw [hM]; exact fit_mul_pow hfx (by omega)
  have hqM : M / v.natAbs ≤ M := Nat.div_le_self _ _
  have hp24 : (2 : Nat) ^ (b + 2) = 4 * 2 ^ b := by rw [Nat.pow_add, Nat.mul_comm]
  have oM := okN (x := M) (b := b) hMb (by omega)
  have oq := okN (x := M / v.natAbs) (b := b) (by omega) (by omega)
  have oq2 := okN (x := M / v.natAbs * 2) (b := b + 2) (by omega) (by omega)
  have oq3 := okN (x := M / v.natAbs * 2 + 1) (b := b + 2) (by omega) (by omega)
  have htq := topQ_low (M := z.natAbs) (N := v.natAbs)
  have htd : -15000 ≤ topD z e v f ∧ topD z e v f ≤ 15000 := by unfold topD; omega
  have hqE : qE z e v f p = clampE (topD z e v f - min (max P 1) 4000 + 1) := by unfold qE; rw [hPp]
  obtain ⟨S, hS⟩ : ∃ S, S = sgn (!(decide (z < 0) == decide (v < 0))) (2 * (z.natAbs * 2 ^ k / v.natAbs) + if z.natAbs * 2 ^ k % v.natAbs = 0 then 0 else 1) := ⟨_, rfl⟩
  have hdoc := qm_doc (X := z) (e := e) (Y := v) (f := f) P mode k hX hY hP1 (by omega) (by omega) htd.1 htd.2 hS rfl
  rw [← hqE] at hdoc
  rw [← hM] at hS
  have hSn : S.natAbs < 2 ^ (b + 2) := by rw [hS, sgn_natAbs]; split <;> omega
  have fS : Fit S (b + 2) := hSn
  have bS := teI_bound (e := e - f - (k : Int) - 1) fS
  simp only [← hM, ← neg_N0] at *
 all_goals first
  | exact ⟨hc, rfl⟩
  | exact ⟨oM, hc2⟩
  | exact ⟨oq, rfl⟩
  | exact ⟨oq2, hg1⟩
  | skip
 all_goals first
  | (have hr : ¬M % v.natAbs = 0 := by with_reducible assumption
     have hS1 : sgn (!N0.neg z == N0.neg v) (M / v.natAbs * 2 + 1) = S := by rw [hS, if_neg hr, Nat.mul_comm]
     simp only [hS1] at *)
  | (have hr : M % v.natAbs = 0 := Classical.byContradiction (by with_reducible assumption)
     have hS1 : sgn (!N0.neg z == N0.neg v) (M / v.natAbs * 2) = S := by rw [hS, if_pos hr, Nat.mul_comm, Nat.add_zero]
     simp only [hS1] at *)
 all_goals first
  | exact ⟨oq3, fS.mono (by omega), rfl, by omega, by omega⟩
  | exact ⟨oq2, fS.mono (by omega), rfl, by omega, by omega⟩
  | exact ⟨canD_N0 (tmI_idem _) (teI_idem _ _) (fit_tm (fS.mono (by omega))) (by omega) (by omega), by omega, by omega, fit_tm (fS.mono (by omega))⟩
  | (refine Post.dv hQ ?_ ?_ (if_neg hY).symm
     ·rw [stepI_nrm, gm_nrm]; exact hdoc.2.1
     ·rw [stepI_nrm, ge_nrm]; exact hdoc.2.2)
  | trace_state
end Go.Proofs.YtkfojbelnemhbaaGreatDoor.Ev
