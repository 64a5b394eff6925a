import Derived.Test.YtnjjfakjnkhhjaaGreatDoorJa
import Derived.Test.YtnjjfakjnkhhjaaGreatDoorRefG
import Derived.Test.YtnjjfakjnkhhjaaGreatDoorEva
import Derived.Laws.FloatArith
import Derived.IntWalk
import Derived.Test.YtnjjfakjnkhhjaaGreatDoorXp
set_option maxHeartbeats 2000000
set_option maxRecDepth 100000
set_option linter.all false
namespace Go.Proofs.YtnjjfakjnkhhjaaGreatDoor.Ev
open Go Go.RowKit
def s_rqRootB : FnSpec := ⟨.tup [(true, [.I, .i .i64]), (false, [.i .i64])], fun ds => match ds with | [x, .int .i64 p, .int .i64 _] => canD x ∧ p ≤ 1000 ∧ Fit (dm x) 18600 ∧ -8000 ≤ dx x ∧ dx x ≤ 10600 ∧ (nb (dm x).natAbs : Int) + dx x ≤ 10601 | _ => False,
 fun ds i => match ds with | [x, .int _ p, .int _ mode] => (match i with | 0 => tmI (qr (dm x) (dx x) (rE (dm x) (dx x) p) mode) | 1 => teI (qr (dm x) (dx x) (rE (dm x) (dx x) p) mode) (rE (dm x) (dx x) p) | _ => if dm x < 0 then 12 else 0) | _ => 0,
 fun _ _ => false, fun _ _ => 0, fun _ _ => []⟩
theorem rqrootB_arg {ds : List D} (h : s_rqRootB.p ds) : ∃ x p mode, ds = [x, .int .i64 p, .int .i64 mode] ∧ canD x ∧ p ≤ 1000 ∧ Fit (dm x) 18600 ∧ -8000 ≤ dx x ∧ dx x ≤ 10600 ∧ (nb (dm x).natAbs : Int) + dx x ≤ 10601 := by
 unfold s_rqRootB at h
 dsimp only at h
 split at h
 ·exact ⟨_, _, _, rfl, h⟩
 ·exact h.elim
theorem rt_lt {M b : Nat} (h : M < 2 ^ (b + b)) : rt M < 2 ^ b := by
 have h1 := (rt_spec M).1
 rcases Nat.lt_or_ge (rt M) (2 ^ b) with h2 | h2
 ·exact h2
 ·have h3 := Nat.mul_le_mul h2 h2
  rw [← Nat.pow_add] at h3; omega
theorem good_rqRootB : Good Tryz.prog (GWL [0, 1]) N0 120 s_rqRootB := by
 refine goodM 0 (gc good_qSign <| gc good_rBits <| gc good_rShl <| gc good_rRoot <| gc good_rMul <| gc good_rCmp <| gc good_rAdd <| gc good_qExact <| gc good_qSide <| gc good_qToB gn) Tryz.f120 (by kernel_rfl) (by kernel_rfl) fun ds hp F A Q hF hA hQ => ?_
 obtain ⟨x, p, mode, rfl, hx, hp4, hfx, hxe1, hxe2, hxe3⟩ := rqrootB_arg hp
 obtain ⟨z, e, s, n, cs, rfl, hs, hn, hcs, hz, he, hfz, he1, he2⟩ := canD_arg hx
 clear hp hx
 cbv
 repeat' (first | with_reducible refine And.intro ?_ ?_ | (with_reducible refine safe_lift hA ?_; kernel_rfl) | (intro hc_; cbv))
 all_goals (repeat (rw [safe_true hA, true_and]; rotate_left; kernel_rfl))
 all_goals subst hF hA
 all_goals simp only [fnOf, find, std, reduceIte, Nat.reduceEqDiff, sp1, sp2, a1, a2, FnSpec.out, Shape.build, leafs, leafCells, tups, oneOf, List.cons_append, List.nil_append, List.length_cons, List.length_nil, s_rqRootB, s_qSign, s_rBits, s_rShl, s_rRoot, s_rMul, s_rCmp, s_rAdd, s_qExact, s_qSide, s_qToB, clamp20E, clamp20e, dl, dz, dx, dcn, dcs, dm_raw, vL_N0n, vI_mk, Int.natAbs_natCast, decide_eq_true_eq, decide_eq_false_iff_not, sg_beq, max_min1, max_min2] at *
 all_goals subst hs hn hcs
 all_goals try simp only [vI_N0, vL_N0n, sgn_neg, min_if, clamp20E, clamp20e] at *
 all_goals have hc : okC (N0.ln z) (N0.lm z) := okC_fitN hfz (by omega)
 all_goals have hln : N0.ln z ≤ 1000 := ln_fit hfz
 all_goals first
  | exact hc
  | decide
  | (have hX : z < 0 := sg_lt0.1 (by with_reducible assumption)
     have hq : qr z e (rE z e p) mode = 0 := if_pos (by omega)
     refine Post.dz0 hQ ?_ ?_ ?_
     ·rw [hq, tmI_zero]
     ·rw [hq, teI_zero]
     ·exact if_pos hX)
  | (have hX : z = 0 := by with_reducible assumption
     have hq : qr z e (rE z e p) mode = 0 := if_pos (by omega)
     refine Post.dz0 hQ ?_ ?_ ?_
     ·rw [hq, tmI_zero]
     ·rw [hq, teI_zero]
     ·exact if_neg (by omega))
  | skip
 all_goals
  have hX0 : ¬z = 0 := by with_reducible assumption
  have hXs : ¬sg z < 0 := by with_reducible assumption
  have hX1 : ¬z < 0 := fun h => hXs (sg_lt0.2 h)
  have hX : 0 < z := by omega
  clear hX1
  clear hX0 hXs
  obtain ⟨P, hP⟩ : ∃ P, P = max 1 (min p 4000) := ⟨_, rfl⟩
  have hP1 : 1 ≤ P := by omega
  have hP2 : P ≤ 1000 := by omega
  have hPp : min (max P 1) 4000 = min (max p 1) 4000 := by omega
  simp only [← hP] at *
  clear hP
  have hv1 : (vL [D.int IntKind.u32 1]).toNat = 1 := rfl
  have hg1 : okL (.sl 1 [D.int IntKind.u32 1]) := okC_one
  have nX := nb_le_of_lt hfx
  have hxe4 : ((nb z.natAbs : Nat) : Int) + e ≤ 10601 := by first | exact hxe3 | simpa using hxe3
  obtain ⟨k0, hk0⟩ : ∃ k : Nat, (k : Int) = max 0 (2 * P + 6 - (nb z.natAbs : Nat)) := ⟨_, Int.toNat_of_nonneg (by omega)⟩
  have hW : (if IntKind.i64.wrap (IntKind.i64.wrap (IntKind.i64.wrap (2 * P) + 6) - ((nb z.natAbs : Nat) : Int)) > 0 then IntKind.i64.wrap (IntKind.i64.wrap (IntKind.i64.wrap (2 * P) + 6) - ((nb z.natAbs : Nat) : Int)) else 0) = (k0 : Int) := by
   have e1 : IntKind.i64.wrap (2 * P) = 2 * P := wrap_in (by omega) (by omega)
   have e2 : IntKind.i64.wrap (2 * P + 6) = 2 * P + 6 := wrap_in (by omega) (by omega)
   have e3 : IntKind.i64.wrap (2 * P + 6 - ((nb z.natAbs : Nat) : Int)) = 2 * P + 6 - ((nb z.natAbs : Nat) : Int) := wrap_in (by omega) (by omega)
   rw [e1, e2, e3]
   split <;> omega
  have hk2 : k0 ≤ 2006 := by omega
  have hw1 : IntKind.i64.wrap ((k0 : Int) + 1) = ((k0 + 1 : Nat) : Int) := by rw [wrap_in (by omega) (by omega)]; rfl
  have hw2 : IntKind.i64.wrap (e - (k0 : Int)) = e - (k0 : Int) := wrap_in (by omega) (by omega)
  have hw3 : IntKind.i64.wrap (e - ((k0 + 1 : Nat) : Int)) = e - ((k0 + 1 : Nat) : Int) := wrap_in (by omega) (by omega)
  simp only [hW, hw1, hw2, hw3, held_1, hv1, Nat.pow_one, even_T, even_F, cmpN_T, cmpN_F] at *
 all_goals first
  | (have hev : ¬(e - (k0 : Int)) % 2 = 0 := by with_reducible assumption
     have hkk : ∃ k : Nat, k = k0 + 1 ∧ (k ≤ 2007 ∧ nb z.natAbs + k ≤ 18602) ∧ 2 * P + 6 - ((nb z.natAbs : Nat) : Int) ≤ k ∧ (e - (k : Int)) % 2 = 0 := ⟨k0 + 1, rfl, ⟨by omega, by omega⟩, by omega, by omega⟩
     obtain ⟨k, hk6, ⟨hk3, hk7⟩, hk4, hk5⟩ := hkk
     simp only [← hk6] at *)
  | (have hev : (e - (k0 : Int)) % 2 = 0 := by with_reducible assumption
     have hkk : ∃ k : Nat, k = k0 ∧ (k ≤ 2007 ∧ nb z.natAbs + k ≤ 18602) ∧ 2 * P + 6 - ((nb z.natAbs : Nat) : Int) ≤ k ∧ (e - (k : Int)) % 2 = 0 := ⟨k0, rfl, ⟨by omega, by omega⟩, by omega, by omega⟩
     obtain ⟨k, hk6, ⟨hk3, hk7⟩, hk4, hk5⟩ := hkk
     subst hk6)
  | exact ⟨hc, rfl⟩
 all_goals
  have hH : heldN (k : Int) = k := heldN_nat (by omega)
  have hE0 : IntKind.i64.wrap (IntKind.i64.wrap ((e - (k : Int)).tdiv 2) - 1) = (e - (k : Int)) / 2 - 1 := by
   have e1 : (e - (k : Int)).tdiv 2 = (e - (k : Int)) / 2 := tdiv2_even hk5
   rw [e1, wrap_in (z := (e - (k : Int)) / 2) (by omega) (by omega), wrap_in (by omega) (by omega)]
  simp only [hH, hE0] at *
  obtain ⟨M, hM⟩ : ∃ M, M = z.natAbs * 2 ^ k := ⟨_, rfl⟩
  obtain ⟨b, hb⟩ : ∃ b : Nat, b = (nb z.natAbs + k + 1) / 2 := ⟨_, rfl⟩
  have hMb : M < 2 ^ (b + b) := by rw [hM]; exact fit_mul_pow (a := nb z.natAbs) (lt_pow_nb _) (by omega)
  have hrM := rt_le M
  have hrr := (rt_spec M).1
  have hrb : rt M < 2 ^ b := rt_lt hMb
  have hp24 : (2 : Nat) ^ (b + 2) = 4 * 2 ^ b := by rw [Nat.pow_add, Nat.mul_comm]
  have oM := okN (x := M) (b := b + b) hMb (by omega)
  have oq := okN (x := rt M) (b := b) (by omega) (by omega)
  have oqq := okN (x := rt M * rt M) (b := b + b) (by omega) (by omega)
  have oq2 := okN (x := rt M * 2) (b := b + 2) (by omega) (by omega)
  have oq3 := okN (x := rt M * 2 + 1) (b := b + 2) (by omega) (by omega)
  have htop := top_bd (e := e) hfx
  have htd : -15000 ≤ topR z e ∧ topR z e ≤ 15000 := by unfold topR; omega
  have hrE : rE z e p = clampE (topR z e - min (max P 1) 4000 + 1) := by unfold rE; rw [hPp]
  obtain ⟨S, hS⟩ : ∃ S, S = ((2 * rt (z.natAbs * 2 ^ k) + if rt (z.natAbs * 2 ^ k) * rt (z.natAbs * 2 ^ k) = z.natAbs * 2 ^ k then 0 else 1 : Nat) : Int) := ⟨_, rfl⟩
  have hdoc := qr_doc (X := z) (e := e) P mode k hX hP1 (by omega) hk4 hk5 htd.1 htd.2 hS rfl
  rw [← hrE] at hdoc
  rw [← hM] at hS
  have hSn : S.natAbs < 2 ^ (b + 2) := by rw [hS, Int.natAbs_natCast]; split <;> omega
  have fS : Fit S (b + 2) := hSn
  have bS := teI_bound (e := (e - (k : Int)) / 2 - 1) fS
  simp only [← hM] at *
 all_goals first
  | exact ⟨hc, rfl⟩
  | exact oM
  | exact ⟨oq, oq⟩
  | exact ⟨oqq, oM⟩
  | exact ⟨oq, rfl⟩
  | exact ⟨oq2, hg1⟩
  | decide
  | skip
 all_goals first
  | (have hr : ¬rt M * rt M = M := by with_reducible assumption
     have hS1 : sgn false (rt M * 2 + 1) = S := by rw [hS, if_neg hr, Nat.mul_comm]; rfl
     simp only [hS1] at *)
  | (have hr : rt M * rt M = M := by with_reducible assumption
     have hS1 : sgn false (rt M * 2) = S := by rw [hS, if_pos hr, Nat.mul_comm, Nat.add_zero]; rfl
     simp only [hS1] at *)
 all_goals first
  | exact ⟨oq3, fS.mono (by omega), rfl, by omega, by omega⟩
  | exact ⟨oq2, fS.mono (by omega), rfl, by omega, by omega⟩
  | exact ⟨canD_N0 (tmI_idem _) (teI_idem _ _) (fit_tm (fS.mono (by omega))) (by omega) (by omega), by omega, by omega, fit_tm (fS.mono (by omega))⟩
  | (refine Post.dv hQ ?_ ?_ (if_neg (by omega)).symm
     ·rw [stepI_nrm, gm_nrm]; exact hdoc.2.1
     ·rw [stepI_nrm, ge_nrm]; exact hdoc.2.2)
  | trace_state
end Go.Proofs.YtnjjfakjnkhhjaaGreatDoor.Ev
namespace Go.Proofs.YtnjjfakjnkhhjaaGreatDoor.Ev
open Go Go.RowKit Ieee
def infR : Nat := 9218868437227405312
def rgo (u : Nat) : Nat := u % 9223372036854775808
def normal (r : Nat) : Prop := 4503599627370496 ≤ r ∧ r < infR
end Go.Proofs.YtnjjfakjnkhhjaaGreatDoor.Ev
namespace Go.Proofs.YtnjjfakjnkhhjaaGreatDoor.Ev
open Go Go.RowKit
def isF : D → Prop | .flt .f64 u => u < 18446744073709551616 | _ => False
def df : D → Nat | .flt _ u => u | _ => 0
theorem Post.f {Q : Post} {k : FloatKind} {a b : Nat} (h : Q.R (.flt k a)) (hab : a = b) : Q.R (.flt k b) := hab ▸ h
def fin (x : D) : Prop := isF x ∧ rgo (df x) < infR
end Go.Proofs.YtnjjfakjnkhhjaaGreatDoor.Ev
