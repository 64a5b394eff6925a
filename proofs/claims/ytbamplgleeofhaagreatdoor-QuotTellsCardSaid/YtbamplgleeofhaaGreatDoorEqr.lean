/- The document's quotients and roots of dyads. -/
import Derived.Test.YtbamplgleeofhaaGreatDoorXh
import Derived.Test.YtbamplgleeofhaaGreatDoorEq5
import Derived.Test.YtbamplgleeofhaaGreatDoorEvu
import Derived.Test.YtbamplgleeofhaaGreatDoorRefG
namespace Go.Proofs.YtbamplgleeofhaaGreatDoor.Ev
open Go Go.RowKit
set_option linter.unusedSimpArgs false
set_option linter.unusedVariables false
section
variable {G : World → Prop}
def s_rRoot : FnSpec := sp1 (.one .L) okL (fun x _ => (rt (dl x).toNat : Nat)) (fun _ _ => false)
theorem good_rRoot : Good Tryz.prog G N0 36 s_rRoot := by
  refine ⟨callable (by kernel_rfl), fun ds hp => ?_⟩
  obtain ⟨x, rfl, hx⟩ := sp1_arg hp
  obtain ⟨n, cs, rfl, hc⟩ := okL_arg hx
  refine s_L hc fun X w A c hG hX hl => ?_
  have hn := hc.2.2.2
  exact (rroot_any w A n c (nums cs) hl (by omega)).mono fun _ _ h => (fun h => tellsL h hX) h
def s_rCmp : FnSpec := sp2 (.one (.i .i64)) (fun x y => okL x ∧ okL y) (fun x y _ => cmpN (dl x).toNat (dl y).toNat) (fun _ _ _ => false)
theorem good_rCmp : Good Tryz.prog G N0 37 s_rCmp := by
  refine ⟨callable (by kernel_rfl), fun ds hp => ?_⟩
  obtain ⟨x, y, rfl, hx, hy⟩ := sp2_arg hp
  obtain ⟨n, cs, rfl, hc⟩ := okL_arg hx
  obtain ⟨m, es, rfl, he⟩ := okL_arg hy
  refine s_LL hc he fun X w A c A' c' hG hX hl hl' => ?_
  exact (rcmp_any w A n c (nums cs) A' m c' (nums es) hl hl').mono fun _ _ h => (fun ⟨he, nq, hw⟩ => by subst hw; exact tellsi ⟨he, below_drewN (Below.refl _ _) nq⟩) h
end
def s_qSide : FnSpec := ⟨.one (.i .i64), fun ds => match ds with | [.int .i64 _] => True | _ => False, fun ds _ => match ds with | [.int _ m] => sideI m | _ => 0, fun _ _ => false, fun _ _ => 0, fun _ _ => []⟩
theorem side_arg {ds : List D} (h : s_qSide.p ds) : ∃ m, ds = [.int .i64 m] := by
  match ds, h with
  | [.int .i64 m], _ => exact ⟨m, rfl⟩
def s_rqDiv : FnSpec := ⟨.tup [(true, [.I, .i .i64]), (false, [.i .i64])], fun ds => match ds with | [x, y, .int .i64 p, .int .i64 _] => canD x ∧ canD y ∧ p ≤ 1000 ∧ Fit (dm x) 700 ∧ Fit (dm y) 700 ∧ -3000 ≤ dx x ∧ dx x ≤ 3000 ∧ -3000 ≤ dx y ∧ dx y ≤ 3000 | _ => False,
  fun ds i => match ds with | [x, y, .int _ p, .int _ mode] => (match i with | 0 => tmI (qm (dm x) (dx x) (dm y) (dx y) (qE (dm x) (dx x) (dm y) (dx y) p) mode) | 1 => teI (qm (dm x) (dx x) (dm y) (dx y) (qE (dm x) (dx x) (dm y) (dx y) p) mode) (qE (dm x) (dx x) (dm y) (dx y) p) | _ => if dm y = 0 then 11 else 0) | _ => 0,
  fun _ _ => false, fun _ _ => 0, fun _ _ => []⟩
theorem rqdiv_arg {ds : List D} (h : s_rqDiv.p ds) : ∃ x y p mode, ds = [x, y, .int .i64 p, .int .i64 mode] ∧ canD x ∧ canD y ∧ p ≤ 1000 ∧ Fit (dm x) 700 ∧ Fit (dm y) 700 ∧ -3000 ≤ dx x ∧ dx x ≤ 3000 ∧ -3000 ≤ dx y ∧ dx y ≤ 3000 := by
  unfold s_rqDiv at h
  dsimp only at h
  split at h
  · exact ⟨_, _, _, _, rfl, h⟩
  · exact h.elim
def s_rqRoot : FnSpec := ⟨.tup [(true, [.I, .i .i64]), (false, [.i .i64])], fun ds => match ds with | [x, .int .i64 p, .int .i64 _] => canD x ∧ p ≤ 1000 ∧ Fit (dm x) 700 ∧ -3000 ≤ dx x ∧ dx x ≤ 3000 | _ => False,
  fun ds i => match ds with | [x, .int _ p, .int _ mode] => (match i with | 0 => tmI (qr (dm x) (dx x) (rE (dm x) (dx x) p) mode) | 1 => teI (qr (dm x) (dx x) (rE (dm x) (dx x) p) mode) (rE (dm x) (dx x) p) | _ => if dm x < 0 then 12 else 0) | _ => 0,
  fun _ _ => false, fun _ _ => 0, fun _ _ => []⟩
theorem rqroot_arg {ds : List D} (h : s_rqRoot.p ds) : ∃ x p mode, ds = [x, .int .i64 p, .int .i64 mode] ∧ canD x ∧ p ≤ 1000 ∧ Fit (dm x) 700 ∧ -3000 ≤ dx x ∧ dx x ≤ 3000 := by
  unfold s_rqRoot at h
  dsimp only at h
  split at h
  · exact ⟨_, _, _, rfl, h⟩
  · exact h.elim
theorem even_T (x : Int) : ((!(x.tmod 2 == 0)) = true) = ¬(x % 2 = 0) := propext (by
  rw [Bool.not_eq_true', beq_eq_false_iff_ne]
  exact ⟨fun h h2 => h (tmod2_even h2), fun h => tmod2_odd h⟩)
theorem even_F (x : Int) : ((!(x.tmod 2 == 0)) = false) = (x % 2 = 0) := propext (by
  have h := even_T x
  constructor
  · intro h1
    apply Classical.byContradiction
    intro h2
    rw [← h, h1] at h2
    cases h2
  · intro h1
    cases hb : !(x.tmod 2 == 0) with
    | false => rfl
    | true => rw [hb] at h; exact absurd h1 (h.mp rfl))
theorem cmpN_T (a b : Nat) : ((!(cmpN a b == 0)) = true) = ¬(a = b) := propext (by
  rw [Bool.not_eq_true', beq_eq_false_iff_ne]
  refine ⟨fun h h2 => h (cmpN_eq h2), fun h => ?_⟩
  rcases Nat.lt_trichotomy a b with h1 | h1 | h1
  · rw [cmpN_lt h1]; decide
  · exact absurd h1 h
  · rw [cmpN_gt h1]; decide)
theorem cmpN_F (a b : Nat) : ((!(cmpN a b == 0)) = false) = (a = b) := propext (by
  have h := cmpN_T a b
  constructor
  · intro h1
    apply Classical.byContradiction
    intro h2
    rw [← h, h1] at h2
    cases h2
  · intro h1
    cases hb : !(cmpN a b == 0) with
    | false => rfl
    | true => rw [hb] at h; exact absurd h1 (h.mp rfl))
theorem sg_lt0 {z : Int} : sg z < 0 ↔ z < 0 := by rcases sg_cases z with ⟨h1, h2⟩ | ⟨h1, h2⟩ | ⟨h1, h2⟩ <;> rw [h2] <;> omega
theorem tdiv2_even {x : Int} (h : x % 2 = 0) : x.tdiv 2 = x / 2 := by
  obtain ⟨c, rfl⟩ := Int.dvd_of_emod_eq_zero h
  rw [Int.mul_tdiv_cancel_left _ (by decide), Int.mul_ediv_cancel_left _ (by decide)]
theorem fit_mul_pow {z : Int} {a k b : Nat} (h : Fit z a) (hb : a + k ≤ b) : z.natAbs * 2 ^ k < 2 ^ b := by
  unfold Fit at h
  refine Nat.lt_of_lt_of_le (Nat.mul_lt_mul_of_pos_right h (Nat.pow_pos (by decide))) ?_
  rw [← Nat.pow_add]
  exact Nat.pow_le_pow_right (by decide) hb
set_option maxRecDepth 100000 in
set_option maxHeartbeats 2000000 in
theorem good_qSide : Good Tryz.prog (GWL [0, 1]) N0 33 s_qSide := by
  refine goodL (l := [0, 1]) (tab := []) (shs := []) rfl trivial Tryz.f33 (by kernel_rfl) (by kernel_rfl) (by kernel_rfl) (fun ds hp F A Q hF hA hQ => ⟨0, ?_⟩)
  obtain ⟨md, rfl⟩ := side_arg hp
  clear hp
  cbv
  repeat' (first | with_reducible refine And.intro ?_ ?_ | (with_reducible refine safe_lift hA ?_; kernel_rfl) | (intro hc_; cbv))
  all_goals (repeat (rw [safe_true hA, true_and]; rotate_left; kernel_rfl))
  all_goals subst hF hA
  all_goals simp only [fnOf, find, std, reduceIte, Nat.reduceEqDiff, sp1, sp2, a1, a2, FnSpec.out, Shape.build, leafs, leafCells, tups, oneOf, List.cons_append, List.nil_append, List.length_cons, List.length_nil, s_qSide, sideI, beq_iff_eq] at *
  case refine_1 => exact Post.i hQ (if_pos hc_)
  case refine_2 => exact Post.i hQ (if_neg (fun h => by rw [h] at hc_; exact absurd hc_ (by decide)))
set_option maxRecDepth 100000 in
set_option maxHeartbeats 2000000 in
theorem good_rqDiv : Good Tryz.prog (GWL [0, 1]) N0 8 s_rqDiv := by
  refine goodL (l := [0, 1]) (tab := [(26, s_qSign), (27, s_rBits), (29, s_rShl), (28, s_rDiv), (30, s_rAdd), (32, s_qExact), (33, s_qSide), (31, s_qTo)]) (shs := [(26, .one (.i .i64)), (27, .one (.i .i64)), (29, .one .L), (28, .tup [(false, [.L]), (false, [.L]), (false, [.b])]), (30, .one .L), (32, .agg [.I, .i .i64]), (33, .one (.i .i64)), (31, .agg [.I, .i .i64])]) rfl ⟨good_qSign, good_rBits, good_rShl, good_rDiv, good_rAdd, good_qExact, good_qSide, good_qTo, trivial⟩ Tryz.f8 (by kernel_rfl) (by kernel_rfl) (by kernel_rfl) (fun ds hp F A Q hF hA hQ => ⟨0, ?_⟩)
  obtain ⟨x, y, p, mode, rfl, hx, hy, hp4, hfx, hfy, hxe1, hxe2, hye1, hye2⟩ := rqdiv_arg hp
  obtain ⟨z, e, s, n, cs, rfl, hs, hn, hcs, hz, he, hfz, he1, he2⟩ := canD_arg hx
  obtain ⟨v, f, t, m, es, rfl, ht, hm, hes, hv, hf, hfv, hf1, hf2⟩ := canD_arg hy
  clear hp hx hy
  cbv
  repeat' (first | with_reducible refine And.intro ?_ ?_ | (with_reducible refine safe_lift hA ?_; kernel_rfl) | (intro hc_; cbv))
  all_goals (repeat (rw [safe_true hA, true_and]; rotate_left; kernel_rfl))
  all_goals subst hF hA
  all_goals simp only [fnOf, find, std, reduceIte, Nat.reduceEqDiff, sp1, sp2, a1, a2, FnSpec.out, Shape.build, leafs, leafCells, tups, oneOf, List.cons_append, List.nil_append, List.length_cons, List.length_nil, s_rqDiv, s_qSign, s_rBits, s_rShl, s_rDiv, s_rAdd, s_qExact, s_qSide, s_qTo, clamp20E, clamp20e, dl, dz, dx, dcn, dcs, dm_raw, vL_N0n, vI_mk, Int.natAbs_natCast, decide_eq_true_eq, decide_eq_false_iff_not, sg_beq, max_min1, max_min2] at *
  all_goals subst hs hn hcs ht hm hes
  all_goals try simp only [vI_N0, vL_N0n, sgn_neg, min_if] at *
  all_goals have hc : okC (N0.ln z) (N0.lm z) := okC_fitN hfz (by omega)
  all_goals have hln : N0.ln z ≤ 1000 := ln_fit hfz
  all_goals have hc2 : okC (N0.ln v) (N0.lm v) := okC_fitN hfv (by omega)
  all_goals have hln2 : N0.ln v ≤ 1000 := ln_fit hfv
  all_goals first
    | exact hc
    | exact hc2
    | (have hY : v = 0 := by with_reducible assumption
       refine Post.dz0 hQ ?_ ?_ ?_
       · rw [hY, qm_zY, tmI_zero]
       · rw [hY, qm_zY, teI_zero]
       · exact if_pos hY)
    | skip
  all_goals have hY : ¬v = 0 := by with_reducible assumption
  all_goals first
    | (have hX : z = 0 := by with_reducible assumption
       refine Post.dz0 hQ ?_ ?_ ?_
       · rw [hX, qm_zX, tmI_zero]
       · rw [hX, qm_zX, teI_zero]
       · exact if_neg hY)
    | skip
  all_goals have hX : ¬z = 0 := by with_reducible assumption
  all_goals
    obtain ⟨P, hP⟩ : ∃ P, P = max 1 (min p 4000) := ⟨_, rfl⟩
    have hP1 : 1 ≤ P := by omega
    have hP2 : P ≤ 1000 := by omega
    have hPp : min (max P 1) 4000 = min (max p 1) 4000 := by omega
    simp only [← hP] at *
    clear hP
    have hv1 : (vL [D.int IntKind.u32 1]).toNat = 1 := rfl
    have hg1 : okL (.sl 1 [D.int IntKind.u32 1]) := okC_one
    have nX := nb_le_of_lt hfx
    have nY := nb_le_of_lt hfy
    have hVn : ¬v.natAbs = 0 := by omega
    obtain ⟨k, hk⟩ : ∃ k : Nat, (k : Int) = max 0 (P + 3 + (nb v.natAbs : Nat) - (nb z.natAbs : Nat)) := ⟨_, Int.toNat_of_nonneg (by omega)⟩
    have hW : (if IntKind.i64.wrap (IntKind.i64.wrap (IntKind.i64.wrap (P + 3) + ((nb v.natAbs : Nat) : Int)) - ((nb z.natAbs : Nat) : Int)) > 0 then IntKind.i64.wrap (IntKind.i64.wrap (IntKind.i64.wrap (P + 3) + ((nb v.natAbs : Nat) : Int)) - ((nb z.natAbs : Nat) : Int)) else 0) = (k : Int) := by
      have e1 : IntKind.i64.wrap (P + 3) = P + 3 := wrap_in (by omega) (by omega)
      have e2 : IntKind.i64.wrap (P + 3 + ((nb v.natAbs : Nat) : Int)) = P + 3 + ((nb v.natAbs : Nat) : Int) := wrap_in (by omega) (by omega)
      have e3 : IntKind.i64.wrap (P + 3 + ((nb v.natAbs : Nat) : Int) - ((nb z.natAbs : Nat) : Int)) = P + 3 + ((nb v.natAbs : Nat) : Int) - ((nb z.natAbs : Nat) : Int) := wrap_in (by omega) (by omega)
      rw [e1, e2, e3]
      split <;> omega
    have hk2 : k ≤ 1703 := by omega
    have hH : heldN (k : Int) = k := heldN_nat (by omega)
    have hE0 : IntKind.i64.wrap (IntKind.i64.wrap (IntKind.i64.wrap (e - f) - (k : Int)) - 1) = e - f - (k : Int) - 1 := by
      rw [wrap_in (z := e - f) (by omega) (by omega), wrap_in (z := e - f - (k : Int)) (by omega) (by omega), wrap_in (by omega) (by omega)]
    simp only [hW, hH, held_1, hv1, if_neg hVn, hE0, Nat.pow_one, ln_pos_iff] at *
    obtain ⟨M, hM⟩ : ∃ M, M = z.natAbs * 2 ^ k := ⟨_, rfl⟩
    obtain ⟨b, hb⟩ : ∃ b : Nat, b = 2403 := ⟨_, rfl⟩
    have hMb : M < 2 ^ b := by rw [hM]; exact fit_mul_pow hfx (by omega)
    have hqM : M / v.natAbs ≤ M := Nat.div_le_self _ _
    have hp24 : (2 : Nat) ^ (b + 2) = 4 * 2 ^ b := by rw [Nat.pow_add, Nat.mul_comm]
    have oM := okN (x := M) (b := b) hMb (by omega)
    have oq := okN (x := M / v.natAbs) (b := b) (by omega) (by omega)
    have oq2 := okN (x := M / v.natAbs * 2) (b := b + 2) (by omega) (by omega)
    have oq3 := okN (x := M / v.natAbs * 2 + 1) (b := b + 2) (by omega) (by omega)
    have htq := topQ_low (M := z.natAbs) (N := v.natAbs)
    have htd : -15000 ≤ topD z e v f ∧ topD z e v f ≤ 15000 := by unfold topD; omega
    have hqE : qE z e v f p = clampE (topD z e v f - min (max P 1) 4000 + 1) := by unfold qE; rw [hPp]
    obtain ⟨S, hS⟩ : ∃ S, S = sgn (!(decide (z < 0) == decide (v < 0))) (2 * (z.natAbs * 2 ^ k / v.natAbs) + if z.natAbs * 2 ^ k % v.natAbs = 0 then 0 else 1) := ⟨_, rfl⟩
    have hdoc := qm_doc (X := z) (e := e) (Y := v) (f := f) P mode k hX hY hP1 (by omega) (by omega) htd.1 htd.2 hS rfl
    rw [← hqE] at hdoc
    rw [← hM] at hS
    have hSn : S.natAbs < 2 ^ (b + 2) := by rw [hS, sgn_natAbs]; split <;> omega
    have fS : Fit S (b + 2) := hSn
    have bS := teI_bound (e := e - f - (k : Int) - 1) fS
    simp only [← hM, ← neg_N0] at *
  all_goals first
    | exact ⟨hc, rfl⟩
    | exact ⟨oM, hc2⟩
    | exact ⟨oq, rfl⟩
    | exact ⟨oq2, hg1⟩
    | skip
  all_goals first
    | (have hr : ¬M % v.natAbs = 0 := by with_reducible assumption
       have hS1 : sgn (!N0.neg z == N0.neg v) (M / v.natAbs * 2 + 1) = S := by rw [hS, if_neg hr, Nat.mul_comm]
       simp only [hS1] at *)
    | (have hr : M % v.natAbs = 0 := Classical.byContradiction (by with_reducible assumption)
       have hS1 : sgn (!N0.neg z == N0.neg v) (M / v.natAbs * 2) = S := by rw [hS, if_pos hr, Nat.mul_comm, Nat.add_zero]
       simp only [hS1] at *)
  all_goals first
    | exact ⟨oq3, fS.mono (by omega), rfl, by omega, by omega⟩
    | exact ⟨oq2, fS.mono (by omega), rfl, by omega, by omega⟩
    | exact ⟨canD_N0 (tmI_idem _) (teI_idem _ _) (fit_tm (fS.mono (by omega))) (by omega) (by omega), by omega, by omega, fit_tm (fS.mono (by omega))⟩
    | (refine Post.dv hQ ?_ ?_ (if_neg hY).symm
       · rw [stepI_nrm, gm_nrm]; exact hdoc.2.1
       · rw [stepI_nrm, ge_nrm]; exact hdoc.2.2)
    | trace_state
set_option maxRecDepth 100000 in
set_option maxHeartbeats 2000000 in
theorem good_rqRoot : Good Tryz.prog (GWL [0, 1]) N0 10 s_rqRoot := by
  refine goodL (l := [0, 1]) (tab := [(26, s_qSign), (27, s_rBits), (29, s_rShl), (36, s_rRoot), (38, s_rMul), (37, s_rCmp), (30, s_rAdd), (32, s_qExact), (33, s_qSide), (31, s_qTo)]) (shs := [(26, .one (.i .i64)), (27, .one (.i .i64)), (29, .one .L), (36, .one .L), (38, .one .L), (37, .one (.i .i64)), (30, .one .L), (32, .agg [.I, .i .i64]), (33, .one (.i .i64)), (31, .agg [.I, .i .i64])]) rfl ⟨good_qSign, good_rBits, good_rShl, good_rRoot, good_rMul, good_rCmp, good_rAdd, good_qExact, good_qSide, good_qTo, trivial⟩ Tryz.f10 (by kernel_rfl) (by kernel_rfl) (by kernel_rfl) (fun ds hp F A Q hF hA hQ => ⟨0, ?_⟩)
  obtain ⟨x, p, mode, rfl, hx, hp4, hfx, hxe1, hxe2⟩ := rqroot_arg hp
  obtain ⟨z, e, s, n, cs, rfl, hs, hn, hcs, hz, he, hfz, he1, he2⟩ := canD_arg hx
  clear hp hx
  cbv
  repeat' (first | with_reducible refine And.intro ?_ ?_ | (with_reducible refine safe_lift hA ?_; kernel_rfl) | (intro hc_; cbv))
  all_goals (repeat (rw [safe_true hA, true_and]; rotate_left; kernel_rfl))
  all_goals subst hF hA
  all_goals simp only [fnOf, find, std, reduceIte, Nat.reduceEqDiff, sp1, sp2, a1, a2, FnSpec.out, Shape.build, leafs, leafCells, tups, oneOf, List.cons_append, List.nil_append, List.length_cons, List.length_nil, s_rqRoot, s_qSign, s_rBits, s_rShl, s_rRoot, s_rMul, s_rCmp, s_rAdd, s_qExact, s_qSide, s_qTo, clamp20E, clamp20e, dl, dz, dx, dcn, dcs, dm_raw, vL_N0n, vI_mk, Int.natAbs_natCast, decide_eq_true_eq, decide_eq_false_iff_not, sg_beq, max_min1, max_min2] at *
  all_goals subst hs hn hcs
  all_goals try simp only [vI_N0, vL_N0n, sgn_neg, min_if, clamp20E, clamp20e] at *
  all_goals have hc : okC (N0.ln z) (N0.lm z) := okC_fitN hfz (by omega)
  all_goals have hln : N0.ln z ≤ 1000 := ln_fit hfz
  all_goals first
    | exact hc
    | decide
    | (have hX : z < 0 := sg_lt0.1 (by with_reducible assumption)
       have hq : qr z e (rE z e p) mode = 0 := if_pos (by omega)
       refine Post.dz0 hQ ?_ ?_ ?_
       · rw [hq, tmI_zero]
       · rw [hq, teI_zero]
       · exact if_pos hX)
    | (have hX : z = 0 := by with_reducible assumption
       have hq : qr z e (rE z e p) mode = 0 := if_pos (by omega)
       refine Post.dz0 hQ ?_ ?_ ?_
       · rw [hq, tmI_zero]
       · rw [hq, teI_zero]
       · exact if_neg (by omega))
    | skip
  all_goals
    have hX0 : ¬z = 0 := by with_reducible assumption
    have hXs : ¬sg z < 0 := by with_reducible assumption
    have hX1 : ¬z < 0 := fun h => hXs (sg_lt0.2 h)
    have hX : 0 < z := by omega
    clear hX1
    clear hX0 hXs
    obtain ⟨P, hP⟩ : ∃ P, P = max 1 (min p 4000) := ⟨_, rfl⟩
    have hP1 : 1 ≤ P := by omega
    have hP2 : P ≤ 1000 := by omega
    have hPp : min (max P 1) 4000 = min (max p 1) 4000 := by omega
    simp only [← hP] at *
    clear hP
    have hv1 : (vL [D.int IntKind.u32 1]).toNat = 1 := rfl
    have hg1 : okL (.sl 1 [D.int IntKind.u32 1]) := okC_one
    have nX := nb_le_of_lt hfx
    obtain ⟨k0, hk0⟩ : ∃ k : Nat, (k : Int) = max 0 (2 * P + 6 - (nb z.natAbs : Nat)) := ⟨_, Int.toNat_of_nonneg (by omega)⟩
    have hW : (if IntKind.i64.wrap (IntKind.i64.wrap (IntKind.i64.wrap (2 * P) + 6) - ((nb z.natAbs : Nat) : Int)) > 0 then IntKind.i64.wrap (IntKind.i64.wrap (IntKind.i64.wrap (2 * P) + 6) - ((nb z.natAbs : Nat) : Int)) else 0) = (k0 : Int) := by
      have e1 : IntKind.i64.wrap (2 * P) = 2 * P := wrap_in (by omega) (by omega)
      have e2 : IntKind.i64.wrap (2 * P + 6) = 2 * P + 6 := wrap_in (by omega) (by omega)
      have e3 : IntKind.i64.wrap (2 * P + 6 - ((nb z.natAbs : Nat) : Int)) = 2 * P + 6 - ((nb z.natAbs : Nat) : Int) := wrap_in (by omega) (by omega)
      rw [e1, e2, e3]
      split <;> omega
    have hk2 : k0 ≤ 2006 := by omega
    have hw1 : IntKind.i64.wrap ((k0 : Int) + 1) = ((k0 + 1 : Nat) : Int) := by rw [wrap_in (by omega) (by omega)]; rfl
    have hw2 : IntKind.i64.wrap (e - (k0 : Int)) = e - (k0 : Int) := wrap_in (by omega) (by omega)
    have hw3 : IntKind.i64.wrap (e - ((k0 + 1 : Nat) : Int)) = e - ((k0 + 1 : Nat) : Int) := wrap_in (by omega) (by omega)
    simp only [hW, hw1, hw2, hw3, held_1, hv1, Nat.pow_one, even_T, even_F, cmpN_T, cmpN_F] at *
  all_goals first
    | (have hev : ¬(e - (k0 : Int)) % 2 = 0 := by with_reducible assumption
       have hkk : ∃ k : Nat, k = k0 + 1 ∧ k ≤ 2007 ∧ 2 * P + 6 - ((nb z.natAbs : Nat) : Int) ≤ k ∧ (e - (k : Int)) % 2 = 0 := ⟨k0 + 1, rfl, by omega, by omega, by omega⟩
       obtain ⟨k, hk6, hk3, hk4, hk5⟩ := hkk
       simp only [← hk6] at *)
    | (have hev : (e - (k0 : Int)) % 2 = 0 := by with_reducible assumption
       have hkk : ∃ k : Nat, k = k0 ∧ k ≤ 2007 ∧ 2 * P + 6 - ((nb z.natAbs : Nat) : Int) ≤ k ∧ (e - (k : Int)) % 2 = 0 := ⟨k0, rfl, by omega, by omega, by omega⟩
       obtain ⟨k, hk6, hk3, hk4, hk5⟩ := hkk
       subst hk6)
    | exact ⟨hc, rfl⟩
  all_goals
    have hH : heldN (k : Int) = k := heldN_nat (by omega)
    have hE0 : IntKind.i64.wrap (IntKind.i64.wrap ((e - (k : Int)).tdiv 2) - 1) = (e - (k : Int)) / 2 - 1 := by
      have e1 : (e - (k : Int)).tdiv 2 = (e - (k : Int)) / 2 := tdiv2_even hk5
      rw [e1, wrap_in (z := (e - (k : Int)) / 2) (by omega) (by omega), wrap_in (by omega) (by omega)]
    simp only [hH, hE0] at *
    obtain ⟨M, hM⟩ : ∃ M, M = z.natAbs * 2 ^ k := ⟨_, rfl⟩
    obtain ⟨b, hb⟩ : ∃ b : Nat, b = 2707 := ⟨_, rfl⟩
    have hMb : M < 2 ^ b := by rw [hM]; exact fit_mul_pow hfx (by omega)
    have hrM := rt_le M
    have hrr := (rt_spec M).1
    have hp24 : (2 : Nat) ^ (b + 2) = 4 * 2 ^ b := by rw [Nat.pow_add, Nat.mul_comm]
    have oM := okN (x := M) (b := b) hMb (by omega)
    have oq := okN (x := rt M) (b := b) (by omega) (by omega)
    have oqq := okN (x := rt M * rt M) (b := b) (by omega) (by omega)
    have oq2 := okN (x := rt M * 2) (b := b + 2) (by omega) (by omega)
    have oq3 := okN (x := rt M * 2 + 1) (b := b + 2) (by omega) (by omega)
    have htop := top_bd (e := e) hfx
    have htd : -15000 ≤ topR z e ∧ topR z e ≤ 15000 := by unfold topR; omega
    have hrE : rE z e p = clampE (topR z e - min (max P 1) 4000 + 1) := by unfold rE; rw [hPp]
    obtain ⟨S, hS⟩ : ∃ S, S = ((2 * rt (z.natAbs * 2 ^ k) + if rt (z.natAbs * 2 ^ k) * rt (z.natAbs * 2 ^ k) = z.natAbs * 2 ^ k then 0 else 1 : Nat) : Int) := ⟨_, rfl⟩
    have hdoc := qr_doc (X := z) (e := e) P mode k hX hP1 (by omega) hk4 hk5 htd.1 htd.2 hS rfl
    rw [← hrE] at hdoc
    rw [← hM] at hS
    have hSn : S.natAbs < 2 ^ (b + 2) := by rw [hS, Int.natAbs_natCast]; split <;> omega
    have fS : Fit S (b + 2) := hSn
    have bS := teI_bound (e := (e - (k : Int)) / 2 - 1) fS
    simp only [← hM] at *
  all_goals first
    | exact ⟨hc, rfl⟩
    | exact oM
    | exact ⟨oq, oq⟩
    | exact ⟨oqq, oM⟩
    | exact ⟨oq, rfl⟩
    | exact ⟨oq2, hg1⟩
    | decide
    | skip
  all_goals first
    | (have hr : ¬rt M * rt M = M := by with_reducible assumption
       have hS1 : sgn false (rt M * 2 + 1) = S := by rw [hS, if_neg hr, Nat.mul_comm]; rfl
       simp only [hS1] at *)
    | (have hr : rt M * rt M = M := by with_reducible assumption
       have hS1 : sgn false (rt M * 2) = S := by rw [hS, if_pos hr, Nat.mul_comm, Nat.add_zero]; rfl
       simp only [hS1] at *)
  all_goals first
    | exact ⟨oq3, fS.mono (by omega), rfl, by omega, by omega⟩
    | exact ⟨oq2, fS.mono (by omega), rfl, by omega, by omega⟩
    | exact ⟨canD_N0 (tmI_idem _) (teI_idem _ _) (fit_tm (fS.mono (by omega))) (by omega) (by omega), by omega, by omega, fit_tm (fS.mono (by omega))⟩
    | (refine Post.dv hQ ?_ ?_ (if_neg (by omega)).symm
       · rw [stepI_nrm, gm_nrm]; exact hdoc.2.1
       · rw [stepI_nrm, ge_nrm]; exact hdoc.2.2)
    | trace_state
end Go.Proofs.YtbamplgleeofhaaGreatDoor.Ev
