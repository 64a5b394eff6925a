import Derived.Test.YtkfojbelnemhbaaGreatDoorHa
set_option maxHeartbeats 4000000
set_option maxRecDepth 100000
set_option linter.all false
namespace Go.Proofs.YtkfojbelnemhbaaGreatDoor.Ev
open Go Go.RowKit
def s_qToB : FnSpec := ⟨.agg [.I, .i .i64], fun ds => match ds with | [x, .int .i64 _, .int .i64 _] => canD x ∧ -9800 ≤ dx x ∧ dx x ≤ 9800 ∧ Fit (dm x) 9800 | _ => False, fun ds i => match ds with | [x, .int _ p, .int _ mode] => (match i with | 0 => gm (dm x) (dx x) (stepI (dm x) (dx x) p) mode | _ => ge (dm x) (dx x) (stepI (dm x) (dx x) p) mode) | _ => 0, fun _ _ => false, fun _ _ => 0, fun _ _ => []⟩
theorem qToB_arg {ds : List D} (h : s_qToB.p ds) : ∃ x e k, ds = [x, .int .i64 e, .int .i64 k] ∧ canD x ∧ -9800 ≤ dx x ∧ dx x ≤ 9800 ∧ Fit (dm x) 9800 := by
 match ds, h with
 | [x, .int .i64 e, .int .i64 k], h => exact ⟨x, e, k, rfl, h⟩
theorem topI_inB {z e : Int} (h : Fit z 9800) (h1 : -9800 ≤ e) (h2 : e ≤ 9800) : -9800 ≤ topI z e ∧ topI z e ≤ 19600 := by
 rcases top_bd (e := e) h with h3 | h3 <;> omega
theorem good_qToB : Good Tryz.prog (GWL [0, 1]) N0 154 s_qToB := by
 refine goodM 0 (gc good_qSign <| gc good_qTop <| gc good_qgrid gn) Tryz.f154 (by kernel_rfl) (by kernel_rfl) fun ds hp F A Q hF hA hQ => ?_
 obtain ⟨x, E, md, rfl, hx, hxe, hxe2, hfm⟩ := qToB_arg hp
 obtain ⟨z, e, s, n, cs, rfl, hs, hn, hcs, hz, he, hfz, he1, he2⟩ := canD_arg hx
 clear hp hx
 cbv
 repeat' (first | with_reducible refine And.intro ?_ ?_ | (with_reducible refine safe_lift hA ?_; kernel_rfl) | (intro hc_; cbv))
 all_goals (repeat (rw [safe_true hA, true_and]; rotate_left; kernel_rfl))
 all_goals subst hF hA
 all_goals simp only [fnOf, find, std, reduceIte, Nat.reduceEqDiff, sp1, a1, FnSpec.out, Shape.build, leafs, leafCells, List.cons_append, List.nil_append, s_qToB, s_qSign, s_qTop, s_qgrid, dx, dm_raw, decide_eq_true_eq, decide_eq_false_iff_not, sg_beq, max_min1] at *
 all_goals subst hs hn hcs
 all_goals try simp only [vI_N0] at *
 all_goals have hc : okC (N0.ln z) (N0.lm z) := okC_fitN hfz (by omega)
 all_goals have hln : N0.ln z ≤ 1000 := ln_fit hfz
 case refine_1 => exact hc
 case refine_2.refine_1 => exact Post.d hQ ((gm_lies (.inl hc_)).1.trans hz) ((gm_lies (.inl hc_)).2.trans he)
 all_goals
  have htb := topI_inB hfm hxe hxe2
  have hs1 : IntKind.i64.wrap (IntKind.i64.wrap (topI z e - max 1 (min E 4000)) + 1) = stepI z e E := by rw [wrap_in (z := topI z e - max 1 (min E 4000)) (by omega) (by omega), wrap_in (by omega) (by omega)]; unfold stepI clampE; omega
  have hs2 : -20000 ≤ stepI z e E ∧ stepI z e E ≤ 20000 := by unfold stepI clampE; omega
  (try simp only [hs1] at *)
 all_goals first
  | exact canD_N0 hz he hfz he1 he2
  | exact ⟨canD_N0 hz he hfz he1 he2, by omega, by omega, by omega⟩
  | exact hQ
def s_rqDivB : FnSpec := ⟨.tup [(true, [.I, .i .i64]), (false, [.i .i64])], fun ds => match ds with | [x, y, .int .i64 p, .int .i64 _] => canD x ∧ canD y ∧ p ≤ 400 ∧ Fit (dm x) 1 ∧ Fit (dm y) 5000 ∧ 0 ≤ dx x ∧ dx x ≤ 0 ∧ -5000 ≤ dx y ∧ dx y ≤ 5000 ∧ -3000 ≤ (nb (dm y).natAbs : Int) + dx y ∧ (nb (dm y).natAbs : Int) + dx y ≤ 3000 | _ => False,
 fun ds i => match ds with | [x, y, .int _ p, .int _ mode] => (match i with | 0 => tmI (qm (dm x) (dx x) (dm y) (dx y) (qE (dm x) (dx x) (dm y) (dx y) p) mode) | 1 => teI (qm (dm x) (dx x) (dm y) (dx y) (qE (dm x) (dx x) (dm y) (dx y) p) mode) (qE (dm x) (dx x) (dm y) (dx y) p) | _ => if dm y = 0 then 11 else 0) | _ => 0,
 fun _ _ => false, fun _ _ => 0, fun _ _ => []⟩
theorem rqdivB_arg {ds : List D} (h : s_rqDivB.p ds) : ∃ x y p mode, ds = [x, y, .int .i64 p, .int .i64 mode] ∧ canD x ∧ canD y ∧ p ≤ 400 ∧ Fit (dm x) 1 ∧ Fit (dm y) 5000 ∧ 0 ≤ dx x ∧ dx x ≤ 0 ∧ -5000 ≤ dx y ∧ dx y ≤ 5000 ∧ -3000 ≤ (nb (dm y).natAbs : Int) + dx y ∧ (nb (dm y).natAbs : Int) + dx y ≤ 3000 := by
 unfold s_rqDivB at h
 dsimp only at h
 split at h
 ·exact ⟨_, _, _, _, rfl, h⟩
 ·exact h.elim
theorem good_rqDivB : Good Tryz.prog (GWL [0, 1]) N0 213 s_rqDivB := by
 refine goodM 0 (gc good_qSign <| gc good_rBits <| gc good_rShl <| gc good_rDiv <| gc good_rAdd <| gc good_qExact <| gc good_qSide <| gc good_qTo gn) Tryz.f213 (by kernel_rfl) (by kernel_rfl) fun ds hp F A Q hF hA hQ => ?_
 obtain ⟨x, y, p, mode, rfl, hx, hy, hp4, hfx, hfy, hxe1, hxe2, hye1, hye2, hyn1, hyn2⟩ := rqdivB_arg hp
 obtain ⟨z, e, s, n, cs, rfl, hs, hn, hcs, hz, he, hfz, he1, he2⟩ := canD_arg hx
 obtain ⟨v, f, t, m, es, rfl, ht, hm, hes, hv, hf, hfv, hf1, hf2⟩ := canD_arg hy
 clear hp hx hy
 cbv
 repeat' (first | with_reducible refine And.intro ?_ ?_ | (with_reducible refine safe_lift hA ?_; kernel_rfl) | (intro hc_; cbv))
 all_goals (repeat (rw [safe_true hA, true_and]; rotate_left; kernel_rfl))
 all_goals subst hF hA
 all_goals simp only [fnOf, find, std, reduceIte, Nat.reduceEqDiff, sp1, sp2, a1, a2, FnSpec.out, Shape.build, leafs, leafCells, tups, oneOf, List.cons_append, List.nil_append, List.length_cons, List.length_nil, s_rqDivB, s_qSign, s_rBits, s_rShl, s_rDiv, s_rAdd, s_qExact, s_qSide, s_qTo, dl, dz, dx, dm_raw, vL_N0n, vI_mk, Int.natAbs_natCast, decide_eq_true_eq, decide_eq_false_iff_not, sg_beq, max_min1] at *
 all_goals subst hs hn hcs ht hm hes
 all_goals try simp only [vI_N0, vL_N0n, sgn_neg] at *
 all_goals have hc : okC (N0.ln z) (N0.lm z) := okC_fitN hfz (by omega)
 all_goals have hln : N0.ln z ≤ 1000 := ln_fit hfz
 all_goals have hc2 : okC (N0.ln v) (N0.lm v) := okC_fitN hfv (by omega)
 all_goals have hln2 : N0.ln v ≤ 1000 := ln_fit hfv
 all_goals first
  | exact hc
  | exact hc2
  | (have hY : v = 0 := by with_reducible assumption
     refine Post.dz0 hQ ?_ ?_ ?_
     ·rw [hY, qm_zY, tmI_zero]
     ·rw [hY, qm_zY, teI_zero]
     ·exact if_pos hY)
  | skip
 all_goals have hY : ¬v = 0 := by with_reducible assumption
 all_goals first
  | (have hX : z = 0 := by with_reducible assumption
     refine Post.dz0 hQ ?_ ?_ ?_
     ·rw [hX, qm_zX, tmI_zero]
     ·rw [hX, qm_zX, teI_zero]
     ·exact if_neg hY)
  | skip
 all_goals have hX : ¬z = 0 := by with_reducible assumption
 all_goals
  obtain ⟨P, hP⟩ : ∃ P, P = max 1 (min p 4000) := ⟨_, rfl⟩
  have hP1 : 1 ≤ P := by omega
  have hP2 : P ≤ 400 := by omega
  have hPp : min (max P 1) 4000 = min (max p 1) 4000 := by omega
  simp only [← hP] at *
  clear hP
  have hv1 : (vL [D.int IntKind.u32 1]).toNat = 1 := rfl
  have hg1 : okL (.sl 1 [D.int IntKind.u32 1]) := okC_one
  have hy1 : -3000 ≤ ((nb v.natAbs : Nat) : Int) + f := hyn1
  have hy2 : ((nb v.natAbs : Nat) : Int) + f ≤ 3000 := hyn2
  have nX := nb_le_of_lt hfx
  have nY := nb_le_of_lt hfy
  have hVn : ¬v.natAbs = 0 := by omega
  obtain ⟨k, hk⟩ : ∃ k : Nat, (k : Int) = max 0 (P + 3 + (nb v.natAbs : Nat) - (nb z.natAbs : Nat)) := ⟨_, Int.toNat_of_nonneg (by omega)⟩
  have hW : (if IntKind.i64.wrap (IntKind.i64.wrap (IntKind.i64.wrap (P + 3) + ((nb v.natAbs : Nat) : Int)) - ((nb z.natAbs : Nat) : Int)) > 0 then IntKind.i64.wrap (IntKind.i64.wrap (IntKind.i64.wrap (P + 3) + ((nb v.natAbs : Nat) : Int)) - ((nb z.natAbs : Nat) : Int)) else 0) = (k : Int) := by
   have e1 : IntKind.i64.wrap (P + 3) = P + 3 := wrap_in (by omega) (by omega)
   have e2 : IntKind.i64.wrap (P + 3 + ((nb v.natAbs : Nat) : Int)) = P + 3 + ((nb v.natAbs : Nat) : Int) := wrap_in (by omega) (by omega)
   have e3 : IntKind.i64.wrap (P + 3 + ((nb v.natAbs : Nat) : Int) - ((nb z.natAbs : Nat) : Int)) = P + 3 + ((nb v.natAbs : Nat) : Int) - ((nb z.natAbs : Nat) : Int) := wrap_in (by omega) (by omega)
   rw [e1, e2, e3]
   split <;> omega
  have hk2 : k ≤ 5403 := by omega
  have hH : heldN (k : Int) = k := heldN_nat (by omega)
  have hE0 : IntKind.i64.wrap (IntKind.i64.wrap (IntKind.i64.wrap (e - f) - (k : Int)) - 1) = e - f - (k : Int) - 1 := by
   rw [wrap_in (z := e - f) (by omega) (by omega), wrap_in (z := e - f - (k : Int)) (by omega) (by omega), wrap_in (by omega) (by omega)]
  simp only [hW, hH, held_1, hv1, if_neg hVn, hE0, Nat.pow_one, ln_pos_iff] at *
  obtain ⟨M, hM⟩ : ∃ M, M = z.natAbs * 2 ^ k := ⟨_, rfl⟩
  obtain ⟨b, hb⟩ : ∃ b : Nat, b = 5404 := ⟨_, rfl⟩
  have hMb : M < 2 ^ b := by rw [hM]; exact fit_mul_pow hfx (by omega)
  have hqM : M / v.natAbs ≤ M := Nat.div_le_self _ _
  have hp24 : (2 : Nat) ^ (b + 2) = 4 * 2 ^ b := by rw [Nat.pow_add, Nat.mul_comm]
  have oM := okN (x := M) (b := b) hMb (by omega)
  have oq := okN (x := M / v.natAbs) (b := b) (by omega) (by omega)
  have oq2 := okN (x := M / v.natAbs * 2) (b := b + 2) (by omega) (by omega)
  have oq3 := okN (x := M / v.natAbs * 2 + 1) (b := b + 2) (by omega) (by omega)
  have htq := topQ_low (M := z.natAbs) (N := v.natAbs)
  have htd : -15000 ≤ topD z e v f ∧ topD z e v f ≤ 15000 := by unfold topD; omega
  have hqE : qE z e v f p = clampE (topD z e v f - min (max P 1) 4000 + 1) := by unfold qE; rw [hPp]
  obtain ⟨S, hS⟩ : ∃ S, S = sgn (!(decide (z < 0) == decide (v < 0))) (2 * (z.natAbs * 2 ^ k / v.natAbs) + if z.natAbs * 2 ^ k % v.natAbs = 0 then 0 else 1) := ⟨_, rfl⟩
  have hdoc := qm_doc (X := z) (e := e) (Y := v) (f := f) P mode k hX hY hP1 (by omega) (by omega) htd.1 htd.2 hS rfl
  rw [← hqE] at hdoc
  rw [← hM] at hS
  have hSn : S.natAbs < 2 ^ (b + 2) := by rw [hS, sgn_natAbs]; split <;> omega
  have fS : Fit S (b + 2) := hSn
  have bS := teI_bound (e := e - f - (k : Int) - 1) fS
  simp only [← hM, ← neg_N0] at *
 all_goals first
  | exact ⟨hc, rfl⟩
  | exact ⟨oM, hc2⟩
  | exact ⟨oq, rfl⟩
  | exact ⟨oq2, hg1⟩
  | skip
 all_goals first
  | (have hr : ¬M % v.natAbs = 0 := by with_reducible assumption
     have hS1 : sgn (!N0.neg z == N0.neg v) (M / v.natAbs * 2 + 1) = S := by rw [hS, if_neg hr, Nat.mul_comm]
     simp only [hS1] at *)
  | (have hr : M % v.natAbs = 0 := Classical.byContradiction (by with_reducible assumption)
     have hS1 : sgn (!N0.neg z == N0.neg v) (M / v.natAbs * 2) = S := by rw [hS, if_pos hr, Nat.mul_comm, Nat.add_zero]
     simp only [hS1] at *)
 all_goals first
  | exact ⟨oq3, fS.mono (by omega), rfl, by omega, by omega⟩
  | exact ⟨oq2, fS.mono (by omega), rfl, by omega, by omega⟩
  | exact ⟨canD_N0 (tmI_idem _) (teI_idem _ _) (fit_tm (fS.mono (by omega))) (by omega) (by omega), by omega, by omega, fit_tm (fS.mono (by omega))⟩
  | (refine Post.dv hQ ?_ ?_ (if_neg hY).symm
     ·rw [stepI_nrm, gm_nrm]; exact hdoc.2.1
     ·rw [stepI_nrm, ge_nrm]; exact hdoc.2.2)
  | trace_state
def prodOk (x y : Re) : Prop := (fD (x.1.mul y.1) 19200 20000 ∧ fD (x.1.mul y.2) 19200 20000) ∧ fD (x.2.mul y.1) 19200 20000 ∧ fD (x.2.mul y.2) 19200 20000
theorem prodOk_cz {x y : Re} {L H M K : Nat} (h : cz x L H) (g : cz y M K) (hs : L + M + (H + K) ≤ 19200) : prodOk x y :=
 have key : ∀ {a b : Dy}, sz a L H → sz b M K → fD (a.mul b) 19200 20000 := fun ha hb => (sz_can (mul_n _ _) (sz_mul ha hb)).mono (by omega) (by omega)
 ⟨⟨key h.1 g.1, key h.1 g.2⟩, key h.2 g.1, key h.2 g.2⟩
def s_yMulB : FnSpec := sp2 (.agg [.I, .i .i64, .I, .i .i64]) (fun x y => canR x ∧ canR y ∧ prodOk (rv x) (rv y)) (fun x y i => re4 (rmul (rv x) (rv y)) i) (fun _ _ _ => false)
theorem ymulB_facts {z e v f u g w h : Int} (hx : fR ((z, e), (v, f)) 19200 20000) (hy : fR ((u, g), (w, h)) 19200 20000) (hP : prodOk ((z, e), (v, f)) ((u, g), (w, h))) : Fit (z * u) 100000 ∧ canD (.agg [.bool (N0.neg (tmI (z * u))), .sl (N0.ln (tmI (z * u))) (N0.lm (tmI (z * u))), .int .i64 (teI (z * u) (e + g))]) ∧ Fit (z * w) 100000 ∧ canD (.agg [.bool (N0.neg (tmI (z * w))), .sl (N0.ln (tmI (z * w))) (N0.lm (tmI (z * w))), .int .i64 (teI (z * w) (e + h))]) ∧ Fit (v * u) 100000 ∧ canD (.agg [.bool (N0.neg (tmI (v * u))), .sl (N0.ln (tmI (v * u))) (N0.lm (tmI (v * u))), .int .i64 (teI (v * u) (f + g))]) ∧ Fit (v * w) 100000 ∧ canD (.agg [.bool (N0.neg (tmI (v * w))), .sl (N0.ln (tmI (v * w))) (N0.lm (tmI (v * w))), .int .i64 (teI (v * w) (f + h))]) ∧ near 60000 (.agg [.bool (N0.neg (tmI (z * u))), .sl (N0.ln (tmI (z * u))) (N0.lm (tmI (z * u))), .int .i64 (teI (z * u) (e + g))]) (.agg [.bool (N0.neg (tmI (z * w))), .sl (N0.ln (tmI (z * w))) (N0.lm (tmI (z * w))), .int .i64 (teI (z * w) (e + h))]) ∧ near 60000 (.agg [.bool (N0.neg (tmI (v * u))), .sl (N0.ln (tmI (v * u))) (N0.lm (tmI (v * u))), .int .i64 (teI (v * u) (f + g))]) (.agg [.bool (N0.neg (tmI (v * w))), .sl (N0.ln (tmI (v * w))) (N0.lm (tmI (v * w))), .int .i64 (teI (v * w) (f + h))]) ∧ canD (.agg [.bool (N0.neg (dmin ((tmI (z * u)), (teI (z * u) (e + g))) ((tmI (z * w)), (teI (z * w) (e + h)))).1), .sl (N0.ln (dmin ((tmI (z * u)), (teI (z * u) (e + g))) ((tmI (z * w)), (teI (z * w) (e + h)))).1) (N0.lm (dmin ((tmI (z * u)), (teI (z * u) (e + g))) ((tmI (z * w)), (teI (z * w) (e + h)))).1), .int .i64 (dmin ((tmI (z * u)), (teI (z * u) (e + g))) ((tmI (z * w)), (teI (z * w) (e + h)))).2]) ∧ canD (.agg [.bool (N0.neg (dmin ((tmI (v * u)), (teI (v * u) (f + g))) ((tmI (v * w)), (teI (v * w) (f + h)))).1), .sl (N0.ln (dmin ((tmI (v * u)), (teI (v * u) (f + g))) ((tmI (v * w)), (teI (v * w) (f + h)))).1) (N0.lm (dmin ((tmI (v * u)), (teI (v * u) (f + g))) ((tmI (v * w)), (teI (v * w) (f + h)))).1), .int .i64 (dmin ((tmI (v * u)), (teI (v * u) (f + g))) ((tmI (v * w)), (teI (v * w) (f + h)))).2]) ∧ near 60000 (.agg [.bool (N0.neg (dmin ((tmI (z * u)), (teI (z * u) (e + g))) ((tmI (z * w)), (teI (z * w) (e + h)))).1), .sl (N0.ln (dmin ((tmI (z * u)), (teI (z * u) (e + g))) ((tmI (z * w)), (teI (z * w) (e + h)))).1) (N0.lm (dmin ((tmI (z * u)), (teI (z * u) (e + g))) ((tmI (z * w)), (teI (z * w) (e + h)))).1), .int .i64 (dmin ((tmI (z * u)), (teI (z * u) (e + g))) ((tmI (z * w)), (teI (z * w) (e + h)))).2]) (.agg [.bool (N0.neg (dmin ((tmI (v * u)), (teI (v * u) (f + g))) ((tmI (v * w)), (teI (v * w) (f + h)))).1), .sl (N0.ln (dmin ((tmI (v * u)), (teI (v * u) (f + g))) ((tmI (v * w)), (teI (v * w) (f + h)))).1) (N0.lm (dmin ((tmI (v * u)), (teI (v * u) (f + g))) ((tmI (v * w)), (teI (v * w) (f + h)))).1), .int .i64 (dmin ((tmI (v * u)), (teI (v * u) (f + g))) ((tmI (v * w)), (teI (v * w) (f + h)))).2]) ∧ canD (.agg [.bool (N0.neg (dmax ((tmI (z * u)), (teI (z * u) (e + g))) ((tmI (z * w)), (teI (z * w) (e + h)))).1), .sl (N0.ln (dmax ((tmI (z * u)), (teI (z * u) (e + g))) ((tmI (z * w)), (teI (z * w) (e + h)))).1) (N0.lm (dmax ((tmI (z * u)), (teI (z * u) (e + g))) ((tmI (z * w)), (teI (z * w) (e + h)))).1), .int .i64 (dmax ((tmI (z * u)), (teI (z * u) (e + g))) ((tmI (z * w)), (teI (z * w) (e + h)))).2]) ∧ canD (.agg [.bool (N0.neg (dmax ((tmI (v * u)), (teI (v * u) (f + g))) ((tmI (v * w)), (teI (v * w) (f + h)))).1), .sl (N0.ln (dmax ((tmI (v * u)), (teI (v * u) (f + g))) ((tmI (v * w)), (teI (v * w) (f + h)))).1) (N0.lm (dmax ((tmI (v * u)), (teI (v * u) (f + g))) ((tmI (v * w)), (teI (v * w) (f + h)))).1), .int .i64 (dmax ((tmI (v * u)), (teI (v * u) (f + g))) ((tmI (v * w)), (teI (v * w) (f + h)))).2]) ∧ near 60000 (.agg [.bool (N0.neg (dmax ((tmI (z * u)), (teI (z * u) (e + g))) ((tmI (z * w)), (teI (z * w) (e + h)))).1), .sl (N0.ln (dmax ((tmI (z * u)), (teI (z * u) (e + g))) ((tmI (z * w)), (teI (z * w) (e + h)))).1) (N0.lm (dmax ((tmI (z * u)), (teI (z * u) (e + g))) ((tmI (z * w)), (teI (z * w) (e + h)))).1), .int .i64 (dmax ((tmI (z * u)), (teI (z * u) (e + g))) ((tmI (z * w)), (teI (z * w) (e + h)))).2]) (.agg [.bool (N0.neg (dmax ((tmI (v * u)), (teI (v * u) (f + g))) ((tmI (v * w)), (teI (v * w) (f + h)))).1), .sl (N0.ln (dmax ((tmI (v * u)), (teI (v * u) (f + g))) ((tmI (v * w)), (teI (v * w) (f + h)))).1) (N0.lm (dmax ((tmI (v * u)), (teI (v * u) (f + g))) ((tmI (v * w)), (teI (v * w) (f + h)))).1), .int .i64 (dmax ((tmI (v * u)), (teI (v * u) (f + g))) ((tmI (v * w)), (teI (v * w) (f + h)))).2]) := by
 have m1 : fD ((tmI (z * u)), (teI (z * u) (e + g))) 19200 30000 := hP.1.1.mono (by omega) (by omega)
 have s1 := (hx.1.1.mul hy.1.1 (Nat.le_refl _)).mono (show 38400 ≤ 100000 by omega)
 have s2 := canD_of (a := ((tmI (z * u)), (teI (z * u) (e + g)))) (mul_n (z, e) (u, g)) m1 (by omega) (by omega)
 have m2 : fD ((tmI (z * w)), (teI (z * w) (e + h))) 19200 30000 := hP.1.2.mono (by omega) (by omega)
 have s3 := (hx.1.1.mul hy.2.1 (Nat.le_refl _)).mono (show 38400 ≤ 100000 by omega)
 have s4 := canD_of (a := ((tmI (z * w)), (teI (z * w) (e + h)))) (mul_n (z, e) (w, h)) m2 (by omega) (by omega)
 have m3 : fD ((tmI (v * u)), (teI (v * u) (f + g))) 19200 30000 := hP.2.1.mono (by omega) (by omega)
 have s5 := (hx.2.1.mul hy.1.1 (Nat.le_refl _)).mono (show 38400 ≤ 100000 by omega)
 have s6 := canD_of (a := ((tmI (v * u)), (teI (v * u) (f + g)))) (mul_n (v, f) (u, g)) m3 (by omega) (by omega)
 have m4 : fD ((tmI (v * w)), (teI (v * w) (f + h))) 19200 30000 := hP.2.2.mono (by omega) (by omega)
 have s7 := (hx.2.1.mul hy.2.1 (Nat.le_refl _)).mono (show 38400 ≤ 100000 by omega)
 have s8 := canD_of (a := ((tmI (v * w)), (teI (v * w) (f + h)))) (mul_n (v, f) (w, h)) m4 (by omega) (by omega)
 have s9 : near 60000 (.agg [.bool (N0.neg (tmI (z * u))), .sl (N0.ln (tmI (z * u))) (N0.lm (tmI (z * u))), .int .i64 (teI (z * u) (e + g))]) (.agg [.bool (N0.neg (tmI (z * w))), .sl (N0.ln (tmI (z * w))) (N0.lm (tmI (z * w))), .int .i64 (teI (z * w) (e + h))]) := near_fD m1 m2
 have s10 : near 60000 (.agg [.bool (N0.neg (tmI (v * u))), .sl (N0.ln (tmI (v * u))) (N0.lm (tmI (v * u))), .int .i64 (teI (v * u) (f + g))]) (.agg [.bool (N0.neg (tmI (v * w))), .sl (N0.ln (tmI (v * w))) (N0.lm (tmI (v * w))), .int .i64 (teI (v * w) (f + h))]) := near_fD m3 m4
 have m5 : fD (dmin ((tmI (z * u)), (teI (z * u) (e + g))) ((tmI (z * w)), (teI (z * w) (e + h)))) 19200 30000 := fD_min m1 m2
 have s11 := canD_of (a := (dmin ((tmI (z * u)), (teI (z * u) (e + g))) ((tmI (z * w)), (teI (z * w) (e + h))))) (dmin_can (mul_n (z, e) (u, g)) (mul_n (z, e) (w, h))) m5 (by omega) (by omega)
 have m6 : fD (dmin ((tmI (v * u)), (teI (v * u) (f + g))) ((tmI (v * w)), (teI (v * w) (f + h)))) 19200 30000 := fD_min m3 m4
 have s12 := canD_of (a := (dmin ((tmI (v * u)), (teI (v * u) (f + g))) ((tmI (v * w)), (teI (v * w) (f + h))))) (dmin_can (mul_n (v, f) (u, g)) (mul_n (v, f) (w, h))) m6 (by omega) (by omega)
 have s13 : near 60000 (.agg [.bool (N0.neg (dmin ((tmI (z * u)), (teI (z * u) (e + g))) ((tmI (z * w)), (teI (z * w) (e + h)))).1), .sl (N0.ln (dmin ((tmI (z * u)), (teI (z * u) (e + g))) ((tmI (z * w)), (teI (z * w) (e + h)))).1) (N0.lm (dmin ((tmI (z * u)), (teI (z * u) (e + g))) ((tmI (z * w)), (teI (z * w) (e + h)))).1), .int .i64 (dmin ((tmI (z * u)), (teI (z * u) (e + g))) ((tmI (z * w)), (teI (z * w) (e + h)))).2]) (.agg [.bool (N0.neg (dmin ((tmI (v * u)), (teI (v * u) (f + g))) ((tmI (v * w)), (teI (v * w) (f + h)))).1), .sl (N0.ln (dmin ((tmI (v * u)), (teI (v * u) (f + g))) ((tmI (v * w)), (teI (v * w) (f + h)))).1) (N0.lm (dmin ((tmI (v * u)), (teI (v * u) (f + g))) ((tmI (v * w)), (teI (v * w) (f + h)))).1), .int .i64 (dmin ((tmI (v * u)), (teI (v * u) (f + g))) ((tmI (v * w)), (teI (v * w) (f + h)))).2]) := near_fD m5 m6
 have m7 : fD (dmax ((tmI (z * u)), (teI (z * u) (e + g))) ((tmI (z * w)), (teI (z * w) (e + h)))) 19200 30000 := fD_max m1 m2
 have s14 := canD_of (a := (dmax ((tmI (z * u)), (teI (z * u) (e + g))) ((tmI (z * w)), (teI (z * w) (e + h))))) (dmax_can (mul_n (z, e) (u, g)) (mul_n (z, e) (w, h))) m7 (by omega) (by omega)
 have m8 : fD (dmax ((tmI (v * u)), (teI (v * u) (f + g))) ((tmI (v * w)), (teI (v * w) (f + h)))) 19200 30000 := fD_max m3 m4
 have s15 := canD_of (a := (dmax ((tmI (v * u)), (teI (v * u) (f + g))) ((tmI (v * w)), (teI (v * w) (f + h))))) (dmax_can (mul_n (v, f) (u, g)) (mul_n (v, f) (w, h))) m8 (by omega) (by omega)
 have s16 : near 60000 (.agg [.bool (N0.neg (dmax ((tmI (z * u)), (teI (z * u) (e + g))) ((tmI (z * w)), (teI (z * w) (e + h)))).1), .sl (N0.ln (dmax ((tmI (z * u)), (teI (z * u) (e + g))) ((tmI (z * w)), (teI (z * w) (e + h)))).1) (N0.lm (dmax ((tmI (z * u)), (teI (z * u) (e + g))) ((tmI (z * w)), (teI (z * w) (e + h)))).1), .int .i64 (dmax ((tmI (z * u)), (teI (z * u) (e + g))) ((tmI (z * w)), (teI (z * w) (e + h)))).2]) (.agg [.bool (N0.neg (dmax ((tmI (v * u)), (teI (v * u) (f + g))) ((tmI (v * w)), (teI (v * w) (f + h)))).1), .sl (N0.ln (dmax ((tmI (v * u)), (teI (v * u) (f + g))) ((tmI (v * w)), (teI (v * w) (f + h)))).1) (N0.lm (dmax ((tmI (v * u)), (teI (v * u) (f + g))) ((tmI (v * w)), (teI (v * w) (f + h)))).1), .int .i64 (dmax ((tmI (v * u)), (teI (v * u) (f + g))) ((tmI (v * w)), (teI (v * w) (f + h)))).2]) := near_fD m7 m8
 exact ⟨s1, s2, s3, s4, s5, s6, s7, s8, s9, s10, s11, s12, s13, s14, s15, s16⟩
theorem good_yMulB : Good Tryz.prog (GWL [0, 1]) N0 110 s_yMulB := by
 refine goodM 0 (gc good_qMul <| gc good_yMin <| gc good_yMax gn) Tryz.f110 (by kernel_rfl) (by kernel_rfl) fun ds hp F A Q hF hA hQ => ?_
 obtain ⟨x, y, rfl, hx, hy, hPr⟩ := sp2_arg hp
 obtain ⟨z, e, v, f, s, n, cs, t, m, es, rfl, i1, i2, i3, i4, i5, i6, hz, he, hv, hf, hfz, he1, he2, hfv, hf1, hf2⟩ := canR_arg hx
 have cz : okC (N0.ln z) (N0.lm z) := okC_fitN hfz (by omega)
 have lz : N0.ln z ≤ 600 := ln_fit hfz
 have yz : canD (.agg [.bool (N0.neg z), .sl (N0.ln z) (N0.lm z), .int .i64 e]) := canD_N0 hz he (hfz.mono (by omega)) (by omega) (by omega)
 have cv : okC (N0.ln v) (N0.lm v) := okC_fitN hfv (by omega)
 have lv : N0.ln v ≤ 600 := ln_fit hfv
 have yv : canD (.agg [.bool (N0.neg v), .sl (N0.ln v) (N0.lm v), .int .i64 f]) := canD_N0 hv hf (hfv.mono (by omega)) (by omega) (by omega)
 have nX1 : Dy.n (z, e) = (z, e) := Prod.ext hz he
 have nX2 : Dy.n (v, f) = (v, f) := Prod.ext hv hf
 have fX : fR ((z, e), (v, f)) 19200 20000 := ⟨⟨hfz, he1, he2⟩, hfv, hf1, hf2⟩
 have rX : canR (.agg [.bool (N0.neg z), .sl (N0.ln z) (N0.lm z), .int .i64 e, .bool (N0.neg v), .sl (N0.ln v) (N0.lm v), .int .i64 f]) := canR_mk (r := ((z, e), (v, f))) nX1 nX2 fX
 obtain ⟨u, g, w, h, s2, n2, cs2, t2, m2, es2, rfl, j1, j2, j3, j4, j5, j6, hu, hg, hw, hh, hfu, hg1, hg2, hfw, hh1, hh2⟩ := canR_arg hy
 have cu : okC (N0.ln u) (N0.lm u) := okC_fitN hfu (by omega)
 have lu : N0.ln u ≤ 600 := ln_fit hfu
 have yu : canD (.agg [.bool (N0.neg u), .sl (N0.ln u) (N0.lm u), .int .i64 g]) := canD_N0 hu hg (hfu.mono (by omega)) (by omega) (by omega)
 have cw : okC (N0.ln w) (N0.lm w) := okC_fitN hfw (by omega)
 have lw : N0.ln w ≤ 600 := ln_fit hfw
 have yw : canD (.agg [.bool (N0.neg w), .sl (N0.ln w) (N0.lm w), .int .i64 h]) := canD_N0 hw hh (hfw.mono (by omega)) (by omega) (by omega)
 have nY1 : Dy.n (u, g) = (u, g) := Prod.ext hu hg
 have nY2 : Dy.n (w, h) = (w, h) := Prod.ext hw hh
 have fY : fR ((u, g), (w, h)) 19200 20000 := ⟨⟨hfu, hg1, hg2⟩, hfw, hh1, hh2⟩
 have rY : canR (.agg [.bool (N0.neg u), .sl (N0.ln u) (N0.lm u), .int .i64 g, .bool (N0.neg w), .sl (N0.ln w) (N0.lm w), .int .i64 h]) := canR_mk (r := ((u, g), (w, h))) nY1 nY2 fY
 clear hp hx hy
 cbv
 repeat' (first | with_reducible refine And.intro ?_ ?_ | (with_reducible refine safe_lift hA ?_; kernel_rfl) | (intro hc_; cbv))
 all_goals (repeat (rw [safe_true hA, true_and]; rotate_left; kernel_rfl))
 all_goals subst hF hA i1 i2 i3 i4 i5 i6 j1 j2 j3 j4 j5 j6
 all_goals simp only [fnOf, find, reduceIte, Nat.reduceEqDiff, sp2, a2, FnSpec.out, Shape.build, leafs, leafCells, List.cons_append, List.nil_append, s_yMulB, s_qMul, s_yMin, s_yMax, rv_raw, dv, dx, dcn, dm_raw, vI_N0, re4, Prod.eta] at *
 all_goals obtain ⟨s1, s2, s3, s4, s5, s6, s7, s8, s9, s10, s11, s12, s13, s14, s15, s16⟩ := ymulB_facts fX fY hPr
 all_goals (repeat' (first
  | with_reducible exact hQ
  | with_reducible assumption
  | with_reducible exact isi_int _ _
  | with_reducible refine okE_mk ?_
  | with_reducible refine okI_mk ?_
  | with_reducible refine okD_mk ?_ ?_ ?_
  | (with_reducible refine near_mk ?_ ?_; (focus omega); (focus omega))
  | omega
  | with_reducible refine And.intro ?_ ?_))
 all_goals first
  | exact Post.r hQ rfl
  | trace_state
theorem nb_place {a : Dy} (hn : a.n = a) (h : sz a 2000 2641) : -3000 ≤ (nb a.1.natAbs : Int) + a.2 ∧ (nb a.1.natAbs : Int) + a.2 ≤ 3000 := by
 rcases sz_low hn h with h0 | ⟨h1, h2, _⟩
 ·have : a = (0, 0) := by rw [← hn]; unfold Dy.n; rw [h0, tmI_zero, teI_zero]
  rw [this]; decide
 ·omega
def s_yInvB : FnSpec := sp2 (.tup [(true, [.I, .i .i64, .I, .i .i64]), (false, [.i .i64])]) (fun x y => (canR x ∧ rz (rv x) 2000 2641) ∧ isi .i64 y ∧ dz y ≤ 400) (fun x y i => match i with | 4 => er0 (rv x) | i => re4 (rinvZ (rv x) (dz y)) i) (fun _ _ _ => false)
theorem good_yInvB : Good Tryz.prog (GWL [0, 1]) N0 177 s_yInvB := by
 refine goodM 0 (gc good_qSign <| gc good_qOf <| gc good_rqDivB gn) Tryz.f177 (by kernel_rfl) (by kernel_rfl) fun ds hp F A Q hF hA hQ => ?_
 obtain ⟨x, y, rfl, ⟨hx, hxf⟩, hy, hk⟩ := sp2_arg hp
 obtain ⟨z, e, v, f, s, n, cs, t, m, es, rfl, i1, i2, i3, i4, i5, i6, hz, he, hv, hf, hfz, he1, he2, hfv, hf1, hf2⟩ := canR_arg hx
 have cz : okC (N0.ln z) (N0.lm z) := okC_fitN hfz (by omega)
 have lz : N0.ln z ≤ 600 := ln_fit hfz
 have yz : canD (.agg [.bool (N0.neg z), .sl (N0.ln z) (N0.lm z), .int .i64 e]) := canD_N0 hz he (hfz.mono (by omega)) (by omega) (by omega)
 have cv : okC (N0.ln v) (N0.lm v) := okC_fitN hfv (by omega)
 have lv : N0.ln v ≤ 600 := ln_fit hfv
 have yv : canD (.agg [.bool (N0.neg v), .sl (N0.ln v) (N0.lm v), .int .i64 f]) := canD_N0 hv hf (hfv.mono (by omega)) (by omega) (by omega)
 have nX1 : Dy.n (z, e) = (z, e) := Prod.ext hz he
 have nX2 : Dy.n (v, f) = (v, f) := Prod.ext hv hf
 have fX : fR ((z, e), (v, f)) 19200 20000 := ⟨⟨hfz, he1, he2⟩, hfv, hf1, hf2⟩
 have rX : canR (.agg [.bool (N0.neg z), .sl (N0.ln z) (N0.lm z), .int .i64 e, .bool (N0.neg v), .sl (N0.ln v) (N0.lm v), .int .i64 f]) := canR_mk (r := ((z, e), (v, f))) nX1 nX2 fX
 obtain ⟨k, rfl⟩ := isi_arg hy
 replace hxf : rz ((vI s cs, e), (vI t es, f)) 2000 2641 := hxf
 clear hp hx hy
 cbv
 repeat' (first | with_reducible refine And.intro ?_ ?_ | (with_reducible refine safe_lift hA ?_; kernel_rfl) | (intro hc_; cbv))
 all_goals (repeat (rw [safe_true hA, true_and]; rotate_left; kernel_rfl))
 all_goals subst hF hA i1 i2 i3 i4 i5 i6
 all_goals simp only [fnOf, find, std, reduceIte, Nat.reduceEqDiff, sp1, sp2, a1, a2, FnSpec.out, Shape.build, leafs, leafCells, tups, oneOf, List.cons_append, List.nil_append, List.length_cons, List.length_nil, s_yInvB, s_qSign, s_qOf, s_rqDivB, rv_raw, dz, dx, dm_raw, vI_N0, decide_eq_true_eq, decide_eq_false_iff_not, beq_dec, k1, k1e, re4, min_if, gt_iff_lt, sg_nonpos7, sg_nonneg7] at *
 all_goals have hxg : fR ((z, e), (v, f)) 4700 4700 := hxf.fR.mono (by omega) (by omega)
 all_goals have nbZ := nb_place hxf.1.2.1 hxf.2.1
 all_goals have nbV := nb_place hxf.1.2.2 hxf.2.2
 all_goals dsimp only at nbZ nbV
 all_goals have b1 := hxg.1.2
 all_goals have b2 := hxg.2.2
 all_goals have f1 : Fit z 5000 := hxg.1.1.mono (by omega)
 all_goals have f2 : Fit v 5000 := hxg.2.1.mono (by omega)
 all_goals have f3 := fit_1k 1 (by omega)
 all_goals have f4 := canD_N0 (e := 0) k1 (k1e 0) fit_1 (by decide) (by decide)
 all_goals dsimp only at b1 b2
 all_goals (repeat' (first
  | with_reducible exact hQ
  | with_reducible assumption
  | with_reducible exact isi_int _ _
  | with_reducible refine okE_mk ?_
  | with_reducible refine okI_mk ?_
  | with_reducible refine okD_mk ?_ ?_ ?_
  | (with_reducible refine near_mk ?_ ?_; (focus omega); (focus omega))
  | omega
  | exact nbZ.1
  | exact nbZ.2
  | exact nbV.1
  | exact nbV.2
  | with_reducible refine And.intro ?_ ?_))
 all_goals first
  | (have hz : zeroY ((z, e), (v, f)) = true := by show (decide _ && decide _) = true; rw [Bool.and_eq_true]; exact ⟨decide_eq_true (by assumption), decide_eq_true hc_⟩
     have h1 : rinvZ ((z, e), (v, f)) k = ((0, 0), (0, 0)) := if_pos hz
     have h2 : er0 ((z, e), (v, f)) = 11 := if_pos hz
     simp only [h1, h2, N0_neg0, N0_ln0, N0_lm0] at hQ; exact hQ)
  | (have hz : ¬zeroY ((z, e), (v, f)) = true := by
      show ¬(decide _ && decide _) = true; rw [Bool.and_eq_true]; (first | exact fun k => hc_ (of_decide_eq_true k.2) | exact fun k => by rw [hc_] at k; exact absurd k.1 (by decide))
     have h1 : rinvZ ((z, e), (v, f)) k = rinv ((z, e), (v, f)) k := if_neg hz
     have h2 : er0 ((z, e), (v, f)) = 0 := if_neg hz
     simp only [h1, h2] at hQ; exact hQ)
  | trace_state
def s_yRoundB : FnSpec := sp2 (.agg [.I, .i .i64, .I, .i .i64]) (fun x y => (canR x ∧ fR (rv x) 9700 9700) ∧ isi .i64 y) (fun x y i => re4 (rround (rv x) (dz y)) i) (fun _ _ _ => false)
theorem good_yRoundB : Good Tryz.prog (GWL [0, 1]) N0 128 s_yRoundB := by
 refine goodM 0 (gc good_qToB gn) Tryz.f128 (by kernel_rfl) (by kernel_rfl) fun ds hp F A Q hF hA hQ => ?_
 obtain ⟨x, y, rfl, ⟨hx, hxf⟩, hy⟩ := sp2_arg hp
 obtain ⟨z, e, v, f, s, n, cs, t, m, es, rfl, i1, i2, i3, i4, i5, i6, hz, he, hv, hf, hfz, he1, he2, hfv, hf1, hf2⟩ := canR_arg hx
 have cz : okC (N0.ln z) (N0.lm z) := okC_fitN hfz (by omega)
 have lz : N0.ln z ≤ 600 := ln_fit hfz
 have yz : canD (.agg [.bool (N0.neg z), .sl (N0.ln z) (N0.lm z), .int .i64 e]) := canD_N0 hz he (hfz.mono (by omega)) (by omega) (by omega)
 have cv : okC (N0.ln v) (N0.lm v) := okC_fitN hfv (by omega)
 have lv : N0.ln v ≤ 600 := ln_fit hfv
 have yv : canD (.agg [.bool (N0.neg v), .sl (N0.ln v) (N0.lm v), .int .i64 f]) := canD_N0 hv hf (hfv.mono (by omega)) (by omega) (by omega)
 have nX1 : Dy.n (z, e) = (z, e) := Prod.ext hz he
 have nX2 : Dy.n (v, f) = (v, f) := Prod.ext hv hf
 have fX : fR ((z, e), (v, f)) 19200 20000 := ⟨⟨hfz, he1, he2⟩, hfv, hf1, hf2⟩
 have rX : canR (.agg [.bool (N0.neg z), .sl (N0.ln z) (N0.lm z), .int .i64 e, .bool (N0.neg v), .sl (N0.ln v) (N0.lm v), .int .i64 f]) := canR_mk (r := ((z, e), (v, f))) nX1 nX2 fX
 obtain ⟨k, rfl⟩ := isi_arg hy
 clear hp hx hy
 cbv
 repeat' (first | with_reducible refine And.intro ?_ ?_ | (with_reducible refine safe_lift hA ?_; kernel_rfl) | (intro hc_; cbv))
 all_goals (repeat (rw [safe_true hA, true_and]; rotate_left; kernel_rfl))
 all_goals subst hF hA i1 i2 i3 i4 i5 i6
 all_goals simp only [fnOf, find, reduceIte, sp2, a2, FnSpec.out, Shape.build, leafs, leafCells, List.cons_append, List.nil_append, s_yRoundB, s_qToB, rv_raw, dz, dx, dm_raw, vI_N0, re4] at *
 all_goals have b1 := hxf.1.2
 all_goals have b2 := hxf.2.2
 all_goals have f1 : Fit z 9800 := hxf.1.1.mono (by omega)
 all_goals have f2 : Fit v 9800 := hxf.2.1.mono (by omega)
 all_goals dsimp only at b1 b2
 all_goals (repeat' (first
  | with_reducible exact hQ
  | with_reducible assumption
  | with_reducible exact isi_int _ _
  | with_reducible refine okE_mk ?_
  | with_reducible refine okI_mk ?_
  | with_reducible refine okD_mk ?_ ?_ ?_
  | (with_reducible refine near_mk ?_ ?_; (focus omega); (focus omega))
  | omega
  | with_reducible refine And.intro ?_ ?_))
 all_goals first
  | exact hQ
  | trace_state
def s_yDivB : FnSpec := ⟨.tup [(true, [.I, .i .i64, .I, .i .i64]), (false, [.i .i64])], fun ds => match ds with | [x, y, .int .i64 p] => (canR x ∧ rz (rv x) 1000 1320) ∧ (canR y ∧ rz (rv y) 2000 2641) ∧ p ≤ 200 | _ => False,
 fun ds i => match ds with | [x, y, .int _ p] => (match i with | 4 => er0 (rv y) | i => re4 (rdivZ (rv x) (rv y) p) i) | _ => 0, fun _ _ => false, fun _ _ => 0, fun _ _ => []⟩
theorem ydivB_arg {ds : List D} (h : s_yDivB.p ds) : ∃ x y p, ds = [x, y, .int .i64 p] ∧ (canR x ∧ rz (rv x) 1000 1320) ∧ (canR y ∧ rz (rv y) 2000 2641) ∧ p ≤ 200 := by
 unfold s_yDivB at h
 dsimp only at h
 split at h
 ·exact ⟨_, _, _, rfl, h⟩
 ·exact h.elim
theorem rz_invZ {y : Re} {M K P : Nat} (g : rz y M K) (hMK : M + K ≤ 14000) {p : Int} (hp : p ≤ P) (hP1 : 1 ≤ P) (hP : P ≤ 1000) : rz (rinvZ y p) (K + P) (M + 2) := by
 unfold rinvZ
 split
 ·exact rz_zero _ _
 ·rename_i hz
  have hh : ¬zeroY (rn y) = true := by rw [g.1.id]; exact hz
  have := not_zero hh
  rw [g.1.id] at this
  exact rz_inv g this hMK hp hP1 hP
theorem ydivB_facts {x y : Re} {k : Int} (hx : rz x 1000 1320) (hy : rz y 2000 2641) (hk : k ≤ 200) (he : er0 y = 0) : rdivZ x y k = rround (rmul x (rinvZ y k)) k ∧ canR (.agg [.bool (N0.neg (rinvZ y k).1.1), .sl (N0.ln (rinvZ y k).1.1) (N0.lm (rinvZ y k).1.1), .int .i64 (rinvZ y k).1.2, .bool (N0.neg (rinvZ y k).2.1), .sl (N0.ln (rinvZ y k).2.1) (N0.lm (rinvZ y k).2.1), .int .i64 (rinvZ y k).2.2]) ∧ prodOk x (rinvZ y k) ∧ canR (.agg [.bool (N0.neg (rmul x (rinvZ y k)).1.1), .sl (N0.ln (rmul x (rinvZ y k)).1.1) (N0.lm (rmul x (rinvZ y k)).1.1), .int .i64 (rmul x (rinvZ y k)).1.2, .bool (N0.neg (rmul x (rinvZ y k)).2.1), .sl (N0.ln (rmul x (rinvZ y k)).2.1) (N0.lm (rmul x (rinvZ y k)).2.1), .int .i64 (rmul x (rinvZ y k)).2.2]) ∧ fR (rmul x (rinvZ y k)) 9700 9700 := by
 have hz := er0_0 he
 have e1 : rinvZ y k = rinv y k := if_neg hz
 have e2 : rdivZ x y k = rdiv x y k := if_neg hz
 have g := rz_invZ (P := 200) hy (by omega) hk (by omega) (by omega)
 have f := rz_mul hx g
 exact ⟨by rw [e1, e2]; rfl, canR_c (g.c (by omega)), prodOk_cz hx.2 g.2 (by omega), canR_c (f.c (by omega)), f.fR.mono (by omega) (by omega)⟩
theorem good_yDivB : Good Tryz.prog (GWL [0, 1]) N0 124 s_yDivB := by
 refine goodM 0 (gc good_yInvB <| gc good_yMulB <| gc good_yRoundB gn) Tryz.f124 (by kernel_rfl) (by kernel_rfl) fun ds hp F A Q hF hA hQ => ?_
 obtain ⟨x, y, k, rfl, ⟨hx, hxf⟩, ⟨hy, hyf⟩, hk⟩ := ydivB_arg hp
 obtain ⟨z, e, v, f, s, n, cs, t, m, es, rfl, i1, i2, i3, i4, i5, i6, hz, he, hv, hf, hfz, he1, he2, hfv, hf1, hf2⟩ := canR_arg hx
 have cz : okC (N0.ln z) (N0.lm z) := okC_fitN hfz (by omega)
 have lz : N0.ln z ≤ 600 := ln_fit hfz
 have yz : canD (.agg [.bool (N0.neg z), .sl (N0.ln z) (N0.lm z), .int .i64 e]) := canD_N0 hz he (hfz.mono (by omega)) (by omega) (by omega)
 have cv : okC (N0.ln v) (N0.lm v) := okC_fitN hfv (by omega)
 have lv : N0.ln v ≤ 600 := ln_fit hfv
 have yv : canD (.agg [.bool (N0.neg v), .sl (N0.ln v) (N0.lm v), .int .i64 f]) := canD_N0 hv hf (hfv.mono (by omega)) (by omega) (by omega)
 have nX1 : Dy.n (z, e) = (z, e) := Prod.ext hz he
 have nX2 : Dy.n (v, f) = (v, f) := Prod.ext hv hf
 have fX : fR ((z, e), (v, f)) 19200 20000 := ⟨⟨hfz, he1, he2⟩, hfv, hf1, hf2⟩
 have rX : canR (.agg [.bool (N0.neg z), .sl (N0.ln z) (N0.lm z), .int .i64 e, .bool (N0.neg v), .sl (N0.ln v) (N0.lm v), .int .i64 f]) := canR_mk (r := ((z, e), (v, f))) nX1 nX2 fX
 obtain ⟨u, g, w, h, s2, n2, cs2, t2, m2, es2, rfl, j1, j2, j3, j4, j5, j6, hu, hg, hw, hh, hfu, hg1, hg2, hfw, hh1, hh2⟩ := canR_arg hy
 have cu : okC (N0.ln u) (N0.lm u) := okC_fitN hfu (by omega)
 have lu : N0.ln u ≤ 600 := ln_fit hfu
 have yu : canD (.agg [.bool (N0.neg u), .sl (N0.ln u) (N0.lm u), .int .i64 g]) := canD_N0 hu hg (hfu.mono (by omega)) (by omega) (by omega)
 have cw : okC (N0.ln w) (N0.lm w) := okC_fitN hfw (by omega)
 have lw : N0.ln w ≤ 600 := ln_fit hfw
 have yw : canD (.agg [.bool (N0.neg w), .sl (N0.ln w) (N0.lm w), .int .i64 h]) := canD_N0 hw hh (hfw.mono (by omega)) (by omega) (by omega)
 have nY1 : Dy.n (u, g) = (u, g) := Prod.ext hu hg
 have nY2 : Dy.n (w, h) = (w, h) := Prod.ext hw hh
 have fY : fR ((u, g), (w, h)) 19200 20000 := ⟨⟨hfu, hg1, hg2⟩, hfw, hh1, hh2⟩
 have rY : canR (.agg [.bool (N0.neg u), .sl (N0.ln u) (N0.lm u), .int .i64 g, .bool (N0.neg w), .sl (N0.ln w) (N0.lm w), .int .i64 h]) := canR_mk (r := ((u, g), (w, h))) nY1 nY2 fY
 clear hp hx hy
 cbv
 repeat' (first | with_reducible refine And.intro ?_ ?_ | (with_reducible refine safe_lift hA ?_; kernel_rfl) | (intro hc_; cbv))
 all_goals (repeat (rw [safe_true hA, true_and]; rotate_left; kernel_rfl))
 all_goals subst hF hA i1 i2 i3 i4 i5 i6 j1 j2 j3 j4 j5 j6
 all_goals simp only [fnOf, find, std, reduceIte, Nat.reduceEqDiff, sp2, a2, FnSpec.out, Shape.build, leafs, leafCells, tups, oneOf, List.cons_append, List.nil_append, List.length_cons, List.length_nil, s_yDivB, s_yInvB, s_yMulB, s_yRoundB, rv_raw, dz, vI_N0, beq_dec, re4, min_if, gt_iff_lt, Prod.eta] at *
 all_goals first
  | (have he0 : er0 ((u, g), (w, h)) = 0 := by first | (simpa using hc_; done) | fail
     obtain ⟨s1, s2, s3, s4, s5⟩ := ydivB_facts hxf hyf hk he0)
  | skip
 all_goals have hk4 : k ≤ 400 := by omega
 all_goals (repeat' (first
  | with_reducible exact hQ
  | with_reducible assumption
  | with_reducible exact isi_int _ _
  | with_reducible refine okE_mk ?_
  | with_reducible refine okI_mk ?_
  | with_reducible refine okD_mk ?_ ?_ ?_
  | (with_reducible refine near_mk ?_ ?_; (focus omega); (focus omega))
  | omega
  | with_reducible refine And.intro ?_ ?_))
 all_goals first
  | (simp only [s1, he0] at hQ; exact hQ)
  | (have hz := er0_1 (y := ((u, g), (w, h))) (by simpa using hc_)
     have hr : rdivZ ((z, e), (v, f)) ((u, g), (w, h)) k = ((0, 0), (0, 0)) := if_pos hz
     simp only [hr, N0_neg0, N0_ln0, N0_lm0] at hQ; exact hQ)
  | trace_state
def s_eInvB : FnSpec := sp2 (.tup [(true, [.I, .i .i64, .I, .i .i64]), (false, [.i .i64])]) (fun x y => okR x ∧ isi .i64 y) (fun x y i => match i with | 4 => er0 (rn (rv x)) | i => re4 (rinvZ (rn (rv x)) (dz y)) i) (fun _ _ _ => false)
theorem good_eInvB : Good Tryz.prog (GWL [0, 1]) N0 176 s_eInvB := by
 refine goodM 0 (gc good_eHas <| gc good_dOf <| gc good_eOrd <| gc good_kDiv gn) Tryz.f176 (by kernel_rfl) (by kernel_rfl) fun ds hp F A Q hF hA hQ => ?_
 obtain ⟨x, y, rfl, hx, hy⟩ := sp2_arg hp
 obtain ⟨s, n, cs, e, t, m, es, f, rfl, hc, hn, he1, he2, hc2, hm, hf1, hf2⟩ := okR_arg hx
 obtain ⟨k, rfl⟩ := isi_arg hy
 obtain ⟨s1, n1, c1, e1, t1, m1, d1, f1, o1, o2, o3, o4, o5, o6, o7, o8, oR, oa1, oa2, oa3, oa4, oa5, oa6, oa7, oa8, oN, oO, aK, aE⟩ := ord_pick (s := s) (t := t) (n := n) (m := m) (cs := cs) (es := es) (e := e) (f := f) ⟨hc, hn, he1, he2⟩ ⟨hc2, hm, hf1, hf2⟩
 obtain ⟨X, hX⟩ : ∃ X : Re, X = ((vI s cs, e), (vI t es, f)) := ⟨_, rfl⟩
 have hR : ro X = ((vI s1 c1, e1), (vI t1 d1, f1)) := by rw [hX]; exact oR
 rw [← hX] at o1 o2 o3 o4 o5 o6 o7 o8
 have hI := e_inv X k
 rw [hR] at hI
 clear hp hx hy oN oO oR aK aE
 cbv
 repeat' (first | with_reducible refine And.intro ?_ ?_ | (with_reducible refine safe_lift hA ?_; kernel_rfl) | (intro hc_; cbv))
 all_goals (repeat (rw [safe_true hA, true_and]; rotate_left; kernel_rfl))
 all_goals subst hF hA
 all_goals simp only [fnOf, find, reduceIte, Nat.reduceEqDiff, sp1, sp2, a1, a2, FnSpec.out, Shape.build, leafs, leafCells, tups, oneOf, List.cons_append, List.nil_append, List.length_cons, List.length_nil, s_eInvB, s_eHas, s_dOf, s_eOrd, s_kDiv, re4, rv_raw, dv, dz, dx, dcn, dm_raw, vI_N0, raw6_is, ← hX, o1, o2, o3, o4, o5, o6, o7, o8, tmI_zero, teI_zero, k1, k1e, hasB_zero, smD] at *
 all_goals have q0 := okT_0
 all_goals have q1 := okD_1
 all_goals have q2 := ln_1
 all_goals (repeat' (first
  | with_reducible exact hQ
  | with_reducible assumption
  | with_reducible exact isi_int _ _
  | with_reducible exact okR_mk hc hn he1 he2 hc2 hm hf1 hf2
  | with_reducible refine okD_mk ?_ ?_ ?_
  | with_reducible refine okT_mk ?_ ?_ ?_ ?_
  | with_reducible refine okR_mk ?_ ?_ ?_ ?_ ?_ ?_ ?_ ?_
  | (with_reducible refine near_mk ?_ ?_; (focus omega); (focus omega))
  | (with_reducible refine isC_mk ?_ ?_)
  | omega
  | with_reducible refine And.intro ?_ ?_))
 all_goals first
  | (have hz : zeroY (rn X) = true := by rw [zeroY_rn]; exact hc_
     have h1 : rinvZ (rn X) k = ((0, 0), (0, 0)) := if_pos hz
     have h2 : er0 (rn X) = 11 := if_pos hz
     simp only [h1, h2, N0_neg0, N0_ln0, N0_lm0] at hQ; exact hQ)
  | (have hz : ¬zeroY (rn X) = true := by rw [zeroY_rn, hc_]; decide
     have h1 : rinvZ (rn X) k = _ := (if_neg hz).trans hI
     have h2 : er0 (rn X) = 0 := if_neg hz
     simp only [h1, h2] at hQ; exact hQ)
  | trace_state
def s_eDivB : FnSpec := ⟨.tup [(true, [.I, .i .i64, .I, .i .i64]), (false, [.i .i64])], fun ds => match ds with | [x, y, .int .i64 p] => (s_eMul.okM x ∧ cz (rv x) 1000 1320) ∧ (okR y ∧ cz (rv y) 2000 2641) ∧ p ≤ 200 | _ => False,
 fun ds i => match ds with | [x, y, .int _ p] => (match i with | 4 => er0 (rn (rv y)) | i => re4 (rdivZ (rn (rv x)) (rn (rv y)) p) i) | _ => 0, fun _ _ => false, fun _ _ => 0, fun _ _ => []⟩
theorem edivB_arg {ds : List D} (h : s_eDivB.p ds) : ∃ x y p, ds = [x, y, .int .i64 p] ∧ (s_eMul.okM x ∧ cz (rv x) 1000 1320) ∧ (okR y ∧ cz (rv y) 2000 2641) ∧ p ≤ 200 := by
 unfold s_eDivB at h
 dsimp only at h
 split at h
 ·exact ⟨_, _, _, rfl, h⟩
 ·exact h.elim
theorem fin_invB {x : Re} (h : cz x 2000 2641) {p : Int} (hp : p ≤ 200) : rz (rinvZ (rn x) p) 2841 2002 := rz_invZ (P := 200) ⟨rcan_rn x, cz_rn h⟩ (by omega) hp (by omega) (by omega)
theorem good_eDivB : Good Tryz.prog (GWL [0, 1, 2, 3, 4, 5]) N0 123 s_eDivB := by
 refine goodM 0 (gl good_eInvB rfl <| gl good_eMul rfl <| gl good_eRound rfl gn) Tryz.f123 (by kernel_rfl) (by kernel_rfl) fun ds hp F A Q hF hA hQ => ?_
 obtain ⟨x, y, k, rfl, ⟨hmx, hx4⟩, ⟨hy, hy4⟩, hk⟩ := edivB_arg hp
 have hx := hmx.1
 obtain ⟨s, n, cs, e, t, m, es, f, rfl, hc, hn, he1, he2, hc2, hm, hf1, hf2⟩ := okR_arg hx
 obtain ⟨u, p, gs, g, v, q, hs, h, rfl, hc3, hp3, hg1, hg2, hc4, hq4, hh1, hh2⟩ := okR_arg hy
 have mX : s_eMul.okM (.agg [.bool s, .sl n cs, .int .i64 e, .bool t, .sl m es, .int .i64 f]) := hmx
 obtain ⟨X, hX⟩ : ∃ X : Re, X = ((vI s cs, e), (vI t es, f)) := ⟨_, rfl⟩
 obtain ⟨Y, hY⟩ : ∃ Y : Re, Y = ((vI u gs, g), (vI v hs, h)) := ⟨_, rfl⟩
 have zX : cz X 1000 1320 := by rw [hX]; exact hx4
 have zY : cz Y 2000 2641 := by rw [hY]; exact hy4
 clear hmx hx4 hy4
 clear hp
 cbv
 repeat' (first | with_reducible refine And.intro ?_ ?_ | (with_reducible refine safe_lift hA ?_; kernel_rfl) | (intro hc_; cbv))
 all_goals (repeat (rw [safe_true hA, true_and]; rotate_left; kernel_rfl))
 all_goals subst hF hA
 all_goals simp only [fnOf, find, std, reduceIte, Nat.reduceEqDiff, sp2, a2, FnSpec.out, Shape.build, leafs, leafCells, tups, oneOf, List.cons_append, List.nil_append, List.length_cons, List.length_nil, s_eDivB, s_eInvB, s_eMul, s_eRound, re4, rv_raw, dz, vI_N0, gt_iff_lt, ← hX, ← hY] at *
 all_goals first
  | (have he0 : er0 (rn Y) = 0 := by first | (simpa using hc_; done) | fail
     have z1 := fin_invB zY hk
     have s2 := z1.1.id
     have q1 := okM_fR (z1.fR.mono (show 2841 + 2002 ≤ 9568 by omega) (show 2841 + 2002 ≤ 15000 by omega))
     have hz := er0_0 he0
     have e1 : rdivZ (rn X) (rn Y) k = rround (rmul (rn X) (rinvZ (rn Y) k)) k := (if_neg hz).trans (by rw [show rinvZ (rn Y) k = rinv (rn Y) k from if_neg hz]; rfl)
     have z2 := rz_mul ⟨rcan_rn X, cz_rn zX⟩ z1
     have q2 := okR_fR (z2.fR.mono (show 1000 + 2841 + (1320 + 2002) ≤ 19200 by omega) (show 1000 + 2841 + (1320 + 2002) ≤ 50000 by omega))
     have e2 := z2.1.id
     (try simp only [s2, e2]))
  | skip
 all_goals (repeat' (first
  | with_reducible exact hQ
  | with_reducible assumption
  | with_reducible exact isi_int _ _
  | with_reducible exact okR_mk hc hn he1 he2 hc2 hm hf1 hf2
  | with_reducible refine okD_mk ?_ ?_ ?_
  | with_reducible refine okT_mk ?_ ?_ ?_ ?_
  | with_reducible refine okR_mk ?_ ?_ ?_ ?_ ?_ ?_ ?_ ?_
  | (with_reducible refine near_mk ?_ ?_; (focus omega); (focus omega))
  | (with_reducible refine isC_mk ?_ ?_)
  | omega
  | with_reducible refine And.intro ?_ ?_))
 all_goals first
  | (simp only [e1, he0] at hQ; exact hQ)
  | (have hz := er0_1 (y := rn Y) (by simpa using hc_)
     have hr : rdivZ (rn X) (rn Y) k = ((0, 0), (0, 0)) := if_pos hz
     simp only [hr, N0_neg0, N0_ln0, N0_lm0] at hQ; exact hQ)
  | trace_state
end Go.Proofs.YtkfojbelnemhbaaGreatDoor.Ev
