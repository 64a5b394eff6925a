import Derived.Test.YtkfojbelnemhbaaGreatDoorHg
set_option maxHeartbeats 16000000
set_option maxRecDepth 100000
set_option linter.all false
namespace Go.Proofs.YtkfojbelnemhbaaGreatDoor.Ev
open Go Go.RowKit
theorem okR_czg {a : Re} {L H : Nat} (h : ccan a) (k : cz a L H) (hl : L + H ≤ 19200) : okR (rel4 a) := okR_c ⟨h.1, h.2, (cz_can h k).mono (by omega) (by omega)⟩
theorem canR_czg {a : Re} {L H : Nat} (h : ccan a) (k : cz a L H) (hl : L + H ≤ 19200) : canR (rel4 a) := canR_c ⟨h.1, h.2, (cz_can h k).mono (by omega) (by omega)⟩
theorem hasY_in {r : Re} {d : Dy} (h : rin r (qv d)) : hasY r d = true := by
 unfold hasY; rw [Bool.and_eq_true, decide_eq_true_iff, decide_eq_true_iff]; exact ⟨le_cmp h.1, le_cmp h.2⟩
theorem dC_szR {x : Dy} {L H : Nat} (hc : x.n = x) (h : sz x L H) (hb : L + H ≤ 19200) : dC x := ⟨hc, (sz_can hc h).mono (by omega) (by omega)⟩
theorem zero_pt {x : Re} (h : er0 (pnorm (ppt x)) = 0) : (decide (sg x.1.1 = 0) && decide (sg x.2.1 = 0)) = false := by
 rcases er0_pt x with ⟨k, _⟩ | ⟨_, k⟩
 ·rw [h] at k; cases k
 ·cases hh : (decide (sg x.1.1 = 0) && decide (sg x.2.1 = 0)) with
  | false => rfl
  | true => rw [Bool.and_eq_true, decide_eq_true_iff, decide_eq_true_iff, sg_eq, sg_eq] at hh; exact absurd hh k
theorem zero_pt1 {x : Re} (h : ¬er0 (pnorm (ppt x)) = 0) : er0 (pnorm (ppt x)) = 11 ∧ (decide (sg x.1.1 = 0) && decide (sg x.2.1 = 0)) = true := by
 rcases er0_pt x with ⟨k, k1, k2⟩ | ⟨k, _⟩
 ·exact ⟨k, by rw [k1, k2]; rfl⟩
 ·exact absurd k h
theorem okE_dC {a : Dy} (h : dC a) : okE (.agg [.bool (N0.neg a.1), .sl (N0.ln a.1) (N0.lm a.1), .int .i64 a.2]) := okC_fitN h.2.1 (by omega)
theorem same_self (x : D) (h : okE x) : sameI x x = true := by
 obtain ⟨s, n, cs, e, rfl, _⟩ := okE_arg h
 unfold sameI; simp
def s_RectPoints : FnSpec := ⟨.one .b, fun ds => match ds with | [a, b, .int .u8 n] => okX a ∧ okX b ∧ 0 ≤ n ∧ n ≤ 255 | _ => False, fun _ _ => 0, fun _ _ => true, fun _ _ => 0, fun _ _ => []⟩
theorem RectPoints_arg {ds : List D} (h : s_RectPoints.p ds) : ∃ a b n, ds = [a, b, .int .u8 n] ∧ okX a ∧ okX b ∧ 0 ≤ n ∧ n ≤ 255 := by
 unfold s_RectPoints at h
 dsimp only at h
 split at h
 ·exact ⟨_, _, _, rfl, h⟩
 ·exact h.elim
theorem good_RectPoints : Good Tryz.prog (GWL [0, 1, 2, 3, 4, 5, 6]) N0 7 s_RectPoints := by
 refine goodM 0 (gc good_known9 <| gl good_fewC9 rfl <| gl good_vCplx rfl <| gc good_hOf <| gc good_hDiv <| gl good_vZero rfl <| gc good_hMul <| gl good_vMul rfl <| gl good_zPoint rfl <| gl good_zEqual rfl <| gc good_hAdd <| gl good_vAdd rfl <| gc good_hHas <| gc good_hNorm <| gl good_vNorm rfl <| gl good_qEqual rfl gn) Tryz.f7 (by kernel_rfl) (by kernel_rfl) fun ds hp F A Q hF hA hQ => ?_
 obtain ⟨a, b, n, rfl, ha, hb, hn1, hn2⟩ := RectPoints_arg hp
 have ha_ := ha
 have hb_ := hb
 obtain ⟨us, un, uc, ue, ut, um, ud, uf, rfl, ug1, uh1, ug2, uh2⟩ := okX_arg ha
 obtain ⟨ws, wn, wc, we, wt, wm, wd, wf, rfl, wg1, wh1, wg2, wh2⟩ := okX_arg hb
 clear hp
 have htn : 0 ≤ n.tmod 80 ∧ n.tmod 80 ≤ 79 := by rw [Int.tmod_eq_emod_of_nonneg hn1]; omega
 rcases four9 (a := ((un ≤ 10 ∧ -1000 ≤ ue ∧ ue ≤ 1000) ∧ um ≤ 10 ∧ -1000 ≤ uf ∧ uf ≤ 1000)) (b := ((wn ≤ 10 ∧ -1000 ≤ we ∧ we ≤ 1000) ∧ wm ≤ 10 ∧ -1000 ≤ wf ∧ wf ≤ 1000)) (c := er0 (pnorm (ppt (ca (rv (.agg [.bool ws, .sl wn wc, .int .i64 we, .bool wt, .sl wm wd, .int .i64 wf]))))) = 0) with kd | ⟨kd, ke⟩ | ⟨kd, ke, kz⟩ | ⟨kd, ke, kz⟩
 have hfs : decide (((un ≤ 10 ∧ -1000 ≤ ue ∧ ue ≤ 1000) ∧ um ≤ 10 ∧ -1000 ≤ uf ∧ uf ≤ 1000)) = false := decide_eq_false kd
 obtain ⟨e1_, e2_, e3_, hS, hT, hb4, hft, hz1, hz2, iD, iP, iQ, kz, sS_, wb, wb1⟩ := trs
 rotate_left
 have hfs : decide (((un ≤ 10 ∧ -1000 ≤ ue ∧ ue ≤ 1000) ∧ um ≤ 10 ∧ -1000 ≤ uf ∧ uf ≤ 1000)) = true := decide_eq_true kd
 have hft : decide (((wn ≤ 10 ∧ -1000 ≤ we ∧ we ≤ 1000) ∧ wm ≤ 10 ∧ -1000 ≤ wf ∧ wf ≤ 1000)) = false := decide_eq_false ke
 obtain ⟨e1_, e2_, e3_, hS, hT, hb4, hz1, hz2, iD, iP, iQ, kz, sS_, wb, wb1⟩ := trs
 rotate_left
 have hfs : decide (((un ≤ 10 ∧ -1000 ≤ ue ∧ ue ≤ 1000) ∧ um ≤ 10 ∧ -1000 ≤ uf ∧ uf ≤ 1000)) = true := decide_eq_true kd
 have hft : decide (((wn ≤ 10 ∧ -1000 ≤ we ∧ we ≤ 1000) ∧ wm ≤ 10 ∧ -1000 ≤ wf ∧ wf ≤ 1000)) = true := decide_eq_true ke
 obtain ⟨S, hS, oS, cS, zS, fS⟩ := fewC_all (s := us) (t := ut) ug1 ug2 kd
 have rcS := canR_c (rC_cz cS zS)
 obtain ⟨T, hT, oT, cT, zT, fT⟩ := fewC_all (s := ws) (t := wt) wg1 wg2 ke
 have rcT := canR_c (rC_cz cT zT)
 have zP := cz_pt cS zS
 have zQ := cz_pt cT zT
 have xP := zP.can
 have xQ := zQ.can
 have iP := xP.id
 have iQ := xQ.id
 have sP := smP_pz zP
 have sQ := smP_pz zQ
 have mP := sP.1
 have mQ := sQ.1
 have oP := mP.1
 have oQ := mQ.1
 have wb : IntKind.i64.wrap (n.tmod 80) = n.tmod 80 := wrap_in (by omega) (by omega)
 have wb1 : IntKind.i64.wrap (n.tmod 80 + 4) = n.tmod 80 + 4 := wrap_in (by omega) (by omega)
 have hp2 : n.tmod 80 + 4 ≤ 200 := by omega
 have zD := pz_div zP zQ hp2
 have mD := okPM_pz zD (by omega)
 have iD := zD.can.id
 have zM := pz_mul zD zQ
 have oM := okP_pz zM (by omega)
 have m1_ : smallM (ca S) (ca T) := ⟨_, _, _, _, zS, zT, by omega⟩
 have m2_ : smallM (ca S) (ca S) := ⟨_, _, _, _, zS, zS, by omega⟩
 have cM : ccan (cmul (ca S) (ca T)) := ⟨sub_n _ _, add_n _ _⟩
 have cA : ccan (cadd (ca S) (ca T)) := ⟨add_n _ _, add_n _ _⟩
 have w1_ := canR_czg cM (cz_mul zS zT) (by omega)
 have w2_ := canR_czg cA (cz_add zS zT) (by omega)
 have t1_ := toldP_pz (cz_pt cM (cz_mul zS zT)) (by omega)
 have t2_ := toldP_pz (cz_pt cA (cz_add zS zT)) (by omega)
 have e1_ := pmul_pt (ca S) (ca T)
 have e2_ := padd_pt (ca S) (ca T)
 have e3_ := pnorm_pt (ca S)
 have dS0 := dC_szR (norm_n _) (cz_norm zS) (by omega)
 have dS_ := canD_c dS0
 have eS_ := okE_dC dS0
 have sS_ := same_self _ eS_
 have vS_ := okR_cz cS zS
 have hb3 : ∀ h : er0 (pnorm (ppt (ca T))) = 0, (hasB (pmul (pdivZ (ppt (ca S)) (ppt (ca T)) (n.tmod 80 + 4)) (ppt (ca T))).1 (ca S).1 && hasB (pmul (pdivZ (ppt (ca S)) (ppt (ca T)) (n.tmod 80 + 4)) (ppt (ca T))).2 (ca S).2) = true := fun h => phas_of zM.can (div_back xQ (pat_pt _) (pat_pt _) h _)
 rw [hT] at kz
 obtain ⟨hz1, hz2⟩ := zero_pt1 kz
 have hb4 := trivial
 rotate_left
 have hfs : decide (((un ≤ 10 ∧ -1000 ≤ ue ∧ ue ≤ 1000) ∧ um ≤ 10 ∧ -1000 ≤ uf ∧ uf ≤ 1000)) = true := decide_eq_true kd
 have hft : decide (((wn ≤ 10 ∧ -1000 ≤ we ∧ we ≤ 1000) ∧ wm ≤ 10 ∧ -1000 ≤ wf ∧ wf ≤ 1000)) = true := decide_eq_true ke
 obtain ⟨S, hS, oS, cS, zS, fS⟩ := fewC_all (s := us) (t := ut) ug1 ug2 kd
 have rcS := canR_c (rC_cz cS zS)
 obtain ⟨T, hT, oT, cT, zT, fT⟩ := fewC_all (s := ws) (t := wt) wg1 wg2 ke
 have rcT := canR_c (rC_cz cT zT)
 have zP := cz_pt cS zS
 have zQ := cz_pt cT zT
 have xP := zP.can
 have xQ := zQ.can
 have iP := xP.id
 have iQ := xQ.id
 have sP := smP_pz zP
 have sQ := smP_pz zQ
 have mP := sP.1
 have mQ := sQ.1
 have oP := mP.1
 have oQ := mQ.1
 have wb : IntKind.i64.wrap (n.tmod 80) = n.tmod 80 := wrap_in (by omega) (by omega)
 have wb1 : IntKind.i64.wrap (n.tmod 80 + 4) = n.tmod 80 + 4 := wrap_in (by omega) (by omega)
 have hp2 : n.tmod 80 + 4 ≤ 200 := by omega
 have zD := pz_div zP zQ hp2
 have mD := okPM_pz zD (by omega)
 have iD := zD.can.id
 have zM := pz_mul zD zQ
 have oM := okP_pz zM (by omega)
 have m1_ : smallM (ca S) (ca T) := ⟨_, _, _, _, zS, zT, by omega⟩
 have m2_ : smallM (ca S) (ca S) := ⟨_, _, _, _, zS, zS, by omega⟩
 have cM : ccan (cmul (ca S) (ca T)) := ⟨sub_n _ _, add_n _ _⟩
 have cA : ccan (cadd (ca S) (ca T)) := ⟨add_n _ _, add_n _ _⟩
 have w1_ := canR_czg cM (cz_mul zS zT) (by omega)
 have w2_ := canR_czg cA (cz_add zS zT) (by omega)
 have t1_ := toldP_pz (cz_pt cM (cz_mul zS zT)) (by omega)
 have t2_ := toldP_pz (cz_pt cA (cz_add zS zT)) (by omega)
 have e1_ := pmul_pt (ca S) (ca T)
 have e2_ := padd_pt (ca S) (ca T)
 have e3_ := pnorm_pt (ca S)
 have dS0 := dC_szR (norm_n _) (cz_norm zS) (by omega)
 have dS_ := canD_c dS0
 have eS_ := okE_dC dS0
 have sS_ := same_self _ eS_
 have vS_ := okR_cz cS zS
 have hb3 : ∀ h : er0 (pnorm (ppt (ca T))) = 0, (hasB (pmul (pdivZ (ppt (ca S)) (ppt (ca T)) (n.tmod 80 + 4)) (ppt (ca T))).1 (ca S).1 && hasB (pmul (pdivZ (ppt (ca S)) (ppt (ca T)) (n.tmod 80 + 4)) (ppt (ca T))).2 (ca S).2) = true := fun h => phas_of zM.can (div_back xQ (pat_pt _) (pat_pt _) h _)
 rw [hT] at kz
 have hb4 := hb3 kz
 have hz2 := zero_pt kz
 have hz1 := trivial
 rotate_left
 all_goals (cbv)
 all_goals (repeat' (first | with_reducible refine And.intro ?_ ?_ | (with_reducible refine safe_lift hA ?_; kernel_rfl) | (intro hc_; (first | (with_reducible exfalso; clear hQ; subst hF hA; simp only [fnOf, find, std, reduceIte, Nat.reduceEqDiff, sp1, sp2, a1, a2, FnSpec.out, Shape.build, leafs, leafCells, tups, oneOf, List.cons_append, List.nil_append, List.length_cons, List.length_nil, s_RectPoints, s_known9, s_fewC9, s_vCplx, s_hOf, s_hDiv, s_vZero, s_hMul, s_vMul, s_zPoint, s_zEqual, s_hAdd, s_vAdd, s_hHas, s_hNorm, s_vNorm, s_qEqual, re4, re8, rv_N0, rv8_N0, rv8_pair, rv8_0, rv_0, dv, dz, dx, dcn, dm_N0, vI_N0, rw12_is, raw6_is, Prod.eta, rcn_rcn, min_if, wrap_er, powN_2, Int.reduceNeg, Int.reduceEq, Int.reduceLT, Int.reduceLE, Int.reduceBEq, beq_dec, Int.reduceAdd, Int.zero_add, Int.add_zero, eq_self, Bool.not_eq_eq_eq_not, decide_eq_true_eq, decide_eq_false_iff_not, not_true_eq_false, not_false_eq_true, decide_true, decide_false, Bool.true_and, Bool.and_true, Bool.not_true, Bool.not_false, beq_self_eq_true, Bool.true_eq_false, Bool.false_eq_true, reduceCtorEq, gt_iff_lt, ge_iff_le, true_and, and_true, and_self, Bool.false_eq, Bool.and_self, hfs, hft, hS, hT, iP, iQ, wb, wb1, hz1, hz2, e1_, e2_, e3_, sS_, iD, kz, hb4] at hc_; done) | (clear hc_; cbv)))))
 all_goals subst hF hA
 all_goals (try simp only [fnOf, find, std, reduceIte, Nat.reduceEqDiff, sp1, sp2, a1, a2, FnSpec.out, Shape.build, leafs, leafCells, tups, oneOf, List.cons_append, List.nil_append, List.length_cons, List.length_nil, s_RectPoints, s_known9, s_fewC9, s_vCplx, s_hOf, s_hDiv, s_vZero, s_hMul, s_vMul, s_zPoint, s_zEqual, s_hAdd, s_vAdd, s_hHas, s_hNorm, s_vNorm, s_qEqual, re4, re8, rv_N0, rv8_N0, rv8_pair, rv8_0, rv_0, dv, dz, dx, dcn, dm_N0, vI_N0, rw12_is, raw6_is, Prod.eta, rcn_rcn, min_if, wrap_er, powN_2, Int.reduceNeg, Int.reduceEq, Int.reduceLT, Int.reduceLE, Int.reduceBEq, beq_dec, Int.reduceAdd, Int.zero_add, Int.add_zero, eq_self, Bool.not_eq_eq_eq_not, decide_eq_true_eq, decide_eq_false_iff_not, not_true_eq_false, not_false_eq_true, decide_true, decide_false, Bool.true_and, Bool.and_true, Bool.not_true, Bool.not_false, beq_self_eq_true, Bool.true_eq_false, Bool.false_eq_true, reduceCtorEq, gt_iff_lt, ge_iff_le, true_and, and_true, and_self, Bool.false_eq, Bool.and_self, hfs, hft, hS, hT, iP, iQ, wb, wb1, hz1, hz2, e1_, e2_, e3_, sS_, iD, kz, hb4] at hQ ⊢)
 all_goals (repeat' (first
  | with_reducible exact hQ
  | with_reducible assumption
  | with_reducible exact isi_int _ _
  | with_reducible exact True.intro
  | (with_reducible refine toldP_c (x := (_, _)) ?_ ?_ <;> with_reducible assumption)
  | (with_reducible refine canR_c (r := ((_, _), (_, _))) ?_; with_reducible assumption)
  | omega
  | with_reducible refine And.intro ?_ ?_))
end Go.Proofs.YtkfojbelnemhbaaGreatDoor.Ev
