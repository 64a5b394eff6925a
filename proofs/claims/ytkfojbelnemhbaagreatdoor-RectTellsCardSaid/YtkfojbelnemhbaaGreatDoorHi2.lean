import Derived.Test.YtkfojbelnemhbaaGreatDoorHg
set_option maxHeartbeats 16000000
set_option maxRecDepth 100000
set_option linter.all false
namespace Go.Proofs.YtkfojbelnemhbaaGreatDoor.Ev
open Go Go.RowKit
def s_RectTells2 : FnSpec := ⟨.one .b, fun ds => match ds with | [x, y, c, .int .i64 n] => (okXP x ∧ okXP y ∧ okX c) ∧ meetB (rv8 x).1 (rv8 y).1 = true ∧ meetB (rv8 x).2 (rv8 y).2 = true | _ => False, fun _ _ => 0, fun _ _ => true, fun _ _ => 0, fun _ _ => []⟩
theorem RectTells2_arg {ds : List D} (h : s_RectTells2.p ds) : ∃ x y c n, ds = [x, y, c, .int .i64 n] ∧ (okXP x ∧ okXP y ∧ okX c) ∧ meetB (rv8 x).1 (rv8 y).1 = true ∧ meetB (rv8 x).2 (rv8 y).2 = true := by
 unfold s_RectTells2 at h
 dsimp only at h
 split at h
 ·exact ⟨_, _, _, _, rfl, h⟩
 ·exact h.elim
theorem good_RectTells2 : Good Tryz.prog (GWL [0, 1, 2, 3, 4, 5, 6]) N0 3 s_RectTells2 := by
 refine goodM 0 (gc good_known9 <| gl good_fewP9 rfl <| gl good_fewC9 rfl <| gl good_zRect rfl <| gc good_hMeet <| gl good_yMeet rfl <| gc good_hHas <| gl good_vCplx rfl <| gl good_zHas rfl <| gc good_hIn <| gl good_zIn rfl <| gc good_hAdd <| gl good_zAdd rfl <| gl good_zEqual rfl <| gc good_hSub <| gl good_yNeg rfl <| gc good_hMul <| gl good_zMul rfl <| gc good_hSquare <| gl good_zSquare rfl <| gc good_hPow <| gl good_zPow rfl <| gc good_hNorm <| gl good_zNorm rfl <| gl good_yEqual rfl <| gc good_hHull <| gl good_yHull rfl <| gc good_hMid <| gl good_zMid rfl <| gl good_vEqual rfl <| gc good_hSame <| gc good_hOf <| gl good_zPoint rfl gn) Tryz.f3 (by kernel_rfl) (by kernel_rfl) fun ds hp F A Q hF hA hQ => ?_
 obtain ⟨x, y, c, n, rfl, ⟨hx, hy, hc⟩, ⟨km, kn⟩⟩ := RectTells2_arg hp
 have hx_ := hx
 have hy_ := hy
 have hc_9 := hc
 obtain ⟨s1, n1, c1, e1, s2, n2, c2, e2, s3, n3, c3, e3, s4, n4, c4, e4, rfl, ⟨⟨g1, h1⟩, g2, h2⟩, ⟨g3, h3⟩, g4, h4⟩ := okXP_arg hx
 obtain ⟨t1, m1, d1, f1, t2, m2, d2, f2, t3, m3, d3, f3, t4, m4, d4, f4, rfl, ⟨⟨p1, q1⟩, p2, q2⟩, ⟨p3, q3⟩, p4, q4⟩ := okXP_arg hy
 obtain ⟨cs_, cn, cc, ce, ct, cm, cd, cf, rfl, cg1, ch1, cg2, ch2⟩ := okX_arg hc
 clear hp
 rcases four9 (a := fewQ n1 e1 n2 e2 n3 e3 n4 e4) (b := fewQ m1 f1 m2 f2 m3 f3 m4 f4) (c := ((cn ≤ 10 ∧ -1000 ≤ ce ∧ ce ≤ 1000) ∧ cm ≤ 10 ∧ -1000 ≤ cf ∧ cf ≤ 1000)) with kx | ⟨kx, ky⟩ | ⟨kx, ky, kd⟩ | ⟨kx, ky, kd⟩
 have hfx : decide (fewQ n1 e1 n2 e2 n3 e3 n4 e4) = false := decide_eq_false kx
 obtain ⟨e1_, e2_, hC, hX, hY, hfc, hfy, hk5, kB, kM, kN, kZ, x1_, x2_, x3_, x4_, x5_, x6_, x7_, x8_⟩ := trs
 rotate_left
 have hfx : decide (fewQ n1 e1 n2 e2 n3 e3 n4 e4) = true := decide_eq_true kx
 have hfy : decide (fewQ m1 f1 m2 f2 m3 f3 m4 f4) = false := decide_eq_false ky
 obtain ⟨e1_, e2_, hC, hX, hY, hfc, hk5, kB, kM, kN, kZ, x1_, x2_, x3_, x4_, x5_, x6_, x7_, x8_⟩ := trs
 rotate_left
 have hfx : decide (fewQ n1 e1 n2 e2 n3 e3 n4 e4) = true := decide_eq_true kx
 have hfy : decide (fewQ m1 f1 m2 f2 m3 f3 m4 f4) = true := decide_eq_true ky
 have hfc : decide (((cn ≤ 10 ∧ -1000 ≤ ce ∧ ce ≤ 1000) ∧ cm ≤ 10 ∧ -1000 ≤ cf ∧ cf ≤ 1000)) = false := decide_eq_false kd
 obtain ⟨e1_, e2_, hC, hX, hY, hk5, kB, kM, kN, kZ, x1_, x2_, x3_, x4_, x5_, x6_, x7_, x8_⟩ := trs
 rotate_left
 have hfx : decide (fewQ n1 e1 n2 e2 n3 e3 n4 e4) = true := decide_eq_true kx
 have hfy : decide (fewQ m1 f1 m2 f2 m3 f3 m4 f4) = true := decide_eq_true ky
 have hfc : decide (((cn ≤ 10 ∧ -1000 ≤ ce ∧ ce ≤ 1000) ∧ cm ≤ 10 ∧ -1000 ≤ cf ∧ cf ≤ 1000)) = true := decide_eq_true kd
 obtain ⟨X, hX, sX, lX, qX⟩ := fewP_all (s1 := s1) (s2 := s2) (s3 := s3) (s4 := s4) g1 g2 g3 g4 kx
 have mX := sX.1
 have oX := mX.1
 have zX := qX.1
 have tX := toldP_pz zX (by omega)
 have rX1 := canR_c (zX.1.c (by omega))
 have rX2 := canR_c (zX.2.c (by omega))
 obtain ⟨Y, hY, sY, lY, qY⟩ := fewP_all (s1 := t1) (s2 := t2) (s3 := t3) (s4 := t4) p1 p2 p3 p4 ky
 have mY := sY.1
 have oY := mY.1
 have zY := qY.1
 have tY := toldP_pz zY (by omega)
 have rY1 := canR_c (zY.1.c (by omega))
 have rY2 := canR_c (zY.2.c (by omega))
 obtain ⟨C, hC, oC, cC, zC, fC⟩ := fewC_all (s := cs_) (t := ct) cg1 cg2 kd
 have rC_ := canR_c (rC_cz cC zC)
 have e1_ : hasY (rcn X).1 (ca C).1 = hasB X.1 C.1 := hasY_ca X.1 C.1
 have e2_ : hasY (rcn X).2 (ca C).2 = hasB X.2 C.2 := hasY_ca X.2 C.2
 have hk5 := powN_min5 n
 have b1_ := toldP_pz (pz_add zX zY) (by omega)
 have b2_ := toldP_pz (pz_sub zX zY) (by omega)
 have b3_ := toldP_pz (pz_mul zX zY) (by omega)
 have b4_ := toldP_pz (pz_sq zX) (by omega)
 have b5_ := toldP_pz ((pz_pw zX (powN (min n 5))).mono (show 1000 * powN (min n 5) ≤ 5000 by omega) (show (1320 + 1) * powN (min n 5) + 1 ≤ 6606 by omega)) (by omega)
 have b6_ := canR_c ((pz_norm zX).c (by omega))
 have b7_ := toldP_pz (pz_hull zX zY) (by omega)
 have b8_ := toldP_pz (pz_meetZ zX zY) (by omega)
 have b9_ := toldP_pz (cz_pt cC zC) (by omega)
 have d1_ := canR_c ((rz_neg zY.1).c (by omega))
 have d2_ := canR_c ((rz_neg zY.2).c (by omega))
 have d3_ := (rz_neg zY.1).c (show 1000 + 1320 ≤ 19200 by omega)
 have d4_ := (rz_neg zY.2).c (show 1000 + 1320 ≤ 19200 by omega)
 have d5_ := (rz_hull zX.1 zY.1).c (show 1000 + 1320 ≤ 19200 by omega)
 have d6_ := (rz_hull zX.2 zY.2).c (show 1000 + 1320 ≤ 19200 by omega)
 have d7_ := (rz_rmeetZ zX.1 zY.1).c (show 1000 + 1320 ≤ 19200 by omega)
 have d8_ := (rz_rmeetZ zX.2 zY.2).c (show 1000 + 1320 ≤ 19200 by omega)
 have aM := rC_cadd zX
 have v1_ : canR (rel4 (pmid X)) := by rw [← pmid_rcn X]; exact canR_mid zX
 have v2_ : smallP (rcn X) (rcn Y) := ⟨_, _, _, _, zX, zY, by omega⟩
 have x1_ : padd (rcn X) (rneg (rcn Y).1, rneg (rcn Y).2) = psub (rcn X) (rcn Y) := rfl
 have x2_ : (rhull (rcn X).1 (rcn Y).1, rhull (rcn X).2 (rcn Y).2) = phull (rcn X) (rcn Y) := rfl
 have x3_ := dec_rc (rcn X) (rcn Y)
 have x4_ := pmid_rcn X
 have x5_ : inY (rcn X).1 (rcn Y).1 = inB X.1 Y.1 := inY_rn X.1 Y.1
 have x6_ : inY (rcn X).2 (rcn Y).2 = inB X.2 Y.2 := inY_rn X.2 Y.2
 have x7_ : decide (rn X.1 = rn Y.1) = decide ((rcn X).1 = (rcn Y).1) := rfl
 have x8_ : decide (rn X.2 = rn Y.2) = decide ((rcn X).2 = (rcn Y).2) := rfl
 have t0_ := toldP_0
 obtain ⟨A, hA_⟩ : ∃ A, A = rcn X := ⟨_, rfl⟩
 have tz_ := toldP_pz (pz_zero 0 0) (by omega)
 rw [hX, hY] at km
 have km1 := km
 rw [hX, hY] at kn
 have kn1 := kn
 obtain ⟨kB, kZ_⟩ := pm_yes km1 kn1
 have kZ : pmeetZ X Y = (rmeetZ (rcn X).1 (rcn Y).1, rmeetZ (rcn X).2 (rcn Y).2) := kZ_
 have kM : meetY (rcn X).1 (rcn Y).1 = true := km1
 have kN : meetY (rcn X).2 (rcn Y).2 = true := kn1
 rotate_left
 all_goals (cbv)
 all_goals (repeat' (first | with_reducible refine And.intro ?_ ?_ | (with_reducible refine safe_lift hA ?_; kernel_rfl) | (intro hc_; (first | (with_reducible exfalso; clear hQ; subst hF hA; simp only [fnOf, find, std, reduceIte, Nat.reduceEqDiff, sp1, sp2, a1, a2, FnSpec.out, Shape.build, leafs, leafCells, tups, oneOf, List.cons_append, List.nil_append, List.length_cons, List.length_nil, s_RectTells2, s_known9, s_fewP9, s_fewC9, s_zRect, s_hMeet, s_yMeet, s_hHas, s_vCplx, s_zHas, s_hIn, s_zIn, s_hAdd, s_zAdd, s_zEqual, s_hSub, s_yNeg, s_hMul, s_zMul, s_hSquare, s_zSquare, s_hPow, s_zPow, s_hNorm, s_zNorm, s_yEqual, s_hHull, s_yHull, s_hMid, s_zMid, s_vEqual, s_hSame, s_hOf, s_zPoint, re4, re8, rv_N0, rv8_N0, rv8_pair, rv8_0, rv_0, dv, dz, dx, dcn, dm_N0, vI_N0, rw12_is, raw6_is, Prod.eta, rcn_rcn, min_if, wrap_er, powN_2, Int.reduceNeg, Int.reduceEq, Int.reduceLT, Int.reduceLE, Int.reduceBEq, beq_dec, Int.reduceAdd, Int.zero_add, Int.add_zero, eq_self, Bool.not_eq_eq_eq_not, decide_eq_true_eq, decide_eq_false_iff_not, not_true_eq_false, not_false_eq_true, decide_true, decide_false, Bool.true_and, Bool.and_true, Bool.not_true, Bool.not_false, beq_self_eq_true, Bool.true_eq_false, Bool.false_eq_true, reduceCtorEq, gt_iff_lt, ge_iff_le, true_and, and_true, and_self, Bool.false_eq, Bool.and_self, hfx, hfy, hfc, hX, hY, hC, e1_, e2_, x1_, x2_, x3_, x4_, x5_, x6_, x7_, x8_, hk5, kB, kZ, kM, kN] at hc_; done) | (clear hc_; cbv)))))
 all_goals subst hF hA
 all_goals (try simp only [fnOf, find, std, reduceIte, Nat.reduceEqDiff, sp1, sp2, a1, a2, FnSpec.out, Shape.build, leafs, leafCells, tups, oneOf, List.cons_append, List.nil_append, List.length_cons, List.length_nil, s_RectTells2, s_known9, s_fewP9, s_fewC9, s_zRect, s_hMeet, s_yMeet, s_hHas, s_vCplx, s_zHas, s_hIn, s_zIn, s_hAdd, s_zAdd, s_zEqual, s_hSub, s_yNeg, s_hMul, s_zMul, s_hSquare, s_zSquare, s_hPow, s_zPow, s_hNorm, s_zNorm, s_yEqual, s_hHull, s_yHull, s_hMid, s_zMid, s_vEqual, s_hSame, s_hOf, s_zPoint, re4, re8, rv_N0, rv8_N0, rv8_pair, rv8_0, rv_0, dv, dz, dx, dcn, dm_N0, vI_N0, rw12_is, raw6_is, Prod.eta, rcn_rcn, min_if, wrap_er, powN_2, Int.reduceNeg, Int.reduceEq, Int.reduceLT, Int.reduceLE, Int.reduceBEq, beq_dec, Int.reduceAdd, Int.zero_add, Int.add_zero, eq_self, Bool.not_eq_eq_eq_not, decide_eq_true_eq, decide_eq_false_iff_not, not_true_eq_false, not_false_eq_true, decide_true, decide_false, Bool.true_and, Bool.and_true, Bool.not_true, Bool.not_false, beq_self_eq_true, Bool.true_eq_false, Bool.false_eq_true, reduceCtorEq, gt_iff_lt, ge_iff_le, true_and, and_true, and_self, Bool.false_eq, Bool.and_self, hfx, hfy, hfc, hX, hY, hC, e1_, e2_, x1_, x2_, x3_, x4_, x5_, x6_, x7_, x8_, hk5, kB, kZ, kM, kN] at hQ ⊢)
 all_goals (repeat' (first
  | with_reducible exact hQ
  | with_reducible assumption
  | with_reducible exact isi_int _ _
  | with_reducible exact True.intro
  | (with_reducible refine toldP_c (x := (_, _)) ?_ ?_ <;> with_reducible assumption)
  | (with_reducible refine canR_c (r := ((_, _), (_, _))) ?_; with_reducible assumption)
  | omega
  | with_reducible refine And.intro ?_ ?_))
end Go.Proofs.YtkfojbelnemhbaaGreatDoor.Ev
