import Derived.Test.YtkfojbelnemhbaaGreatDoorHg
set_option maxHeartbeats 16000000
set_option maxRecDepth 100000
set_option linter.all false
namespace Go.Proofs.YtkfojbelnemhbaaGreatDoor.Ev
open Go Go.RowKit
def s_RectLess : FnSpec := ⟨.one .b, fun ds => match ds with | [x, y, z, .int .u8 n] => okXP x ∧ okXP y ∧ okXP z ∧ 0 ≤ n ∧ n ≤ 255 | _ => False, fun _ _ => 0, fun _ _ => true, fun _ _ => 0, fun _ _ => []⟩
theorem RectLess_arg {ds : List D} (h : s_RectLess.p ds) : ∃ x y z n, ds = [x, y, z, .int .u8 n] ∧ okXP x ∧ okXP y ∧ okXP z ∧ 0 ≤ n ∧ n ≤ 255 := by
 unfold s_RectLess at h
 dsimp only at h
 split at h
 ·exact ⟨_, _, _, _, rfl, h⟩
 ·exact h.elim
theorem inB_rn (X Y : Re) : inB (rn X) (rn Y) = inB X Y := by rw [← inY_rn, rn_rn, rn_rn, inY_rn]
theorem inB_r (X Y : Re) : inB X (rn Y) = inB X Y := by rw [← inB_rn X (rn Y), rn_rn, inB_rn]
theorem met_less {X Y : Rc} (h : pmeetZ X Y = (rmeetZ (rn X.1) (rn Y.1), rmeetZ (rn X.2) (rn Y.2))) (h1 : meetB X.1 Y.1 = true) (h2 : meetB X.2 Y.2 = true) : psub_ (pmeetZ X Y) (rcn X) ∧ psub_ (pmeetZ X Y) (rcn Y) := by
 rw [h, rmeetZ_y h1, rmeetZ_y h2]
 exact ⟨⟨(rmeet_less).1, (rmeet_less).1⟩, (rmeet_less).2, (rmeet_less).2⟩
theorem good_RectLess : Good Tryz.prog (GWL [0, 1, 2, 3, 4, 5, 6]) N0 6 s_RectLess := by
 refine goodM 0 (gc good_known9 <| gl good_fewP9 rfl <| gc good_hMeet <| gc good_hIn <| gc good_hSame <| gc good_hAdd <| gc good_hMul <| gc good_hPow <| gc good_hSquare <| gc good_hHull <| gc good_hHas <| gc good_hMid gn) Tryz.f6 (by kernel_rfl) (by kernel_rfl) fun ds hp F A Q hF hA hQ => ?_
 obtain ⟨x, y, z, n, rfl, hx, hy, hz, hn1, hn2⟩ := RectLess_arg hp
 have hx_ := hx
 have hy_ := hy
 have hz_ := hz
 obtain ⟨s1, n1, c1, e1, s2, n2, c2, e2, s3, n3, c3, e3, s4, n4, c4, e4, rfl, ⟨⟨g1, h1⟩, g2, h2⟩, ⟨g3, h3⟩, g4, h4⟩ := okXP_arg hx
 obtain ⟨t1, m1, d1, f1, t2, m2, d2, f2, t3, m3, d3, f3, t4, m4, d4, f4, rfl, ⟨⟨p1, q1⟩, p2, q2⟩, ⟨p3, q3⟩, p4, q4⟩ := okXP_arg hy
 obtain ⟨w1, l1, b1, v1, w2, l2, b2, v2, w3, l3, b3, v3, w4, l4, b4, v4, rfl, ⟨⟨i1, j1⟩, i2, j2⟩, ⟨i3, j3⟩, i4, j4⟩ := okXP_arg hz
 clear hp
 have htn : 0 ≤ n.tmod 4 ∧ n.tmod 4 ≤ 3 := by rw [Int.tmod_eq_emod_of_nonneg hn1]; omega
 rcases six9 (a := fewQ n1 e1 n2 e2 n3 e3 n4 e4) (b := fewQ m1 f1 m2 f2 m3 f3 m4 f4) (c := fewQ l1 v1 l2 v2 l3 v3 l4 v4) (meetB (rv8 (.agg [.bool s1, .sl n1 c1, .int .i64 e1, .bool s2, .sl n2 c2, .int .i64 e2, .bool s3, .sl n3 c3, .int .i64 e3, .bool s4, .sl n4 c4, .int .i64 e4])).1 (rv8 (.agg [.bool t1, .sl m1 d1, .int .i64 f1, .bool t2, .sl m2 d2, .int .i64 f2, .bool t3, .sl m3 d3, .int .i64 f3, .bool t4, .sl m4 d4, .int .i64 f4])).1) (meetB (rv8 (.agg [.bool s1, .sl n1 c1, .int .i64 e1, .bool s2, .sl n2 c2, .int .i64 e2, .bool s3, .sl n3 c3, .int .i64 e3, .bool s4, .sl n4 c4, .int .i64 e4])).2 (rv8 (.agg [.bool t1, .sl m1 d1, .int .i64 f1, .bool t2, .sl m2 d2, .int .i64 f2, .bool t3, .sl m3 d3, .int .i64 f3, .bool t4, .sl m4 d4, .int .i64 f4])).2) with kx | ⟨kx, ky⟩ | ⟨kx, ky, kz⟩ | ⟨kx, ky, kz, km⟩ | ⟨kx, ky, kz, km, kn⟩ | ⟨kx, ky, kz, km, kn⟩
 have hfx : decide (fewQ n1 e1 n2 e2 n3 e3 n4 e4) = false := decide_eq_false kx
 obtain ⟨a1_, a2_, a3_, a4_, a5_, a6_, a7_, a8_, hI, hW2, hX, hY, hZ, hfy, hfz, iW, iW1, iW2, kB, kZ, rz0, rz1, rz2, wn⟩ := trs
 rotate_left
 have hfx : decide (fewQ n1 e1 n2 e2 n3 e3 n4 e4) = true := decide_eq_true kx
 have hfy : decide (fewQ m1 f1 m2 f2 m3 f3 m4 f4) = false := decide_eq_false ky
 obtain ⟨a1_, a2_, a3_, a4_, a5_, a6_, a7_, a8_, hI, hW2, hX, hY, hZ, hfz, iW, iW1, iW2, kB, kZ, rz0, rz1, rz2, wn⟩ := trs
 rotate_left
 have hfx : decide (fewQ n1 e1 n2 e2 n3 e3 n4 e4) = true := decide_eq_true kx
 have hfy : decide (fewQ m1 f1 m2 f2 m3 f3 m4 f4) = true := decide_eq_true ky
 have hfz : decide (fewQ l1 v1 l2 v2 l3 v3 l4 v4) = false := decide_eq_false kz
 obtain ⟨a1_, a2_, a3_, a4_, a5_, a6_, a7_, a8_, hI, hW2, hX, hY, hZ, iW, iW1, iW2, kB, kZ, rz0, rz1, rz2, wn⟩ := trs
 rotate_left
 have hfx : decide (fewQ n1 e1 n2 e2 n3 e3 n4 e4) = true := decide_eq_true kx
 have hfy : decide (fewQ m1 f1 m2 f2 m3 f3 m4 f4) = true := decide_eq_true ky
 have hfz : decide (fewQ l1 v1 l2 v2 l3 v3 l4 v4) = true := decide_eq_true kz
 obtain ⟨X, hX, sX, lX, qX⟩ := fewP_all (s1 := s1) (s2 := s2) (s3 := s3) (s4 := s4) g1 g2 g3 g4 kx
 have mX := sX.1
 have oX := mX.1
 have zX := qX.1
 have tX := toldP_pz zX (by omega)
 have rX1 := canR_c (zX.1.c (by omega))
 have rX2 := canR_c (zX.2.c (by omega))
 obtain ⟨Y, hY, sY, lY, qY⟩ := fewP_all (s1 := t1) (s2 := t2) (s3 := t3) (s4 := t4) p1 p2 p3 p4 ky
 have mY := sY.1
 have oY := mY.1
 have zY := qY.1
 have tY := toldP_pz zY (by omega)
 have rY1 := canR_c (zY.1.c (by omega))
 have rY2 := canR_c (zY.2.c (by omega))
 obtain ⟨Z, hZ, sZ, lZ, qZ⟩ := fewP_all (s1 := w1) (s2 := w2) (s3 := w3) (s4 := w4) i1 i2 i3 i4 kz
 have mZ := sZ.1
 have oZ := mZ.1
 have zZ := qZ.1
 have tZ := toldP_pz zZ (by omega)
 have rZ1 := canR_c (zZ.1.c (by omega))
 have rZ2 := canR_c (zZ.2.c (by omega))
 rw [hX, hY] at km
 obtain ⟨kB, kZ⟩ := pm_no1 km
 have hI : inB X.1 Y.1 = false := meet_no km
 have hp0 := okP_0
 have hp1 := okP_pz (pz_zero 0 0) (by omega)
 have rz0 : rcn pzero = pzero := (pz_zero 0 0).can.id
 have rz1 : rn pzero.1 = pzero.1 := (pz_zero 0 0).can.1.id
 have rz2 : rn pzero.2 = pzero.2 := (pz_zero 0 0).can.2.id
 obtain ⟨a1_, a2_, a3_, a4_, a5_, a6_, a7_, a8_, hW2, iW, iW1, iW2, wn⟩ := trs
 rotate_left
 have hfx : decide (fewQ n1 e1 n2 e2 n3 e3 n4 e4) = true := decide_eq_true kx
 have hfy : decide (fewQ m1 f1 m2 f2 m3 f3 m4 f4) = true := decide_eq_true ky
 have hfz : decide (fewQ l1 v1 l2 v2 l3 v3 l4 v4) = true := decide_eq_true kz
 obtain ⟨X, hX, sX, lX, qX⟩ := fewP_all (s1 := s1) (s2 := s2) (s3 := s3) (s4 := s4) g1 g2 g3 g4 kx
 have mX := sX.1
 have oX := mX.1
 have zX := qX.1
 have tX := toldP_pz zX (by omega)
 have rX1 := canR_c (zX.1.c (by omega))
 have rX2 := canR_c (zX.2.c (by omega))
 obtain ⟨Y, hY, sY, lY, qY⟩ := fewP_all (s1 := t1) (s2 := t2) (s3 := t3) (s4 := t4) p1 p2 p3 p4 ky
 have mY := sY.1
 have oY := mY.1
 have zY := qY.1
 have tY := toldP_pz zY (by omega)
 have rY1 := canR_c (zY.1.c (by omega))
 have rY2 := canR_c (zY.2.c (by omega))
 obtain ⟨Z, hZ, sZ, lZ, qZ⟩ := fewP_all (s1 := w1) (s2 := w2) (s3 := w3) (s4 := w4) i1 i2 i3 i4 kz
 have mZ := sZ.1
 have oZ := mZ.1
 have zZ := qZ.1
 have tZ := toldP_pz zZ (by omega)
 have rZ1 := canR_c (zZ.1.c (by omega))
 have rZ2 := canR_c (zZ.2.c (by omega))
 rw [hX, hY] at km
 rw [hX, hY] at kn
 obtain ⟨kB, kZ⟩ := pm_no2 kn
 have hI : inB X.2 Y.2 = false := meet_no kn
 have hp0 := okP_0
 have hp1 := okP_pz (pz_zero 0 0) (by omega)
 have rz0 : rcn pzero = pzero := (pz_zero 0 0).can.id
 have rz1 : rn pzero.1 = pzero.1 := (pz_zero 0 0).can.1.id
 have rz2 : rn pzero.2 = pzero.2 := (pz_zero 0 0).can.2.id
 obtain ⟨a1_, a2_, a3_, a4_, a5_, a6_, a7_, a8_, hW2, iW, iW1, iW2, wn⟩ := trs
 rotate_left
 have hfx : decide (fewQ n1 e1 n2 e2 n3 e3 n4 e4) = true := decide_eq_true kx
 have hfy : decide (fewQ m1 f1 m2 f2 m3 f3 m4 f4) = true := decide_eq_true ky
 have hfz : decide (fewQ l1 v1 l2 v2 l3 v3 l4 v4) = true := decide_eq_true kz
 obtain ⟨X, hX, sX, lX, qX⟩ := fewP_all (s1 := s1) (s2 := s2) (s3 := s3) (s4 := s4) g1 g2 g3 g4 kx
 have mX := sX.1
 have oX := mX.1
 have zX := qX.1
 have tX := toldP_pz zX (by omega)
 have rX1 := canR_c (zX.1.c (by omega))
 have rX2 := canR_c (zX.2.c (by omega))
 obtain ⟨Y, hY, sY, lY, qY⟩ := fewP_all (s1 := t1) (s2 := t2) (s3 := t3) (s4 := t4) p1 p2 p3 p4 ky
 have mY := sY.1
 have oY := mY.1
 have zY := qY.1
 have tY := toldP_pz zY (by omega)
 have rY1 := canR_c (zY.1.c (by omega))
 have rY2 := canR_c (zY.2.c (by omega))
 obtain ⟨Z, hZ, sZ, lZ, qZ⟩ := fewP_all (s1 := w1) (s2 := w2) (s3 := w3) (s4 := w4) i1 i2 i3 i4 kz
 have mZ := sZ.1
 have oZ := mZ.1
 have zZ := qZ.1
 have tZ := toldP_pz zZ (by omega)
 have rZ1 := canR_c (zZ.1.c (by omega))
 have rZ2 := canR_c (zZ.2.c (by omega))
 rw [hX, hY] at km
 rw [hX, hY] at kn
 obtain ⟨W, hW⟩ : ∃ W, W = pmeetZ X Y := ⟨_, rfl⟩
 obtain ⟨kB, kZ_⟩ := pm_yes km kn
 obtain ⟨l1, l2⟩ := met_less kZ_ km kn
 have zW : pz W 1000 1320 := by rw [hW]; exact pz_meetZ zX zY
 rw [← hW] at l1 l2
 have xX := zX.can
 have xY := zY.can
 have xZ := zZ.can
 have xW := zW.can
 have iW := xW.id
 have iW1 : rn W.1 = W.1 := xW.1.id
 have iW2 : rn W.2 = W.2 := xW.2.id
 have wn : IntKind.i64.wrap (n.tmod 4) = n.tmod 4 := wrap_in (by omega) (by omega)
 have kk2 : powN (n.tmod 4) ≤ 5 := by unfold powN; omega
 have a1_ := pinB_of xW xX l1
 have a2_ := pinB_of xW xY l2
 have a3_ := pinB_of (pcan_add xW xZ) (pcan_add xX xZ) (padd_less l1)
 have a4_ := pinB_of (pcan_mul xW xZ) (pcan_mul xX xZ) (pmul_less l1 ⟨rsub_refl _, rsub_refl _⟩ xW xZ)
 have a5_ := pinB_of (ppw_can xW (powN (n.tmod 4))) (ppw_can xX (powN (n.tmod 4))) (ppw_less l1 xW (powN (n.tmod 4)))
 have a6_ := pinB_of (pcan_sq xW) (pcan_sq xX) (psq_less l1 xW)
 have a7_ := pinB_of (pcan_hull xW xZ) (pcan_hull xX xZ) (phull_less l1)
 have a8_ := phas_of xW (pat_mid xW)
 unfold pinB at a1_ a2_ a3_ a4_ a5_ a6_ a7_
 unfold phasB at a8_
 have r1_ : inB W.1 (rcn X).1 = inB W.1 X.1 := inB_r _ _
 have r2_ : inB W.2 (rcn X).2 = inB W.2 X.2 := inB_r _ _
 have r3_ : inB W.1 (rcn Y).1 = inB W.1 Y.1 := inB_r _ _
 have r4_ : inB W.2 (rcn Y).2 = inB W.2 Y.2 := inB_r _ _
 rw [r1_, r2_] at a1_
 rw [r3_, r4_] at a2_
 have sW := smP_pz zW
 have oW := okP_pz zW (by omega)
 have mW := okPM_pz zW (by omega)
 have u1_ := okP_pz (pz_add zW zZ) (by omega)
 have u2_ := okP_pz (pz_add zX zZ) (by omega)
 have u3_ := okP_pz (pz_mul zW zZ) (by omega)
 have u4_ := okP_pz (pz_mul zX zZ) (by omega)
 have u5_ := okP_pz ((pz_pw zW (powN (n.tmod 4))).mono (show 1000 * powN (n.tmod 4) ≤ 5000 by omega) (show (1320 + 1) * powN (n.tmod 4) + 1 ≤ 6606 by omega)) (by omega)
 have u6_ := okP_pz ((pz_pw zX (powN (n.tmod 4))).mono (show 1000 * powN (n.tmod 4) ≤ 5000 by omega) (show (1320 + 1) * powN (n.tmod 4) + 1 ≤ 6606 by omega)) (by omega)
 have u7_ := okP_pz (pz_sq zW) (by omega)
 have u8_ := okP_pz (pz_sq zX) (by omega)
 have u9_ := okP_pz (pz_hull zW zZ) (by omega)
 have u10_ := okP_pz (pz_hull zX zZ) (by omega)
 have cM : cz (pmid W) 1001 1321 := ⟨sz_half (sz_add zW.1.2.1 zW.1.2.2), sz_half (sz_add zW.2.2.1 zW.2.2.2)⟩
 have v1_ := okR_c ⟨scl_n _ _, scl_n _ _, (cz_can (ccan_mid W) cM).mono (show 1001 + 1321 ≤ 19200 by omega) (show 1001 + 1321 ≤ 20000 by omega)⟩
 have hW2 : pmeetZ X Y = W := hW.symm
 obtain ⟨hI, kZ, rz0, rz1, rz2⟩ := trs
 rotate_left
 all_goals (cbv)
 all_goals (repeat' (first | with_reducible refine And.intro ?_ ?_ | (with_reducible refine safe_lift hA ?_; kernel_rfl) | (intro hc_; (first | (with_reducible exfalso; clear hQ; subst hF hA; simp only [fnOf, find, std, reduceIte, Nat.reduceEqDiff, sp1, sp2, a1, a2, FnSpec.out, Shape.build, leafs, leafCells, tups, oneOf, List.cons_append, List.nil_append, List.length_cons, List.length_nil, s_RectLess, s_known9, s_fewP9, s_hMeet, s_hIn, s_hSame, s_hAdd, s_hMul, s_hPow, s_hSquare, s_hHull, s_hHas, s_hMid, re4, re8, rv_N0, rv8_N0, rv8_pair, rv8_0, rv_0, dv, dz, dx, dcn, dm_N0, vI_N0, rw12_is, raw6_is, Prod.eta, rcn_rcn, min_if, wrap_er, powN_2, Int.reduceNeg, Int.reduceEq, Int.reduceLT, Int.reduceLE, Int.reduceBEq, beq_dec, Int.reduceAdd, Int.zero_add, Int.add_zero, eq_self, Bool.not_eq_eq_eq_not, decide_eq_true_eq, decide_eq_false_iff_not, not_true_eq_false, not_false_eq_true, decide_true, decide_false, Bool.true_and, Bool.and_true, Bool.not_true, Bool.not_false, beq_self_eq_true, Bool.true_eq_false, Bool.false_eq_true, reduceCtorEq, gt_iff_lt, ge_iff_le, true_and, and_true, and_self, Bool.false_eq, Bool.and_self, hfx, hfy, hfz, hX, hY, hZ, kB, kZ, hI, Bool.false_and, rz0, rz1, rz2, Bool.and_false, hW2, iW, iW1, iW2, wn, a1_, a2_, a3_, a4_, a5_, a6_, a7_, a8_] at hc_; done) | (clear hc_; cbv)))))
 all_goals subst hF hA
 all_goals (try simp only [fnOf, find, std, reduceIte, Nat.reduceEqDiff, sp1, sp2, a1, a2, FnSpec.out, Shape.build, leafs, leafCells, tups, oneOf, List.cons_append, List.nil_append, List.length_cons, List.length_nil, s_RectLess, s_known9, s_fewP9, s_hMeet, s_hIn, s_hSame, s_hAdd, s_hMul, s_hPow, s_hSquare, s_hHull, s_hHas, s_hMid, re4, re8, rv_N0, rv8_N0, rv8_pair, rv8_0, rv_0, dv, dz, dx, dcn, dm_N0, vI_N0, rw12_is, raw6_is, Prod.eta, rcn_rcn, min_if, wrap_er, powN_2, Int.reduceNeg, Int.reduceEq, Int.reduceLT, Int.reduceLE, Int.reduceBEq, beq_dec, Int.reduceAdd, Int.zero_add, Int.add_zero, eq_self, Bool.not_eq_eq_eq_not, decide_eq_true_eq, decide_eq_false_iff_not, not_true_eq_false, not_false_eq_true, decide_true, decide_false, Bool.true_and, Bool.and_true, Bool.not_true, Bool.not_false, beq_self_eq_true, Bool.true_eq_false, Bool.false_eq_true, reduceCtorEq, gt_iff_lt, ge_iff_le, true_and, and_true, and_self, Bool.false_eq, Bool.and_self, hfx, hfy, hfz, hX, hY, hZ, kB, kZ, hI, Bool.false_and, rz0, rz1, rz2, Bool.and_false, hW2, iW, iW1, iW2, wn, a1_, a2_, a3_, a4_, a5_, a6_, a7_, a8_] at hQ ⊢)
 all_goals (repeat' (first
  | with_reducible exact hQ
  | with_reducible assumption
  | with_reducible exact isi_int _ _
  | with_reducible exact True.intro
  | (with_reducible refine toldP_c (x := (_, _)) ?_ ?_ <;> with_reducible assumption)
  | (with_reducible refine canR_c (r := ((_, _), (_, _))) ?_; with_reducible assumption)
  | omega
  | with_reducible refine And.intro ?_ ?_))
end Go.Proofs.YtkfojbelnemhbaaGreatDoor.Ev
