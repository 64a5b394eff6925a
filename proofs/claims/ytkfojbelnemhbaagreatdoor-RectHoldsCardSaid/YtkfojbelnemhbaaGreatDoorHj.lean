import Derived.Test.YtkfojbelnemhbaaGreatDoorHg
set_option maxHeartbeats 16000000
set_option maxRecDepth 100000
set_option linter.all false
namespace Go.Proofs.YtkfojbelnemhbaaGreatDoor.Ev
open Go Go.RowKit
theorem okR_czg {a : Re} {L H : Nat} (h : ccan a) (k : cz a L H) (hl : L + H ≤ 19200) : okR (rel4 a) := okR_c ⟨h.1, h.2, (cz_can h k).mono (by omega) (by omega)⟩
theorem canR_czg {a : Re} {L H : Nat} (h : ccan a) (k : cz a L H) (hl : L + H ≤ 19200) : canR (rel4 a) := canR_c ⟨h.1, h.2, (cz_can h k).mono (by omega) (by omega)⟩
theorem hasY_in {r : Re} {d : Dy} (h : rin r (qv d)) : hasY r d = true := by
 unfold hasY; rw [Bool.and_eq_true, decide_eq_true_iff, decide_eq_true_iff]; exact ⟨le_cmp h.1, le_cmp h.2⟩
theorem dC_szR {x : Dy} {L H : Nat} (hc : x.n = x) (h : sz x L H) (hb : L + H ≤ 19200) : dC x := ⟨hc, (sz_can hc h).mono (by omega) (by omega)⟩
def s_RectHolds : FnSpec := ⟨.one .b, fun ds => match ds with | [x, y, s, t, .int .u8 b, .int .u8 n] => okXP x ∧ okXP y ∧ okX s ∧ okX t ∧ (0 ≤ b ∧ b ≤ 255) ∧ 0 ≤ n ∧ n ≤ 255 | _ => False, fun _ _ => 0, fun _ _ => true, fun _ _ => 0, fun _ _ => []⟩
theorem RectHolds_arg {ds : List D} (h : s_RectHolds.p ds) : ∃ x y s t b n, ds = [x, y, s, t, .int .u8 b, .int .u8 n] ∧ okXP x ∧ okXP y ∧ okX s ∧ okX t ∧ (0 ≤ b ∧ b ≤ 255) ∧ 0 ≤ n ∧ n ≤ 255 := by
 unfold s_RectHolds at h
 dsimp only at h
 split at h
 ·exact ⟨_, _, _, _, _, _, rfl, h⟩
 ·exact h.elim
theorem good_RectHolds : Good Tryz.prog (GWL [0, 1, 2, 3, 4, 5, 6]) N0 5 s_RectHolds := by
 refine goodM 0 (gc good_known9 <| gl good_fewP9 rfl <| gl good_fewC9 rfl <| gc good_hHas <| gl good_vCplx rfl <| gc good_hAdd <| gl good_vAdd rfl <| gc good_hSub <| gl good_vSub rfl <| gc good_hMul <| gl good_vMul rfl <| gc good_hSquare <| gc good_hPow <| gl good_vPow rfl <| gc good_hNeg <| gl good_vNeg rfl <| gc good_hNorm <| gl good_vNorm rfl <| gl good_yHas rfl <| gc good_hDiv <| gl good_qNeg rfl <| gl good_betw9 rfl gn) Tryz.f5 (by kernel_rfl) (by kernel_rfl) fun ds hp F A Q hF hA hQ => ?_
 obtain ⟨x, y, s, t, b, n, rfl, hx, hy, hs, ht, ⟨hb1, hb2⟩, hn1, hn2⟩ := RectHolds_arg hp
 have hx_ := hx
 have hy_ := hy
 have hs_ := hs
 have ht_ := ht
 obtain ⟨s1, n1, c1, e1, s2, n2, c2, e2, s3, n3, c3, e3, s4, n4, c4, e4, rfl, ⟨⟨g1, h1⟩, g2, h2⟩, ⟨g3, h3⟩, g4, h4⟩ := okXP_arg hx
 obtain ⟨t1, m1, d1, f1, t2, m2, d2, f2, t3, m3, d3, f3, t4, m4, d4, f4, rfl, ⟨⟨p1, q1⟩, p2, q2⟩, ⟨p3, q3⟩, p4, q4⟩ := okXP_arg hy
 obtain ⟨us, un, uc, ue, ut, um, ud, uf, rfl, ug1, uh1, ug2, uh2⟩ := okX_arg hs
 obtain ⟨ws, wn, wc, we, wt, wm, wd, wf, rfl, wg1, wh1, wg2, wh2⟩ := okX_arg ht
 clear hp
 have htb : 0 ≤ b.tmod 100 ∧ b.tmod 100 ≤ 99 := by rw [Int.tmod_eq_emod_of_nonneg hb1]; omega
 have htn : 0 ≤ n.tmod 5 ∧ n.tmod 5 ≤ 4 := by rw [Int.tmod_eq_emod_of_nonneg hn1]; omega
 rcases nine7 (a := fewQ n1 e1 n2 e2 n3 e3 n4 e4) (b := fewQ m1 f1 m2 f2 m3 f3 m4 f4) (c := ((un ≤ 10 ∧ -1000 ≤ ue ∧ ue ≤ 1000) ∧ um ≤ 10 ∧ -1000 ≤ uf ∧ uf ≤ 1000)) (d := ((wn ≤ 10 ∧ -1000 ≤ we ∧ we ≤ 1000) ∧ wm ≤ 10 ∧ -1000 ≤ wf ∧ wf ≤ 1000)) (x := phasB (rv8 (.agg [.bool s1, .sl n1 c1, .int .i64 e1, .bool s2, .sl n2 c2, .int .i64 e2, .bool s3, .sl n3 c3, .int .i64 e3, .bool s4, .sl n4 c4, .int .i64 e4])) (rv (.agg [.bool us, .sl un uc, .int .i64 ue, .bool ut, .sl um ud, .int .i64 uf])) = true) (y := phasB (rv8 (.agg [.bool t1, .sl m1 d1, .int .i64 f1, .bool t2, .sl m2 d2, .int .i64 f2, .bool t3, .sl m3 d3, .int .i64 f3, .bool t4, .sl m4 d4, .int .i64 f4])) (rv (.agg [.bool ws, .sl wn wc, .int .i64 we, .bool wt, .sl wm wd, .int .i64 wf])) = true) (z := er0 (pnorm (rcn (rv8 (.agg [.bool t1, .sl m1 d1, .int .i64 f1, .bool t2, .sl m2 d2, .int .i64 f2, .bool t3, .sl m3 d3, .int .i64 f3, .bool t4, .sl m4 d4, .int .i64 f4])))) = 0) with kx | ⟨kx, ky⟩ | ⟨kx, ky, kd⟩ | ⟨kx, ky, kd, ke⟩ | ⟨kx, ky, kd, ke, hP⟩ | ⟨kx, ky, kd, ke, hP, hQ_⟩ | ⟨kx, ky, kd, ke, hP, hQ_, hz⟩ | ⟨kx, ky, kd, ke, hP, hQ_, hz⟩
 have hfx : decide (fewQ n1 e1 n2 e2 n3 e3 n4 e4) = false := decide_eq_false kx
 obtain ⟨a1_, a2_, a3_, a4_, a5_, a6_, a7_, g1_, g2_, hP1, hP2, hS, hT, hX, hY, hfs, hft, hfy, hz, hz2, nV1, nV2, wb, wb1, wn⟩ := trs
 rotate_left
 have hfx : decide (fewQ n1 e1 n2 e2 n3 e3 n4 e4) = true := decide_eq_true kx
 have hfy : decide (fewQ m1 f1 m2 f2 m3 f3 m4 f4) = false := decide_eq_false ky
 obtain ⟨a1_, a2_, a3_, a4_, a5_, a6_, a7_, g1_, g2_, hP1, hP2, hS, hT, hX, hY, hfs, hft, hz, hz2, nV1, nV2, wb, wb1, wn⟩ := trs
 rotate_left
 have hfx : decide (fewQ n1 e1 n2 e2 n3 e3 n4 e4) = true := decide_eq_true kx
 have hfy : decide (fewQ m1 f1 m2 f2 m3 f3 m4 f4) = true := decide_eq_true ky
 have hfs : decide (((un ≤ 10 ∧ -1000 ≤ ue ∧ ue ≤ 1000) ∧ um ≤ 10 ∧ -1000 ≤ uf ∧ uf ≤ 1000)) = false := decide_eq_false kd
 obtain ⟨a1_, a2_, a3_, a4_, a5_, a6_, a7_, g1_, g2_, hP1, hP2, hS, hT, hX, hY, hft, hz, hz2, nV1, nV2, wb, wb1, wn⟩ := trs
 rotate_left
 have hfx : decide (fewQ n1 e1 n2 e2 n3 e3 n4 e4) = true := decide_eq_true kx
 have hfy : decide (fewQ m1 f1 m2 f2 m3 f3 m4 f4) = true := decide_eq_true ky
 have hfs : decide (((un ≤ 10 ∧ -1000 ≤ ue ∧ ue ≤ 1000) ∧ um ≤ 10 ∧ -1000 ≤ uf ∧ uf ≤ 1000)) = true := decide_eq_true kd
 have hft : decide (((wn ≤ 10 ∧ -1000 ≤ we ∧ we ≤ 1000) ∧ wm ≤ 10 ∧ -1000 ≤ wf ∧ wf ≤ 1000)) = false := decide_eq_false ke
 obtain ⟨a1_, a2_, a3_, a4_, a5_, a6_, a7_, g1_, g2_, hP1, hP2, hS, hT, hX, hY, hz, hz2, nV1, nV2, wb, wb1, wn⟩ := trs
 rotate_left
 have hfx : decide (fewQ n1 e1 n2 e2 n3 e3 n4 e4) = true := decide_eq_true kx
 have hfy : decide (fewQ m1 f1 m2 f2 m3 f3 m4 f4) = true := decide_eq_true ky
 have hfs : decide (((un ≤ 10 ∧ -1000 ≤ ue ∧ ue ≤ 1000) ∧ um ≤ 10 ∧ -1000 ≤ uf ∧ uf ≤ 1000)) = true := decide_eq_true kd
 have hft : decide (((wn ≤ 10 ∧ -1000 ≤ we ∧ we ≤ 1000) ∧ wm ≤ 10 ∧ -1000 ≤ wf ∧ wf ≤ 1000)) = true := decide_eq_true ke
 obtain ⟨X, hX, sX, lX, qX⟩ := fewP_all (s1 := s1) (s2 := s2) (s3 := s3) (s4 := s4) g1 g2 g3 g4 kx
 have mX := sX.1
 have oX := mX.1
 have zX := qX.1
 have tX := toldP_pz zX (by omega)
 have rX1 := canR_c (zX.1.c (by omega))
 have rX2 := canR_c (zX.2.c (by omega))
 obtain ⟨Y, hY, sY, lY, qY⟩ := fewP_all (s1 := t1) (s2 := t2) (s3 := t3) (s4 := t4) p1 p2 p3 p4 ky
 have mY := sY.1
 have oY := mY.1
 have zY := qY.1
 have tY := toldP_pz zY (by omega)
 have rY1 := canR_c (zY.1.c (by omega))
 have rY2 := canR_c (zY.2.c (by omega))
 obtain ⟨S, hS, oS, cS, zS, fS⟩ := fewC_all (s := us) (t := ut) ug1 ug2 kd
 have rcS := canR_c (rC_cz cS zS)
 obtain ⟨T, hT, oT, cT, zT, fT⟩ := fewC_all (s := ws) (t := wt) wg1 wg2 ke
 have rcT := canR_c (rC_cz cT zT)
 rw [hX, hS] at hP
 have hP1 : phasB X S = false := by simpa using hP
 unfold phasB at hP1
 obtain ⟨a1_, a2_, a3_, a4_, a5_, a6_, a7_, g1_, g2_, hP2, hz, hz2, nV1, nV2, wb, wb1, wn⟩ := trs
 rotate_left
 have hfx : decide (fewQ n1 e1 n2 e2 n3 e3 n4 e4) = true := decide_eq_true kx
 have hfy : decide (fewQ m1 f1 m2 f2 m3 f3 m4 f4) = true := decide_eq_true ky
 have hfs : decide (((un ≤ 10 ∧ -1000 ≤ ue ∧ ue ≤ 1000) ∧ um ≤ 10 ∧ -1000 ≤ uf ∧ uf ≤ 1000)) = true := decide_eq_true kd
 have hft : decide (((wn ≤ 10 ∧ -1000 ≤ we ∧ we ≤ 1000) ∧ wm ≤ 10 ∧ -1000 ≤ wf ∧ wf ≤ 1000)) = true := decide_eq_true ke
 obtain ⟨X, hX, sX, lX, qX⟩ := fewP_all (s1 := s1) (s2 := s2) (s3 := s3) (s4 := s4) g1 g2 g3 g4 kx
 have mX := sX.1
 have oX := mX.1
 have zX := qX.1
 have tX := toldP_pz zX (by omega)
 have rX1 := canR_c (zX.1.c (by omega))
 have rX2 := canR_c (zX.2.c (by omega))
 obtain ⟨Y, hY, sY, lY, qY⟩ := fewP_all (s1 := t1) (s2 := t2) (s3 := t3) (s4 := t4) p1 p2 p3 p4 ky
 have mY := sY.1
 have oY := mY.1
 have zY := qY.1
 have tY := toldP_pz zY (by omega)
 have rY1 := canR_c (zY.1.c (by omega))
 have rY2 := canR_c (zY.2.c (by omega))
 obtain ⟨S, hS, oS, cS, zS, fS⟩ := fewC_all (s := us) (t := ut) ug1 ug2 kd
 have rcS := canR_c (rC_cz cS zS)
 obtain ⟨T, hT, oT, cT, zT, fT⟩ := fewC_all (s := ws) (t := wt) wg1 wg2 ke
 have rcT := canR_c (rC_cz cT zT)
 rw [hX, hS] at hP
 rw [hY, hT] at hQ_
 have hP1 := hP
 unfold phasB at hP1
 have hP2 : phasB Y T = false := by simpa using hQ_
 unfold phasB at hP2
 obtain ⟨a1_, a2_, a3_, a4_, a5_, a6_, a7_, g1_, g2_, hz, hz2, nV1, nV2, wb, wb1, wn⟩ := trs
 rotate_left
 have hfx : decide (fewQ n1 e1 n2 e2 n3 e3 n4 e4) = true := decide_eq_true kx
 have hfy : decide (fewQ m1 f1 m2 f2 m3 f3 m4 f4) = true := decide_eq_true ky
 have hfs : decide (((un ≤ 10 ∧ -1000 ≤ ue ∧ ue ≤ 1000) ∧ um ≤ 10 ∧ -1000 ≤ uf ∧ uf ≤ 1000)) = true := decide_eq_true kd
 have hft : decide (((wn ≤ 10 ∧ -1000 ≤ we ∧ we ≤ 1000) ∧ wm ≤ 10 ∧ -1000 ≤ wf ∧ wf ≤ 1000)) = true := decide_eq_true ke
 obtain ⟨X, hX, sX, lX, qX⟩ := fewP_all (s1 := s1) (s2 := s2) (s3 := s3) (s4 := s4) g1 g2 g3 g4 kx
 have mX := sX.1
 have oX := mX.1
 have zX := qX.1
 have tX := toldP_pz zX (by omega)
 have rX1 := canR_c (zX.1.c (by omega))
 have rX2 := canR_c (zX.2.c (by omega))
 obtain ⟨Y, hY, sY, lY, qY⟩ := fewP_all (s1 := t1) (s2 := t2) (s3 := t3) (s4 := t4) p1 p2 p3 p4 ky
 have mY := sY.1
 have oY := mY.1
 have zY := qY.1
 have tY := toldP_pz zY (by omega)
 have rY1 := canR_c (zY.1.c (by omega))
 have rY2 := canR_c (zY.2.c (by omega))
 obtain ⟨S, hS, oS, cS, zS, fS⟩ := fewC_all (s := us) (t := ut) ug1 ug2 kd
 have rcS := canR_c (rC_cz cS zS)
 obtain ⟨T, hT, oT, cT, zT, fT⟩ := fewC_all (s := ws) (t := wt) wg1 wg2 ke
 have rcT := canR_c (rC_cz cT zT)
 rw [hX, hS] at hP
 rw [hY, hT] at hQ_
 rw [hY] at hz
 have hP1 := hP
 have hP2 := hQ_
 unfold phasB at hP1 hP2
 have pX := pat_ca (phas_iff.1 hP)
 have pY := pat_ca (phas_iff.1 hQ_)
 have xX := zX.can
 have xY := zY.can
 have wn : IntKind.i64.wrap (n.tmod 5) = n.tmod 5 := wrap_in (by omega) (by omega)
 have wb : IntKind.i64.wrap (b.tmod 100) = b.tmod 100 := wrap_in (by omega) (by omega)
 have wb1 : IntKind.i64.wrap (b.tmod 100 + 1) = b.tmod 100 + 1 := wrap_in (by omega) (by omega)
 obtain ⟨k, hk⟩ : ∃ k, k = powN (n.tmod 5) := ⟨_, rfl⟩
 have kk : k ≤ 5 := by rw [hk]; unfold powN; omega
 have kk2 : powN (n.tmod 5) ≤ 5 := by rw [← hk]; exact kk
 have kk3 : powN (n.tmod 5) ≤ 8 := by omega
 have hp2 : b.tmod 100 + 1 ≤ 200 := by omega
 have a1_ := phas_of (pcan_add xX xY) (pat_add pX pY)
 have a2_ := phas_of (pcan_sub xX xY) (pat_sub pX pY)
 have a3_ := phas_of (pcan_mul xX xY) (pat_mul pX pY)
 have a4_ := phas_of (pcan_sq xX) (pat_sq pX)
 have a5_ := phas_of (ppw_can xX (powN (n.tmod 5))) (pat_pow pX (powN (n.tmod 5)))
 have a6_ := phas_of (pcan_neg xX) (pat_neg pX)
 unfold phasB at a1_ a2_ a3_ a4_ a5_ a6_
 have a7_ : hasY (pnorm (rcn X)) (cnorm (ca S)) = true := hasY_in (rin_cnorm pX)
 have m1_ : smallM (ca S) (ca T) := ⟨_, _, _, _, zS, zT, by omega⟩
 have m2_ : smallM (ca S) (ca S) := ⟨_, _, _, _, zS, zS, by omega⟩
 have m3_ : smallM (ca T) (ca T) := ⟨_, _, _, _, zT, zT, by omega⟩
 have zV : cz ((ca T).1, (ca T).2.neg) 1000 1320 := ⟨zT.1, sz_neg zT.2⟩
 have cV : ccan ((ca T).1, (ca T).2.neg) := ⟨cT.1, neg_n _⟩
 have m4_ : smallM (ca S) ((ca T).1, (ca T).2.neg) := ⟨_, _, _, _, zS, zV, by omega⟩
 have u1_ := okP_pz (pz_add zX zY) (by omega)
 have u2_ := okP_pz (pz_sub zX zY) (by omega)
 have u3_ := okP_pz (pz_mul zX zY) (by omega)
 have u4_ := okP_pz (pz_sq zX) (by omega)
 have u5_ := okP_pz ((pz_pw zX (powN (n.tmod 5))).mono (show 1000 * powN (n.tmod 5) ≤ 5000 by omega) (show (1320 + 1) * powN (n.tmod 5) + 1 ≤ 6606 by omega)) (by omega)
 have u6_ := okP_pz (pz_neg zX) (by omega)
 have v1_ := okR_czg ⟨add_n _ _, add_n _ _⟩ (cz_add zS zT) (by omega)
 have v2_ := okR_czg ⟨sub_n _ _, sub_n _ _⟩ (cz_sub zS zT) (by omega)
 have v3_ := okR_czg ⟨sub_n _ _, add_n _ _⟩ (cz_mul zS zT) (by omega)
 have v4_ := okR_czg ⟨sub_n _ _, add_n _ _⟩ (cz_mul zS zS) (by omega)
 have v5_ := okR_czg (ccan_pw (ca S) (powN (n.tmod 5))) (cz_mono (cz_pw zS (powN (n.tmod 5))) (show 1000 * powN (n.tmod 5) ≤ 5000 by omega) (show (1320 + 1) * powN (n.tmod 5) + 1 ≤ 6606 by omega)) (by omega)
 have v6_ := okR_czg ⟨neg_n _, neg_n _⟩ (cz_neg zS) (by omega)
 have v7_ := canR_c ((pz_norm zX).c (by omega))
 have dS_ := dC_szR (norm_n _) (cz_norm zS) (by omega)
 have v8_ := canD_c dS_
 have dT_ := dC_szR (norm_n _) (cz_norm zT) (by omega)
 have v9_ := canD_c dT_
 have bS_ := dC_b dS_
 have b1_ := bS_.1
 have b2_ := bS_.2
 have q0_ := canD_c (dC_2 (rC_cz cT zT))
 have nV1 : tmI (-(ca T).2.1) = (ca T).2.neg.1 := rfl
 have nV2 : teI (-(ca T).2.1) (ca T).2.2 = (ca T).2.neg.2 := rfl
 have rV_ := canR_czg cV zV (by omega)
 have zW := cz_mul zS zV
 have dW1 : dC (cmul (ca S) ((ca T).1, (ca T).2.neg)).1 := dC_szR (sub_n _ _) zW.1 (by omega)
 have dW2 : dC (cmul (ca S) ((ca T).1, (ca T).2.neg)).2 := dC_szR (add_n _ _) zW.2 (by omega)
 have w1_ := canD_c dW1
 have w2_ := canD_c dW2
 have zD := pz_div zX zY hp2
 have w3_ := canR_c (zD.1.c (by omega))
 have w4_ := canR_c (zD.2.c (by omega))
 have nT_ := cz_norm zT
 have e1_ := dC_szR (mul_n _ _) (sz_mul zD.1.2.1 nT_) (by omega)
 have e2_ := dC_szR (mul_n _ _) (sz_mul zD.1.2.2 nT_) (by omega)
 have e3_ := dC_szR (mul_n _ _) (sz_mul zD.2.2.1 nT_) (by omega)
 have e4_ := dC_szR (mul_n _ _) (sz_mul zD.2.2.2 nT_) (by omega)
 have hz2 : er0 (pnorm (rcn Y)) = 11 := (er_cases (pnorm (rcn Y))).elim (fun h => absurd h hz) And.left
 obtain ⟨g1_, g2_⟩ := trs
 rotate_left
 have hfx : decide (fewQ n1 e1 n2 e2 n3 e3 n4 e4) = true := decide_eq_true kx
 have hfy : decide (fewQ m1 f1 m2 f2 m3 f3 m4 f4) = true := decide_eq_true ky
 have hfs : decide (((un ≤ 10 ∧ -1000 ≤ ue ∧ ue ≤ 1000) ∧ um ≤ 10 ∧ -1000 ≤ uf ∧ uf ≤ 1000)) = true := decide_eq_true kd
 have hft : decide (((wn ≤ 10 ∧ -1000 ≤ we ∧ we ≤ 1000) ∧ wm ≤ 10 ∧ -1000 ≤ wf ∧ wf ≤ 1000)) = true := decide_eq_true ke
 obtain ⟨X, hX, sX, lX, qX⟩ := fewP_all (s1 := s1) (s2 := s2) (s3 := s3) (s4 := s4) g1 g2 g3 g4 kx
 have mX := sX.1
 have oX := mX.1
 have zX := qX.1
 have tX := toldP_pz zX (by omega)
 have rX1 := canR_c (zX.1.c (by omega))
 have rX2 := canR_c (zX.2.c (by omega))
 obtain ⟨Y, hY, sY, lY, qY⟩ := fewP_all (s1 := t1) (s2 := t2) (s3 := t3) (s4 := t4) p1 p2 p3 p4 ky
 have mY := sY.1
 have oY := mY.1
 have zY := qY.1
 have tY := toldP_pz zY (by omega)
 have rY1 := canR_c (zY.1.c (by omega))
 have rY2 := canR_c (zY.2.c (by omega))
 obtain ⟨S, hS, oS, cS, zS, fS⟩ := fewC_all (s := us) (t := ut) ug1 ug2 kd
 have rcS := canR_c (rC_cz cS zS)
 obtain ⟨T, hT, oT, cT, zT, fT⟩ := fewC_all (s := ws) (t := wt) wg1 wg2 ke
 have rcT := canR_c (rC_cz cT zT)
 rw [hX, hS] at hP
 rw [hY, hT] at hQ_
 rw [hY] at hz
 have hP1 := hP
 have hP2 := hQ_
 unfold phasB at hP1 hP2
 have pX := pat_ca (phas_iff.1 hP)
 have pY := pat_ca (phas_iff.1 hQ_)
 have xX := zX.can
 have xY := zY.can
 have wn : IntKind.i64.wrap (n.tmod 5) = n.tmod 5 := wrap_in (by omega) (by omega)
 have wb : IntKind.i64.wrap (b.tmod 100) = b.tmod 100 := wrap_in (by omega) (by omega)
 have wb1 : IntKind.i64.wrap (b.tmod 100 + 1) = b.tmod 100 + 1 := wrap_in (by omega) (by omega)
 obtain ⟨k, hk⟩ : ∃ k, k = powN (n.tmod 5) := ⟨_, rfl⟩
 have kk : k ≤ 5 := by rw [hk]; unfold powN; omega
 have kk2 : powN (n.tmod 5) ≤ 5 := by rw [← hk]; exact kk
 have kk3 : powN (n.tmod 5) ≤ 8 := by omega
 have hp2 : b.tmod 100 + 1 ≤ 200 := by omega
 have a1_ := phas_of (pcan_add xX xY) (pat_add pX pY)
 have a2_ := phas_of (pcan_sub xX xY) (pat_sub pX pY)
 have a3_ := phas_of (pcan_mul xX xY) (pat_mul pX pY)
 have a4_ := phas_of (pcan_sq xX) (pat_sq pX)
 have a5_ := phas_of (ppw_can xX (powN (n.tmod 5))) (pat_pow pX (powN (n.tmod 5)))
 have a6_ := phas_of (pcan_neg xX) (pat_neg pX)
 unfold phasB at a1_ a2_ a3_ a4_ a5_ a6_
 have a7_ : hasY (pnorm (rcn X)) (cnorm (ca S)) = true := hasY_in (rin_cnorm pX)
 have m1_ : smallM (ca S) (ca T) := ⟨_, _, _, _, zS, zT, by omega⟩
 have m2_ : smallM (ca S) (ca S) := ⟨_, _, _, _, zS, zS, by omega⟩
 have m3_ : smallM (ca T) (ca T) := ⟨_, _, _, _, zT, zT, by omega⟩
 have zV : cz ((ca T).1, (ca T).2.neg) 1000 1320 := ⟨zT.1, sz_neg zT.2⟩
 have cV : ccan ((ca T).1, (ca T).2.neg) := ⟨cT.1, neg_n _⟩
 have m4_ : smallM (ca S) ((ca T).1, (ca T).2.neg) := ⟨_, _, _, _, zS, zV, by omega⟩
 have u1_ := okP_pz (pz_add zX zY) (by omega)
 have u2_ := okP_pz (pz_sub zX zY) (by omega)
 have u3_ := okP_pz (pz_mul zX zY) (by omega)
 have u4_ := okP_pz (pz_sq zX) (by omega)
 have u5_ := okP_pz ((pz_pw zX (powN (n.tmod 5))).mono (show 1000 * powN (n.tmod 5) ≤ 5000 by omega) (show (1320 + 1) * powN (n.tmod 5) + 1 ≤ 6606 by omega)) (by omega)
 have u6_ := okP_pz (pz_neg zX) (by omega)
 have v1_ := okR_czg ⟨add_n _ _, add_n _ _⟩ (cz_add zS zT) (by omega)
 have v2_ := okR_czg ⟨sub_n _ _, sub_n _ _⟩ (cz_sub zS zT) (by omega)
 have v3_ := okR_czg ⟨sub_n _ _, add_n _ _⟩ (cz_mul zS zT) (by omega)
 have v4_ := okR_czg ⟨sub_n _ _, add_n _ _⟩ (cz_mul zS zS) (by omega)
 have v5_ := okR_czg (ccan_pw (ca S) (powN (n.tmod 5))) (cz_mono (cz_pw zS (powN (n.tmod 5))) (show 1000 * powN (n.tmod 5) ≤ 5000 by omega) (show (1320 + 1) * powN (n.tmod 5) + 1 ≤ 6606 by omega)) (by omega)
 have v6_ := okR_czg ⟨neg_n _, neg_n _⟩ (cz_neg zS) (by omega)
 have v7_ := canR_c ((pz_norm zX).c (by omega))
 have dS_ := dC_szR (norm_n _) (cz_norm zS) (by omega)
 have v8_ := canD_c dS_
 have dT_ := dC_szR (norm_n _) (cz_norm zT) (by omega)
 have v9_ := canD_c dT_
 have bS_ := dC_b dS_
 have b1_ := bS_.1
 have b2_ := bS_.2
 have q0_ := canD_c (dC_2 (rC_cz cT zT))
 have nV1 : tmI (-(ca T).2.1) = (ca T).2.neg.1 := rfl
 have nV2 : teI (-(ca T).2.1) (ca T).2.2 = (ca T).2.neg.2 := rfl
 have rV_ := canR_czg cV zV (by omega)
 have zW := cz_mul zS zV
 have dW1 : dC (cmul (ca S) ((ca T).1, (ca T).2.neg)).1 := dC_szR (sub_n _ _) zW.1 (by omega)
 have dW2 : dC (cmul (ca S) ((ca T).1, (ca T).2.neg)).2 := dC_szR (add_n _ _) zW.2 (by omega)
 have w1_ := canD_c dW1
 have w2_ := canD_c dW2
 have zD := pz_div zX zY hp2
 have w3_ := canR_c (zD.1.c (by omega))
 have w4_ := canR_c (zD.2.c (by omega))
 have nT_ := cz_norm zT
 have e1_ := dC_szR (mul_n _ _) (sz_mul zD.1.2.1 nT_) (by omega)
 have e2_ := dC_szR (mul_n _ _) (sz_mul zD.1.2.2 nT_) (by omega)
 have e3_ := dC_szR (mul_n _ _) (sz_mul zD.2.2.1 nT_) (by omega)
 have e4_ := dC_szR (mul_n _ _) (sz_mul zD.2.2.2 nT_) (by omega)
 obtain ⟨g1_, g2_⟩ := div_holds xY pX pY hz (b.tmod 100 + 1)
 have hz2 := trivial
 rotate_left
 all_goals (cbv)
 all_goals (repeat' (first | with_reducible refine And.intro ?_ ?_ | (with_reducible refine safe_lift hA ?_; kernel_rfl) | (intro hc_; (first | (with_reducible exfalso; clear hQ; subst hF hA; simp only [fnOf, find, std, reduceIte, Nat.reduceEqDiff, sp1, sp2, a1, a2, FnSpec.out, Shape.build, leafs, leafCells, tups, oneOf, List.cons_append, List.nil_append, List.length_cons, List.length_nil, s_RectHolds, s_known9, s_fewP9, s_fewC9, s_hHas, s_vCplx, s_hAdd, s_vAdd, s_hSub, s_vSub, s_hMul, s_vMul, s_hSquare, s_hPow, s_vPow, s_hNeg, s_vNeg, s_hNorm, s_vNorm, s_yHas, s_hDiv, s_qNeg, s_betw9, re4, re8, rv_N0, rv8_N0, rv8_pair, rv8_0, rv_0, dv, dz, dx, dcn, dm_N0, vI_N0, rw12_is, raw6_is, Prod.eta, rcn_rcn, min_if, wrap_er, powN_2, Int.reduceNeg, Int.reduceEq, Int.reduceLT, Int.reduceLE, Int.reduceBEq, beq_dec, Int.reduceAdd, Int.zero_add, Int.add_zero, eq_self, Bool.not_eq_eq_eq_not, decide_eq_true_eq, decide_eq_false_iff_not, not_true_eq_false, not_false_eq_true, decide_true, decide_false, Bool.true_and, Bool.and_true, Bool.not_true, Bool.not_false, beq_self_eq_true, Bool.true_eq_false, Bool.false_eq_true, reduceCtorEq, gt_iff_lt, ge_iff_le, true_and, and_true, and_self, Bool.false_eq, Bool.and_self, hfx, hfy, hfs, hft, hX, hY, hS, hT, hP1, hP2, wn, wb, wb1, a1_, a2_, a3_, a4_, a5_, a6_, a7_, nV1, nV2, hz2, hz, g1_, g2_] at hc_; done) | (clear hc_; cbv)))))
 all_goals subst hF hA
 all_goals (try simp only [fnOf, find, std, reduceIte, Nat.reduceEqDiff, sp1, sp2, a1, a2, FnSpec.out, Shape.build, leafs, leafCells, tups, oneOf, List.cons_append, List.nil_append, List.length_cons, List.length_nil, s_RectHolds, s_known9, s_fewP9, s_fewC9, s_hHas, s_vCplx, s_hAdd, s_vAdd, s_hSub, s_vSub, s_hMul, s_vMul, s_hSquare, s_hPow, s_vPow, s_hNeg, s_vNeg, s_hNorm, s_vNorm, s_yHas, s_hDiv, s_qNeg, s_betw9, re4, re8, rv_N0, rv8_N0, rv8_pair, rv8_0, rv_0, dv, dz, dx, dcn, dm_N0, vI_N0, rw12_is, raw6_is, Prod.eta, rcn_rcn, min_if, wrap_er, powN_2, Int.reduceNeg, Int.reduceEq, Int.reduceLT, Int.reduceLE, Int.reduceBEq, beq_dec, Int.reduceAdd, Int.zero_add, Int.add_zero, eq_self, Bool.not_eq_eq_eq_not, decide_eq_true_eq, decide_eq_false_iff_not, not_true_eq_false, not_false_eq_true, decide_true, decide_false, Bool.true_and, Bool.and_true, Bool.not_true, Bool.not_false, beq_self_eq_true, Bool.true_eq_false, Bool.false_eq_true, reduceCtorEq, gt_iff_lt, ge_iff_le, true_and, and_true, and_self, Bool.false_eq, Bool.and_self, hfx, hfy, hfs, hft, hX, hY, hS, hT, hP1, hP2, wn, wb, wb1, a1_, a2_, a3_, a4_, a5_, a6_, a7_, nV1, nV2, hz2, hz, g1_, g2_] at hQ ⊢)
 all_goals (repeat' (first
  | with_reducible exact hQ
  | with_reducible assumption
  | with_reducible exact isi_int _ _
  | with_reducible exact True.intro
  | (with_reducible refine toldP_c (x := (_, _)) ?_ ?_ <;> with_reducible assumption)
  | (with_reducible refine canR_c (r := ((_, _), (_, _))) ?_; with_reducible assumption)
  | omega
  | with_reducible refine And.intro ?_ ?_))
end Go.Proofs.YtkfojbelnemhbaaGreatDoor.Ev
