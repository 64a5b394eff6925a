import Derived.Test.YtkfojbelnemhbaaGreatDoorHg
set_option maxHeartbeats 16000000
set_option maxRecDepth 100000
set_option linter.all false
namespace Go.Proofs.YtkfojbelnemhbaaGreatDoor.Ev
open Go Go.RowKit
def s_RectRounds : FnSpec := ⟨.one .b, fun ds => match ds with | [x, y, .int .i64 p] => okXP x ∧ okXP y | _ => False, fun _ _ => 0, fun _ _ => true, fun _ _ => 0, fun _ _ => []⟩
theorem RectRounds_arg {ds : List D} (h : s_RectRounds.p ds) : ∃ x y p, ds = [x, y, .int .i64 p] ∧ okXP x ∧ okXP y := by
 unfold s_RectRounds at h
 dsimp only at h
 split at h
 ·exact ⟨_, _, _, rfl, h⟩
 ·exact h.elim
theorem good_RectRounds : Good Tryz.prog (GWL [0, 1, 2, 3, 4, 5, 6]) N0 4 s_RectRounds := by
 refine goodM 0 (gc good_known9 <| gl good_fewP9 rfl <| gl good_zRect rfl <| gc good_hInv <| gl good_zInv rfl <| gc good_hDiv <| gl good_zDiv rfl <| gc good_hRound <| gl good_zRound rfl <| gl good_zEqual rfl gn) Tryz.f4 (by kernel_rfl) (by kernel_rfl) fun ds hp F A Q hF hA hQ => ?_
 obtain ⟨x, y, p, rfl, hx, hy⟩ := RectRounds_arg hp
 have hx_ := hx
 have hy_ := hy
 obtain ⟨s1, n1, c1, e1, s2, n2, c2, e2, s3, n3, c3, e3, s4, n4, c4, e4, rfl, ⟨⟨g1, h1⟩, g2, h2⟩, ⟨g3, h3⟩, g4, h4⟩ := okXP_arg hx
 obtain ⟨t1, m1, d1, f1, t2, m2, d2, f2, t3, m3, d3, f3, t4, m4, d4, f4, rfl, ⟨⟨p1, q1⟩, p2, q2⟩, ⟨p3, q3⟩, p4, q4⟩ := okXP_arg hy
 clear hp
 rcases five9 (a := fewQ n1 e1 n2 e2 n3 e3 n4 e4) (b := fewQ m1 f1 m2 f2 m3 f3 m4 f4) p with kx | ⟨kx, ky⟩ | ⟨kx, ky, kp, kp2⟩ | ⟨kx, ky, kp⟩ | ⟨kx, ky, kp⟩
 have hfx : decide (fewQ n1 e1 n2 e2 n3 e3 n4 e4) = false := decide_eq_false kx
 obtain ⟨hK, hX, hY, hfy, kp1, kp3⟩ := trs
 rotate_left
 have hfx : decide (fewQ n1 e1 n2 e2 n3 e3 n4 e4) = true := decide_eq_true kx
 have hfy : decide (fewQ m1 f1 m2 f2 m3 f3 m4 f4) = false := decide_eq_false ky
 obtain ⟨hK, hX, hY, kp1, kp3⟩ := trs
 rotate_left
 have hfx : decide (fewQ n1 e1 n2 e2 n3 e3 n4 e4) = true := decide_eq_true kx
 have hfy : decide (fewQ m1 f1 m2 f2 m3 f3 m4 f4) = true := decide_eq_true ky
 have kp1 : (200 < p) = True := eq_true kp
 have kp3 : (p ≤ 4000) = True := eq_true kp2
 obtain ⟨hK, hX, hY⟩ := trs
 rotate_left
 have hfx : decide (fewQ n1 e1 n2 e2 n3 e3 n4 e4) = true := decide_eq_true kx
 have hfy : decide (fewQ m1 f1 m2 f2 m3 f3 m4 f4) = true := decide_eq_true ky
 obtain ⟨X, hX, sX, lX, qX⟩ := fewP_all (s1 := s1) (s2 := s2) (s3 := s3) (s4 := s4) g1 g2 g3 g4 kx
 have mX := sX.1
 have oX := mX.1
 have zX := qX.1
 have tX := toldP_pz zX (by omega)
 have rX1 := canR_c (zX.1.c (by omega))
 have rX2 := canR_c (zX.2.c (by omega))
 obtain ⟨Y, hY, sY, lY, qY⟩ := fewP_all (s1 := t1) (s2 := t2) (s3 := t3) (s4 := t4) p1 p2 p3 p4 ky
 have mY := sY.1
 have oY := mY.1
 have zY := qY.1
 have tY := toldP_pz zY (by omega)
 have rY1 := canR_c (zY.1.c (by omega))
 have rY2 := canR_c (zY.2.c (by omega))
 obtain ⟨K, hK⟩ : ∃ K, min p 200 = K := ⟨_, rfl⟩
 have hk : K ≤ 200 := by omega
 have uX := zX.1.fR.mono (show 1000 + 1320 ≤ 9700 by omega) (show 1000 + 1320 ≤ 9700 by omega)
 have uX2 := zX.2.fR.mono (show 1000 + 1320 ≤ 9700 by omega) (show 1000 + 1320 ≤ 9700 by omega)
 have u1_ := toldP_pz (pz_inv qY.1 hk) (by omega)
 have u2_ := toldP_pz (pz_div zX qY.1 hk) (by omega)
 have u3_ := toldP_pz (pz_round zX (by omega) K) (by omega)
 have kp1 : (200 < p) = False := eq_false (by omega)
 have kp3 := trivial
 rotate_left
 have hfx : decide (fewQ n1 e1 n2 e2 n3 e3 n4 e4) = true := decide_eq_true kx
 have hfy : decide (fewQ m1 f1 m2 f2 m3 f3 m4 f4) = true := decide_eq_true ky
 obtain ⟨X, hX, sX, lX, qX⟩ := fewP_all (s1 := s1) (s2 := s2) (s3 := s3) (s4 := s4) g1 g2 g3 g4 kx
 have mX := sX.1
 have oX := mX.1
 have zX := qX.1
 have tX := toldP_pz zX (by omega)
 have rX1 := canR_c (zX.1.c (by omega))
 have rX2 := canR_c (zX.2.c (by omega))
 obtain ⟨Y, hY, sY, lY, qY⟩ := fewP_all (s1 := t1) (s2 := t2) (s3 := t3) (s4 := t4) p1 p2 p3 p4 ky
 have mY := sY.1
 have oY := mY.1
 have zY := qY.1
 have tY := toldP_pz zY (by omega)
 have rY1 := canR_c (zY.1.c (by omega))
 have rY2 := canR_c (zY.2.c (by omega))
 obtain ⟨K, hK⟩ : ∃ K, min p 200 = K := ⟨_, rfl⟩
 have hk : K ≤ 200 := by omega
 have uX := zX.1.fR.mono (show 1000 + 1320 ≤ 9700 by omega) (show 1000 + 1320 ≤ 9700 by omega)
 have uX2 := zX.2.fR.mono (show 1000 + 1320 ≤ 9700 by omega) (show 1000 + 1320 ≤ 9700 by omega)
 have u1_ := toldP_pz (pz_inv qY.1 hk) (by omega)
 have u2_ := toldP_pz (pz_div zX qY.1 hk) (by omega)
 have u3_ := toldP_pz (pz_round zX (by omega) K) (by omega)
 have kp1 : (200 < p) = True := eq_true (by omega)
 have kp3 : (p ≤ 4000) = False := eq_false (by omega)
 rotate_left
 all_goals (cbv)
 all_goals (repeat' (first | with_reducible refine And.intro ?_ ?_ | (with_reducible refine safe_lift hA ?_; kernel_rfl) | (intro hc_; (first | (with_reducible exfalso; clear hQ; subst hF hA; simp only [fnOf, find, std, reduceIte, Nat.reduceEqDiff, sp1, sp2, a1, a2, FnSpec.out, Shape.build, leafs, leafCells, tups, oneOf, List.cons_append, List.nil_append, List.length_cons, List.length_nil, s_RectRounds, s_known9, s_fewP9, s_zRect, s_hInv, s_zInv, s_hDiv, s_zDiv, s_hRound, s_zRound, s_zEqual, re4, re8, rv_N0, rv8_N0, rv8_pair, rv8_0, rv_0, dv, dz, dx, dcn, dm_N0, vI_N0, rw12_is, raw6_is, Prod.eta, rcn_rcn, min_if, wrap_er, powN_2, Int.reduceNeg, Int.reduceEq, Int.reduceLT, Int.reduceLE, Int.reduceBEq, beq_dec, Int.reduceAdd, Int.zero_add, Int.add_zero, eq_self, Bool.not_eq_eq_eq_not, decide_eq_true_eq, decide_eq_false_iff_not, not_true_eq_false, not_false_eq_true, decide_true, decide_false, Bool.true_and, Bool.and_true, Bool.not_true, Bool.not_false, beq_self_eq_true, Bool.true_eq_false, Bool.false_eq_true, reduceCtorEq, gt_iff_lt, ge_iff_le, true_and, and_true, and_self, Bool.false_eq, Bool.and_self, hfx, hfy, kp1, kp3, hX, hY, hK] at hc_; done) | (clear hc_; cbv)))))
 all_goals subst hF hA
 all_goals (try simp only [fnOf, find, std, reduceIte, Nat.reduceEqDiff, sp1, sp2, a1, a2, FnSpec.out, Shape.build, leafs, leafCells, tups, oneOf, List.cons_append, List.nil_append, List.length_cons, List.length_nil, s_RectRounds, s_known9, s_fewP9, s_zRect, s_hInv, s_zInv, s_hDiv, s_zDiv, s_hRound, s_zRound, s_zEqual, re4, re8, rv_N0, rv8_N0, rv8_pair, rv8_0, rv_0, dv, dz, dx, dcn, dm_N0, vI_N0, rw12_is, raw6_is, Prod.eta, rcn_rcn, min_if, wrap_er, powN_2, Int.reduceNeg, Int.reduceEq, Int.reduceLT, Int.reduceLE, Int.reduceBEq, beq_dec, Int.reduceAdd, Int.zero_add, Int.add_zero, eq_self, Bool.not_eq_eq_eq_not, decide_eq_true_eq, decide_eq_false_iff_not, not_true_eq_false, not_false_eq_true, decide_true, decide_false, Bool.true_and, Bool.and_true, Bool.not_true, Bool.not_false, beq_self_eq_true, Bool.true_eq_false, Bool.false_eq_true, reduceCtorEq, gt_iff_lt, ge_iff_le, true_and, and_true, and_self, Bool.false_eq, Bool.and_self, hfx, hfy, kp1, kp3, hX, hY, hK] at hQ ⊢)
 all_goals (repeat' (first
  | with_reducible exact hQ
  | with_reducible assumption
  | with_reducible exact isi_int _ _
  | with_reducible exact True.intro
  | (with_reducible refine toldP_c (x := (_, _)) ?_ ?_ <;> with_reducible assumption)
  | (with_reducible refine canR_c (r := ((_, _), (_, _))) ?_; with_reducible assumption)
  | omega
  | with_reducible refine And.intro ?_ ?_))
end Go.Proofs.YtkfojbelnemhbaaGreatDoor.Ev
