import Derived.Test.YtnjjfakjnkhhjaaGreatDoorJs
set_option maxHeartbeats 16000000
set_option maxRecDepth 100000
set_option linter.all false
namespace Go.Proofs.YtnjjfakjnkhhjaaGreatDoor.Ev
open Go Go.RowKit
def s_DiscRects : FnSpec := ⟨.one .b, fun ds => match ds with | [x, y, .int .i64 _] => okXP x ∧ okXD y | _ => False, fun _ _ => 0, fun _ _ => true, fun _ _ => 0, fun _ _ => []⟩
theorem DiscRects_arg {ds : List D} (h : s_DiscRects.p ds) : ∃ x y p, ds = [x, y, .int .i64 p] ∧ okXP x ∧ okXD y := by
 unfold s_DiscRects at h
 dsimp only at h
 split at h
 ·exact ⟨_, _, _, rfl, h⟩
 ·exact h.elim
theorem xhas_corner {R : Rc} {p : Int} {c : Re} (h : qv (cnorm (csub c (pmid R))) = qv (cnorm (csub (R.1.2, R.2.2) (pmid R)))) : xhas (zaround R p) c = true := by
 unfold xhas zaround
 dsimp only
 refine decide_eq_true ((cmpY_le _ _).2 ?_)
 rw [h, qv_mul]
 exact (dsqrt_up (norm_nn _) p).1
theorem corner1 (R : Rc) (p : Int) : xhas (zaround R p) (R.1.1, R.2.1) = true := xhas_corner (by
 rw [qv_cnorm_sub, qv_cnorm_sub]
 unfold pmid
 dsimp only
 rw [qv_scl_1, qv_scl_1, qv_add, qv_add]
 grind)
theorem corner2 (R : Rc) (p : Int) : xhas (zaround R p) (R.1.2, R.2.1) = true := xhas_corner (by
 rw [qv_cnorm_sub, qv_cnorm_sub]
 unfold pmid
 dsimp only
 rw [qv_scl_1, qv_scl_1, qv_add, qv_add]
 grind)
theorem qw_around {R : Rc} (h : pz R 1000 1320) {p : Int} (hp : p ≤ 200) : qw (zaround R p) := by
 have z1 := sz_mono (mid_sz h.1.2.1 h.1.2.2) (Nat.le_refl 1001) (show 1321 ≤ 1322 by omega)
 have z2 := sz_mono (mid_sz h.2.2.1 h.2.2.2) (Nat.le_refl 1001) (show 1321 ≤ 1322 by omega)
 have zS := cz_sub (x := (R.1.2, R.2.2)) (y := pmid R) (cz_mono ⟨h.1.2.2, h.2.2.2⟩ (show 1000 ≤ 1001 by omega) (show 1320 ≤ 1322 by omega)) ⟨z1, z2⟩
 exact ⟨⟨⟨scl_n _ _, scl_n _ _⟩, dsqrt_n _ _ _⟩, ⟨z1, z2⟩, sz_mono (far_sz zS (by omega) hp) (by omega) (by omega)⟩
theorem toldE_w {a : Dc} (h : qw a) : toldE (rel9 a) := toldE_mk ⟨h.1, cz_mono h.2.1 (by omega) (by omega), sz_mono h.2.2 (by omega) (by omega)⟩
theorem rC_zq {x : Re} (hc : ccan x) {L H : Nat} (h : cz x L H) (hb : L + H ≤ 19200) : rC x := ⟨hc.1, hc.2, (cz_can hc h).mono (by omega) (by omega)⟩
theorem rec10 {a b : Prop} [Decidable a] [Decidable b] (p : Int) : ¬a ∨ (a ∧ ¬b) ∨ (a ∧ b ∧ 200 < p ∧ p ≤ 4000) ∨ (a ∧ b ∧ p ≤ 200) ∨ (a ∧ b ∧ 4000 < p) := by
 by_cases h : a
 ·by_cases k : b
  ·rcases Int.lt_or_le 200 p with g | g
   ·rcases Int.lt_or_le 4000 p with g2 | g2
    ·exact .inr (.inr (.inr (.inr ⟨h, k, g2⟩)))
    ·exact .inr (.inr (.inl ⟨h, k, g, g2⟩))
   ·exact .inr (.inr (.inr (.inl ⟨h, k, g⟩)))
  ·exact .inr (.inl ⟨h, k⟩)
 ·exact .inl h
theorem good_DiscRects : Good Tryz.prog (GWL [0, 1, 2, 3, 4, 7]) N0 4 s_DiscRects := by
 refine goodM 0 (gc good_known10 <| gl good_fewP10 rfl <| gl good_fewD10 rfl <| gl good_zRect rfl <| gl good_zDisc rfl <| gl good_jAround rfl <| gl good_zAround rfl <| gl good_zEqualD rfl <| gl good_jInside rfl <| gl good_zSq rfl <| gl good_zEqual rfl <| gl good_zHoldsW rfl gn) Tryz.f4 (by kernel_rfl) (by kernel_rfl) fun ds hp F A Q hF hA hQ => ?_
 obtain ⟨x, y, p, rfl, hx, hy⟩ := DiscRects_arg hp
 have hx_ := hx
 have hy_ := hy
 obtain ⟨s1, n1, c1, e1, s2, n2, c2, e2, s3, n3, c3, e3, s4, n4, c4, e4, rfl, ⟨⟨g1, h1⟩, g2, h2⟩, ⟨g3, h3⟩, g4, h4⟩ := okXP_arg hx
 obtain ⟨t1, m1, d1, f1, t2, m2, d2, f2, t3, m3, d3, f3, rfl, ⟨p1, q1⟩, ⟨p2, q2⟩, p3, q3⟩ := okXD_arg hy
 clear hp
 rcases rec10 (a := fewQ n1 e1 n2 e2 n3 e3 n4 e4) (b := fewDQ m1 f1 m2 f2 m3 f3) p with ka | ⟨ka, kb⟩ | ⟨ka, kb, kp⟩ | ⟨ka, kb, kp⟩ | ⟨ka, kb, kp⟩
 ·have hfx : decide (fewQ n1 e1 n2 e2 n3 e3 n4 e4) = false := decide_eq_false ka
  cbv
  repeat' (first | with_reducible refine And.intro ?_ ?_ | (with_reducible refine safe_lift hA ?_; kernel_rfl) | (intro hc_; (first | (with_reducible exfalso; clear hQ; subst hF hA; simp only [fnOf, find, std, reduceIte, Nat.reduceEqDiff, sp1, sp2, a1, a2, FnSpec.out, Shape.build, leafs, leafCells, tups, oneOf, List.cons_append, List.nil_append, List.length_cons, List.length_nil, s_DiscRects, s_known10, s_fewP10, s_fewD10, s_zRect, s_zDisc, s_jAround, s_zAround, s_zEqualD, s_jInside, s_zSq, s_zEqual, s_zHoldsW, rv_raw, rv_N0, dv, dz, dx, dcn, dm_raw, dm_N0, vI_N0, raw6_is, rw9_is, Prod.eta, rv9_raw, re2, re4, re6, Bool.not_eq_eq_eq_not, decide_eq_true_eq, decide_eq_false_iff_not, not_true_eq_false, not_false_eq_true, decide_true, decide_false, Bool.true_and, Bool.and_true, Bool.not_true, Bool.not_false, beq_self_eq_true, Bool.true_eq_false, Bool.false_eq_true, reduceCtorEq, gt_iff_lt, ge_iff_le, true_and, and_true, and_self, Bool.false_eq, Bool.and_self, eq_self, Int.reduceLE, Int.reduceNeg, Int.reduceLT, Int.reduceBEq, hfx, rw12_is] at hc_; done) | (clear hc_; cbv))))
  all_goals subst hF hA
  all_goals (try simp only [fnOf, find, std, reduceIte, Nat.reduceEqDiff, sp1, sp2, a1, a2, FnSpec.out, Shape.build, leafs, leafCells, tups, oneOf, List.cons_append, List.nil_append, List.length_cons, List.length_nil, s_DiscRects, s_known10, s_fewP10, s_fewD10, s_zRect, s_zDisc, s_jAround, s_zAround, s_zEqualD, s_jInside, s_zSq, s_zEqual, s_zHoldsW, rv_raw, rv_N0, dv, dz, dx, dcn, dm_raw, dm_N0, vI_N0, raw6_is, rw9_is, Prod.eta, rv9_raw, re2, re4, re6, Bool.not_eq_eq_eq_not, decide_eq_true_eq, decide_eq_false_iff_not, not_true_eq_false, not_false_eq_true, decide_true, decide_false, Bool.true_and, Bool.and_true, Bool.not_true, Bool.not_false, beq_self_eq_true, Bool.true_eq_false, Bool.false_eq_true, reduceCtorEq, gt_iff_lt, ge_iff_le, true_and, and_true, and_self, Bool.false_eq, Bool.and_self, eq_self, Int.reduceLE, Int.reduceNeg, Int.reduceLT, Int.reduceBEq, hfx, rw12_is] at hQ ⊢)
  all_goals (repeat' (first
   | with_reducible exact hQ
   | with_reducible assumption
   | with_reducible exact isi_int _ _
   | with_reducible exact True.intro
   | omega
   | with_reducible refine And.intro ?_ ?_))
  all_goals first
   | exact hQ
   | exact oPF
   | exact oP_
   | exact oH_
   | exact tR
   | exact tE
   | exact tW
   | exact tC
   | exact tL
   | exact tZ
   | exact t1_
   | exact t2_
   | trace_state
 ·have hfx : decide (fewQ n1 e1 n2 e2 n3 e3 n4 e4) = true := decide_eq_true ka
  have hfy : decide (fewDQ m1 f1 m2 f2 m3 f3) = false := decide_eq_false kb
  cbv
  repeat' (first | with_reducible refine And.intro ?_ ?_ | (with_reducible refine safe_lift hA ?_; kernel_rfl) | (intro hc_; (first | (with_reducible exfalso; clear hQ; subst hF hA; simp only [fnOf, find, std, reduceIte, Nat.reduceEqDiff, sp1, sp2, a1, a2, FnSpec.out, Shape.build, leafs, leafCells, tups, oneOf, List.cons_append, List.nil_append, List.length_cons, List.length_nil, s_DiscRects, s_known10, s_fewP10, s_fewD10, s_zRect, s_zDisc, s_jAround, s_zAround, s_zEqualD, s_jInside, s_zSq, s_zEqual, s_zHoldsW, rv_raw, rv_N0, dv, dz, dx, dcn, dm_raw, dm_N0, vI_N0, raw6_is, rw9_is, Prod.eta, rv9_raw, re2, re4, re6, Bool.not_eq_eq_eq_not, decide_eq_true_eq, decide_eq_false_iff_not, not_true_eq_false, not_false_eq_true, decide_true, decide_false, Bool.true_and, Bool.and_true, Bool.not_true, Bool.not_false, beq_self_eq_true, Bool.true_eq_false, Bool.false_eq_true, reduceCtorEq, gt_iff_lt, ge_iff_le, true_and, and_true, and_self, Bool.false_eq, Bool.and_self, eq_self, Int.reduceLE, Int.reduceNeg, Int.reduceLT, Int.reduceBEq, hfx, hfy, rw12_is] at hc_; done) | (clear hc_; cbv))))
  all_goals subst hF hA
  all_goals (try simp only [fnOf, find, std, reduceIte, Nat.reduceEqDiff, sp1, sp2, a1, a2, FnSpec.out, Shape.build, leafs, leafCells, tups, oneOf, List.cons_append, List.nil_append, List.length_cons, List.length_nil, s_DiscRects, s_known10, s_fewP10, s_fewD10, s_zRect, s_zDisc, s_jAround, s_zAround, s_zEqualD, s_jInside, s_zSq, s_zEqual, s_zHoldsW, rv_raw, rv_N0, dv, dz, dx, dcn, dm_raw, dm_N0, vI_N0, raw6_is, rw9_is, Prod.eta, rv9_raw, re2, re4, re6, Bool.not_eq_eq_eq_not, decide_eq_true_eq, decide_eq_false_iff_not, not_true_eq_false, not_false_eq_true, decide_true, decide_false, Bool.true_and, Bool.and_true, Bool.not_true, Bool.not_false, beq_self_eq_true, Bool.true_eq_false, Bool.false_eq_true, reduceCtorEq, gt_iff_lt, ge_iff_le, true_and, and_true, and_self, Bool.false_eq, Bool.and_self, eq_self, Int.reduceLE, Int.reduceNeg, Int.reduceLT, Int.reduceBEq, hfx, hfy, rw12_is] at hQ ⊢)
  all_goals (repeat' (first
   | with_reducible exact hQ
   | with_reducible assumption
   | with_reducible exact isi_int _ _
   | with_reducible exact True.intro
   | omega
   | with_reducible refine And.intro ?_ ?_))
  all_goals first
   | exact hQ
   | exact oPF
   | exact oP_
   | exact oH_
   | exact tR
   | exact tE
   | exact tW
   | exact tC
   | exact tL
   | exact tZ
   | exact t1_
   | exact t2_
   | trace_state
 ·have hfx : decide (fewQ n1 e1 n2 e2 n3 e3 n4 e4) = true := decide_eq_true ka
  have hfy : decide (fewDQ m1 f1 m2 f2 m3 f3) = true := decide_eq_true kb
  have h1_ : (200 < p) = True := eq_true kp.1
  have h2_ : (p ≤ 4000) = True := eq_true kp.2
  cbv
  repeat' (first | with_reducible refine And.intro ?_ ?_ | (with_reducible refine safe_lift hA ?_; kernel_rfl) | (intro hc_; (first | (with_reducible exfalso; clear hQ; subst hF hA; simp only [fnOf, find, std, reduceIte, Nat.reduceEqDiff, sp1, sp2, a1, a2, FnSpec.out, Shape.build, leafs, leafCells, tups, oneOf, List.cons_append, List.nil_append, List.length_cons, List.length_nil, s_DiscRects, s_known10, s_fewP10, s_fewD10, s_zRect, s_zDisc, s_jAround, s_zAround, s_zEqualD, s_jInside, s_zSq, s_zEqual, s_zHoldsW, rv_raw, rv_N0, dv, dz, dx, dcn, dm_raw, dm_N0, vI_N0, raw6_is, rw9_is, Prod.eta, rv9_raw, re2, re4, re6, Bool.not_eq_eq_eq_not, decide_eq_true_eq, decide_eq_false_iff_not, not_true_eq_false, not_false_eq_true, decide_true, decide_false, Bool.true_and, Bool.and_true, Bool.not_true, Bool.not_false, beq_self_eq_true, Bool.true_eq_false, Bool.false_eq_true, reduceCtorEq, gt_iff_lt, ge_iff_le, true_and, and_true, and_self, Bool.false_eq, Bool.and_self, eq_self, Int.reduceLE, Int.reduceNeg, Int.reduceLT, Int.reduceBEq, hfx, hfy, h1_, h2_, rw12_is] at hc_; done) | (clear hc_; cbv))))
  all_goals subst hF hA
  all_goals (try simp only [fnOf, find, std, reduceIte, Nat.reduceEqDiff, sp1, sp2, a1, a2, FnSpec.out, Shape.build, leafs, leafCells, tups, oneOf, List.cons_append, List.nil_append, List.length_cons, List.length_nil, s_DiscRects, s_known10, s_fewP10, s_fewD10, s_zRect, s_zDisc, s_jAround, s_zAround, s_zEqualD, s_jInside, s_zSq, s_zEqual, s_zHoldsW, rv_raw, rv_N0, dv, dz, dx, dcn, dm_raw, dm_N0, vI_N0, raw6_is, rw9_is, Prod.eta, rv9_raw, re2, re4, re6, Bool.not_eq_eq_eq_not, decide_eq_true_eq, decide_eq_false_iff_not, not_true_eq_false, not_false_eq_true, decide_true, decide_false, Bool.true_and, Bool.and_true, Bool.not_true, Bool.not_false, beq_self_eq_true, Bool.true_eq_false, Bool.false_eq_true, reduceCtorEq, gt_iff_lt, ge_iff_le, true_and, and_true, and_self, Bool.false_eq, Bool.and_self, eq_self, Int.reduceLE, Int.reduceNeg, Int.reduceLT, Int.reduceBEq, hfx, hfy, h1_, h2_, rw12_is] at hQ ⊢)
  all_goals (repeat' (first
   | with_reducible exact hQ
   | with_reducible assumption
   | with_reducible exact isi_int _ _
   | with_reducible exact True.intro
   | omega
   | with_reducible refine And.intro ?_ ?_))
  all_goals first
   | exact hQ
   | exact oPF
   | exact oP_
   | exact oH_
   | exact tR
   | exact tE
   | exact tW
   | exact tC
   | exact tL
   | exact tZ
   | exact t1_
   | exact t2_
   | trace_state
 ·have hfx : decide (fewQ n1 e1 n2 e2 n3 e3 n4 e4) = true := decide_eq_true ka
  have hfy : decide (fewDQ m1 f1 m2 f2 m3 f3) = true := decide_eq_true kb
  have h1_ : (200 < p) = False := eq_false (by omega)
  have h2_ : True := trivial
  have fK := okF_few (s1 := t1) (s2 := t2) (s3 := t3) p1 p2 p3 kb
  have aK := okF_A fK
  have qK := okF_qd fK
  obtain ⟨K, hK⟩ : ∃ K : Dc, dct (((vI t1 d1, f1), (vI t2 d2, f2)), (vI t3 d3, f3)) = K := ⟨_, rfl⟩
  have hK1 : ca (((vI t1 d1, f1), (vI t2 d2, f2)), (vI t3 d3, f3)).1 = K.1 := congrArg Prod.fst hK
  have hK2 : rad (((vI t1 d1, f1), (vI t2 d2, f2)), (vI t3 d3, f3)).2 = K.2 := congrArg Prod.snd hK
  rw [rv9_raw, hK] at qK
  dsimp only at hK1 hK2
  have x1 := okSM_few g1 ka.1.1
  have x2 := okSM_few g2 ka.1.2
  have x3 := okSM_few g3 ka.2.1
  have x4 := okSM_few g4 ka.2.2
  have oPF : okPF (.agg [.bool s1, .sl n1 c1, .int .i64 e1, .bool s2, .sl n2 c2, .int .i64 e2, .bool s3, .sl n3 c3, .int .i64 e3, .bool s4, .sl n4 c4, .int .i64 e4]) := ⟨⟨x1, x2⟩, x3, x4⟩
  have oP_ : okP (.agg [.bool s1, .sl n1 c1, .int .i64 e1, .bool s2, .sl n2 c2, .int .i64 e2, .bool s3, .sl n3 c3, .int .i64 e3, .bool s4, .sl n4 c4, .int .i64 e4]) := ⟨x1.1.1, x2.1.1, x3.1.1, x4.1.1⟩
  have oH_ : few100P (.agg [.bool s1, .sl n1 c1, .int .i64 e1, .bool s2, .sl n2 c2, .int .i64 e2, .bool s3, .sl n3 c3, .int .i64 e3, .bool s4, .sl n4 c4, .int .i64 e4]) := ⟨⟨by omega, by omega⟩, by omega, by omega⟩
  obtain ⟨R, hR⟩ : ∃ R : Rc, rcn (((vI s1 c1, e1), (vI s2 c2, e2)), ((vI s3 c3, e3), (vI s4 c4, e4))) = R := ⟨_, rfl⟩
  have zR : pz R 1000 1320 := hR ▸ ⟨⟨rcan_rn _, cz_rn ⟨sz_fD (fD_few x1), sz_fD (fD_few x2)⟩⟩, ⟨rcan_rn _, cz_rn ⟨sz_fD (fD_few x3), sz_fD (fD_few x4)⟩⟩⟩
  obtain ⟨P, hP⟩ : ∃ P : Int, min p 200 = P := ⟨_, rfl⟩
  have hP2 : P ≤ 200 := by omega
  have qW := qw_around zR hP2
  have hc1 := corner1 R P
  have hc2 := corner2 R P
  obtain ⟨W, hW⟩ : ∃ W : Dc, zaround R P = W := ⟨_, rfl⟩
  rw [hW] at qW hc1 hc2
  have tR := toldP_pz zR (by omega)
  have tE := toldE_w qW
  have tW : toldW (rel9 W) := ⟨W, rfl, qW⟩
  have tC : toldC (rl4 K.1) := ⟨K.1, rfl, qK.1.1, qK.2.1⟩
  have tL : toldL (rel3 K.2) := ⟨K.2, rfl, qK.1.2, qK.2.2⟩
  have tZ := toldP_c (x := zsq K.1 K.2) (rC_zq ⟨sub_n _ _, add_n _ _⟩ ⟨sz_sub qK.2.1.1 qK.2.2, sz_add qK.2.1.1 qK.2.2⟩ (by omega)) (rC_zq ⟨sub_n _ _, add_n _ _⟩ ⟨sz_sub qK.2.1.2 qK.2.2, sz_add qK.2.1.2 qK.2.2⟩ (by omega))
  have t1_ : toldC (rl4 (R.1.1, R.2.1)) := ⟨_, rfl, ⟨zR.1.1.2.1, zR.2.1.2.1⟩, ⟨zR.1.2.1, zR.2.2.1⟩⟩
  have t2_ : toldC (rl4 (R.1.2, R.2.1)) := ⟨_, rfl, ⟨zR.1.1.2.2, zR.2.1.2.1⟩, ⟨zR.1.2.2, zR.2.2.1⟩⟩
  cbv
  repeat' (first | with_reducible refine And.intro ?_ ?_ | (with_reducible refine safe_lift hA ?_; kernel_rfl) | (intro hc_; (first | (with_reducible exfalso; clear hQ; subst hF hA; simp only [fnOf, find, std, reduceIte, Nat.reduceEqDiff, sp1, sp2, a1, a2, FnSpec.out, Shape.build, leafs, leafCells, tups, oneOf, List.cons_append, List.nil_append, List.length_cons, List.length_nil, s_DiscRects, s_known10, s_fewP10, s_fewD10, s_zRect, s_zDisc, s_jAround, s_zAround, s_zEqualD, s_jInside, s_zSq, s_zEqual, s_zHoldsW, rv_raw, rv_N0, dv, dz, dx, dcn, dm_raw, dm_N0, vI_N0, raw6_is, rw9_is, Prod.eta, rv9_raw, re2, re4, re6, Bool.not_eq_eq_eq_not, decide_eq_true_eq, decide_eq_false_iff_not, not_true_eq_false, not_false_eq_true, decide_true, decide_false, Bool.true_and, Bool.and_true, Bool.not_true, Bool.not_false, beq_self_eq_true, Bool.true_eq_false, Bool.false_eq_true, reduceCtorEq, gt_iff_lt, ge_iff_le, true_and, and_true, and_self, Bool.false_eq, Bool.and_self, eq_self, Int.reduceLE, Int.reduceNeg, Int.reduceLT, Int.reduceBEq, hfx, hfy, h1_, h2_, hK, hK1, hK2, hR, min_if, hP, hW, hc1, hc2, re8, rv8_N0, rv8, rw12_is] at hc_; done) | (clear hc_; cbv))))
  all_goals subst hF hA
  all_goals (try simp only [fnOf, find, std, reduceIte, Nat.reduceEqDiff, sp1, sp2, a1, a2, FnSpec.out, Shape.build, leafs, leafCells, tups, oneOf, List.cons_append, List.nil_append, List.length_cons, List.length_nil, s_DiscRects, s_known10, s_fewP10, s_fewD10, s_zRect, s_zDisc, s_jAround, s_zAround, s_zEqualD, s_jInside, s_zSq, s_zEqual, s_zHoldsW, rv_raw, rv_N0, dv, dz, dx, dcn, dm_raw, dm_N0, vI_N0, raw6_is, rw9_is, Prod.eta, rv9_raw, re2, re4, re6, Bool.not_eq_eq_eq_not, decide_eq_true_eq, decide_eq_false_iff_not, not_true_eq_false, not_false_eq_true, decide_true, decide_false, Bool.true_and, Bool.and_true, Bool.not_true, Bool.not_false, beq_self_eq_true, Bool.true_eq_false, Bool.false_eq_true, reduceCtorEq, gt_iff_lt, ge_iff_le, true_and, and_true, and_self, Bool.false_eq, Bool.and_self, eq_self, Int.reduceLE, Int.reduceNeg, Int.reduceLT, Int.reduceBEq, hfx, hfy, h1_, h2_, hK, hK1, hK2, hR, min_if, hP, hW, hc1, hc2, re8, rv8_N0, rv8, rw12_is] at hQ ⊢)
  all_goals (repeat' (first
   | with_reducible exact hQ
   | with_reducible assumption
   | with_reducible exact isi_int _ _
   | with_reducible exact True.intro
   | omega
   | with_reducible refine And.intro ?_ ?_))
  all_goals first
   | exact hQ
   | exact oPF
   | exact oP_
   | exact oH_
   | exact tR
   | exact tE
   | exact tW
   | exact tC
   | exact tL
   | exact tZ
   | exact t1_
   | exact t2_
   | trace_state
 ·have hfx : decide (fewQ n1 e1 n2 e2 n3 e3 n4 e4) = true := decide_eq_true ka
  have hfy : decide (fewDQ m1 f1 m2 f2 m3 f3) = true := decide_eq_true kb
  have h1_ : (200 < p) = True := eq_true (by omega)
  have h2_ : (p ≤ 4000) = False := eq_false (by omega)
  have fK := okF_few (s1 := t1) (s2 := t2) (s3 := t3) p1 p2 p3 kb
  have aK := okF_A fK
  have qK := okF_qd fK
  obtain ⟨K, hK⟩ : ∃ K : Dc, dct (((vI t1 d1, f1), (vI t2 d2, f2)), (vI t3 d3, f3)) = K := ⟨_, rfl⟩
  have hK1 : ca (((vI t1 d1, f1), (vI t2 d2, f2)), (vI t3 d3, f3)).1 = K.1 := congrArg Prod.fst hK
  have hK2 : rad (((vI t1 d1, f1), (vI t2 d2, f2)), (vI t3 d3, f3)).2 = K.2 := congrArg Prod.snd hK
  rw [rv9_raw, hK] at qK
  dsimp only at hK1 hK2
  have x1 := okSM_few g1 ka.1.1
  have x2 := okSM_few g2 ka.1.2
  have x3 := okSM_few g3 ka.2.1
  have x4 := okSM_few g4 ka.2.2
  have oPF : okPF (.agg [.bool s1, .sl n1 c1, .int .i64 e1, .bool s2, .sl n2 c2, .int .i64 e2, .bool s3, .sl n3 c3, .int .i64 e3, .bool s4, .sl n4 c4, .int .i64 e4]) := ⟨⟨x1, x2⟩, x3, x4⟩
  have oP_ : okP (.agg [.bool s1, .sl n1 c1, .int .i64 e1, .bool s2, .sl n2 c2, .int .i64 e2, .bool s3, .sl n3 c3, .int .i64 e3, .bool s4, .sl n4 c4, .int .i64 e4]) := ⟨x1.1.1, x2.1.1, x3.1.1, x4.1.1⟩
  have oH_ : few100P (.agg [.bool s1, .sl n1 c1, .int .i64 e1, .bool s2, .sl n2 c2, .int .i64 e2, .bool s3, .sl n3 c3, .int .i64 e3, .bool s4, .sl n4 c4, .int .i64 e4]) := ⟨⟨by omega, by omega⟩, by omega, by omega⟩
  obtain ⟨R, hR⟩ : ∃ R : Rc, rcn (((vI s1 c1, e1), (vI s2 c2, e2)), ((vI s3 c3, e3), (vI s4 c4, e4))) = R := ⟨_, rfl⟩
  have zR : pz R 1000 1320 := hR ▸ ⟨⟨rcan_rn _, cz_rn ⟨sz_fD (fD_few x1), sz_fD (fD_few x2)⟩⟩, ⟨rcan_rn _, cz_rn ⟨sz_fD (fD_few x3), sz_fD (fD_few x4)⟩⟩⟩
  obtain ⟨P, hP⟩ : ∃ P : Int, min p 200 = P := ⟨_, rfl⟩
  have hP2 : P ≤ 200 := by omega
  have qW := qw_around zR hP2
  have hc1 := corner1 R P
  have hc2 := corner2 R P
  obtain ⟨W, hW⟩ : ∃ W : Dc, zaround R P = W := ⟨_, rfl⟩
  rw [hW] at qW hc1 hc2
  have tR := toldP_pz zR (by omega)
  have tE := toldE_w qW
  have tW : toldW (rel9 W) := ⟨W, rfl, qW⟩
  have tC : toldC (rl4 K.1) := ⟨K.1, rfl, qK.1.1, qK.2.1⟩
  have tL : toldL (rel3 K.2) := ⟨K.2, rfl, qK.1.2, qK.2.2⟩
  have tZ := toldP_c (x := zsq K.1 K.2) (rC_zq ⟨sub_n _ _, add_n _ _⟩ ⟨sz_sub qK.2.1.1 qK.2.2, sz_add qK.2.1.1 qK.2.2⟩ (by omega)) (rC_zq ⟨sub_n _ _, add_n _ _⟩ ⟨sz_sub qK.2.1.2 qK.2.2, sz_add qK.2.1.2 qK.2.2⟩ (by omega))
  have t1_ : toldC (rl4 (R.1.1, R.2.1)) := ⟨_, rfl, ⟨zR.1.1.2.1, zR.2.1.2.1⟩, ⟨zR.1.2.1, zR.2.2.1⟩⟩
  have t2_ : toldC (rl4 (R.1.2, R.2.1)) := ⟨_, rfl, ⟨zR.1.1.2.2, zR.2.1.2.1⟩, ⟨zR.1.2.2, zR.2.2.1⟩⟩
  cbv
  repeat' (first | with_reducible refine And.intro ?_ ?_ | (with_reducible refine safe_lift hA ?_; kernel_rfl) | (intro hc_; (first | (with_reducible exfalso; clear hQ; subst hF hA; simp only [fnOf, find, std, reduceIte, Nat.reduceEqDiff, sp1, sp2, a1, a2, FnSpec.out, Shape.build, leafs, leafCells, tups, oneOf, List.cons_append, List.nil_append, List.length_cons, List.length_nil, s_DiscRects, s_known10, s_fewP10, s_fewD10, s_zRect, s_zDisc, s_jAround, s_zAround, s_zEqualD, s_jInside, s_zSq, s_zEqual, s_zHoldsW, rv_raw, rv_N0, dv, dz, dx, dcn, dm_raw, dm_N0, vI_N0, raw6_is, rw9_is, Prod.eta, rv9_raw, re2, re4, re6, Bool.not_eq_eq_eq_not, decide_eq_true_eq, decide_eq_false_iff_not, not_true_eq_false, not_false_eq_true, decide_true, decide_false, Bool.true_and, Bool.and_true, Bool.not_true, Bool.not_false, beq_self_eq_true, Bool.true_eq_false, Bool.false_eq_true, reduceCtorEq, gt_iff_lt, ge_iff_le, true_and, and_true, and_self, Bool.false_eq, Bool.and_self, eq_self, Int.reduceLE, Int.reduceNeg, Int.reduceLT, Int.reduceBEq, hfx, hfy, h1_, h2_, hK, hK1, hK2, hR, min_if, hP, hW, hc1, hc2, re8, rv8_N0, rv8, rw12_is] at hc_; done) | (clear hc_; cbv))))
  all_goals subst hF hA
  all_goals (try simp only [fnOf, find, std, reduceIte, Nat.reduceEqDiff, sp1, sp2, a1, a2, FnSpec.out, Shape.build, leafs, leafCells, tups, oneOf, List.cons_append, List.nil_append, List.length_cons, List.length_nil, s_DiscRects, s_known10, s_fewP10, s_fewD10, s_zRect, s_zDisc, s_jAround, s_zAround, s_zEqualD, s_jInside, s_zSq, s_zEqual, s_zHoldsW, rv_raw, rv_N0, dv, dz, dx, dcn, dm_raw, dm_N0, vI_N0, raw6_is, rw9_is, Prod.eta, rv9_raw, re2, re4, re6, Bool.not_eq_eq_eq_not, decide_eq_true_eq, decide_eq_false_iff_not, not_true_eq_false, not_false_eq_true, decide_true, decide_false, Bool.true_and, Bool.and_true, Bool.not_true, Bool.not_false, beq_self_eq_true, Bool.true_eq_false, Bool.false_eq_true, reduceCtorEq, gt_iff_lt, ge_iff_le, true_and, and_true, and_self, Bool.false_eq, Bool.and_self, eq_self, Int.reduceLE, Int.reduceNeg, Int.reduceLT, Int.reduceBEq, hfx, hfy, h1_, h2_, hK, hK1, hK2, hR, min_if, hP, hW, hc1, hc2, re8, rv8_N0, rv8, rw12_is] at hQ ⊢)
  all_goals (repeat' (first
   | with_reducible exact hQ
   | with_reducible assumption
   | with_reducible exact isi_int _ _
   | with_reducible exact True.intro
   | omega
   | with_reducible refine And.intro ?_ ?_))
  all_goals first
   | exact hQ
   | exact oPF
   | exact oP_
   | exact oH_
   | exact tR
   | exact tE
   | exact tW
   | exact tC
   | exact tL
   | exact tZ
   | exact t1_
   | exact t2_
   | trace_state
end Go.Proofs.YtnjjfakjnkhhjaaGreatDoor.Ev
