import Derived.Test.YtnjjfakjnkhhjaaGreatDoorJl
set_option maxHeartbeats 16000000
set_option maxRecDepth 100000
set_option linter.all false
namespace Go.Proofs.YtnjjfakjnkhhjaaGreatDoor.Ev
open Go Go.RowKit
theorem okSM_fewT {n : Nat} {c : List D} {e : Int} (g : n ≤ 100000 → okC n c) (k : n ≤ 10 ∧ -1000 ≤ e ∧ e ≤ 1000) : okSM n c e ∧ n ≤ 10 ∧ -1000 ≤ e ∧ e ≤ 1000 := ⟨⟨⟨g (by omega), by omega, by omega, by omega⟩, by omega, by omega, by omega⟩, k.1, k.2.1, k.2.2⟩
theorem okF_fewT {s1 s2 s3 : Bool} {n1 n2 n3 : Nat} {c1 c2 c3 : List D} {e1 e2 e3 : Int} (g1 : n1 ≤ 100000 → okC n1 c1) (g2 : n2 ≤ 100000 → okC n2 c2) (g3 : n3 ≤ 100000 → okC n3 c3) (k : fewDQ n1 e1 n2 e2 n3 e3) : okF (.agg [.bool s1, .sl n1 c1, .int .i64 e1, .bool s2, .sl n2 c2, .int .i64 e2, .bool s3, .sl n3 c3, .int .i64 e3]) := ⟨okSM_fewT g1 k.1.1, okSM_fewT g2 k.1.2, okSM_fewT g3 k.2⟩
theorem eight10 {a b c d : Prop} [Decidable a] [Decidable b] [Decidable c] [Decidable d] (p : Int) : ¬a ∨ (a ∧ ¬b) ∨ (a ∧ b ∧ ¬c) ∨ (a ∧ b ∧ c ∧ 200 < p ∧ p ≤ 4000) ∨ (a ∧ b ∧ c ∧ p ≤ 200 ∧ d) ∨ (a ∧ b ∧ c ∧ p ≤ 200 ∧ ¬d) ∨ (a ∧ b ∧ c ∧ 4000 < p ∧ d) ∨ (a ∧ b ∧ c ∧ 4000 < p ∧ ¬d) := by
 by_cases h : a
 ·by_cases k : b
  ·by_cases l : c
   ·rcases Int.lt_or_le 200 p with g | g
    ·rcases Int.lt_or_le 4000 p with g2 | g2
     ·by_cases q : d
      ·exact .inr (.inr (.inr (.inr (.inr (.inr (.inl ⟨h, k, l, g2, q⟩))))))
      ·exact .inr (.inr (.inr (.inr (.inr (.inr (.inr ⟨h, k, l, g2, q⟩))))))
     ·exact .inr (.inr (.inr (.inl ⟨h, k, l, g, g2⟩)))
    ·by_cases q : d
     ·exact .inr (.inr (.inr (.inr (.inl ⟨h, k, l, g, q⟩))))
     ·exact .inr (.inr (.inr (.inr (.inr (.inl ⟨h, k, l, g, q⟩)))))
   ·exact .inr (.inr (.inl ⟨h, k, l⟩))
  ·exact .inr (.inl ⟨h, k⟩)
 ·exact .inl h
theorem told_zero {C : Re} (h : toldE (rel9 (C, (0, 0)))) : toldE (.agg [.bool (N0.neg C.1.1), .sl (N0.ln C.1.1) (N0.lm C.1.1), .int .i64 C.1.2, .bool (N0.neg C.2.1), .sl (N0.ln C.2.1) (N0.lm C.2.1), .int .i64 C.2.2, .bool false, .sl 0 [], .int .i64 0]) := by
 unfold rel9 at h
 dsimp only at h
 rwa [N0_zero.1, N0_zero.2.1, N0_zero.2.2] at h
def s_DiscTells : FnSpec := ⟨.one .b, fun ds => match ds with | [x, y, c, .int .i64 _, .int .i64 n] => okXD x ∧ okXD y ∧ okX c ∧ -9223372036854775808 ≤ n ∧ n ≤ 9223372036854775807 | _ => False, fun _ _ => 0, fun _ _ => true, fun _ _ => 0, fun _ _ => []⟩
theorem DiscTells_arg {ds : List D} (h : s_DiscTells.p ds) : ∃ x y c p n, ds = [x, y, c, .int .i64 p, .int .i64 n] ∧ okXD x ∧ okXD y ∧ okX c ∧ -9223372036854775808 ≤ n ∧ n ≤ 9223372036854775807 := by
 unfold s_DiscTells at h
 dsimp only at h
 split at h
 ·exact ⟨_, _, _, _, _, rfl, h⟩
 ·exact h.elim
theorem toldE_add {a b : Dc} (h : qd a) (k : qd b) : toldE (rel9 (cadd a.1 b.1, a.2.add b.2)) := toldE_mk ⟨⟨⟨add_n _ _, add_n _ _⟩, add_n _ _⟩, cz_mono (cz_add h.2.1 k.2.1) (by omega) (by omega), sz_mono (sz_add h.2.2 k.2.2) (by omega) (by omega)⟩
theorem toldE_q1 {a : Dc} (h : qd a) : toldE (rel9 a) := toldE_mk ⟨h.1, cz_mono h.2.1 (by omega) (by omega), sz_mono h.2.2 (by omega) (by omega)⟩
theorem toldE_pw {a : Dc} (h : qd a) {p : Int} (hp : p ≤ 200) {i : Nat} (hi : i ≤ 5) : toldE (rel9 (zpw a p i)) := by
 obtain ⟨h1, h2, h3⟩ := zpw_sz h hp i hi
 exact toldE_mk ⟨h1, cz_mono h2 (by omega) (by omega), sz_mono h3 (by omega) (by omega)⟩
theorem toldE_mul {a b : Dc} (h : qd a) (k : qd b) {p : Int} (hp : p ≤ 200) : toldE (rel9 (zmul a b p)) := by
 have hz := sz_to (sz_zrad h.2.1 h.2.2 k.2.1 k.2.2 (by omega) (by omega) (by omega) (by omega) hp) (by omega) p 1
 exact toldE_mk ⟨⟨⟨sub_n _ _, add_n _ _⟩, to_n _ _ _⟩, cz_mono (cz_mul h.2.1 k.2.1) (by omega) (by omega), sz_mono hz (by omega) (by omega)⟩
theorem good_DiscTells : Good Tryz.prog (GWL [0, 1, 2, 3, 4, 7]) N0 3 s_DiscTells := by
 refine goodM 0 (gc good_known10 <| gl good_fewD10 rfl <| gl good_fewC10 rfl <| gl good_zDisc rfl <| gl good_qOf rfl <| gl good_tMul rfl <| gl good_jIs rfl <| gl good_qMake rfl <| gl good_qSign rfl <| gl good_jHas rfl <| gl good_vCplx rfl <| gl good_zHolds rfl <| gl good_jIn rfl <| gl good_zInD rfl <| gl good_jApart rfl <| gl good_zApart rfl <| gl good_jAdd rfl <| gl good_zAddD rfl <| gl good_zEqualD rfl <| gl good_jNeg rfl <| gl good_vNeg rfl <| gc good_jMul <| gl good_zMulD rfl <| gc good_jPow <| gl good_zPowD rfl <| gl good_jFar rfl <| gl good_zFar rfl <| gl good_qEqual rfl <| gl good_jGrow rfl <| gl good_jSame rfl <| gl good_jOf rfl gn) Tryz.f3 (by kernel_rfl) (by kernel_rfl) fun ds hp F A Q hF hA hQ => ?_
 obtain ⟨x, y, c, p, n, rfl, hx, hy, hc, hn1_, hn2_⟩ := DiscTells_arg hp
 have hx_ := hx
 have hy_ := hy
 have hc_9 := hc
 obtain ⟨s1, n1, c1, e1, s2, n2, c2, e2, s3, n3, c3, e3, rfl, ⟨g1, h1⟩, ⟨g2, h2⟩, g3, h3⟩ := okXD_arg hx
 obtain ⟨t1, m1, d1, f1, t2, m2, d2, f2, t3, m3, d3, f3, rfl, ⟨p1, q1⟩, ⟨p2, q2⟩, p3, q3⟩ := okXD_arg hy
 obtain ⟨cs_, cn, cc, ce, ct, cm, cd, cf, rfl, cg1, ch1, cg2, ch2⟩ := okX_arg hc
 clear hp
 rcases eight10 p (d := 0 ≤ sg (vI s3 c3)) (a := fewDQ n1 e1 n2 e2 n3 e3) (b := fewDQ m1 f1 m2 f2 m3 f3) (c := ((cn ≤ 10 ∧ -1000 ≤ ce ∧ ce ≤ 1000) ∧ cm ≤ 10 ∧ -1000 ≤ cf ∧ cf ≤ 1000)) with kx | ⟨kx, ky⟩ | ⟨kx, ky, kd⟩ | ⟨kx, ky, kd, kp⟩ | ⟨kx, ky, kd, kp, kz⟩ | ⟨kx, ky, kd, kp, kz⟩ | ⟨kx, ky, kd, kp, kz⟩ | ⟨kx, ky, kd, kp, kz⟩
 ·have hfx : decide (fewDQ n1 e1 n2 e2 n3 e3) = false := decide_eq_false kx
  cbv
  repeat' (first | with_reducible refine And.intro ?_ ?_ | (with_reducible refine safe_lift hA ?_; kernel_rfl) | (intro hc_; (first | (with_reducible exfalso; clear hQ; subst hF hA; simp only [fnOf, find, std, reduceIte, Nat.reduceEqDiff, sp1, sp2, a1, a2, FnSpec.out, Shape.build, leafs, leafCells, tups, oneOf, List.cons_append, List.nil_append, List.length_cons, List.length_nil, s_DiscTells, s_known10, s_fewD10, s_fewC10, s_zDisc, s_qOf, s_tMul, s_jIs, s_qMake, s_qSign, s_jHas, s_vCplx, s_zHolds, s_jIn, s_zInD, s_jApart, s_zApart, s_jAdd, s_zAddD, s_zEqualD, s_jNeg, s_vNeg, s_jMul, s_zMulD, s_jPow, s_zPowD, s_jFar, s_zFar, s_qEqual, s_jGrow, s_jSame, s_jOf, rv_raw, rv_N0, dv, dz, dx, dcn, dm_raw, dm_N0, vI_N0, raw6_is, rw9_is, Prod.eta, rv9_raw, re2, re4, re6, s_yEqual, Bool.not_eq_eq_eq_not, decide_eq_true_eq, decide_eq_false_iff_not, not_true_eq_false, not_false_eq_true, decide_true, decide_false, Bool.true_and, Bool.and_true, Bool.not_true, Bool.not_false, beq_self_eq_true, Bool.true_eq_false, Bool.false_eq_true, reduceCtorEq, gt_iff_lt, ge_iff_le, true_and, and_true, and_self, Bool.false_eq, Bool.and_self, eq_self, Int.reduceLE, Int.reduceNeg, Int.reduceLT, Int.reduceBEq, hfx] at hc_; done) | (clear hc_; cbv))))
  all_goals subst hF hA
  all_goals (try simp only [fnOf, find, std, reduceIte, Nat.reduceEqDiff, sp1, sp2, a1, a2, FnSpec.out, Shape.build, leafs, leafCells, tups, oneOf, List.cons_append, List.nil_append, List.length_cons, List.length_nil, s_DiscTells, s_known10, s_fewD10, s_fewC10, s_zDisc, s_qOf, s_tMul, s_jIs, s_qMake, s_qSign, s_jHas, s_vCplx, s_zHolds, s_jIn, s_zInD, s_jApart, s_zApart, s_jAdd, s_zAddD, s_zEqualD, s_jNeg, s_vNeg, s_jMul, s_zMulD, s_jPow, s_zPowD, s_jFar, s_zFar, s_qEqual, s_jGrow, s_jSame, s_jOf, rv_raw, rv_N0, dv, dz, dx, dcn, dm_raw, dm_N0, vI_N0, raw6_is, rw9_is, Prod.eta, rv9_raw, re2, re4, re6, s_yEqual, Bool.not_eq_eq_eq_not, decide_eq_true_eq, decide_eq_false_iff_not, not_true_eq_false, not_false_eq_true, decide_true, decide_false, Bool.true_and, Bool.and_true, Bool.not_true, Bool.not_false, beq_self_eq_true, Bool.true_eq_false, Bool.false_eq_true, reduceCtorEq, gt_iff_lt, ge_iff_le, true_and, and_true, and_self, Bool.false_eq, Bool.and_self, eq_self, Int.reduceLE, Int.reduceNeg, Int.reduceLT, Int.reduceBEq, hfx] at hQ ⊢)
  all_goals (repeat' (first
   | with_reducible exact hQ
   | with_reducible assumption
   | with_reducible exact isi_int _ _
   | with_reducible exact True.intro
   | omega
   | with_reducible refine And.intro ?_ ?_))
 ·have hfx : decide (fewDQ n1 e1 n2 e2 n3 e3) = true := decide_eq_true kx
  have hfy : decide (fewDQ m1 f1 m2 f2 m3 f3) = false := decide_eq_false ky
  cbv
  repeat' (first | with_reducible refine And.intro ?_ ?_ | (with_reducible refine safe_lift hA ?_; kernel_rfl) | (intro hc_; (first | (with_reducible exfalso; clear hQ; subst hF hA; simp only [fnOf, find, std, reduceIte, Nat.reduceEqDiff, sp1, sp2, a1, a2, FnSpec.out, Shape.build, leafs, leafCells, tups, oneOf, List.cons_append, List.nil_append, List.length_cons, List.length_nil, s_DiscTells, s_known10, s_fewD10, s_fewC10, s_zDisc, s_qOf, s_tMul, s_jIs, s_qMake, s_qSign, s_jHas, s_vCplx, s_zHolds, s_jIn, s_zInD, s_jApart, s_zApart, s_jAdd, s_zAddD, s_zEqualD, s_jNeg, s_vNeg, s_jMul, s_zMulD, s_jPow, s_zPowD, s_jFar, s_zFar, s_qEqual, s_jGrow, s_jSame, s_jOf, rv_raw, rv_N0, dv, dz, dx, dcn, dm_raw, dm_N0, vI_N0, raw6_is, rw9_is, Prod.eta, rv9_raw, re2, re4, re6, s_yEqual, Bool.not_eq_eq_eq_not, decide_eq_true_eq, decide_eq_false_iff_not, not_true_eq_false, not_false_eq_true, decide_true, decide_false, Bool.true_and, Bool.and_true, Bool.not_true, Bool.not_false, beq_self_eq_true, Bool.true_eq_false, Bool.false_eq_true, reduceCtorEq, gt_iff_lt, ge_iff_le, true_and, and_true, and_self, Bool.false_eq, Bool.and_self, eq_self, Int.reduceLE, Int.reduceNeg, Int.reduceLT, Int.reduceBEq, hfx, hfy] at hc_; done) | (clear hc_; cbv))))
  all_goals subst hF hA
  all_goals (try simp only [fnOf, find, std, reduceIte, Nat.reduceEqDiff, sp1, sp2, a1, a2, FnSpec.out, Shape.build, leafs, leafCells, tups, oneOf, List.cons_append, List.nil_append, List.length_cons, List.length_nil, s_DiscTells, s_known10, s_fewD10, s_fewC10, s_zDisc, s_qOf, s_tMul, s_jIs, s_qMake, s_qSign, s_jHas, s_vCplx, s_zHolds, s_jIn, s_zInD, s_jApart, s_zApart, s_jAdd, s_zAddD, s_zEqualD, s_jNeg, s_vNeg, s_jMul, s_zMulD, s_jPow, s_zPowD, s_jFar, s_zFar, s_qEqual, s_jGrow, s_jSame, s_jOf, rv_raw, rv_N0, dv, dz, dx, dcn, dm_raw, dm_N0, vI_N0, raw6_is, rw9_is, Prod.eta, rv9_raw, re2, re4, re6, s_yEqual, Bool.not_eq_eq_eq_not, decide_eq_true_eq, decide_eq_false_iff_not, not_true_eq_false, not_false_eq_true, decide_true, decide_false, Bool.true_and, Bool.and_true, Bool.not_true, Bool.not_false, beq_self_eq_true, Bool.true_eq_false, Bool.false_eq_true, reduceCtorEq, gt_iff_lt, ge_iff_le, true_and, and_true, and_self, Bool.false_eq, Bool.and_self, eq_self, Int.reduceLE, Int.reduceNeg, Int.reduceLT, Int.reduceBEq, hfx, hfy] at hQ ⊢)
  all_goals (repeat' (first
   | with_reducible exact hQ
   | with_reducible assumption
   | with_reducible exact isi_int _ _
   | with_reducible exact True.intro
   | omega
   | with_reducible refine And.intro ?_ ?_))
 ·have hfx : decide (fewDQ n1 e1 n2 e2 n3 e3) = true := decide_eq_true kx
  have hfy : decide (fewDQ m1 f1 m2 f2 m3 f3) = true := decide_eq_true ky
  have hfc : decide (((cn ≤ 10 ∧ -1000 ≤ ce ∧ ce ≤ 1000) ∧ cm ≤ 10 ∧ -1000 ≤ cf ∧ cf ≤ 1000)) = false := decide_eq_false kd
  cbv
  repeat' (first | with_reducible refine And.intro ?_ ?_ | (with_reducible refine safe_lift hA ?_; kernel_rfl) | (intro hc_; (first | (with_reducible exfalso; clear hQ; subst hF hA; simp only [fnOf, find, std, reduceIte, Nat.reduceEqDiff, sp1, sp2, a1, a2, FnSpec.out, Shape.build, leafs, leafCells, tups, oneOf, List.cons_append, List.nil_append, List.length_cons, List.length_nil, s_DiscTells, s_known10, s_fewD10, s_fewC10, s_zDisc, s_qOf, s_tMul, s_jIs, s_qMake, s_qSign, s_jHas, s_vCplx, s_zHolds, s_jIn, s_zInD, s_jApart, s_zApart, s_jAdd, s_zAddD, s_zEqualD, s_jNeg, s_vNeg, s_jMul, s_zMulD, s_jPow, s_zPowD, s_jFar, s_zFar, s_qEqual, s_jGrow, s_jSame, s_jOf, rv_raw, rv_N0, dv, dz, dx, dcn, dm_raw, dm_N0, vI_N0, raw6_is, rw9_is, Prod.eta, rv9_raw, re2, re4, re6, s_yEqual, Bool.not_eq_eq_eq_not, decide_eq_true_eq, decide_eq_false_iff_not, not_true_eq_false, not_false_eq_true, decide_true, decide_false, Bool.true_and, Bool.and_true, Bool.not_true, Bool.not_false, beq_self_eq_true, Bool.true_eq_false, Bool.false_eq_true, reduceCtorEq, gt_iff_lt, ge_iff_le, true_and, and_true, and_self, Bool.false_eq, Bool.and_self, eq_self, Int.reduceLE, Int.reduceNeg, Int.reduceLT, Int.reduceBEq, hfx, hfy, hfc] at hc_; done) | (clear hc_; cbv))))
  all_goals subst hF hA
  all_goals (try simp only [fnOf, find, std, reduceIte, Nat.reduceEqDiff, sp1, sp2, a1, a2, FnSpec.out, Shape.build, leafs, leafCells, tups, oneOf, List.cons_append, List.nil_append, List.length_cons, List.length_nil, s_DiscTells, s_known10, s_fewD10, s_fewC10, s_zDisc, s_qOf, s_tMul, s_jIs, s_qMake, s_qSign, s_jHas, s_vCplx, s_zHolds, s_jIn, s_zInD, s_jApart, s_zApart, s_jAdd, s_zAddD, s_zEqualD, s_jNeg, s_vNeg, s_jMul, s_zMulD, s_jPow, s_zPowD, s_jFar, s_zFar, s_qEqual, s_jGrow, s_jSame, s_jOf, rv_raw, rv_N0, dv, dz, dx, dcn, dm_raw, dm_N0, vI_N0, raw6_is, rw9_is, Prod.eta, rv9_raw, re2, re4, re6, s_yEqual, Bool.not_eq_eq_eq_not, decide_eq_true_eq, decide_eq_false_iff_not, not_true_eq_false, not_false_eq_true, decide_true, decide_false, Bool.true_and, Bool.and_true, Bool.not_true, Bool.not_false, beq_self_eq_true, Bool.true_eq_false, Bool.false_eq_true, reduceCtorEq, gt_iff_lt, ge_iff_le, true_and, and_true, and_self, Bool.false_eq, Bool.and_self, eq_self, Int.reduceLE, Int.reduceNeg, Int.reduceLT, Int.reduceBEq, hfx, hfy, hfc] at hQ ⊢)
  all_goals (repeat' (first
   | with_reducible exact hQ
   | with_reducible assumption
   | with_reducible exact isi_int _ _
   | with_reducible exact True.intro
   | omega
   | with_reducible refine And.intro ?_ ?_))
 ·have hfx : decide (fewDQ n1 e1 n2 e2 n3 e3) = true := decide_eq_true kx
  have hfy : decide (fewDQ m1 f1 m2 f2 m3 f3) = true := decide_eq_true ky
  have hfc : decide (((cn ≤ 10 ∧ -1000 ≤ ce ∧ ce ≤ 1000) ∧ cm ≤ 10 ∧ -1000 ≤ cf ∧ cf ≤ 1000)) = true := decide_eq_true kd
  have h1_ : (200 < p) = True := eq_true kp.1
  have h2_ : (p ≤ 4000) = True := eq_true kp.2
  cbv
  repeat' (first | with_reducible refine And.intro ?_ ?_ | (with_reducible refine safe_lift hA ?_; kernel_rfl) | (intro hc_; (first | (with_reducible exfalso; clear hQ; subst hF hA; simp only [fnOf, find, std, reduceIte, Nat.reduceEqDiff, sp1, sp2, a1, a2, FnSpec.out, Shape.build, leafs, leafCells, tups, oneOf, List.cons_append, List.nil_append, List.length_cons, List.length_nil, s_DiscTells, s_known10, s_fewD10, s_fewC10, s_zDisc, s_qOf, s_tMul, s_jIs, s_qMake, s_qSign, s_jHas, s_vCplx, s_zHolds, s_jIn, s_zInD, s_jApart, s_zApart, s_jAdd, s_zAddD, s_zEqualD, s_jNeg, s_vNeg, s_jMul, s_zMulD, s_jPow, s_zPowD, s_jFar, s_zFar, s_qEqual, s_jGrow, s_jSame, s_jOf, rv_raw, rv_N0, dv, dz, dx, dcn, dm_raw, dm_N0, vI_N0, raw6_is, rw9_is, Prod.eta, rv9_raw, re2, re4, re6, s_yEqual, Bool.not_eq_eq_eq_not, decide_eq_true_eq, decide_eq_false_iff_not, not_true_eq_false, not_false_eq_true, decide_true, decide_false, Bool.true_and, Bool.and_true, Bool.not_true, Bool.not_false, beq_self_eq_true, Bool.true_eq_false, Bool.false_eq_true, reduceCtorEq, gt_iff_lt, ge_iff_le, true_and, and_true, and_self, Bool.false_eq, Bool.and_self, eq_self, Int.reduceLE, Int.reduceNeg, Int.reduceLT, Int.reduceBEq, hfx, hfy, hfc, h1_, h2_] at hc_; done) | (clear hc_; cbv))))
  all_goals subst hF hA
  all_goals (try simp only [fnOf, find, std, reduceIte, Nat.reduceEqDiff, sp1, sp2, a1, a2, FnSpec.out, Shape.build, leafs, leafCells, tups, oneOf, List.cons_append, List.nil_append, List.length_cons, List.length_nil, s_DiscTells, s_known10, s_fewD10, s_fewC10, s_zDisc, s_qOf, s_tMul, s_jIs, s_qMake, s_qSign, s_jHas, s_vCplx, s_zHolds, s_jIn, s_zInD, s_jApart, s_zApart, s_jAdd, s_zAddD, s_zEqualD, s_jNeg, s_vNeg, s_jMul, s_zMulD, s_jPow, s_zPowD, s_jFar, s_zFar, s_qEqual, s_jGrow, s_jSame, s_jOf, rv_raw, rv_N0, dv, dz, dx, dcn, dm_raw, dm_N0, vI_N0, raw6_is, rw9_is, Prod.eta, rv9_raw, re2, re4, re6, s_yEqual, Bool.not_eq_eq_eq_not, decide_eq_true_eq, decide_eq_false_iff_not, not_true_eq_false, not_false_eq_true, decide_true, decide_false, Bool.true_and, Bool.and_true, Bool.not_true, Bool.not_false, beq_self_eq_true, Bool.true_eq_false, Bool.false_eq_true, reduceCtorEq, gt_iff_lt, ge_iff_le, true_and, and_true, and_self, Bool.false_eq, Bool.and_self, eq_self, Int.reduceLE, Int.reduceNeg, Int.reduceLT, Int.reduceBEq, hfx, hfy, hfc, h1_, h2_] at hQ ⊢)
  all_goals (repeat' (first
   | with_reducible exact hQ
   | with_reducible assumption
   | with_reducible exact isi_int _ _
   | with_reducible exact True.intro
   | omega
   | with_reducible refine And.intro ?_ ?_))
 ·have hfx : decide (fewDQ n1 e1 n2 e2 n3 e3) = true := decide_eq_true kx
  have hfy : decide (fewDQ m1 f1 m2 f2 m3 f3) = true := decide_eq_true ky
  have hfc : decide (((cn ≤ 10 ∧ -1000 ≤ ce ∧ ce ≤ 1000) ∧ cm ≤ 10 ∧ -1000 ≤ cf ∧ cf ≤ 1000)) = true := decide_eq_true kd
  have h1_ : (200 < p) = False := eq_false (by omega)
  have h2_ : True := trivial
  obtain ⟨P, hP⟩ : ∃ P : Int, min p 200 = P := ⟨_, rfl⟩
  have hP2 : P ≤ 200 := by omega
  have fK := okF_fewT (s1 := s1) (s2 := s2) (s3 := s3) g1 g2 g3 kx
  have aK := okF_A fK
  have qK := okF_qd fK
  obtain ⟨K, hK⟩ : ∃ K : Dc, dct (((vI s1 c1, e1), (vI s2 c2, e2)), (vI s3 c3, e3)) = K := ⟨_, rfl⟩
  have hK1 : ca (((vI s1 c1, e1), (vI s2 c2, e2)), (vI s3 c3, e3)).1 = K.1 := congrArg Prod.fst hK
  have hK2 : rad (((vI s1 c1, e1), (vI s2 c2, e2)), (vI s3 c3, e3)).2 = K.2 := congrArg Prod.snd hK
  rw [rv9_raw, hK] at qK
  dsimp only at hK1 hK2
  have tqK := toldQ_mk qK
  have tbK := toldB_mk (qd_b qK)
  have teK := toldE_q1 qK
  have tkK : toldK (rl4 K.1) := ⟨K.1, rfl, qK.1.1, cz_mono qK.2.1 (by omega) (by omega)⟩
  have rK := canR_sj qK.1.1 qK.2.1 (by omega)
  have dK := dC_sj qK.1.2 qK.2.2 (by omega)
  have oK := okD_dC dK
  have lK := ln_dC dK
  have fM := okF_fewT (s1 := t1) (s2 := t2) (s3 := t3) p1 p2 p3 ky
  have aM := okF_A fM
  have qM := okF_qd fM
  obtain ⟨M, hM⟩ : ∃ M : Dc, dct (((vI t1 d1, f1), (vI t2 d2, f2)), (vI t3 d3, f3)) = M := ⟨_, rfl⟩
  have hM1 : ca (((vI t1 d1, f1), (vI t2 d2, f2)), (vI t3 d3, f3)).1 = M.1 := congrArg Prod.fst hM
  have hM2 : rad (((vI t1 d1, f1), (vI t2 d2, f2)), (vI t3 d3, f3)).2 = M.2 := congrArg Prod.snd hM
  rw [rv9_raw, hM] at qM
  dsimp only at hM1 hM2
  have tqM := toldQ_mk qM
  have tbM := toldB_mk (qd_b qM)
  have teM := toldE_q1 qM
  have tkM : toldK (rl4 M.1) := ⟨M.1, rfl, qM.1.1, cz_mono qM.2.1 (by omega) (by omega)⟩
  have rM := canR_sj qM.1.1 qM.2.1 (by omega)
  have dM := dC_sj qM.1.2 qM.2.2 (by omega)
  have oM := okD_dC dM
  have lM := ln_dC dM
  have fc1 := okSM_fewT cg1 kd.1
  have fc2 := okSM_fewT cg2 kd.2
  have gC := okG_mk (s := cs_) (t := ct) fc1.1 fc2.1
  have uC := okR_S (s := cs_) (t := ct) fc1.1.1 fc2.1.1
  obtain ⟨C, hC⟩ : ∃ C : Re, ca ((vI cs_ cc, ce), (vI ct cd, cf)) = C := ⟨_, rfl⟩
  have cC : ccan C := hC ▸ ccan_ca _
  have zC : cz C 1000 1320 := hC ▸ cz_ca ⟨sz_fD (fD_few fc1), sz_fD (fD_few fc2)⟩
  have tC : toldC (rl4 C) := ⟨C, rfl, cC, zC⟩
  obtain ⟨k, hk⟩ : ∃ k : Int, min n 5 = k := ⟨_, rfl⟩
  have hk5 : powN k ≤ 5 := by unfold powN; omega
  have e0_ : (0 ≤ sg (vI s3 c3)) = True := eq_true kz
  have e9_ : (if 0 < k then k else 0) = max k 0 := by split <;> omega
  have e8_ : Dy.n (max k 0, 0) = (tmI (max k 0), teI (max k 0) 0) := rfl
  have e1_ : dhas (((vI s1 c1, e1), (vI s2 c2, e2)), (vI s3 c3, e3)) ((vI cs_ cc, ce), (vI ct cd, cf)) = xhas K C := by rw [dhas_doc, hK, hC]
  have e2_ : din (((vI s1 c1, e1), (vI s2 c2, e2)), (vI s3 c3, e3)) (((vI t1 d1, f1), (vI t2 d2, f2)), (vI t3 d3, f3)) = xin K M := by rw [din_doc, hK, hM]
  have e3_ : dapart (((vI s1 c1, e1), (vI s2 c2, e2)), (vI s3 c3, e3)) (((vI t1 d1, f1), (vI t2 d2, f2)), (vI t3 d3, f3)) = xapart K M := by rw [dapart_doc, hK, hM]
  have e4_ : dadd (((vI s1 c1, e1), (vI s2 c2, e2)), (vI s3 c3, e3)) (((vI t1 d1, f1), (vI t2 d2, f2)), (vI t3 d3, f3)) = (cadd K.1 M.1, K.2.add M.2) := by rw [dadd_doc, hK, hM]
  have e5_ : dneg (((vI s1 c1, e1), (vI s2 c2, e2)), (vI s3 c3, e3)) = (cneg K.1, K.2) := by rw [dneg_doc, hK]
  have e6_ := dsame_doc (((vI s1 c1, e1), (vI s2 c2, e2)), (vI s3 c3, e3)) (((vI t1 d1, f1), (vI t2 d2, f2)), (vI t3 d3, f3))
  dsimp only at e6_
  rw [hK1, hM1, hK2, hM2, hK, hM] at e6_
  have hkl : -9223372036854775808 ≤ k := by omega
  have hku : k ≤ 9223372036854775807 := by omega
  have fG : fD (max k 0, 0) 3 0 := ⟨by unfold Fit; omega, by dsimp only; omega, by dsimp only; omega⟩
  have zG := sz_n (sz_fD fG)
  have mG := mid_mk (n_n (max k 0, 0)) zG (by omega) (by omega)
  have oG := mid_okD mG
  have lG := Nat.le_trans (mid_ln mG) (show 20000 ≤ 40000 by omega)
  have dG := dC_sj (n_n (max k 0, 0)) zG (by omega)
  have fKG := fit_dC dK dG
  have oc3 : okC n3 c3 := g3 (Nat.le_trans kx.2.1 (by decide))
  have oi3 : okI (.agg [.bool s3, .sl n3 c3]) := okI_mk oc3
  have ft3 : Fit (vI s3 c3) 100000 := (okC_fit oc3 s3).mono (by have := kx.2.1; omega)
  have oe3 : ∀ z, okE (.agg [.bool (N0.neg (tmI (vI s3 c3))), .sl (N0.ln (tmI (vI s3 c3))) (N0.lm (tmI (vI s3 c3))), .int .i64 z]) := fun z => okC_fitN (fit_tm ft3) (by omega)
  have tn_ : toldE (rel9 (cneg K.1, K.2)) := toldE_mk ⟨⟨⟨neg_n _, neg_n _⟩, qK.1.2⟩, cz_mono (cz_neg qK.2.1) (by omega) (by omega), sz_mono qK.2.2 (by omega) (by omega)⟩
  have sF_ : okE (rel3 (dsqrt (cnorm K.1) P 1)) := (mid_okD (mid_mk (dsqrt_n (cnorm K.1) P 1) (far_sz qK.2.1 (by omega) hP2) (by omega) (by omega))).1
  have tg_ : toldE (rel9 (K.1, Dy.mul K.2 (Dy.n (max k 0, 0)))) := toldE_mk ⟨⟨qK.1.1, mul_n _ _⟩, cz_mono qK.2.1 (by omega) (by omega), sz_mono (sz_mul qK.2.2 zG) (by omega) (by omega)⟩
  have tc_ : toldE (rel9 (C, (0, 0))) := toldE_mk ⟨⟨cC, zero_n⟩, cz_mono zC (by omega) (by omega), sz_zero _ _⟩
  have tz_ := told_zero tc_
  have t4_ := toldE_add qK qM
  have t7_ := toldE_mul qK qM hP2
  have t8_ := toldE_pw qK hP2 hk5
  cbv
  repeat' (first | with_reducible refine And.intro ?_ ?_ | (with_reducible refine safe_lift hA ?_; kernel_rfl) | (intro hc_; (first | (with_reducible exfalso; clear hQ; subst hF hA; simp only [fnOf, find, std, reduceIte, Nat.reduceEqDiff, sp1, sp2, a1, a2, FnSpec.out, Shape.build, leafs, leafCells, tups, oneOf, List.cons_append, List.nil_append, List.length_cons, List.length_nil, s_DiscTells, s_known10, s_fewD10, s_fewC10, s_zDisc, s_qOf, s_tMul, s_jIs, s_qMake, s_qSign, s_jHas, s_vCplx, s_zHolds, s_jIn, s_zInD, s_jApart, s_zApart, s_jAdd, s_zAddD, s_zEqualD, s_jNeg, s_vNeg, s_jMul, s_zMulD, s_jPow, s_zPowD, s_jFar, s_zFar, s_qEqual, s_jGrow, s_jSame, s_jOf, rv_raw, rv_N0, dv, dz, dx, dcn, dm_raw, dm_N0, vI_N0, raw6_is, rw9_is, Prod.eta, rv9_raw, re2, re4, re6, s_yEqual, Bool.not_eq_eq_eq_not, decide_eq_true_eq, decide_eq_false_iff_not, not_true_eq_false, not_false_eq_true, decide_true, decide_false, Bool.true_and, Bool.and_true, Bool.not_true, Bool.not_false, beq_self_eq_true, Bool.true_eq_false, Bool.false_eq_true, reduceCtorEq, gt_iff_lt, ge_iff_le, true_and, and_true, and_self, Bool.false_eq, Bool.and_self, eq_self, Int.reduceLE, Int.reduceNeg, Int.reduceLT, Int.reduceBEq, hfx, hfy, hfc, hK, hM, hK1, hK2, hM1, hM2, hC, min_if, h1_, h2_, hP, hk, sg_tmI, sameI_N0, e9_, e8_, e0_, e1_, e2_, e3_, e4_, e5_, e6_] at hc_; done) | (clear hc_; cbv))))
  all_goals subst hF hA
  all_goals (try simp only [fnOf, find, std, reduceIte, Nat.reduceEqDiff, sp1, sp2, a1, a2, FnSpec.out, Shape.build, leafs, leafCells, tups, oneOf, List.cons_append, List.nil_append, List.length_cons, List.length_nil, s_DiscTells, s_known10, s_fewD10, s_fewC10, s_zDisc, s_qOf, s_tMul, s_jIs, s_qMake, s_qSign, s_jHas, s_vCplx, s_zHolds, s_jIn, s_zInD, s_jApart, s_zApart, s_jAdd, s_zAddD, s_zEqualD, s_jNeg, s_vNeg, s_jMul, s_zMulD, s_jPow, s_zPowD, s_jFar, s_zFar, s_qEqual, s_jGrow, s_jSame, s_jOf, rv_raw, rv_N0, dv, dz, dx, dcn, dm_raw, dm_N0, vI_N0, raw6_is, rw9_is, Prod.eta, rv9_raw, re2, re4, re6, s_yEqual, Bool.not_eq_eq_eq_not, decide_eq_true_eq, decide_eq_false_iff_not, not_true_eq_false, not_false_eq_true, decide_true, decide_false, Bool.true_and, Bool.and_true, Bool.not_true, Bool.not_false, beq_self_eq_true, Bool.true_eq_false, Bool.false_eq_true, reduceCtorEq, gt_iff_lt, ge_iff_le, true_and, and_true, and_self, Bool.false_eq, Bool.and_self, eq_self, Int.reduceLE, Int.reduceNeg, Int.reduceLT, Int.reduceBEq, hfx, hfy, hfc, hK, hM, hK1, hK2, hM1, hM2, hC, min_if, h1_, h2_, hP, hk, sg_tmI, sameI_N0, e9_, e8_, e0_, e1_, e2_, e3_, e4_, e5_, e6_] at hQ ⊢)
  all_goals (repeat' (first
   | with_reducible exact hQ
   | with_reducible assumption
   | with_reducible exact isi_int _ _
   | with_reducible exact True.intro
   | omega
   | with_reducible refine And.intro ?_ ?_))
  all_goals first
   | exact hQ
   | exact oG
   | exact lG
   | exact fKG
   | exact oi3
   | exact ft3
   | exact oe3 _
   | exact tn_
   | exact sF_
   | exact tg_
   | exact tc_
   | exact tz_
   | (rw [decide_eq_true (show ((C, ((0 : Int), (0 : Int))) : Dc) = (C, (vI false [], 0)) from rfl)]; exact hQ)
   | trace_state
 ·have hfx : decide (fewDQ n1 e1 n2 e2 n3 e3) = true := decide_eq_true kx
  have hfy : decide (fewDQ m1 f1 m2 f2 m3 f3) = true := decide_eq_true ky
  have hfc : decide (((cn ≤ 10 ∧ -1000 ≤ ce ∧ ce ≤ 1000) ∧ cm ≤ 10 ∧ -1000 ≤ cf ∧ cf ≤ 1000)) = true := decide_eq_true kd
  have h1_ : (200 < p) = False := eq_false (by omega)
  have h2_ : True := trivial
  obtain ⟨P, hP⟩ : ∃ P : Int, min p 200 = P := ⟨_, rfl⟩
  have hP2 : P ≤ 200 := by omega
  have fK := okF_fewT (s1 := s1) (s2 := s2) (s3 := s3) g1 g2 g3 kx
  have aK := okF_A fK
  have qK := okF_qd fK
  obtain ⟨K, hK⟩ : ∃ K : Dc, dct (((vI s1 c1, e1), (vI s2 c2, e2)), (vI s3 c3, e3)) = K := ⟨_, rfl⟩
  have hK1 : ca (((vI s1 c1, e1), (vI s2 c2, e2)), (vI s3 c3, e3)).1 = K.1 := congrArg Prod.fst hK
  have hK2 : rad (((vI s1 c1, e1), (vI s2 c2, e2)), (vI s3 c3, e3)).2 = K.2 := congrArg Prod.snd hK
  rw [rv9_raw, hK] at qK
  dsimp only at hK1 hK2
  have tqK := toldQ_mk qK
  have tbK := toldB_mk (qd_b qK)
  have teK := toldE_q1 qK
  have tkK : toldK (rl4 K.1) := ⟨K.1, rfl, qK.1.1, cz_mono qK.2.1 (by omega) (by omega)⟩
  have rK := canR_sj qK.1.1 qK.2.1 (by omega)
  have dK := dC_sj qK.1.2 qK.2.2 (by omega)
  have oK := okD_dC dK
  have lK := ln_dC dK
  have fM := okF_fewT (s1 := t1) (s2 := t2) (s3 := t3) p1 p2 p3 ky
  have aM := okF_A fM
  have qM := okF_qd fM
  obtain ⟨M, hM⟩ : ∃ M : Dc, dct (((vI t1 d1, f1), (vI t2 d2, f2)), (vI t3 d3, f3)) = M := ⟨_, rfl⟩
  have hM1 : ca (((vI t1 d1, f1), (vI t2 d2, f2)), (vI t3 d3, f3)).1 = M.1 := congrArg Prod.fst hM
  have hM2 : rad (((vI t1 d1, f1), (vI t2 d2, f2)), (vI t3 d3, f3)).2 = M.2 := congrArg Prod.snd hM
  rw [rv9_raw, hM] at qM
  dsimp only at hM1 hM2
  have tqM := toldQ_mk qM
  have tbM := toldB_mk (qd_b qM)
  have teM := toldE_q1 qM
  have tkM : toldK (rl4 M.1) := ⟨M.1, rfl, qM.1.1, cz_mono qM.2.1 (by omega) (by omega)⟩
  have rM := canR_sj qM.1.1 qM.2.1 (by omega)
  have dM := dC_sj qM.1.2 qM.2.2 (by omega)
  have oM := okD_dC dM
  have lM := ln_dC dM
  have fc1 := okSM_fewT cg1 kd.1
  have fc2 := okSM_fewT cg2 kd.2
  have gC := okG_mk (s := cs_) (t := ct) fc1.1 fc2.1
  have uC := okR_S (s := cs_) (t := ct) fc1.1.1 fc2.1.1
  obtain ⟨C, hC⟩ : ∃ C : Re, ca ((vI cs_ cc, ce), (vI ct cd, cf)) = C := ⟨_, rfl⟩
  have cC : ccan C := hC ▸ ccan_ca _
  have zC : cz C 1000 1320 := hC ▸ cz_ca ⟨sz_fD (fD_few fc1), sz_fD (fD_few fc2)⟩
  have tC : toldC (rl4 C) := ⟨C, rfl, cC, zC⟩
  obtain ⟨k, hk⟩ : ∃ k : Int, min n 5 = k := ⟨_, rfl⟩
  have hk5 : powN k ≤ 5 := by unfold powN; omega
  have e0_ : (0 ≤ sg (vI s3 c3)) = False := eq_false kz
  have e9_ : (if 0 < k then k else 0) = max k 0 := by split <;> omega
  have e8_ : Dy.n (max k 0, 0) = (tmI (max k 0), teI (max k 0) 0) := rfl
  have e1_ : dhas (((vI s1 c1, e1), (vI s2 c2, e2)), (vI s3 c3, e3)) ((vI cs_ cc, ce), (vI ct cd, cf)) = xhas K C := by rw [dhas_doc, hK, hC]
  have e2_ : din (((vI s1 c1, e1), (vI s2 c2, e2)), (vI s3 c3, e3)) (((vI t1 d1, f1), (vI t2 d2, f2)), (vI t3 d3, f3)) = xin K M := by rw [din_doc, hK, hM]
  have e3_ : dapart (((vI s1 c1, e1), (vI s2 c2, e2)), (vI s3 c3, e3)) (((vI t1 d1, f1), (vI t2 d2, f2)), (vI t3 d3, f3)) = xapart K M := by rw [dapart_doc, hK, hM]
  have e4_ : dadd (((vI s1 c1, e1), (vI s2 c2, e2)), (vI s3 c3, e3)) (((vI t1 d1, f1), (vI t2 d2, f2)), (vI t3 d3, f3)) = (cadd K.1 M.1, K.2.add M.2) := by rw [dadd_doc, hK, hM]
  have e5_ : dneg (((vI s1 c1, e1), (vI s2 c2, e2)), (vI s3 c3, e3)) = (cneg K.1, K.2) := by rw [dneg_doc, hK]
  have e6_ := dsame_doc (((vI s1 c1, e1), (vI s2 c2, e2)), (vI s3 c3, e3)) (((vI t1 d1, f1), (vI t2 d2, f2)), (vI t3 d3, f3))
  dsimp only at e6_
  rw [hK1, hM1, hK2, hM2, hK, hM] at e6_
  have hkl : -9223372036854775808 ≤ k := by omega
  have hku : k ≤ 9223372036854775807 := by omega
  have fG : fD (max k 0, 0) 3 0 := ⟨by unfold Fit; omega, by dsimp only; omega, by dsimp only; omega⟩
  have zG := sz_n (sz_fD fG)
  have mG := mid_mk (n_n (max k 0, 0)) zG (by omega) (by omega)
  have oG := mid_okD mG
  have lG := Nat.le_trans (mid_ln mG) (show 20000 ≤ 40000 by omega)
  have dG := dC_sj (n_n (max k 0, 0)) zG (by omega)
  have fKG := fit_dC dK dG
  have oc3 : okC n3 c3 := g3 (Nat.le_trans kx.2.1 (by decide))
  have oi3 : okI (.agg [.bool s3, .sl n3 c3]) := okI_mk oc3
  have ft3 : Fit (vI s3 c3) 100000 := (okC_fit oc3 s3).mono (by have := kx.2.1; omega)
  have oe3 : ∀ z, okE (.agg [.bool (N0.neg (tmI (vI s3 c3))), .sl (N0.ln (tmI (vI s3 c3))) (N0.lm (tmI (vI s3 c3))), .int .i64 z]) := fun z => okC_fitN (fit_tm ft3) (by omega)
  have tn_ : toldE (rel9 (cneg K.1, K.2)) := toldE_mk ⟨⟨⟨neg_n _, neg_n _⟩, qK.1.2⟩, cz_mono (cz_neg qK.2.1) (by omega) (by omega), sz_mono qK.2.2 (by omega) (by omega)⟩
  have sF_ : okE (rel3 (dsqrt (cnorm K.1) P 1)) := (mid_okD (mid_mk (dsqrt_n (cnorm K.1) P 1) (far_sz qK.2.1 (by omega) hP2) (by omega) (by omega))).1
  have tg_ : toldE (rel9 (K.1, Dy.mul K.2 (Dy.n (max k 0, 0)))) := toldE_mk ⟨⟨qK.1.1, mul_n _ _⟩, cz_mono qK.2.1 (by omega) (by omega), sz_mono (sz_mul qK.2.2 zG) (by omega) (by omega)⟩
  have tc_ : toldE (rel9 (C, (0, 0))) := toldE_mk ⟨⟨cC, zero_n⟩, cz_mono zC (by omega) (by omega), sz_zero _ _⟩
  have tz_ := told_zero tc_
  have t4_ := toldE_add qK qM
  have t7_ := toldE_mul qK qM hP2
  have t8_ := toldE_pw qK hP2 hk5
  cbv
  repeat' (first | with_reducible refine And.intro ?_ ?_ | (with_reducible refine safe_lift hA ?_; kernel_rfl) | (intro hc_; (first | (with_reducible exfalso; clear hQ; subst hF hA; simp only [fnOf, find, std, reduceIte, Nat.reduceEqDiff, sp1, sp2, a1, a2, FnSpec.out, Shape.build, leafs, leafCells, tups, oneOf, List.cons_append, List.nil_append, List.length_cons, List.length_nil, s_DiscTells, s_known10, s_fewD10, s_fewC10, s_zDisc, s_qOf, s_tMul, s_jIs, s_qMake, s_qSign, s_jHas, s_vCplx, s_zHolds, s_jIn, s_zInD, s_jApart, s_zApart, s_jAdd, s_zAddD, s_zEqualD, s_jNeg, s_vNeg, s_jMul, s_zMulD, s_jPow, s_zPowD, s_jFar, s_zFar, s_qEqual, s_jGrow, s_jSame, s_jOf, rv_raw, rv_N0, dv, dz, dx, dcn, dm_raw, dm_N0, vI_N0, raw6_is, rw9_is, Prod.eta, rv9_raw, re2, re4, re6, s_yEqual, Bool.not_eq_eq_eq_not, decide_eq_true_eq, decide_eq_false_iff_not, not_true_eq_false, not_false_eq_true, decide_true, decide_false, Bool.true_and, Bool.and_true, Bool.not_true, Bool.not_false, beq_self_eq_true, Bool.true_eq_false, Bool.false_eq_true, reduceCtorEq, gt_iff_lt, ge_iff_le, true_and, and_true, and_self, Bool.false_eq, Bool.and_self, eq_self, Int.reduceLE, Int.reduceNeg, Int.reduceLT, Int.reduceBEq, hfx, hfy, hfc, hK, hM, hK1, hK2, hM1, hM2, hC, min_if, h1_, h2_, hP, hk, sg_tmI, sameI_N0, e9_, e8_, e0_, e1_, e2_, e3_, e4_, e5_, e6_] at hc_; done) | (clear hc_; cbv))))
  all_goals subst hF hA
  all_goals (try simp only [fnOf, find, std, reduceIte, Nat.reduceEqDiff, sp1, sp2, a1, a2, FnSpec.out, Shape.build, leafs, leafCells, tups, oneOf, List.cons_append, List.nil_append, List.length_cons, List.length_nil, s_DiscTells, s_known10, s_fewD10, s_fewC10, s_zDisc, s_qOf, s_tMul, s_jIs, s_qMake, s_qSign, s_jHas, s_vCplx, s_zHolds, s_jIn, s_zInD, s_jApart, s_zApart, s_jAdd, s_zAddD, s_zEqualD, s_jNeg, s_vNeg, s_jMul, s_zMulD, s_jPow, s_zPowD, s_jFar, s_zFar, s_qEqual, s_jGrow, s_jSame, s_jOf, rv_raw, rv_N0, dv, dz, dx, dcn, dm_raw, dm_N0, vI_N0, raw6_is, rw9_is, Prod.eta, rv9_raw, re2, re4, re6, s_yEqual, Bool.not_eq_eq_eq_not, decide_eq_true_eq, decide_eq_false_iff_not, not_true_eq_false, not_false_eq_true, decide_true, decide_false, Bool.true_and, Bool.and_true, Bool.not_true, Bool.not_false, beq_self_eq_true, Bool.true_eq_false, Bool.false_eq_true, reduceCtorEq, gt_iff_lt, ge_iff_le, true_and, and_true, and_self, Bool.false_eq, Bool.and_self, eq_self, Int.reduceLE, Int.reduceNeg, Int.reduceLT, Int.reduceBEq, hfx, hfy, hfc, hK, hM, hK1, hK2, hM1, hM2, hC, min_if, h1_, h2_, hP, hk, sg_tmI, sameI_N0, e9_, e8_, e0_, e1_, e2_, e3_, e4_, e5_, e6_] at hQ ⊢)
  all_goals (repeat' (first
   | with_reducible exact hQ
   | with_reducible assumption
   | with_reducible exact isi_int _ _
   | with_reducible exact True.intro
   | omega
   | with_reducible refine And.intro ?_ ?_))
  all_goals first
   | exact hQ
   | exact oG
   | exact lG
   | exact fKG
   | exact oi3
   | exact ft3
   | exact oe3 _
   | exact tn_
   | exact sF_
   | exact tg_
   | exact tc_
   | exact tz_
   | (rw [decide_eq_true (show ((C, ((0 : Int), (0 : Int))) : Dc) = (C, (vI false [], 0)) from rfl)]; exact hQ)
   | trace_state
 ·have hfx : decide (fewDQ n1 e1 n2 e2 n3 e3) = true := decide_eq_true kx
  have hfy : decide (fewDQ m1 f1 m2 f2 m3 f3) = true := decide_eq_true ky
  have hfc : decide (((cn ≤ 10 ∧ -1000 ≤ ce ∧ ce ≤ 1000) ∧ cm ≤ 10 ∧ -1000 ≤ cf ∧ cf ≤ 1000)) = true := decide_eq_true kd
  have h1_ : (200 < p) = True := eq_true (by omega)
  have h2_ : (p ≤ 4000) = False := eq_false (by omega)
  obtain ⟨P, hP⟩ : ∃ P : Int, min p 200 = P := ⟨_, rfl⟩
  have hP2 : P ≤ 200 := by omega
  have fK := okF_fewT (s1 := s1) (s2 := s2) (s3 := s3) g1 g2 g3 kx
  have aK := okF_A fK
  have qK := okF_qd fK
  obtain ⟨K, hK⟩ : ∃ K : Dc, dct (((vI s1 c1, e1), (vI s2 c2, e2)), (vI s3 c3, e3)) = K := ⟨_, rfl⟩
  have hK1 : ca (((vI s1 c1, e1), (vI s2 c2, e2)), (vI s3 c3, e3)).1 = K.1 := congrArg Prod.fst hK
  have hK2 : rad (((vI s1 c1, e1), (vI s2 c2, e2)), (vI s3 c3, e3)).2 = K.2 := congrArg Prod.snd hK
  rw [rv9_raw, hK] at qK
  dsimp only at hK1 hK2
  have tqK := toldQ_mk qK
  have tbK := toldB_mk (qd_b qK)
  have teK := toldE_q1 qK
  have tkK : toldK (rl4 K.1) := ⟨K.1, rfl, qK.1.1, cz_mono qK.2.1 (by omega) (by omega)⟩
  have rK := canR_sj qK.1.1 qK.2.1 (by omega)
  have dK := dC_sj qK.1.2 qK.2.2 (by omega)
  have oK := okD_dC dK
  have lK := ln_dC dK
  have fM := okF_fewT (s1 := t1) (s2 := t2) (s3 := t3) p1 p2 p3 ky
  have aM := okF_A fM
  have qM := okF_qd fM
  obtain ⟨M, hM⟩ : ∃ M : Dc, dct (((vI t1 d1, f1), (vI t2 d2, f2)), (vI t3 d3, f3)) = M := ⟨_, rfl⟩
  have hM1 : ca (((vI t1 d1, f1), (vI t2 d2, f2)), (vI t3 d3, f3)).1 = M.1 := congrArg Prod.fst hM
  have hM2 : rad (((vI t1 d1, f1), (vI t2 d2, f2)), (vI t3 d3, f3)).2 = M.2 := congrArg Prod.snd hM
  rw [rv9_raw, hM] at qM
  dsimp only at hM1 hM2
  have tqM := toldQ_mk qM
  have tbM := toldB_mk (qd_b qM)
  have teM := toldE_q1 qM
  have tkM : toldK (rl4 M.1) := ⟨M.1, rfl, qM.1.1, cz_mono qM.2.1 (by omega) (by omega)⟩
  have rM := canR_sj qM.1.1 qM.2.1 (by omega)
  have dM := dC_sj qM.1.2 qM.2.2 (by omega)
  have oM := okD_dC dM
  have lM := ln_dC dM
  have fc1 := okSM_fewT cg1 kd.1
  have fc2 := okSM_fewT cg2 kd.2
  have gC := okG_mk (s := cs_) (t := ct) fc1.1 fc2.1
  have uC := okR_S (s := cs_) (t := ct) fc1.1.1 fc2.1.1
  obtain ⟨C, hC⟩ : ∃ C : Re, ca ((vI cs_ cc, ce), (vI ct cd, cf)) = C := ⟨_, rfl⟩
  have cC : ccan C := hC ▸ ccan_ca _
  have zC : cz C 1000 1320 := hC ▸ cz_ca ⟨sz_fD (fD_few fc1), sz_fD (fD_few fc2)⟩
  have tC : toldC (rl4 C) := ⟨C, rfl, cC, zC⟩
  obtain ⟨k, hk⟩ : ∃ k : Int, min n 5 = k := ⟨_, rfl⟩
  have hk5 : powN k ≤ 5 := by unfold powN; omega
  have e0_ : (0 ≤ sg (vI s3 c3)) = True := eq_true kz
  have e9_ : (if 0 < k then k else 0) = max k 0 := by split <;> omega
  have e8_ : Dy.n (max k 0, 0) = (tmI (max k 0), teI (max k 0) 0) := rfl
  have e1_ : dhas (((vI s1 c1, e1), (vI s2 c2, e2)), (vI s3 c3, e3)) ((vI cs_ cc, ce), (vI ct cd, cf)) = xhas K C := by rw [dhas_doc, hK, hC]
  have e2_ : din (((vI s1 c1, e1), (vI s2 c2, e2)), (vI s3 c3, e3)) (((vI t1 d1, f1), (vI t2 d2, f2)), (vI t3 d3, f3)) = xin K M := by rw [din_doc, hK, hM]
  have e3_ : dapart (((vI s1 c1, e1), (vI s2 c2, e2)), (vI s3 c3, e3)) (((vI t1 d1, f1), (vI t2 d2, f2)), (vI t3 d3, f3)) = xapart K M := by rw [dapart_doc, hK, hM]
  have e4_ : dadd (((vI s1 c1, e1), (vI s2 c2, e2)), (vI s3 c3, e3)) (((vI t1 d1, f1), (vI t2 d2, f2)), (vI t3 d3, f3)) = (cadd K.1 M.1, K.2.add M.2) := by rw [dadd_doc, hK, hM]
  have e5_ : dneg (((vI s1 c1, e1), (vI s2 c2, e2)), (vI s3 c3, e3)) = (cneg K.1, K.2) := by rw [dneg_doc, hK]
  have e6_ := dsame_doc (((vI s1 c1, e1), (vI s2 c2, e2)), (vI s3 c3, e3)) (((vI t1 d1, f1), (vI t2 d2, f2)), (vI t3 d3, f3))
  dsimp only at e6_
  rw [hK1, hM1, hK2, hM2, hK, hM] at e6_
  have hkl : -9223372036854775808 ≤ k := by omega
  have hku : k ≤ 9223372036854775807 := by omega
  have fG : fD (max k 0, 0) 3 0 := ⟨by unfold Fit; omega, by dsimp only; omega, by dsimp only; omega⟩
  have zG := sz_n (sz_fD fG)
  have mG := mid_mk (n_n (max k 0, 0)) zG (by omega) (by omega)
  have oG := mid_okD mG
  have lG := Nat.le_trans (mid_ln mG) (show 20000 ≤ 40000 by omega)
  have dG := dC_sj (n_n (max k 0, 0)) zG (by omega)
  have fKG := fit_dC dK dG
  have oc3 : okC n3 c3 := g3 (Nat.le_trans kx.2.1 (by decide))
  have oi3 : okI (.agg [.bool s3, .sl n3 c3]) := okI_mk oc3
  have ft3 : Fit (vI s3 c3) 100000 := (okC_fit oc3 s3).mono (by have := kx.2.1; omega)
  have oe3 : ∀ z, okE (.agg [.bool (N0.neg (tmI (vI s3 c3))), .sl (N0.ln (tmI (vI s3 c3))) (N0.lm (tmI (vI s3 c3))), .int .i64 z]) := fun z => okC_fitN (fit_tm ft3) (by omega)
  have tn_ : toldE (rel9 (cneg K.1, K.2)) := toldE_mk ⟨⟨⟨neg_n _, neg_n _⟩, qK.1.2⟩, cz_mono (cz_neg qK.2.1) (by omega) (by omega), sz_mono qK.2.2 (by omega) (by omega)⟩
  have sF_ : okE (rel3 (dsqrt (cnorm K.1) P 1)) := (mid_okD (mid_mk (dsqrt_n (cnorm K.1) P 1) (far_sz qK.2.1 (by omega) hP2) (by omega) (by omega))).1
  have tg_ : toldE (rel9 (K.1, Dy.mul K.2 (Dy.n (max k 0, 0)))) := toldE_mk ⟨⟨qK.1.1, mul_n _ _⟩, cz_mono qK.2.1 (by omega) (by omega), sz_mono (sz_mul qK.2.2 zG) (by omega) (by omega)⟩
  have tc_ : toldE (rel9 (C, (0, 0))) := toldE_mk ⟨⟨cC, zero_n⟩, cz_mono zC (by omega) (by omega), sz_zero _ _⟩
  have tz_ := told_zero tc_
  have t4_ := toldE_add qK qM
  have t7_ := toldE_mul qK qM hP2
  have t8_ := toldE_pw qK hP2 hk5
  cbv
  repeat' (first | with_reducible refine And.intro ?_ ?_ | (with_reducible refine safe_lift hA ?_; kernel_rfl) | (intro hc_; (first | (with_reducible exfalso; clear hQ; subst hF hA; simp only [fnOf, find, std, reduceIte, Nat.reduceEqDiff, sp1, sp2, a1, a2, FnSpec.out, Shape.build, leafs, leafCells, tups, oneOf, List.cons_append, List.nil_append, List.length_cons, List.length_nil, s_DiscTells, s_known10, s_fewD10, s_fewC10, s_zDisc, s_qOf, s_tMul, s_jIs, s_qMake, s_qSign, s_jHas, s_vCplx, s_zHolds, s_jIn, s_zInD, s_jApart, s_zApart, s_jAdd, s_zAddD, s_zEqualD, s_jNeg, s_vNeg, s_jMul, s_zMulD, s_jPow, s_zPowD, s_jFar, s_zFar, s_qEqual, s_jGrow, s_jSame, s_jOf, rv_raw, rv_N0, dv, dz, dx, dcn, dm_raw, dm_N0, vI_N0, raw6_is, rw9_is, Prod.eta, rv9_raw, re2, re4, re6, s_yEqual, Bool.not_eq_eq_eq_not, decide_eq_true_eq, decide_eq_false_iff_not, not_true_eq_false, not_false_eq_true, decide_true, decide_false, Bool.true_and, Bool.and_true, Bool.not_true, Bool.not_false, beq_self_eq_true, Bool.true_eq_false, Bool.false_eq_true, reduceCtorEq, gt_iff_lt, ge_iff_le, true_and, and_true, and_self, Bool.false_eq, Bool.and_self, eq_self, Int.reduceLE, Int.reduceNeg, Int.reduceLT, Int.reduceBEq, hfx, hfy, hfc, hK, hM, hK1, hK2, hM1, hM2, hC, min_if, h1_, h2_, hP, hk, sg_tmI, sameI_N0, e9_, e8_, e0_, e1_, e2_, e3_, e4_, e5_, e6_] at hc_; done) | (clear hc_; cbv))))
  all_goals subst hF hA
  all_goals (try simp only [fnOf, find, std, reduceIte, Nat.reduceEqDiff, sp1, sp2, a1, a2, FnSpec.out, Shape.build, leafs, leafCells, tups, oneOf, List.cons_append, List.nil_append, List.length_cons, List.length_nil, s_DiscTells, s_known10, s_fewD10, s_fewC10, s_zDisc, s_qOf, s_tMul, s_jIs, s_qMake, s_qSign, s_jHas, s_vCplx, s_zHolds, s_jIn, s_zInD, s_jApart, s_zApart, s_jAdd, s_zAddD, s_zEqualD, s_jNeg, s_vNeg, s_jMul, s_zMulD, s_jPow, s_zPowD, s_jFar, s_zFar, s_qEqual, s_jGrow, s_jSame, s_jOf, rv_raw, rv_N0, dv, dz, dx, dcn, dm_raw, dm_N0, vI_N0, raw6_is, rw9_is, Prod.eta, rv9_raw, re2, re4, re6, s_yEqual, Bool.not_eq_eq_eq_not, decide_eq_true_eq, decide_eq_false_iff_not, not_true_eq_false, not_false_eq_true, decide_true, decide_false, Bool.true_and, Bool.and_true, Bool.not_true, Bool.not_false, beq_self_eq_true, Bool.true_eq_false, Bool.false_eq_true, reduceCtorEq, gt_iff_lt, ge_iff_le, true_and, and_true, and_self, Bool.false_eq, Bool.and_self, eq_self, Int.reduceLE, Int.reduceNeg, Int.reduceLT, Int.reduceBEq, hfx, hfy, hfc, hK, hM, hK1, hK2, hM1, hM2, hC, min_if, h1_, h2_, hP, hk, sg_tmI, sameI_N0, e9_, e8_, e0_, e1_, e2_, e3_, e4_, e5_, e6_] at hQ ⊢)
  all_goals (repeat' (first
   | with_reducible exact hQ
   | with_reducible assumption
   | with_reducible exact isi_int _ _
   | with_reducible exact True.intro
   | omega
   | with_reducible refine And.intro ?_ ?_))
  all_goals first
   | exact hQ
   | exact oG
   | exact lG
   | exact fKG
   | exact oi3
   | exact ft3
   | exact oe3 _
   | exact tn_
   | exact sF_
   | exact tg_
   | exact tc_
   | exact tz_
   | (rw [decide_eq_true (show ((C, ((0 : Int), (0 : Int))) : Dc) = (C, (vI false [], 0)) from rfl)]; exact hQ)
   | trace_state
 ·have hfx : decide (fewDQ n1 e1 n2 e2 n3 e3) = true := decide_eq_true kx
  have hfy : decide (fewDQ m1 f1 m2 f2 m3 f3) = true := decide_eq_true ky
  have hfc : decide (((cn ≤ 10 ∧ -1000 ≤ ce ∧ ce ≤ 1000) ∧ cm ≤ 10 ∧ -1000 ≤ cf ∧ cf ≤ 1000)) = true := decide_eq_true kd
  have h1_ : (200 < p) = True := eq_true (by omega)
  have h2_ : (p ≤ 4000) = False := eq_false (by omega)
  obtain ⟨P, hP⟩ : ∃ P : Int, min p 200 = P := ⟨_, rfl⟩
  have hP2 : P ≤ 200 := by omega
  have fK := okF_fewT (s1 := s1) (s2 := s2) (s3 := s3) g1 g2 g3 kx
  have aK := okF_A fK
  have qK := okF_qd fK
  obtain ⟨K, hK⟩ : ∃ K : Dc, dct (((vI s1 c1, e1), (vI s2 c2, e2)), (vI s3 c3, e3)) = K := ⟨_, rfl⟩
  have hK1 : ca (((vI s1 c1, e1), (vI s2 c2, e2)), (vI s3 c3, e3)).1 = K.1 := congrArg Prod.fst hK
  have hK2 : rad (((vI s1 c1, e1), (vI s2 c2, e2)), (vI s3 c3, e3)).2 = K.2 := congrArg Prod.snd hK
  rw [rv9_raw, hK] at qK
  dsimp only at hK1 hK2
  have tqK := toldQ_mk qK
  have tbK := toldB_mk (qd_b qK)
  have teK := toldE_q1 qK
  have tkK : toldK (rl4 K.1) := ⟨K.1, rfl, qK.1.1, cz_mono qK.2.1 (by omega) (by omega)⟩
  have rK := canR_sj qK.1.1 qK.2.1 (by omega)
  have dK := dC_sj qK.1.2 qK.2.2 (by omega)
  have oK := okD_dC dK
  have lK := ln_dC dK
  have fM := okF_fewT (s1 := t1) (s2 := t2) (s3 := t3) p1 p2 p3 ky
  have aM := okF_A fM
  have qM := okF_qd fM
  obtain ⟨M, hM⟩ : ∃ M : Dc, dct (((vI t1 d1, f1), (vI t2 d2, f2)), (vI t3 d3, f3)) = M := ⟨_, rfl⟩
  have hM1 : ca (((vI t1 d1, f1), (vI t2 d2, f2)), (vI t3 d3, f3)).1 = M.1 := congrArg Prod.fst hM
  have hM2 : rad (((vI t1 d1, f1), (vI t2 d2, f2)), (vI t3 d3, f3)).2 = M.2 := congrArg Prod.snd hM
  rw [rv9_raw, hM] at qM
  dsimp only at hM1 hM2
  have tqM := toldQ_mk qM
  have tbM := toldB_mk (qd_b qM)
  have teM := toldE_q1 qM
  have tkM : toldK (rl4 M.1) := ⟨M.1, rfl, qM.1.1, cz_mono qM.2.1 (by omega) (by omega)⟩
  have rM := canR_sj qM.1.1 qM.2.1 (by omega)
  have dM := dC_sj qM.1.2 qM.2.2 (by omega)
  have oM := okD_dC dM
  have lM := ln_dC dM
  have fc1 := okSM_fewT cg1 kd.1
  have fc2 := okSM_fewT cg2 kd.2
  have gC := okG_mk (s := cs_) (t := ct) fc1.1 fc2.1
  have uC := okR_S (s := cs_) (t := ct) fc1.1.1 fc2.1.1
  obtain ⟨C, hC⟩ : ∃ C : Re, ca ((vI cs_ cc, ce), (vI ct cd, cf)) = C := ⟨_, rfl⟩
  have cC : ccan C := hC ▸ ccan_ca _
  have zC : cz C 1000 1320 := hC ▸ cz_ca ⟨sz_fD (fD_few fc1), sz_fD (fD_few fc2)⟩
  have tC : toldC (rl4 C) := ⟨C, rfl, cC, zC⟩
  obtain ⟨k, hk⟩ : ∃ k : Int, min n 5 = k := ⟨_, rfl⟩
  have hk5 : powN k ≤ 5 := by unfold powN; omega
  have e0_ : (0 ≤ sg (vI s3 c3)) = False := eq_false kz
  have e9_ : (if 0 < k then k else 0) = max k 0 := by split <;> omega
  have e8_ : Dy.n (max k 0, 0) = (tmI (max k 0), teI (max k 0) 0) := rfl
  have e1_ : dhas (((vI s1 c1, e1), (vI s2 c2, e2)), (vI s3 c3, e3)) ((vI cs_ cc, ce), (vI ct cd, cf)) = xhas K C := by rw [dhas_doc, hK, hC]
  have e2_ : din (((vI s1 c1, e1), (vI s2 c2, e2)), (vI s3 c3, e3)) (((vI t1 d1, f1), (vI t2 d2, f2)), (vI t3 d3, f3)) = xin K M := by rw [din_doc, hK, hM]
  have e3_ : dapart (((vI s1 c1, e1), (vI s2 c2, e2)), (vI s3 c3, e3)) (((vI t1 d1, f1), (vI t2 d2, f2)), (vI t3 d3, f3)) = xapart K M := by rw [dapart_doc, hK, hM]
  have e4_ : dadd (((vI s1 c1, e1), (vI s2 c2, e2)), (vI s3 c3, e3)) (((vI t1 d1, f1), (vI t2 d2, f2)), (vI t3 d3, f3)) = (cadd K.1 M.1, K.2.add M.2) := by rw [dadd_doc, hK, hM]
  have e5_ : dneg (((vI s1 c1, e1), (vI s2 c2, e2)), (vI s3 c3, e3)) = (cneg K.1, K.2) := by rw [dneg_doc, hK]
  have e6_ := dsame_doc (((vI s1 c1, e1), (vI s2 c2, e2)), (vI s3 c3, e3)) (((vI t1 d1, f1), (vI t2 d2, f2)), (vI t3 d3, f3))
  dsimp only at e6_
  rw [hK1, hM1, hK2, hM2, hK, hM] at e6_
  have hkl : -9223372036854775808 ≤ k := by omega
  have hku : k ≤ 9223372036854775807 := by omega
  have fG : fD (max k 0, 0) 3 0 := ⟨by unfold Fit; omega, by dsimp only; omega, by dsimp only; omega⟩
  have zG := sz_n (sz_fD fG)
  have mG := mid_mk (n_n (max k 0, 0)) zG (by omega) (by omega)
  have oG := mid_okD mG
  have lG := Nat.le_trans (mid_ln mG) (show 20000 ≤ 40000 by omega)
  have dG := dC_sj (n_n (max k 0, 0)) zG (by omega)
  have fKG := fit_dC dK dG
  have oc3 : okC n3 c3 := g3 (Nat.le_trans kx.2.1 (by decide))
  have oi3 : okI (.agg [.bool s3, .sl n3 c3]) := okI_mk oc3
  have ft3 : Fit (vI s3 c3) 100000 := (okC_fit oc3 s3).mono (by have := kx.2.1; omega)
  have oe3 : ∀ z, okE (.agg [.bool (N0.neg (tmI (vI s3 c3))), .sl (N0.ln (tmI (vI s3 c3))) (N0.lm (tmI (vI s3 c3))), .int .i64 z]) := fun z => okC_fitN (fit_tm ft3) (by omega)
  have tn_ : toldE (rel9 (cneg K.1, K.2)) := toldE_mk ⟨⟨⟨neg_n _, neg_n _⟩, qK.1.2⟩, cz_mono (cz_neg qK.2.1) (by omega) (by omega), sz_mono qK.2.2 (by omega) (by omega)⟩
  have sF_ : okE (rel3 (dsqrt (cnorm K.1) P 1)) := (mid_okD (mid_mk (dsqrt_n (cnorm K.1) P 1) (far_sz qK.2.1 (by omega) hP2) (by omega) (by omega))).1
  have tg_ : toldE (rel9 (K.1, Dy.mul K.2 (Dy.n (max k 0, 0)))) := toldE_mk ⟨⟨qK.1.1, mul_n _ _⟩, cz_mono qK.2.1 (by omega) (by omega), sz_mono (sz_mul qK.2.2 zG) (by omega) (by omega)⟩
  have tc_ : toldE (rel9 (C, (0, 0))) := toldE_mk ⟨⟨cC, zero_n⟩, cz_mono zC (by omega) (by omega), sz_zero _ _⟩
  have tz_ := told_zero tc_
  have t4_ := toldE_add qK qM
  have t7_ := toldE_mul qK qM hP2
  have t8_ := toldE_pw qK hP2 hk5
  cbv
  repeat' (first | with_reducible refine And.intro ?_ ?_ | (with_reducible refine safe_lift hA ?_; kernel_rfl) | (intro hc_; (first | (with_reducible exfalso; clear hQ; subst hF hA; simp only [fnOf, find, std, reduceIte, Nat.reduceEqDiff, sp1, sp2, a1, a2, FnSpec.out, Shape.build, leafs, leafCells, tups, oneOf, List.cons_append, List.nil_append, List.length_cons, List.length_nil, s_DiscTells, s_known10, s_fewD10, s_fewC10, s_zDisc, s_qOf, s_tMul, s_jIs, s_qMake, s_qSign, s_jHas, s_vCplx, s_zHolds, s_jIn, s_zInD, s_jApart, s_zApart, s_jAdd, s_zAddD, s_zEqualD, s_jNeg, s_vNeg, s_jMul, s_zMulD, s_jPow, s_zPowD, s_jFar, s_zFar, s_qEqual, s_jGrow, s_jSame, s_jOf, rv_raw, rv_N0, dv, dz, dx, dcn, dm_raw, dm_N0, vI_N0, raw6_is, rw9_is, Prod.eta, rv9_raw, re2, re4, re6, s_yEqual, Bool.not_eq_eq_eq_not, decide_eq_true_eq, decide_eq_false_iff_not, not_true_eq_false, not_false_eq_true, decide_true, decide_false, Bool.true_and, Bool.and_true, Bool.not_true, Bool.not_false, beq_self_eq_true, Bool.true_eq_false, Bool.false_eq_true, reduceCtorEq, gt_iff_lt, ge_iff_le, true_and, and_true, and_self, Bool.false_eq, Bool.and_self, eq_self, Int.reduceLE, Int.reduceNeg, Int.reduceLT, Int.reduceBEq, hfx, hfy, hfc, hK, hM, hK1, hK2, hM1, hM2, hC, min_if, h1_, h2_, hP, hk, sg_tmI, sameI_N0, e9_, e8_, e0_, e1_, e2_, e3_, e4_, e5_, e6_] at hc_; done) | (clear hc_; cbv))))
  all_goals subst hF hA
  all_goals (try simp only [fnOf, find, std, reduceIte, Nat.reduceEqDiff, sp1, sp2, a1, a2, FnSpec.out, Shape.build, leafs, leafCells, tups, oneOf, List.cons_append, List.nil_append, List.length_cons, List.length_nil, s_DiscTells, s_known10, s_fewD10, s_fewC10, s_zDisc, s_qOf, s_tMul, s_jIs, s_qMake, s_qSign, s_jHas, s_vCplx, s_zHolds, s_jIn, s_zInD, s_jApart, s_zApart, s_jAdd, s_zAddD, s_zEqualD, s_jNeg, s_vNeg, s_jMul, s_zMulD, s_jPow, s_zPowD, s_jFar, s_zFar, s_qEqual, s_jGrow, s_jSame, s_jOf, rv_raw, rv_N0, dv, dz, dx, dcn, dm_raw, dm_N0, vI_N0, raw6_is, rw9_is, Prod.eta, rv9_raw, re2, re4, re6, s_yEqual, Bool.not_eq_eq_eq_not, decide_eq_true_eq, decide_eq_false_iff_not, not_true_eq_false, not_false_eq_true, decide_true, decide_false, Bool.true_and, Bool.and_true, Bool.not_true, Bool.not_false, beq_self_eq_true, Bool.true_eq_false, Bool.false_eq_true, reduceCtorEq, gt_iff_lt, ge_iff_le, true_and, and_true, and_self, Bool.false_eq, Bool.and_self, eq_self, Int.reduceLE, Int.reduceNeg, Int.reduceLT, Int.reduceBEq, hfx, hfy, hfc, hK, hM, hK1, hK2, hM1, hM2, hC, min_if, h1_, h2_, hP, hk, sg_tmI, sameI_N0, e9_, e8_, e0_, e1_, e2_, e3_, e4_, e5_, e6_] at hQ ⊢)
  all_goals (repeat' (first
   | with_reducible exact hQ
   | with_reducible assumption
   | with_reducible exact isi_int _ _
   | with_reducible exact True.intro
   | omega
   | with_reducible refine And.intro ?_ ?_))
  all_goals first
   | exact hQ
   | exact oG
   | exact lG
   | exact fKG
   | exact oi3
   | exact ft3
   | exact oe3 _
   | exact tn_
   | exact sF_
   | exact tg_
   | exact tc_
   | exact tz_
   | (rw [decide_eq_true (show ((C, ((0 : Int), (0 : Int))) : Dc) = (C, (vI false [], 0)) from rfl)]; exact hQ)
   | trace_state
end Go.Proofs.YtnjjfakjnkhhjaaGreatDoor.Ev
