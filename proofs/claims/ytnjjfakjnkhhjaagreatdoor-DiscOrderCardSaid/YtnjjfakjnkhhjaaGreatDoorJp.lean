import Derived.Test.YtnjjfakjnkhhjaaGreatDoorJl
set_option maxHeartbeats 16000000
set_option maxRecDepth 100000
set_option linter.all false
namespace Go.Proofs.YtnjjfakjnkhhjaaGreatDoor.Ev
open Go Go.RowKit
def s_DiscOrder : FnSpec := ⟨.one .b, fun ds => match ds with | [x, y, z, .int .u8 n] => okXD x ∧ okXD y ∧ okXD z ∧ 0 ≤ n ∧ n ≤ 255 | _ => False, fun _ _ => 0, fun _ _ => true, fun _ _ => 0, fun _ _ => []⟩
theorem DiscOrder_arg {ds : List D} (h : s_DiscOrder.p ds) : ∃ x y z n, ds = [x, y, z, .int .u8 n] ∧ okXD x ∧ okXD y ∧ okXD z ∧ 0 ≤ n ∧ n ≤ 255 := by
 unfold s_DiscOrder at h
 dsimp only at h
 split at h
 ·exact ⟨_, _, _, _, rfl, h⟩
 ·exact h.elim
theorem ord10 {a b c : Prop} [Decidable a] [Decidable b] [Decidable c] (p q r : Bool) : ¬a ∨ (a ∧ ¬b) ∨ (a ∧ b ∧ ¬c) ∨ ((a ∧ b ∧ c) ∧ p = false) ∨ ((a ∧ b ∧ c) ∧ p = true ∧ q = false ∧ r = false) ∨ ((a ∧ b ∧ c) ∧ p = true ∧ q = false ∧ r = true) ∨ ((a ∧ b ∧ c) ∧ p = true ∧ q = true ∧ r = false) ∨ ((a ∧ b ∧ c) ∧ p = true ∧ q = true ∧ r = true) := by
 by_cases h : a <;> by_cases k : b <;> by_cases l : c <;> cases p <;> cases q <;> cases r <;> simp [h, k, l]
theorem good_DiscOrder : Good Tryz.prog (GWL [0, 1, 2, 3, 4, 7]) N0 6 s_DiscOrder := by
 refine goodM 0 (gc good_known10 <| gl good_fewD10 rfl <| gl good_jIn rfl <| gl good_jApart rfl <| gl good_jGrow rfl <| gl good_jHas rfl gn) Tryz.f6 (by kernel_rfl) (by kernel_rfl) fun ds hp F A Q hF hA hQ => ?_
 obtain ⟨x, y, z, n, rfl, hx, hy, hz, hn1, hn2⟩ := DiscOrder_arg hp
 have hx_ := hx
 have hy_ := hy
 have hz_ := hz
 obtain ⟨s1, n1, c1, e1, s2, n2, c2, e2, s3, n3, c3, e3, rfl, ⟨g1, h1⟩, ⟨g2, h2⟩, g3, h3⟩ := okXD_arg hx
 obtain ⟨t1, m1, d1, f1, t2, m2, d2, f2, t3, m3, d3, f3, rfl, ⟨p1, q1⟩, ⟨p2, q2⟩, p3, q3⟩ := okXD_arg hy
 obtain ⟨r1, k1, b1, i1, r2, k2, b2, i2, r3, k3, b3, i3, rfl, ⟨u1, w1⟩, ⟨u2, w2⟩, u3, w3⟩ := okXD_arg hz
 clear hp
 rcases ord10 (a := fewDQ n1 e1 n2 e2 n3 e3) (b := fewDQ m1 f1 m2 f2 m3 f3) (c := fewDQ k1 i1 k2 i2 k3 i3) (din (((vI s1 c1, e1), (vI s2 c2, e2)), (vI s3 c3, e3)) (((vI t1 d1, f1), (vI t2 d2, f2)), (vI t3 d3, f3))) (din (((vI t1 d1, f1), (vI t2 d2, f2)), (vI t3 d3, f3)) (((vI r1 b1, i1), (vI r2 b2, i2)), (vI r3 b3, i3))) (dapart (((vI t1 d1, f1), (vI t2 d2, f2)), (vI t3 d3, f3)) (((vI r1 b1, i1), (vI r2 b2, i2)), (vI r3 b3, i3))) with kx | ⟨kx, ky⟩ | ⟨kx, ky, kz⟩ | ⟨kk, kp⟩ | ⟨kk, kp⟩ | ⟨kk, kp⟩ | ⟨kk, kp⟩ | ⟨kk, kp⟩
 ·have hfx : decide (fewDQ n1 e1 n2 e2 n3 e3) = false := decide_eq_false kx
  cbv
  repeat' (first | with_reducible refine And.intro ?_ ?_ | (with_reducible refine safe_lift hA ?_; kernel_rfl) | (intro hc_; (first | (with_reducible exfalso; clear hQ; subst hF hA; simp only [fnOf, find, std, reduceIte, Nat.reduceEqDiff, sp1, sp2, a1, a2, FnSpec.out, Shape.build, leafs, leafCells, tups, oneOf, List.cons_append, List.nil_append, List.length_cons, List.length_nil, s_DiscOrder, s_known10, s_fewD10, s_jIn, s_jApart, s_jGrow, s_jHas, rv_raw, rv_N0, dv, dz, dx, dcn, dm_raw, dm_N0, vI_N0, raw6_is, rw9_is, Prod.eta, rv9_raw, re2, re4, re6, Bool.not_eq_eq_eq_not, decide_eq_true_eq, decide_eq_false_iff_not, not_true_eq_false, not_false_eq_true, decide_true, decide_false, Bool.true_and, Bool.and_true, Bool.not_true, Bool.not_false, beq_self_eq_true, Bool.true_eq_false, Bool.false_eq_true, reduceCtorEq, gt_iff_lt, ge_iff_le, true_and, and_true, and_self, Bool.false_eq, Bool.and_self, eq_self, Int.reduceLE, Int.reduceNeg, Int.reduceLT, Int.reduceBEq, hfx] at hc_; done) | (clear hc_; cbv))))
  all_goals subst hF hA
  all_goals (try simp only [fnOf, find, std, reduceIte, Nat.reduceEqDiff, sp1, sp2, a1, a2, FnSpec.out, Shape.build, leafs, leafCells, tups, oneOf, List.cons_append, List.nil_append, List.length_cons, List.length_nil, s_DiscOrder, s_known10, s_fewD10, s_jIn, s_jApart, s_jGrow, s_jHas, rv_raw, rv_N0, dv, dz, dx, dcn, dm_raw, dm_N0, vI_N0, raw6_is, rw9_is, Prod.eta, rv9_raw, re2, re4, re6, Bool.not_eq_eq_eq_not, decide_eq_true_eq, decide_eq_false_iff_not, not_true_eq_false, not_false_eq_true, decide_true, decide_false, Bool.true_and, Bool.and_true, Bool.not_true, Bool.not_false, beq_self_eq_true, Bool.true_eq_false, Bool.false_eq_true, reduceCtorEq, gt_iff_lt, ge_iff_le, true_and, and_true, and_self, Bool.false_eq, Bool.and_self, eq_self, Int.reduceLE, Int.reduceNeg, Int.reduceLT, Int.reduceBEq, hfx] at hQ ⊢)
  all_goals (repeat' (first
   | with_reducible exact hQ
   | with_reducible assumption
   | with_reducible exact isi_int _ _
   | with_reducible exact True.intro
   | omega
   | with_reducible refine And.intro ?_ ?_))
 ·have hfx : decide (fewDQ n1 e1 n2 e2 n3 e3) = true := decide_eq_true kx
  have hfy : decide (fewDQ m1 f1 m2 f2 m3 f3) = false := decide_eq_false ky
  cbv
  repeat' (first | with_reducible refine And.intro ?_ ?_ | (with_reducible refine safe_lift hA ?_; kernel_rfl) | (intro hc_; (first | (with_reducible exfalso; clear hQ; subst hF hA; simp only [fnOf, find, std, reduceIte, Nat.reduceEqDiff, sp1, sp2, a1, a2, FnSpec.out, Shape.build, leafs, leafCells, tups, oneOf, List.cons_append, List.nil_append, List.length_cons, List.length_nil, s_DiscOrder, s_known10, s_fewD10, s_jIn, s_jApart, s_jGrow, s_jHas, rv_raw, rv_N0, dv, dz, dx, dcn, dm_raw, dm_N0, vI_N0, raw6_is, rw9_is, Prod.eta, rv9_raw, re2, re4, re6, Bool.not_eq_eq_eq_not, decide_eq_true_eq, decide_eq_false_iff_not, not_true_eq_false, not_false_eq_true, decide_true, decide_false, Bool.true_and, Bool.and_true, Bool.not_true, Bool.not_false, beq_self_eq_true, Bool.true_eq_false, Bool.false_eq_true, reduceCtorEq, gt_iff_lt, ge_iff_le, true_and, and_true, and_self, Bool.false_eq, Bool.and_self, eq_self, Int.reduceLE, Int.reduceNeg, Int.reduceLT, Int.reduceBEq, hfx, hfy] at hc_; done) | (clear hc_; cbv))))
  all_goals subst hF hA
  all_goals (try simp only [fnOf, find, std, reduceIte, Nat.reduceEqDiff, sp1, sp2, a1, a2, FnSpec.out, Shape.build, leafs, leafCells, tups, oneOf, List.cons_append, List.nil_append, List.length_cons, List.length_nil, s_DiscOrder, s_known10, s_fewD10, s_jIn, s_jApart, s_jGrow, s_jHas, rv_raw, rv_N0, dv, dz, dx, dcn, dm_raw, dm_N0, vI_N0, raw6_is, rw9_is, Prod.eta, rv9_raw, re2, re4, re6, Bool.not_eq_eq_eq_not, decide_eq_true_eq, decide_eq_false_iff_not, not_true_eq_false, not_false_eq_true, decide_true, decide_false, Bool.true_and, Bool.and_true, Bool.not_true, Bool.not_false, beq_self_eq_true, Bool.true_eq_false, Bool.false_eq_true, reduceCtorEq, gt_iff_lt, ge_iff_le, true_and, and_true, and_self, Bool.false_eq, Bool.and_self, eq_self, Int.reduceLE, Int.reduceNeg, Int.reduceLT, Int.reduceBEq, hfx, hfy] at hQ ⊢)
  all_goals (repeat' (first
   | with_reducible exact hQ
   | with_reducible assumption
   | with_reducible exact isi_int _ _
   | with_reducible exact True.intro
   | omega
   | with_reducible refine And.intro ?_ ?_))
 ·have hfx : decide (fewDQ n1 e1 n2 e2 n3 e3) = true := decide_eq_true kx
  have hfy : decide (fewDQ m1 f1 m2 f2 m3 f3) = true := decide_eq_true ky
  have hfz : decide (fewDQ k1 i1 k2 i2 k3 i3) = false := decide_eq_false kz
  cbv
  repeat' (first | with_reducible refine And.intro ?_ ?_ | (with_reducible refine safe_lift hA ?_; kernel_rfl) | (intro hc_; (first | (with_reducible exfalso; clear hQ; subst hF hA; simp only [fnOf, find, std, reduceIte, Nat.reduceEqDiff, sp1, sp2, a1, a2, FnSpec.out, Shape.build, leafs, leafCells, tups, oneOf, List.cons_append, List.nil_append, List.length_cons, List.length_nil, s_DiscOrder, s_known10, s_fewD10, s_jIn, s_jApart, s_jGrow, s_jHas, rv_raw, rv_N0, dv, dz, dx, dcn, dm_raw, dm_N0, vI_N0, raw6_is, rw9_is, Prod.eta, rv9_raw, re2, re4, re6, Bool.not_eq_eq_eq_not, decide_eq_true_eq, decide_eq_false_iff_not, not_true_eq_false, not_false_eq_true, decide_true, decide_false, Bool.true_and, Bool.and_true, Bool.not_true, Bool.not_false, beq_self_eq_true, Bool.true_eq_false, Bool.false_eq_true, reduceCtorEq, gt_iff_lt, ge_iff_le, true_and, and_true, and_self, Bool.false_eq, Bool.and_self, eq_self, Int.reduceLE, Int.reduceNeg, Int.reduceLT, Int.reduceBEq, hfx, hfy, hfz] at hc_; done) | (clear hc_; cbv))))
  all_goals subst hF hA
  all_goals (try simp only [fnOf, find, std, reduceIte, Nat.reduceEqDiff, sp1, sp2, a1, a2, FnSpec.out, Shape.build, leafs, leafCells, tups, oneOf, List.cons_append, List.nil_append, List.length_cons, List.length_nil, s_DiscOrder, s_known10, s_fewD10, s_jIn, s_jApart, s_jGrow, s_jHas, rv_raw, rv_N0, dv, dz, dx, dcn, dm_raw, dm_N0, vI_N0, raw6_is, rw9_is, Prod.eta, rv9_raw, re2, re4, re6, Bool.not_eq_eq_eq_not, decide_eq_true_eq, decide_eq_false_iff_not, not_true_eq_false, not_false_eq_true, decide_true, decide_false, Bool.true_and, Bool.and_true, Bool.not_true, Bool.not_false, beq_self_eq_true, Bool.true_eq_false, Bool.false_eq_true, reduceCtorEq, gt_iff_lt, ge_iff_le, true_and, and_true, and_self, Bool.false_eq, Bool.and_self, eq_self, Int.reduceLE, Int.reduceNeg, Int.reduceLT, Int.reduceBEq, hfx, hfy, hfz] at hQ ⊢)
  all_goals (repeat' (first
   | with_reducible exact hQ
   | with_reducible assumption
   | with_reducible exact isi_int _ _
   | with_reducible exact True.intro
   | omega
   | with_reducible refine And.intro ?_ ?_))
 ·have hfx : decide (fewDQ n1 e1 n2 e2 n3 e3) = true := decide_eq_true kk.1
  have hfy : decide (fewDQ m1 f1 m2 f2 m3 f3) = true := decide_eq_true kk.2.1
  have hfz : decide (fewDQ k1 i1 k2 i2 k3 i3) = true := decide_eq_true kk.2.2
  have aX := okF_A (okF_few (s1 := s1) (s2 := s2) (s3 := s3) g1 g2 g3 kk.1)
  have qX := okF_qd (okF_few (s1 := s1) (s2 := s2) (s3 := s3) g1 g2 g3 kk.1)
  have aY := okF_A (okF_few (s1 := t1) (s2 := t2) (s3 := t3) p1 p2 p3 kk.2.1)
  have aZ := okF_A (okF_few (s1 := r1) (s2 := r2) (s3 := r3) u1 u2 u3 kk.2.2)
  have gX := okG_mk (s := s1) (t := s2) (okSM_few g1 kk.1.1.1).1 (okSM_few g2 kk.1.1.2).1
  rw [rv9_raw] at qX
  have wn : IntKind.i64.wrap n = n := wrap_in (by omega) (by omega)
  have wn1 : IntKind.i64.wrap (n + 1) = n + 1 := wrap_in (by omega) (by omega)
  have hn_l : -9223372036854775808 ≤ n + 1 := by omega
  have hn_u : n + 1 ≤ 9223372036854775807 := by omega
  have aG := okA_grow qX hn1 hn2
  have v1_ := dapart_swap (((vI t1 d1, f1), (vI t2 d2, f2)), (vI t3 d3, f3)) (((vI s1 c1, e1), (vI s2 c2, e2)), (vI s3 c3, e3))
  have v2_ := din_self (((vI s1 c1, e1), (vI s2 c2, e2)), (vI s3 c3, e3))
  have v3_ := dapart_self (((vI s1 c1, e1), (vI s2 c2, e2)), (vI s3 c3, e3))
  have v4_ := din_grow (((vI s1 c1, e1), (vI s2 c2, e2)), (vI s3 c3, e3)) (n := n + 1) (by omega)
  have v5_ := dhas_self (((vI s1 c1, e1), (vI s2 c2, e2)), (vI s3 c3, e3))
  have hp_ := kp
  cbv
  repeat' (first | with_reducible refine And.intro ?_ ?_ | (with_reducible refine safe_lift hA ?_; kernel_rfl) | (intro hc_; (first | (with_reducible exfalso; clear hQ; subst hF hA; simp only [fnOf, find, std, reduceIte, Nat.reduceEqDiff, sp1, sp2, a1, a2, FnSpec.out, Shape.build, leafs, leafCells, tups, oneOf, List.cons_append, List.nil_append, List.length_cons, List.length_nil, s_DiscOrder, s_known10, s_fewD10, s_jIn, s_jApart, s_jGrow, s_jHas, rv_raw, rv_N0, dv, dz, dx, dcn, dm_raw, dm_N0, vI_N0, raw6_is, rw9_is, Prod.eta, rv9_raw, re2, re4, re6, Bool.not_eq_eq_eq_not, decide_eq_true_eq, decide_eq_false_iff_not, not_true_eq_false, not_false_eq_true, decide_true, decide_false, Bool.true_and, Bool.and_true, Bool.not_true, Bool.not_false, beq_self_eq_true, Bool.true_eq_false, Bool.false_eq_true, reduceCtorEq, gt_iff_lt, ge_iff_le, true_and, and_true, and_self, Bool.false_eq, Bool.and_self, eq_self, Int.reduceLE, Int.reduceNeg, Int.reduceLT, Int.reduceBEq, hfx, hfy, hfz, wn, wn1, v1_, v2_, v3_, v4_, v5_, hp_] at hc_; done) | (clear hc_; cbv))))
  all_goals subst hF hA
  all_goals (try simp only [fnOf, find, std, reduceIte, Nat.reduceEqDiff, sp1, sp2, a1, a2, FnSpec.out, Shape.build, leafs, leafCells, tups, oneOf, List.cons_append, List.nil_append, List.length_cons, List.length_nil, s_DiscOrder, s_known10, s_fewD10, s_jIn, s_jApart, s_jGrow, s_jHas, rv_raw, rv_N0, dv, dz, dx, dcn, dm_raw, dm_N0, vI_N0, raw6_is, rw9_is, Prod.eta, rv9_raw, re2, re4, re6, Bool.not_eq_eq_eq_not, decide_eq_true_eq, decide_eq_false_iff_not, not_true_eq_false, not_false_eq_true, decide_true, decide_false, Bool.true_and, Bool.and_true, Bool.not_true, Bool.not_false, beq_self_eq_true, Bool.true_eq_false, Bool.false_eq_true, reduceCtorEq, gt_iff_lt, ge_iff_le, true_and, and_true, and_self, Bool.false_eq, Bool.and_self, eq_self, Int.reduceLE, Int.reduceNeg, Int.reduceLT, Int.reduceBEq, hfx, hfy, hfz, wn, wn1, v1_, v2_, v3_, v4_, v5_, hp_] at hQ ⊢)
  all_goals (repeat' (first
   | with_reducible exact hQ
   | with_reducible assumption
   | with_reducible exact isi_int _ _
   | with_reducible exact True.intro
   | omega
   | with_reducible refine And.intro ?_ ?_))
 ·have hfx : decide (fewDQ n1 e1 n2 e2 n3 e3) = true := decide_eq_true kk.1
  have hfy : decide (fewDQ m1 f1 m2 f2 m3 f3) = true := decide_eq_true kk.2.1
  have hfz : decide (fewDQ k1 i1 k2 i2 k3 i3) = true := decide_eq_true kk.2.2
  have aX := okF_A (okF_few (s1 := s1) (s2 := s2) (s3 := s3) g1 g2 g3 kk.1)
  have qX := okF_qd (okF_few (s1 := s1) (s2 := s2) (s3 := s3) g1 g2 g3 kk.1)
  have aY := okF_A (okF_few (s1 := t1) (s2 := t2) (s3 := t3) p1 p2 p3 kk.2.1)
  have aZ := okF_A (okF_few (s1 := r1) (s2 := r2) (s3 := r3) u1 u2 u3 kk.2.2)
  have gX := okG_mk (s := s1) (t := s2) (okSM_few g1 kk.1.1.1).1 (okSM_few g2 kk.1.1.2).1
  rw [rv9_raw] at qX
  have wn : IntKind.i64.wrap n = n := wrap_in (by omega) (by omega)
  have wn1 : IntKind.i64.wrap (n + 1) = n + 1 := wrap_in (by omega) (by omega)
  have hn_l : -9223372036854775808 ≤ n + 1 := by omega
  have hn_u : n + 1 ≤ 9223372036854775807 := by omega
  have aG := okA_grow qX hn1 hn2
  have v1_ := dapart_swap (((vI t1 d1, f1), (vI t2 d2, f2)), (vI t3 d3, f3)) (((vI s1 c1, e1), (vI s2 c2, e2)), (vI s3 c3, e3))
  have v2_ := din_self (((vI s1 c1, e1), (vI s2 c2, e2)), (vI s3 c3, e3))
  have v3_ := dapart_self (((vI s1 c1, e1), (vI s2 c2, e2)), (vI s3 c3, e3))
  have v4_ := din_grow (((vI s1 c1, e1), (vI s2 c2, e2)), (vI s3 c3, e3)) (n := n + 1) (by omega)
  have v5_ := dhas_self (((vI s1 c1, e1), (vI s2 c2, e2)), (vI s3 c3, e3))
  have hp_ := kp.1
  have hq_ := kp.2.1
  have hr_ := kp.2.2
  have v6_ := dapart_of_in hp_
  cbv
  repeat' (first | with_reducible refine And.intro ?_ ?_ | (with_reducible refine safe_lift hA ?_; kernel_rfl) | (intro hc_; (first | (with_reducible exfalso; clear hQ; subst hF hA; simp only [fnOf, find, std, reduceIte, Nat.reduceEqDiff, sp1, sp2, a1, a2, FnSpec.out, Shape.build, leafs, leafCells, tups, oneOf, List.cons_append, List.nil_append, List.length_cons, List.length_nil, s_DiscOrder, s_known10, s_fewD10, s_jIn, s_jApart, s_jGrow, s_jHas, rv_raw, rv_N0, dv, dz, dx, dcn, dm_raw, dm_N0, vI_N0, raw6_is, rw9_is, Prod.eta, rv9_raw, re2, re4, re6, Bool.not_eq_eq_eq_not, decide_eq_true_eq, decide_eq_false_iff_not, not_true_eq_false, not_false_eq_true, decide_true, decide_false, Bool.true_and, Bool.and_true, Bool.not_true, Bool.not_false, beq_self_eq_true, Bool.true_eq_false, Bool.false_eq_true, reduceCtorEq, gt_iff_lt, ge_iff_le, true_and, and_true, and_self, Bool.false_eq, Bool.and_self, eq_self, Int.reduceLE, Int.reduceNeg, Int.reduceLT, Int.reduceBEq, hfx, hfy, hfz, wn, wn1, v1_, v2_, v3_, v4_, v5_, hp_, hq_, hr_, v6_] at hc_; done) | (clear hc_; cbv))))
  all_goals subst hF hA
  all_goals (try simp only [fnOf, find, std, reduceIte, Nat.reduceEqDiff, sp1, sp2, a1, a2, FnSpec.out, Shape.build, leafs, leafCells, tups, oneOf, List.cons_append, List.nil_append, List.length_cons, List.length_nil, s_DiscOrder, s_known10, s_fewD10, s_jIn, s_jApart, s_jGrow, s_jHas, rv_raw, rv_N0, dv, dz, dx, dcn, dm_raw, dm_N0, vI_N0, raw6_is, rw9_is, Prod.eta, rv9_raw, re2, re4, re6, Bool.not_eq_eq_eq_not, decide_eq_true_eq, decide_eq_false_iff_not, not_true_eq_false, not_false_eq_true, decide_true, decide_false, Bool.true_and, Bool.and_true, Bool.not_true, Bool.not_false, beq_self_eq_true, Bool.true_eq_false, Bool.false_eq_true, reduceCtorEq, gt_iff_lt, ge_iff_le, true_and, and_true, and_self, Bool.false_eq, Bool.and_self, eq_self, Int.reduceLE, Int.reduceNeg, Int.reduceLT, Int.reduceBEq, hfx, hfy, hfz, wn, wn1, v1_, v2_, v3_, v4_, v5_, hp_, hq_, hr_, v6_] at hQ ⊢)
  all_goals (repeat' (first
   | with_reducible exact hQ
   | with_reducible assumption
   | with_reducible exact isi_int _ _
   | with_reducible exact True.intro
   | omega
   | with_reducible refine And.intro ?_ ?_))
 ·have hfx : decide (fewDQ n1 e1 n2 e2 n3 e3) = true := decide_eq_true kk.1
  have hfy : decide (fewDQ m1 f1 m2 f2 m3 f3) = true := decide_eq_true kk.2.1
  have hfz : decide (fewDQ k1 i1 k2 i2 k3 i3) = true := decide_eq_true kk.2.2
  have aX := okF_A (okF_few (s1 := s1) (s2 := s2) (s3 := s3) g1 g2 g3 kk.1)
  have qX := okF_qd (okF_few (s1 := s1) (s2 := s2) (s3 := s3) g1 g2 g3 kk.1)
  have aY := okF_A (okF_few (s1 := t1) (s2 := t2) (s3 := t3) p1 p2 p3 kk.2.1)
  have aZ := okF_A (okF_few (s1 := r1) (s2 := r2) (s3 := r3) u1 u2 u3 kk.2.2)
  have gX := okG_mk (s := s1) (t := s2) (okSM_few g1 kk.1.1.1).1 (okSM_few g2 kk.1.1.2).1
  rw [rv9_raw] at qX
  have wn : IntKind.i64.wrap n = n := wrap_in (by omega) (by omega)
  have wn1 : IntKind.i64.wrap (n + 1) = n + 1 := wrap_in (by omega) (by omega)
  have hn_l : -9223372036854775808 ≤ n + 1 := by omega
  have hn_u : n + 1 ≤ 9223372036854775807 := by omega
  have aG := okA_grow qX hn1 hn2
  have v1_ := dapart_swap (((vI t1 d1, f1), (vI t2 d2, f2)), (vI t3 d3, f3)) (((vI s1 c1, e1), (vI s2 c2, e2)), (vI s3 c3, e3))
  have v2_ := din_self (((vI s1 c1, e1), (vI s2 c2, e2)), (vI s3 c3, e3))
  have v3_ := dapart_self (((vI s1 c1, e1), (vI s2 c2, e2)), (vI s3 c3, e3))
  have v4_ := din_grow (((vI s1 c1, e1), (vI s2 c2, e2)), (vI s3 c3, e3)) (n := n + 1) (by omega)
  have v5_ := dhas_self (((vI s1 c1, e1), (vI s2 c2, e2)), (vI s3 c3, e3))
  have hp_ := kp.1
  have hq_ := kp.2.1
  have hr_ := kp.2.2
  have v6_ := dapart_of_in hp_
  have v8_ := dapart_in hp_ hr_
  cbv
  repeat' (first | with_reducible refine And.intro ?_ ?_ | (with_reducible refine safe_lift hA ?_; kernel_rfl) | (intro hc_; (first | (with_reducible exfalso; clear hQ; subst hF hA; simp only [fnOf, find, std, reduceIte, Nat.reduceEqDiff, sp1, sp2, a1, a2, FnSpec.out, Shape.build, leafs, leafCells, tups, oneOf, List.cons_append, List.nil_append, List.length_cons, List.length_nil, s_DiscOrder, s_known10, s_fewD10, s_jIn, s_jApart, s_jGrow, s_jHas, rv_raw, rv_N0, dv, dz, dx, dcn, dm_raw, dm_N0, vI_N0, raw6_is, rw9_is, Prod.eta, rv9_raw, re2, re4, re6, Bool.not_eq_eq_eq_not, decide_eq_true_eq, decide_eq_false_iff_not, not_true_eq_false, not_false_eq_true, decide_true, decide_false, Bool.true_and, Bool.and_true, Bool.not_true, Bool.not_false, beq_self_eq_true, Bool.true_eq_false, Bool.false_eq_true, reduceCtorEq, gt_iff_lt, ge_iff_le, true_and, and_true, and_self, Bool.false_eq, Bool.and_self, eq_self, Int.reduceLE, Int.reduceNeg, Int.reduceLT, Int.reduceBEq, hfx, hfy, hfz, wn, wn1, v1_, v2_, v3_, v4_, v5_, hp_, hq_, hr_, v6_, v8_] at hc_; done) | (clear hc_; cbv))))
  all_goals subst hF hA
  all_goals (try simp only [fnOf, find, std, reduceIte, Nat.reduceEqDiff, sp1, sp2, a1, a2, FnSpec.out, Shape.build, leafs, leafCells, tups, oneOf, List.cons_append, List.nil_append, List.length_cons, List.length_nil, s_DiscOrder, s_known10, s_fewD10, s_jIn, s_jApart, s_jGrow, s_jHas, rv_raw, rv_N0, dv, dz, dx, dcn, dm_raw, dm_N0, vI_N0, raw6_is, rw9_is, Prod.eta, rv9_raw, re2, re4, re6, Bool.not_eq_eq_eq_not, decide_eq_true_eq, decide_eq_false_iff_not, not_true_eq_false, not_false_eq_true, decide_true, decide_false, Bool.true_and, Bool.and_true, Bool.not_true, Bool.not_false, beq_self_eq_true, Bool.true_eq_false, Bool.false_eq_true, reduceCtorEq, gt_iff_lt, ge_iff_le, true_and, and_true, and_self, Bool.false_eq, Bool.and_self, eq_self, Int.reduceLE, Int.reduceNeg, Int.reduceLT, Int.reduceBEq, hfx, hfy, hfz, wn, wn1, v1_, v2_, v3_, v4_, v5_, hp_, hq_, hr_, v6_, v8_] at hQ ⊢)
  all_goals (repeat' (first
   | with_reducible exact hQ
   | with_reducible assumption
   | with_reducible exact isi_int _ _
   | with_reducible exact True.intro
   | omega
   | with_reducible refine And.intro ?_ ?_))
 ·have hfx : decide (fewDQ n1 e1 n2 e2 n3 e3) = true := decide_eq_true kk.1
  have hfy : decide (fewDQ m1 f1 m2 f2 m3 f3) = true := decide_eq_true kk.2.1
  have hfz : decide (fewDQ k1 i1 k2 i2 k3 i3) = true := decide_eq_true kk.2.2
  have aX := okF_A (okF_few (s1 := s1) (s2 := s2) (s3 := s3) g1 g2 g3 kk.1)
  have qX := okF_qd (okF_few (s1 := s1) (s2 := s2) (s3 := s3) g1 g2 g3 kk.1)
  have aY := okF_A (okF_few (s1 := t1) (s2 := t2) (s3 := t3) p1 p2 p3 kk.2.1)
  have aZ := okF_A (okF_few (s1 := r1) (s2 := r2) (s3 := r3) u1 u2 u3 kk.2.2)
  have gX := okG_mk (s := s1) (t := s2) (okSM_few g1 kk.1.1.1).1 (okSM_few g2 kk.1.1.2).1
  rw [rv9_raw] at qX
  have wn : IntKind.i64.wrap n = n := wrap_in (by omega) (by omega)
  have wn1 : IntKind.i64.wrap (n + 1) = n + 1 := wrap_in (by omega) (by omega)
  have hn_l : -9223372036854775808 ≤ n + 1 := by omega
  have hn_u : n + 1 ≤ 9223372036854775807 := by omega
  have aG := okA_grow qX hn1 hn2
  have v1_ := dapart_swap (((vI t1 d1, f1), (vI t2 d2, f2)), (vI t3 d3, f3)) (((vI s1 c1, e1), (vI s2 c2, e2)), (vI s3 c3, e3))
  have v2_ := din_self (((vI s1 c1, e1), (vI s2 c2, e2)), (vI s3 c3, e3))
  have v3_ := dapart_self (((vI s1 c1, e1), (vI s2 c2, e2)), (vI s3 c3, e3))
  have v4_ := din_grow (((vI s1 c1, e1), (vI s2 c2, e2)), (vI s3 c3, e3)) (n := n + 1) (by omega)
  have v5_ := dhas_self (((vI s1 c1, e1), (vI s2 c2, e2)), (vI s3 c3, e3))
  have hp_ := kp.1
  have hq_ := kp.2.1
  have hr_ := kp.2.2
  have v6_ := dapart_of_in hp_
  have v7_ := din_trans hp_ hq_
  cbv
  repeat' (first | with_reducible refine And.intro ?_ ?_ | (with_reducible refine safe_lift hA ?_; kernel_rfl) | (intro hc_; (first | (with_reducible exfalso; clear hQ; subst hF hA; simp only [fnOf, find, std, reduceIte, Nat.reduceEqDiff, sp1, sp2, a1, a2, FnSpec.out, Shape.build, leafs, leafCells, tups, oneOf, List.cons_append, List.nil_append, List.length_cons, List.length_nil, s_DiscOrder, s_known10, s_fewD10, s_jIn, s_jApart, s_jGrow, s_jHas, rv_raw, rv_N0, dv, dz, dx, dcn, dm_raw, dm_N0, vI_N0, raw6_is, rw9_is, Prod.eta, rv9_raw, re2, re4, re6, Bool.not_eq_eq_eq_not, decide_eq_true_eq, decide_eq_false_iff_not, not_true_eq_false, not_false_eq_true, decide_true, decide_false, Bool.true_and, Bool.and_true, Bool.not_true, Bool.not_false, beq_self_eq_true, Bool.true_eq_false, Bool.false_eq_true, reduceCtorEq, gt_iff_lt, ge_iff_le, true_and, and_true, and_self, Bool.false_eq, Bool.and_self, eq_self, Int.reduceLE, Int.reduceNeg, Int.reduceLT, Int.reduceBEq, hfx, hfy, hfz, wn, wn1, v1_, v2_, v3_, v4_, v5_, hp_, hq_, hr_, v6_, v7_] at hc_; done) | (clear hc_; cbv))))
  all_goals subst hF hA
  all_goals (try simp only [fnOf, find, std, reduceIte, Nat.reduceEqDiff, sp1, sp2, a1, a2, FnSpec.out, Shape.build, leafs, leafCells, tups, oneOf, List.cons_append, List.nil_append, List.length_cons, List.length_nil, s_DiscOrder, s_known10, s_fewD10, s_jIn, s_jApart, s_jGrow, s_jHas, rv_raw, rv_N0, dv, dz, dx, dcn, dm_raw, dm_N0, vI_N0, raw6_is, rw9_is, Prod.eta, rv9_raw, re2, re4, re6, Bool.not_eq_eq_eq_not, decide_eq_true_eq, decide_eq_false_iff_not, not_true_eq_false, not_false_eq_true, decide_true, decide_false, Bool.true_and, Bool.and_true, Bool.not_true, Bool.not_false, beq_self_eq_true, Bool.true_eq_false, Bool.false_eq_true, reduceCtorEq, gt_iff_lt, ge_iff_le, true_and, and_true, and_self, Bool.false_eq, Bool.and_self, eq_self, Int.reduceLE, Int.reduceNeg, Int.reduceLT, Int.reduceBEq, hfx, hfy, hfz, wn, wn1, v1_, v2_, v3_, v4_, v5_, hp_, hq_, hr_, v6_, v7_] at hQ ⊢)
  all_goals (repeat' (first
   | with_reducible exact hQ
   | with_reducible assumption
   | with_reducible exact isi_int _ _
   | with_reducible exact True.intro
   | omega
   | with_reducible refine And.intro ?_ ?_))
 ·have hfx : decide (fewDQ n1 e1 n2 e2 n3 e3) = true := decide_eq_true kk.1
  have hfy : decide (fewDQ m1 f1 m2 f2 m3 f3) = true := decide_eq_true kk.2.1
  have hfz : decide (fewDQ k1 i1 k2 i2 k3 i3) = true := decide_eq_true kk.2.2
  have aX := okF_A (okF_few (s1 := s1) (s2 := s2) (s3 := s3) g1 g2 g3 kk.1)
  have qX := okF_qd (okF_few (s1 := s1) (s2 := s2) (s3 := s3) g1 g2 g3 kk.1)
  have aY := okF_A (okF_few (s1 := t1) (s2 := t2) (s3 := t3) p1 p2 p3 kk.2.1)
  have aZ := okF_A (okF_few (s1 := r1) (s2 := r2) (s3 := r3) u1 u2 u3 kk.2.2)
  have gX := okG_mk (s := s1) (t := s2) (okSM_few g1 kk.1.1.1).1 (okSM_few g2 kk.1.1.2).1
  rw [rv9_raw] at qX
  have wn : IntKind.i64.wrap n = n := wrap_in (by omega) (by omega)
  have wn1 : IntKind.i64.wrap (n + 1) = n + 1 := wrap_in (by omega) (by omega)
  have hn_l : -9223372036854775808 ≤ n + 1 := by omega
  have hn_u : n + 1 ≤ 9223372036854775807 := by omega
  have aG := okA_grow qX hn1 hn2
  have v1_ := dapart_swap (((vI t1 d1, f1), (vI t2 d2, f2)), (vI t3 d3, f3)) (((vI s1 c1, e1), (vI s2 c2, e2)), (vI s3 c3, e3))
  have v2_ := din_self (((vI s1 c1, e1), (vI s2 c2, e2)), (vI s3 c3, e3))
  have v3_ := dapart_self (((vI s1 c1, e1), (vI s2 c2, e2)), (vI s3 c3, e3))
  have v4_ := din_grow (((vI s1 c1, e1), (vI s2 c2, e2)), (vI s3 c3, e3)) (n := n + 1) (by omega)
  have v5_ := dhas_self (((vI s1 c1, e1), (vI s2 c2, e2)), (vI s3 c3, e3))
  have hp_ := kp.1
  have hq_ := kp.2.1
  have hr_ := kp.2.2
  have v6_ := dapart_of_in hp_
  have v7_ := din_trans hp_ hq_
  have v8_ := dapart_in hp_ hr_
  cbv
  repeat' (first | with_reducible refine And.intro ?_ ?_ | (with_reducible refine safe_lift hA ?_; kernel_rfl) | (intro hc_; (first | (with_reducible exfalso; clear hQ; subst hF hA; simp only [fnOf, find, std, reduceIte, Nat.reduceEqDiff, sp1, sp2, a1, a2, FnSpec.out, Shape.build, leafs, leafCells, tups, oneOf, List.cons_append, List.nil_append, List.length_cons, List.length_nil, s_DiscOrder, s_known10, s_fewD10, s_jIn, s_jApart, s_jGrow, s_jHas, rv_raw, rv_N0, dv, dz, dx, dcn, dm_raw, dm_N0, vI_N0, raw6_is, rw9_is, Prod.eta, rv9_raw, re2, re4, re6, Bool.not_eq_eq_eq_not, decide_eq_true_eq, decide_eq_false_iff_not, not_true_eq_false, not_false_eq_true, decide_true, decide_false, Bool.true_and, Bool.and_true, Bool.not_true, Bool.not_false, beq_self_eq_true, Bool.true_eq_false, Bool.false_eq_true, reduceCtorEq, gt_iff_lt, ge_iff_le, true_and, and_true, and_self, Bool.false_eq, Bool.and_self, eq_self, Int.reduceLE, Int.reduceNeg, Int.reduceLT, Int.reduceBEq, hfx, hfy, hfz, wn, wn1, v1_, v2_, v3_, v4_, v5_, hp_, hq_, hr_, v6_, v7_, v8_] at hc_; done) | (clear hc_; cbv))))
  all_goals subst hF hA
  all_goals (try simp only [fnOf, find, std, reduceIte, Nat.reduceEqDiff, sp1, sp2, a1, a2, FnSpec.out, Shape.build, leafs, leafCells, tups, oneOf, List.cons_append, List.nil_append, List.length_cons, List.length_nil, s_DiscOrder, s_known10, s_fewD10, s_jIn, s_jApart, s_jGrow, s_jHas, rv_raw, rv_N0, dv, dz, dx, dcn, dm_raw, dm_N0, vI_N0, raw6_is, rw9_is, Prod.eta, rv9_raw, re2, re4, re6, Bool.not_eq_eq_eq_not, decide_eq_true_eq, decide_eq_false_iff_not, not_true_eq_false, not_false_eq_true, decide_true, decide_false, Bool.true_and, Bool.and_true, Bool.not_true, Bool.not_false, beq_self_eq_true, Bool.true_eq_false, Bool.false_eq_true, reduceCtorEq, gt_iff_lt, ge_iff_le, true_and, and_true, and_self, Bool.false_eq, Bool.and_self, eq_self, Int.reduceLE, Int.reduceNeg, Int.reduceLT, Int.reduceBEq, hfx, hfy, hfz, wn, wn1, v1_, v2_, v3_, v4_, v5_, hp_, hq_, hr_, v6_, v7_, v8_] at hQ ⊢)
  all_goals (repeat' (first
   | with_reducible exact hQ
   | with_reducible assumption
   | with_reducible exact isi_int _ _
   | with_reducible exact True.intro
   | omega
   | with_reducible refine And.intro ?_ ?_))
end Go.Proofs.YtnjjfakjnkhhjaaGreatDoor.Ev
