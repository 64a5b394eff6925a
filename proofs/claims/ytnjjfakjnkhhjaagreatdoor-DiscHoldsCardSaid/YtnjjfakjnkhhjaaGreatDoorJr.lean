import Derived.Test.YtnjjfakjnkhhjaaGreatDoorJl
set_option maxHeartbeats 16000000
set_option maxRecDepth 100000
set_option linter.all false
namespace Go.Proofs.YtnjjfakjnkhhjaaGreatDoor.Ev
open Go Go.RowKit
def s_DiscHolds : FnSpec := ⟨.one .b, fun ds => match ds with | [x, y, s, t, .int .u8 b, .int .u8 n] => okXD x ∧ okXD y ∧ okX s ∧ okX t ∧ (0 ≤ b ∧ b ≤ 255) ∧ 0 ≤ n ∧ n ≤ 255 | _ => False, fun _ _ => 0, fun _ _ => true, fun _ _ => 0, fun _ _ => []⟩
theorem DiscHolds_arg {ds : List D} (h : s_DiscHolds.p ds) : ∃ x y s t b n, ds = [x, y, s, t, .int .u8 b, .int .u8 n] ∧ okXD x ∧ okXD y ∧ okX s ∧ okX t ∧ (0 ≤ b ∧ b ≤ 255) ∧ 0 ≤ n ∧ n ≤ 255 := by
 unfold s_DiscHolds at h
 dsimp only at h
 split at h
 ·exact ⟨_, _, _, _, _, _, rfl, h⟩
 ·exact h.elim
theorem dat_dct {d : Dc} {c : Re} : dat (dct d) (ca c) ↔ dat d c := by
 unfold dat dct
 dsimp only
 rw [ca_n1, ca_n2, ca_n1, ca_n2, rad_rad]
theorem to_up (a : Dy) (p : Int) : qv a ≤ qv (a.to p 1) := (gm_sides a.1 a.2 (stepI a.1 a.2 p)).2
theorem dat_zmul {a b : Dc} {s t : Re} (ha : 0 ≤ a.2.1) (hb : 0 ≤ b.2.1) (h : dat a s) (k : dat b t) (p : Int) : dat (zmul a b p) (cmul s t) := by
 unfold zmul
 have ra : qv (rad a.2) = qv a.2 := rad_id (qv_nn.2 ha)
 have rb : qv (rad b.2) = qv b.2 := rad_id (qv_nn.2 hb)
 refine dat_mul h k (F := dsqrt (cnorm a.1) p 1) (G := dsqrt (cnorm b.1) p 1) far_ok far_ok ?_
 refine Rat.le_trans ?_ (to_up (zrad a b p) p)
 rw [qv_mrad, ra, rb]
 unfold zrad
 rw [qv_add, qv_add, qv_mul, qv_mul, qv_mul, Rat.mul_comm (qv a.2) (qv (dsqrt (cnorm b.1) p 1))]
 exact Rat.le_refl
theorem zrad_pos {a b : Dc} (ha : 0 ≤ a.2.1) (hb : 0 ≤ b.2.1) (p : Int) : 0 ≤ (zmul a b p).2.1 := qv_nn.1 (Rat.le_trans (qv_nn.2 (zrad_nn ha hb p)) (to_up (zrad a b p) p))
theorem zpw_pos {a : Dc} (ha : 0 ≤ a.2.1) (p : Int) : ∀ i, 0 ≤ (zpw a p i).2.1
 | 0 => (by decide : (0 : Int) ≤ 0)
 | i + 1 => zrad_pos (zpw_pos ha p i) ha p
theorem dat_zpw {a : Dc} {s : Re} (ha : 0 ≤ a.2.1) (h : dat a s) (p : Int) : ∀ i, dat (zpw a p i) (cpw s i)
 | 0 => dhas_iff.1 (show dhas (cone, (0, 0)) cone = true by decide +kernel)
 | i + 1 => dat_zmul (zpw_pos ha p i) ha (dat_zpw ha h p i) h p
theorem okA_pw {a : Dc} (h : qd a) {p : Int} (hp : p ≤ 200) {i : Nat} (hi : i ≤ 3) : okA (rel9 (zpw a p i)) := by
 obtain ⟨h1, h2, h3⟩ := zpw_sz h hp i (by omega)
 exact okA_z h1 (cz_mono h2 (show 1000 * i ≤ 3000 by omega) (show (1320 + 1) * i + 1 ≤ 3964 by omega)) (sz_mono h3 (show 1202 * i ≤ 3606 by omega) (show 1530 * i + 1 ≤ 4591 by omega)) (by omega) (by omega)
theorem okA_mul {a b : Dc} (h : qd a) (k : qd b) {p : Int} (hp : p ≤ 200) : okA (rel9 (zmul a b p)) := by
 have hz := sz_to (sz_zrad h.2.1 h.2.2 k.2.1 k.2.2 (by omega) (by omega) (by omega) (by omega) hp) (by omega) p 1
 exact okA_z (a := zmul a b p) ⟨⟨sub_n _ _, add_n _ _⟩, to_n _ _ _⟩ (cz_mul h.2.1 k.2.1) hz (by omega) (by omega)
theorem okA_add {a b : Dc} (h : qd a) (k : qd b) : okA (rel9 (cadd a.1 b.1, a.2.add b.2)) := okA_z (a := (cadd a.1 b.1, a.2.add b.2)) ⟨⟨add_n _ _, add_n _ _⟩, add_n _ _⟩ (cz_add h.2.1 k.2.1) (sz_add h.2.2 k.2.2) (by omega) (by omega)
theorem okA_neg {a : Dc} (h : qd a) : okA (rel9 (cneg a.1, a.2)) := okA_z (a := (cneg a.1, a.2)) ⟨⟨neg_n _, neg_n _⟩, h.1.2⟩ (cz_neg h.2.1) h.2.2 (by omega) (by omega)
theorem okG_pw {x : Re} (h : cz x 1000 1320) {i : Nat} (hi : i ≤ 3) : okG (rl4 (cpw x i)) := okG_z (ccan_pw x i) (cz_mono (cz_pw h i) (show 1000 * i ≤ 3000 by omega) (show (1320 + 1) * i + 1 ≤ 3964 by omega)) (by omega)
theorem hol10 {a b c d : Prop} [Decidable a] [Decidable b] [Decidable c] [Decidable d] (p q r u : Bool) : ¬a ∨ (a ∧ ¬b) ∨ (a ∧ b ∧ ¬c) ∨ (a ∧ b ∧ c ∧ ¬d) ∨ ((a ∧ b ∧ c ∧ d) ∧ p = false) ∨ ((a ∧ b ∧ c ∧ d) ∧ p = true ∧ q = true ∧ u = false) ∨ ((a ∧ b ∧ c ∧ d) ∧ p = true ∧ q = true ∧ u = true) ∨ ((a ∧ b ∧ c ∧ d) ∧ p = true ∧ (q = false ∧ r = true) ∧ u = false) ∨ ((a ∧ b ∧ c ∧ d) ∧ p = true ∧ (q = false ∧ r = true) ∧ u = true) ∨ ((a ∧ b ∧ c ∧ d) ∧ p = true ∧ (q = false ∧ r = false) ∧ u = false) ∨ ((a ∧ b ∧ c ∧ d) ∧ p = true ∧ (q = false ∧ r = false) ∧ u = true) := by
 by_cases h : a <;> by_cases k : b <;> by_cases l : c <;> by_cases m : d <;> cases p <;> cases q <;> cases r <;> cases u <;> simp [h, k, l, m]
theorem good_DiscHolds : Good Tryz.prog (GWL [0, 1, 2, 3, 4, 7]) N0 5 s_DiscHolds := by
 refine goodM 0 (gc good_known10 <| gl good_fewD10 rfl <| gl good_fewC10 rfl <| gl good_jHas rfl <| gl good_vCplx rfl <| gl good_jIn rfl <| gl good_jApart rfl <| gc good_jPow <| gl good_vPow rfl <| gl good_jNeg rfl <| gl good_vNeg rfl <| gl good_jAdd rfl <| gl good_vAdd rfl <| gc good_jMul <| gl good_vMul rfl gn) Tryz.f5 (by kernel_rfl) (by kernel_rfl) fun ds hp F A Q hF hA hQ => ?_
 obtain ⟨x, y, s, t, b, n, rfl, hx, hy, hs, ht, ⟨hb1, hb2⟩, hn1, hn2⟩ := DiscHolds_arg hp
 have hx_ := hx
 have hy_ := hy
 have hs_ := hs
 have ht_ := ht
 obtain ⟨s1, n1, c1, e1, s2, n2, c2, e2, s3, n3, c3, e3, rfl, ⟨g1, h1⟩, ⟨g2, h2⟩, g3, h3⟩ := okXD_arg hx
 obtain ⟨t1, m1, d1, f1, t2, m2, d2, f2, t3, m3, d3, f3, rfl, ⟨p1, q1⟩, ⟨p2, q2⟩, p3, q3⟩ := okXD_arg hy
 obtain ⟨v1, k1, b1, i1, v2, k2, b2, i2, rfl, u1, y1, u2, y2⟩ := okX_arg hs
 obtain ⟨w1, k3, b3, i3, w2, k4, b4, i4, rfl, z1, y3, z2, y4⟩ := okX_arg ht
 clear hp
 rcases hol10 (a := fewDQ n1 e1 n2 e2 n3 e3) (b := fewDQ m1 f1 m2 f2 m3 f3) (c := ((k1 ≤ 10 ∧ -1000 ≤ i1 ∧ i1 ≤ 1000) ∧ k2 ≤ 10 ∧ -1000 ≤ i2 ∧ i2 ≤ 1000)) (d := ((k3 ≤ 10 ∧ -1000 ≤ i3 ∧ i3 ≤ 1000) ∧ k4 ≤ 10 ∧ -1000 ≤ i4 ∧ i4 ≤ 1000)) (dhas (((vI s1 c1, e1), (vI s2 c2, e2)), (vI s3 c3, e3)) ((vI v1 b1, i1), (vI v2 b2, i2))) (din (((vI s1 c1, e1), (vI s2 c2, e2)), (vI s3 c3, e3)) (((vI t1 d1, f1), (vI t2 d2, f2)), (vI t3 d3, f3))) (dapart (((vI s1 c1, e1), (vI s2 c2, e2)), (vI s3 c3, e3)) (((vI t1 d1, f1), (vI t2 d2, f2)), (vI t3 d3, f3))) (dhas (((vI t1 d1, f1), (vI t2 d2, f2)), (vI t3 d3, f3)) ((vI w1 b3, i3), (vI w2 b4, i4))) with ka | ⟨ka, kb⟩ | ⟨ka, kb, kc⟩ | ⟨ka, kb, kc, kd⟩ | ⟨kk, kp⟩ | ⟨kk, kq⟩ | ⟨kk, kq⟩ | ⟨kk, kq⟩ | ⟨kk, kq⟩ | ⟨kk, kq⟩ | ⟨kk, kq⟩
 ·have hfx : decide (fewDQ n1 e1 n2 e2 n3 e3) = false := decide_eq_false ka
  cbv
  repeat' (first | with_reducible refine And.intro ?_ ?_ | (with_reducible refine safe_lift hA ?_; kernel_rfl) | (intro hc_; (first | (with_reducible exfalso; clear hQ; subst hF hA; simp only [fnOf, find, std, reduceIte, Nat.reduceEqDiff, sp1, sp2, a1, a2, FnSpec.out, Shape.build, leafs, leafCells, tups, oneOf, List.cons_append, List.nil_append, List.length_cons, List.length_nil, s_DiscHolds, s_known10, s_fewD10, s_fewC10, s_jHas, s_vCplx, s_jIn, s_jApart, s_jPow, s_vPow, s_jNeg, s_vNeg, s_jAdd, s_vAdd, s_jMul, s_vMul, rv_raw, rv_N0, dv, dz, dx, dcn, dm_raw, dm_N0, vI_N0, raw6_is, rw9_is, Prod.eta, rv9_raw, re2, re4, re6, Bool.not_eq_eq_eq_not, decide_eq_true_eq, decide_eq_false_iff_not, not_true_eq_false, not_false_eq_true, decide_true, decide_false, Bool.true_and, Bool.and_true, Bool.not_true, Bool.not_false, beq_self_eq_true, Bool.true_eq_false, Bool.false_eq_true, reduceCtorEq, gt_iff_lt, ge_iff_le, true_and, and_true, and_self, Bool.false_eq, Bool.and_self, eq_self, Int.reduceLE, Int.reduceNeg, Int.reduceLT, Int.reduceBEq, hfx] at hc_; done) | (clear hc_; cbv))))
  all_goals subst hF hA
  all_goals (try simp only [fnOf, find, std, reduceIte, Nat.reduceEqDiff, sp1, sp2, a1, a2, FnSpec.out, Shape.build, leafs, leafCells, tups, oneOf, List.cons_append, List.nil_append, List.length_cons, List.length_nil, s_DiscHolds, s_known10, s_fewD10, s_fewC10, s_jHas, s_vCplx, s_jIn, s_jApart, s_jPow, s_vPow, s_jNeg, s_vNeg, s_jAdd, s_vAdd, s_jMul, s_vMul, rv_raw, rv_N0, dv, dz, dx, dcn, dm_raw, dm_N0, vI_N0, raw6_is, rw9_is, Prod.eta, rv9_raw, re2, re4, re6, Bool.not_eq_eq_eq_not, decide_eq_true_eq, decide_eq_false_iff_not, not_true_eq_false, not_false_eq_true, decide_true, decide_false, Bool.true_and, Bool.and_true, Bool.not_true, Bool.not_false, beq_self_eq_true, Bool.true_eq_false, Bool.false_eq_true, reduceCtorEq, gt_iff_lt, ge_iff_le, true_and, and_true, and_self, Bool.false_eq, Bool.and_self, eq_self, Int.reduceLE, Int.reduceNeg, Int.reduceLT, Int.reduceBEq, hfx] at hQ ⊢)
  all_goals (repeat' (first
   | with_reducible exact hQ
   | with_reducible assumption
   | with_reducible exact isi_int _ _
   | with_reducible exact True.intro
   | omega
   | with_reducible refine And.intro ?_ ?_))
  all_goals first
   | exact hQ
   | exact tP
   | exact tG
   | exact tN
   | exact tM
   | exact tA
   | exact tU
   | exact tB
   | exact tC
   | trace_state
 ·have hfx : decide (fewDQ n1 e1 n2 e2 n3 e3) = true := decide_eq_true ka
  have hfy : decide (fewDQ m1 f1 m2 f2 m3 f3) = false := decide_eq_false kb
  cbv
  repeat' (first | with_reducible refine And.intro ?_ ?_ | (with_reducible refine safe_lift hA ?_; kernel_rfl) | (intro hc_; (first | (with_reducible exfalso; clear hQ; subst hF hA; simp only [fnOf, find, std, reduceIte, Nat.reduceEqDiff, sp1, sp2, a1, a2, FnSpec.out, Shape.build, leafs, leafCells, tups, oneOf, List.cons_append, List.nil_append, List.length_cons, List.length_nil, s_DiscHolds, s_known10, s_fewD10, s_fewC10, s_jHas, s_vCplx, s_jIn, s_jApart, s_jPow, s_vPow, s_jNeg, s_vNeg, s_jAdd, s_vAdd, s_jMul, s_vMul, rv_raw, rv_N0, dv, dz, dx, dcn, dm_raw, dm_N0, vI_N0, raw6_is, rw9_is, Prod.eta, rv9_raw, re2, re4, re6, Bool.not_eq_eq_eq_not, decide_eq_true_eq, decide_eq_false_iff_not, not_true_eq_false, not_false_eq_true, decide_true, decide_false, Bool.true_and, Bool.and_true, Bool.not_true, Bool.not_false, beq_self_eq_true, Bool.true_eq_false, Bool.false_eq_true, reduceCtorEq, gt_iff_lt, ge_iff_le, true_and, and_true, and_self, Bool.false_eq, Bool.and_self, eq_self, Int.reduceLE, Int.reduceNeg, Int.reduceLT, Int.reduceBEq, hfx, hfy] at hc_; done) | (clear hc_; cbv))))
  all_goals subst hF hA
  all_goals (try simp only [fnOf, find, std, reduceIte, Nat.reduceEqDiff, sp1, sp2, a1, a2, FnSpec.out, Shape.build, leafs, leafCells, tups, oneOf, List.cons_append, List.nil_append, List.length_cons, List.length_nil, s_DiscHolds, s_known10, s_fewD10, s_fewC10, s_jHas, s_vCplx, s_jIn, s_jApart, s_jPow, s_vPow, s_jNeg, s_vNeg, s_jAdd, s_vAdd, s_jMul, s_vMul, rv_raw, rv_N0, dv, dz, dx, dcn, dm_raw, dm_N0, vI_N0, raw6_is, rw9_is, Prod.eta, rv9_raw, re2, re4, re6, Bool.not_eq_eq_eq_not, decide_eq_true_eq, decide_eq_false_iff_not, not_true_eq_false, not_false_eq_true, decide_true, decide_false, Bool.true_and, Bool.and_true, Bool.not_true, Bool.not_false, beq_self_eq_true, Bool.true_eq_false, Bool.false_eq_true, reduceCtorEq, gt_iff_lt, ge_iff_le, true_and, and_true, and_self, Bool.false_eq, Bool.and_self, eq_self, Int.reduceLE, Int.reduceNeg, Int.reduceLT, Int.reduceBEq, hfx, hfy] at hQ ⊢)
  all_goals (repeat' (first
   | with_reducible exact hQ
   | with_reducible assumption
   | with_reducible exact isi_int _ _
   | with_reducible exact True.intro
   | omega
   | with_reducible refine And.intro ?_ ?_))
  all_goals first
   | exact hQ
   | exact tP
   | exact tG
   | exact tN
   | exact tM
   | exact tA
   | exact tU
   | exact tB
   | exact tC
   | trace_state
 ·have hfx : decide (fewDQ n1 e1 n2 e2 n3 e3) = true := decide_eq_true ka
  have hfy : decide (fewDQ m1 f1 m2 f2 m3 f3) = true := decide_eq_true kb
  have hfs : decide ((k1 ≤ 10 ∧ -1000 ≤ i1 ∧ i1 ≤ 1000) ∧ k2 ≤ 10 ∧ -1000 ≤ i2 ∧ i2 ≤ 1000) = false := decide_eq_false kc
  cbv
  repeat' (first | with_reducible refine And.intro ?_ ?_ | (with_reducible refine safe_lift hA ?_; kernel_rfl) | (intro hc_; (first | (with_reducible exfalso; clear hQ; subst hF hA; simp only [fnOf, find, std, reduceIte, Nat.reduceEqDiff, sp1, sp2, a1, a2, FnSpec.out, Shape.build, leafs, leafCells, tups, oneOf, List.cons_append, List.nil_append, List.length_cons, List.length_nil, s_DiscHolds, s_known10, s_fewD10, s_fewC10, s_jHas, s_vCplx, s_jIn, s_jApart, s_jPow, s_vPow, s_jNeg, s_vNeg, s_jAdd, s_vAdd, s_jMul, s_vMul, rv_raw, rv_N0, dv, dz, dx, dcn, dm_raw, dm_N0, vI_N0, raw6_is, rw9_is, Prod.eta, rv9_raw, re2, re4, re6, Bool.not_eq_eq_eq_not, decide_eq_true_eq, decide_eq_false_iff_not, not_true_eq_false, not_false_eq_true, decide_true, decide_false, Bool.true_and, Bool.and_true, Bool.not_true, Bool.not_false, beq_self_eq_true, Bool.true_eq_false, Bool.false_eq_true, reduceCtorEq, gt_iff_lt, ge_iff_le, true_and, and_true, and_self, Bool.false_eq, Bool.and_self, eq_self, Int.reduceLE, Int.reduceNeg, Int.reduceLT, Int.reduceBEq, hfx, hfy, hfs] at hc_; done) | (clear hc_; cbv))))
  all_goals subst hF hA
  all_goals (try simp only [fnOf, find, std, reduceIte, Nat.reduceEqDiff, sp1, sp2, a1, a2, FnSpec.out, Shape.build, leafs, leafCells, tups, oneOf, List.cons_append, List.nil_append, List.length_cons, List.length_nil, s_DiscHolds, s_known10, s_fewD10, s_fewC10, s_jHas, s_vCplx, s_jIn, s_jApart, s_jPow, s_vPow, s_jNeg, s_vNeg, s_jAdd, s_vAdd, s_jMul, s_vMul, rv_raw, rv_N0, dv, dz, dx, dcn, dm_raw, dm_N0, vI_N0, raw6_is, rw9_is, Prod.eta, rv9_raw, re2, re4, re6, Bool.not_eq_eq_eq_not, decide_eq_true_eq, decide_eq_false_iff_not, not_true_eq_false, not_false_eq_true, decide_true, decide_false, Bool.true_and, Bool.and_true, Bool.not_true, Bool.not_false, beq_self_eq_true, Bool.true_eq_false, Bool.false_eq_true, reduceCtorEq, gt_iff_lt, ge_iff_le, true_and, and_true, and_self, Bool.false_eq, Bool.and_self, eq_self, Int.reduceLE, Int.reduceNeg, Int.reduceLT, Int.reduceBEq, hfx, hfy, hfs] at hQ ⊢)
  all_goals (repeat' (first
   | with_reducible exact hQ
   | with_reducible assumption
   | with_reducible exact isi_int _ _
   | with_reducible exact True.intro
   | omega
   | with_reducible refine And.intro ?_ ?_))
  all_goals first
   | exact hQ
   | exact tP
   | exact tG
   | exact tN
   | exact tM
   | exact tA
   | exact tU
   | exact tB
   | exact tC
   | trace_state
 ·have hfx : decide (fewDQ n1 e1 n2 e2 n3 e3) = true := decide_eq_true ka
  have hfy : decide (fewDQ m1 f1 m2 f2 m3 f3) = true := decide_eq_true kb
  have hfs : decide ((k1 ≤ 10 ∧ -1000 ≤ i1 ∧ i1 ≤ 1000) ∧ k2 ≤ 10 ∧ -1000 ≤ i2 ∧ i2 ≤ 1000) = true := decide_eq_true kc
  have hft : decide ((k3 ≤ 10 ∧ -1000 ≤ i3 ∧ i3 ≤ 1000) ∧ k4 ≤ 10 ∧ -1000 ≤ i4 ∧ i4 ≤ 1000) = false := decide_eq_false kd
  cbv
  repeat' (first | with_reducible refine And.intro ?_ ?_ | (with_reducible refine safe_lift hA ?_; kernel_rfl) | (intro hc_; (first | (with_reducible exfalso; clear hQ; subst hF hA; simp only [fnOf, find, std, reduceIte, Nat.reduceEqDiff, sp1, sp2, a1, a2, FnSpec.out, Shape.build, leafs, leafCells, tups, oneOf, List.cons_append, List.nil_append, List.length_cons, List.length_nil, s_DiscHolds, s_known10, s_fewD10, s_fewC10, s_jHas, s_vCplx, s_jIn, s_jApart, s_jPow, s_vPow, s_jNeg, s_vNeg, s_jAdd, s_vAdd, s_jMul, s_vMul, rv_raw, rv_N0, dv, dz, dx, dcn, dm_raw, dm_N0, vI_N0, raw6_is, rw9_is, Prod.eta, rv9_raw, re2, re4, re6, Bool.not_eq_eq_eq_not, decide_eq_true_eq, decide_eq_false_iff_not, not_true_eq_false, not_false_eq_true, decide_true, decide_false, Bool.true_and, Bool.and_true, Bool.not_true, Bool.not_false, beq_self_eq_true, Bool.true_eq_false, Bool.false_eq_true, reduceCtorEq, gt_iff_lt, ge_iff_le, true_and, and_true, and_self, Bool.false_eq, Bool.and_self, eq_self, Int.reduceLE, Int.reduceNeg, Int.reduceLT, Int.reduceBEq, hfx, hfy, hfs, hft] at hc_; done) | (clear hc_; cbv))))
  all_goals subst hF hA
  all_goals (try simp only [fnOf, find, std, reduceIte, Nat.reduceEqDiff, sp1, sp2, a1, a2, FnSpec.out, Shape.build, leafs, leafCells, tups, oneOf, List.cons_append, List.nil_append, List.length_cons, List.length_nil, s_DiscHolds, s_known10, s_fewD10, s_fewC10, s_jHas, s_vCplx, s_jIn, s_jApart, s_jPow, s_vPow, s_jNeg, s_vNeg, s_jAdd, s_vAdd, s_jMul, s_vMul, rv_raw, rv_N0, dv, dz, dx, dcn, dm_raw, dm_N0, vI_N0, raw6_is, rw9_is, Prod.eta, rv9_raw, re2, re4, re6, Bool.not_eq_eq_eq_not, decide_eq_true_eq, decide_eq_false_iff_not, not_true_eq_false, not_false_eq_true, decide_true, decide_false, Bool.true_and, Bool.and_true, Bool.not_true, Bool.not_false, beq_self_eq_true, Bool.true_eq_false, Bool.false_eq_true, reduceCtorEq, gt_iff_lt, ge_iff_le, true_and, and_true, and_self, Bool.false_eq, Bool.and_self, eq_self, Int.reduceLE, Int.reduceNeg, Int.reduceLT, Int.reduceBEq, hfx, hfy, hfs, hft] at hQ ⊢)
  all_goals (repeat' (first
   | with_reducible exact hQ
   | with_reducible assumption
   | with_reducible exact isi_int _ _
   | with_reducible exact True.intro
   | omega
   | with_reducible refine And.intro ?_ ?_))
  all_goals first
   | exact hQ
   | exact tP
   | exact tG
   | exact tN
   | exact tM
   | exact tA
   | exact tU
   | exact tB
   | exact tC
   | trace_state
 ·have hfx : decide (fewDQ n1 e1 n2 e2 n3 e3) = true := decide_eq_true kk.1
  have hfy : decide (fewDQ m1 f1 m2 f2 m3 f3) = true := decide_eq_true kk.2.1
  have hfs : decide ((k1 ≤ 10 ∧ -1000 ≤ i1 ∧ i1 ≤ 1000) ∧ k2 ≤ 10 ∧ -1000 ≤ i2 ∧ i2 ≤ 1000) = true := decide_eq_true kk.2.2.1
  have hft : decide ((k3 ≤ 10 ∧ -1000 ≤ i3 ∧ i3 ≤ 1000) ∧ k4 ≤ 10 ∧ -1000 ≤ i4 ∧ i4 ≤ 1000) = true := decide_eq_true kk.2.2.2
  have fK := okF_few (s1 := s1) (s2 := s2) (s3 := s3) g1 g2 g3 kk.1
  have aK := okF_A fK
  have qK := okF_qd fK
  obtain ⟨K, hK⟩ : ∃ K : Dc, dct (((vI s1 c1, e1), (vI s2 c2, e2)), (vI s3 c3, e3)) = K := ⟨_, rfl⟩
  rw [rv9_raw, hK] at qK
  have nK : 0 ≤ K.2.1 := hK ▸ dct_rn _
  have fM := okF_few (s1 := t1) (s2 := t2) (s3 := t3) p1 p2 p3 kk.2.1
  have aM := okF_A fM
  have qM := okF_qd fM
  obtain ⟨M, hM⟩ : ∃ M : Dc, dct (((vI t1 d1, f1), (vI t2 d2, f2)), (vI t3 d3, f3)) = M := ⟨_, rfl⟩
  rw [rv9_raw, hM] at qM
  have nM : 0 ≤ M.2.1 := hM ▸ dct_rn _
  have sS1 := okSM_few u1 kk.2.2.1.1
  have sS2 := okSM_few u2 kk.2.2.1.2
  have gS := okG_mk (s := v1) (t := v2) sS1.1 sS2.1
  have rS := okR_S (s := v1) (t := v2) sS1.1.1 sS2.1.1
  obtain ⟨S, hS⟩ : ∃ S : Re, ca ((vI v1 b1, i1), (vI v2 b2, i2)) = S := ⟨_, rfl⟩
  have cS : ccan S := hS ▸ ccan_ca _
  have zS : cz S 1000 1320 := hS ▸ cz_ca ⟨sz_fD (fD_few sS1), sz_fD (fD_few sS2)⟩
  have yS := canR_sj cS zS (by omega)
  have sT1 := okSM_few z1 kk.2.2.2.1
  have sT2 := okSM_few z2 kk.2.2.2.2
  have gT := okG_mk (s := w1) (t := w2) sT1.1 sT2.1
  have rT := okR_S (s := w1) (t := w2) sT1.1.1 sT2.1.1
  obtain ⟨T, hT⟩ : ∃ T : Re, ca ((vI w1 b3, i3), (vI w2 b4, i4)) = T := ⟨_, rfl⟩
  have cT : ccan T := hT ▸ ccan_ca _
  have zT : cz T 1000 1320 := hT ▸ cz_ca ⟨sz_fD (fD_few sT1), sz_fD (fD_few sT2)⟩
  have yT := canR_sj cT zT (by omega)
  cbv
  repeat' (first | with_reducible refine And.intro ?_ ?_ | (with_reducible refine safe_lift hA ?_; kernel_rfl) | (intro hc_; (first | (with_reducible exfalso; clear hQ; subst hF hA; simp only [fnOf, find, std, reduceIte, Nat.reduceEqDiff, sp1, sp2, a1, a2, FnSpec.out, Shape.build, leafs, leafCells, tups, oneOf, List.cons_append, List.nil_append, List.length_cons, List.length_nil, s_DiscHolds, s_known10, s_fewD10, s_fewC10, s_jHas, s_vCplx, s_jIn, s_jApart, s_jPow, s_vPow, s_jNeg, s_vNeg, s_jAdd, s_vAdd, s_jMul, s_vMul, rv_raw, rv_N0, dv, dz, dx, dcn, dm_raw, dm_N0, vI_N0, raw6_is, rw9_is, Prod.eta, rv9_raw, re2, re4, re6, Bool.not_eq_eq_eq_not, decide_eq_true_eq, decide_eq_false_iff_not, not_true_eq_false, not_false_eq_true, decide_true, decide_false, Bool.true_and, Bool.and_true, Bool.not_true, Bool.not_false, beq_self_eq_true, Bool.true_eq_false, Bool.false_eq_true, reduceCtorEq, gt_iff_lt, ge_iff_le, true_and, and_true, and_self, Bool.false_eq, Bool.and_self, eq_self, Int.reduceLE, Int.reduceNeg, Int.reduceLT, Int.reduceBEq, hfx, hfy, hfs, hft, kp] at hc_; done) | (clear hc_; cbv))))
  all_goals subst hF hA
  all_goals (try simp only [fnOf, find, std, reduceIte, Nat.reduceEqDiff, sp1, sp2, a1, a2, FnSpec.out, Shape.build, leafs, leafCells, tups, oneOf, List.cons_append, List.nil_append, List.length_cons, List.length_nil, s_DiscHolds, s_known10, s_fewD10, s_fewC10, s_jHas, s_vCplx, s_jIn, s_jApart, s_jPow, s_vPow, s_jNeg, s_vNeg, s_jAdd, s_vAdd, s_jMul, s_vMul, rv_raw, rv_N0, dv, dz, dx, dcn, dm_raw, dm_N0, vI_N0, raw6_is, rw9_is, Prod.eta, rv9_raw, re2, re4, re6, Bool.not_eq_eq_eq_not, decide_eq_true_eq, decide_eq_false_iff_not, not_true_eq_false, not_false_eq_true, decide_true, decide_false, Bool.true_and, Bool.and_true, Bool.not_true, Bool.not_false, beq_self_eq_true, Bool.true_eq_false, Bool.false_eq_true, reduceCtorEq, gt_iff_lt, ge_iff_le, true_and, and_true, and_self, Bool.false_eq, Bool.and_self, eq_self, Int.reduceLE, Int.reduceNeg, Int.reduceLT, Int.reduceBEq, hfx, hfy, hfs, hft, kp] at hQ ⊢)
  all_goals (repeat' (first
   | with_reducible exact hQ
   | with_reducible assumption
   | with_reducible exact isi_int _ _
   | with_reducible exact True.intro
   | omega
   | with_reducible refine And.intro ?_ ?_))
  all_goals first
   | exact hQ
   | exact tP
   | exact tG
   | exact tN
   | exact tM
   | exact tA
   | exact tU
   | exact tB
   | exact tC
   | trace_state
 ·have kp := kq.1
  have hfx : decide (fewDQ n1 e1 n2 e2 n3 e3) = true := decide_eq_true kk.1
  have hfy : decide (fewDQ m1 f1 m2 f2 m3 f3) = true := decide_eq_true kk.2.1
  have hfs : decide ((k1 ≤ 10 ∧ -1000 ≤ i1 ∧ i1 ≤ 1000) ∧ k2 ≤ 10 ∧ -1000 ≤ i2 ∧ i2 ≤ 1000) = true := decide_eq_true kk.2.2.1
  have hft : decide ((k3 ≤ 10 ∧ -1000 ≤ i3 ∧ i3 ≤ 1000) ∧ k4 ≤ 10 ∧ -1000 ≤ i4 ∧ i4 ≤ 1000) = true := decide_eq_true kk.2.2.2
  have fK := okF_few (s1 := s1) (s2 := s2) (s3 := s3) g1 g2 g3 kk.1
  have aK := okF_A fK
  have qK := okF_qd fK
  obtain ⟨K, hK⟩ : ∃ K : Dc, dct (((vI s1 c1, e1), (vI s2 c2, e2)), (vI s3 c3, e3)) = K := ⟨_, rfl⟩
  rw [rv9_raw, hK] at qK
  have nK : 0 ≤ K.2.1 := hK ▸ dct_rn _
  have fM := okF_few (s1 := t1) (s2 := t2) (s3 := t3) p1 p2 p3 kk.2.1
  have aM := okF_A fM
  have qM := okF_qd fM
  obtain ⟨M, hM⟩ : ∃ M : Dc, dct (((vI t1 d1, f1), (vI t2 d2, f2)), (vI t3 d3, f3)) = M := ⟨_, rfl⟩
  rw [rv9_raw, hM] at qM
  have nM : 0 ≤ M.2.1 := hM ▸ dct_rn _
  have sS1 := okSM_few u1 kk.2.2.1.1
  have sS2 := okSM_few u2 kk.2.2.1.2
  have gS := okG_mk (s := v1) (t := v2) sS1.1 sS2.1
  have rS := okR_S (s := v1) (t := v2) sS1.1.1 sS2.1.1
  obtain ⟨S, hS⟩ : ∃ S : Re, ca ((vI v1 b1, i1), (vI v2 b2, i2)) = S := ⟨_, rfl⟩
  have cS : ccan S := hS ▸ ccan_ca _
  have zS : cz S 1000 1320 := hS ▸ cz_ca ⟨sz_fD (fD_few sS1), sz_fD (fD_few sS2)⟩
  have yS := canR_sj cS zS (by omega)
  have sT1 := okSM_few z1 kk.2.2.2.1
  have sT2 := okSM_few z2 kk.2.2.2.2
  have gT := okG_mk (s := w1) (t := w2) sT1.1 sT2.1
  have rT := okR_S (s := w1) (t := w2) sT1.1.1 sT2.1.1
  obtain ⟨T, hT⟩ : ∃ T : Re, ca ((vI w1 b3, i3), (vI w2 b4, i4)) = T := ⟨_, rfl⟩
  have cT : ccan T := hT ▸ ccan_ca _
  have zT : cz T 1000 1320 := hT ▸ cz_ca ⟨sz_fD (fD_few sT1), sz_fD (fD_few sT2)⟩
  have yT := canR_sj cT zT (by omega)
  obtain ⟨q, hq⟩ : ∃ q : Int, b.tmod 100 = q := ⟨_, rfl⟩
  have hq1 : 0 ≤ q := hq ▸ Int.tmod_nonneg _ hb1
  have hq2 : q < 100 := hq ▸ Int.tmod_lt_of_pos _ (by omega)
  obtain ⟨k, hk⟩ : ∃ k : Int, n.tmod 4 = k := ⟨_, rfl⟩
  have hk1 : 0 ≤ k := hk ▸ Int.tmod_nonneg _ hn1
  have hk2 : k < 4 := hk ▸ Int.tmod_lt_of_pos _ (by omega)
  have x1_ : IntKind.i64.wrap q = q := wrap_in (by omega) (by omega)
  have x2_ : IntKind.i64.wrap (q + 1) = q + 1 := wrap_in (by omega) (by omega)
  have x3_ : IntKind.i64.wrap k = k := wrap_in (by omega) (by omega)
  have hp200 : q + 1 ≤ 200 := by omega
  have hN3 : powN k ≤ 3 := by unfold powN; omega
  have hN5 : powN k ≤ 5 := by omega
  have hN8 : powN k ≤ 8 := by omega
  have hXS := dhas_iff.1 kp
  have hKS : dat K S := hK ▸ hS ▸ dat_dct.2 hXS
  have e5_ : dneg (((vI s1 c1, e1), (vI s2 c2, e2)), (vI s3 c3, e3)) = (cneg K.1, K.2) := by rw [dneg_doc, hK]
  have e4_ : dadd (((vI s1 c1, e1), (vI s2 c2, e2)), (vI s3 c3, e3)) (((vI t1 d1, f1), (vI t2 d2, f2)), (vI t3 d3, f3)) = (cadd K.1 M.1, K.2.add M.2) := by rw [dadd_doc, hK, hM]
  have m1_ : dhas (cneg K.1, K.2) (cneg S) = true := by rw [← e5_, ← hS, cneg_ca2]; exact dhas_iff.2 (dat_neg hXS)
  have m2_ : dhas (zpw K (q + 1) (powN k)) (cpw S (powN k)) = true := dhas_iff.2 (dat_zpw nK hKS (q + 1) (powN k))
  have tP := okA_pw qK hp200 hN3
  have tG := okG_pw zS hN3
  have tN := okA_neg qK
  have tM := okG_z (a := cneg S) ⟨neg_n _, neg_n _⟩ (cz_neg zS) (by omega)
  have ku := kq.2.2
  have kn := kq.2.1
  have m5_ := dhas_iff.2 (dat_in hXS kn)
  have m6_ := dapart_of_in kn
  cbv
  repeat' (first | with_reducible refine And.intro ?_ ?_ | (with_reducible refine safe_lift hA ?_; kernel_rfl) | (intro hc_; (first | (with_reducible exfalso; clear hQ; subst hF hA; simp only [fnOf, find, std, reduceIte, Nat.reduceEqDiff, sp1, sp2, a1, a2, FnSpec.out, Shape.build, leafs, leafCells, tups, oneOf, List.cons_append, List.nil_append, List.length_cons, List.length_nil, s_DiscHolds, s_known10, s_fewD10, s_fewC10, s_jHas, s_vCplx, s_jIn, s_jApart, s_jPow, s_vPow, s_jNeg, s_vNeg, s_jAdd, s_vAdd, s_jMul, s_vMul, rv_raw, rv_N0, dv, dz, dx, dcn, dm_raw, dm_N0, vI_N0, raw6_is, rw9_is, Prod.eta, rv9_raw, re2, re4, re6, Bool.not_eq_eq_eq_not, decide_eq_true_eq, decide_eq_false_iff_not, not_true_eq_false, not_false_eq_true, decide_true, decide_false, Bool.true_and, Bool.and_true, Bool.not_true, Bool.not_false, beq_self_eq_true, Bool.true_eq_false, Bool.false_eq_true, reduceCtorEq, gt_iff_lt, ge_iff_le, true_and, and_true, and_self, Bool.false_eq, Bool.and_self, eq_self, Int.reduceLE, Int.reduceNeg, Int.reduceLT, Int.reduceBEq, hfx, hfy, hfs, hft, hK, hM, hS, hT, hq, hk, x1_, x2_, x3_, e4_, e5_, m1_, m2_, kp, ku, kn, m5_, m6_] at hc_; done) | (clear hc_; cbv))))
  all_goals subst hF hA
  all_goals (try simp only [fnOf, find, std, reduceIte, Nat.reduceEqDiff, sp1, sp2, a1, a2, FnSpec.out, Shape.build, leafs, leafCells, tups, oneOf, List.cons_append, List.nil_append, List.length_cons, List.length_nil, s_DiscHolds, s_known10, s_fewD10, s_fewC10, s_jHas, s_vCplx, s_jIn, s_jApart, s_jPow, s_vPow, s_jNeg, s_vNeg, s_jAdd, s_vAdd, s_jMul, s_vMul, rv_raw, rv_N0, dv, dz, dx, dcn, dm_raw, dm_N0, vI_N0, raw6_is, rw9_is, Prod.eta, rv9_raw, re2, re4, re6, Bool.not_eq_eq_eq_not, decide_eq_true_eq, decide_eq_false_iff_not, not_true_eq_false, not_false_eq_true, decide_true, decide_false, Bool.true_and, Bool.and_true, Bool.not_true, Bool.not_false, beq_self_eq_true, Bool.true_eq_false, Bool.false_eq_true, reduceCtorEq, gt_iff_lt, ge_iff_le, true_and, and_true, and_self, Bool.false_eq, Bool.and_self, eq_self, Int.reduceLE, Int.reduceNeg, Int.reduceLT, Int.reduceBEq, hfx, hfy, hfs, hft, hK, hM, hS, hT, hq, hk, x1_, x2_, x3_, e4_, e5_, m1_, m2_, kp, ku, kn, m5_, m6_] at hQ ⊢)
  all_goals (repeat' (first
   | with_reducible exact hQ
   | with_reducible assumption
   | with_reducible exact isi_int _ _
   | with_reducible exact True.intro
   | omega
   | with_reducible refine And.intro ?_ ?_))
  all_goals first
   | exact hQ
   | exact tP
   | exact tG
   | exact tN
   | exact tM
   | exact tA
   | exact tU
   | exact tB
   | exact tC
   | trace_state
 ·have kp := kq.1
  have hfx : decide (fewDQ n1 e1 n2 e2 n3 e3) = true := decide_eq_true kk.1
  have hfy : decide (fewDQ m1 f1 m2 f2 m3 f3) = true := decide_eq_true kk.2.1
  have hfs : decide ((k1 ≤ 10 ∧ -1000 ≤ i1 ∧ i1 ≤ 1000) ∧ k2 ≤ 10 ∧ -1000 ≤ i2 ∧ i2 ≤ 1000) = true := decide_eq_true kk.2.2.1
  have hft : decide ((k3 ≤ 10 ∧ -1000 ≤ i3 ∧ i3 ≤ 1000) ∧ k4 ≤ 10 ∧ -1000 ≤ i4 ∧ i4 ≤ 1000) = true := decide_eq_true kk.2.2.2
  have fK := okF_few (s1 := s1) (s2 := s2) (s3 := s3) g1 g2 g3 kk.1
  have aK := okF_A fK
  have qK := okF_qd fK
  obtain ⟨K, hK⟩ : ∃ K : Dc, dct (((vI s1 c1, e1), (vI s2 c2, e2)), (vI s3 c3, e3)) = K := ⟨_, rfl⟩
  rw [rv9_raw, hK] at qK
  have nK : 0 ≤ K.2.1 := hK ▸ dct_rn _
  have fM := okF_few (s1 := t1) (s2 := t2) (s3 := t3) p1 p2 p3 kk.2.1
  have aM := okF_A fM
  have qM := okF_qd fM
  obtain ⟨M, hM⟩ : ∃ M : Dc, dct (((vI t1 d1, f1), (vI t2 d2, f2)), (vI t3 d3, f3)) = M := ⟨_, rfl⟩
  rw [rv9_raw, hM] at qM
  have nM : 0 ≤ M.2.1 := hM ▸ dct_rn _
  have sS1 := okSM_few u1 kk.2.2.1.1
  have sS2 := okSM_few u2 kk.2.2.1.2
  have gS := okG_mk (s := v1) (t := v2) sS1.1 sS2.1
  have rS := okR_S (s := v1) (t := v2) sS1.1.1 sS2.1.1
  obtain ⟨S, hS⟩ : ∃ S : Re, ca ((vI v1 b1, i1), (vI v2 b2, i2)) = S := ⟨_, rfl⟩
  have cS : ccan S := hS ▸ ccan_ca _
  have zS : cz S 1000 1320 := hS ▸ cz_ca ⟨sz_fD (fD_few sS1), sz_fD (fD_few sS2)⟩
  have yS := canR_sj cS zS (by omega)
  have sT1 := okSM_few z1 kk.2.2.2.1
  have sT2 := okSM_few z2 kk.2.2.2.2
  have gT := okG_mk (s := w1) (t := w2) sT1.1 sT2.1
  have rT := okR_S (s := w1) (t := w2) sT1.1.1 sT2.1.1
  obtain ⟨T, hT⟩ : ∃ T : Re, ca ((vI w1 b3, i3), (vI w2 b4, i4)) = T := ⟨_, rfl⟩
  have cT : ccan T := hT ▸ ccan_ca _
  have zT : cz T 1000 1320 := hT ▸ cz_ca ⟨sz_fD (fD_few sT1), sz_fD (fD_few sT2)⟩
  have yT := canR_sj cT zT (by omega)
  obtain ⟨q, hq⟩ : ∃ q : Int, b.tmod 100 = q := ⟨_, rfl⟩
  have hq1 : 0 ≤ q := hq ▸ Int.tmod_nonneg _ hb1
  have hq2 : q < 100 := hq ▸ Int.tmod_lt_of_pos _ (by omega)
  obtain ⟨k, hk⟩ : ∃ k : Int, n.tmod 4 = k := ⟨_, rfl⟩
  have hk1 : 0 ≤ k := hk ▸ Int.tmod_nonneg _ hn1
  have hk2 : k < 4 := hk ▸ Int.tmod_lt_of_pos _ (by omega)
  have x1_ : IntKind.i64.wrap q = q := wrap_in (by omega) (by omega)
  have x2_ : IntKind.i64.wrap (q + 1) = q + 1 := wrap_in (by omega) (by omega)
  have x3_ : IntKind.i64.wrap k = k := wrap_in (by omega) (by omega)
  have hp200 : q + 1 ≤ 200 := by omega
  have hN3 : powN k ≤ 3 := by unfold powN; omega
  have hN5 : powN k ≤ 5 := by omega
  have hN8 : powN k ≤ 8 := by omega
  have hXS := dhas_iff.1 kp
  have hKS : dat K S := hK ▸ hS ▸ dat_dct.2 hXS
  have e5_ : dneg (((vI s1 c1, e1), (vI s2 c2, e2)), (vI s3 c3, e3)) = (cneg K.1, K.2) := by rw [dneg_doc, hK]
  have e4_ : dadd (((vI s1 c1, e1), (vI s2 c2, e2)), (vI s3 c3, e3)) (((vI t1 d1, f1), (vI t2 d2, f2)), (vI t3 d3, f3)) = (cadd K.1 M.1, K.2.add M.2) := by rw [dadd_doc, hK, hM]
  have m1_ : dhas (cneg K.1, K.2) (cneg S) = true := by rw [← e5_, ← hS, cneg_ca2]; exact dhas_iff.2 (dat_neg hXS)
  have m2_ : dhas (zpw K (q + 1) (powN k)) (cpw S (powN k)) = true := dhas_iff.2 (dat_zpw nK hKS (q + 1) (powN k))
  have tP := okA_pw qK hp200 hN3
  have tG := okG_pw zS hN3
  have tN := okA_neg qK
  have tM := okG_z (a := cneg S) ⟨neg_n _, neg_n _⟩ (cz_neg zS) (by omega)
  have ku := kq.2.2
  have kn := kq.2.1
  have m5_ := dhas_iff.2 (dat_in hXS kn)
  have m6_ := dapart_of_in kn
  have hYT := dhas_iff.1 ku
  have hMT : dat M T := hM ▸ hT ▸ dat_dct.2 hYT
  have m3_ : dhas (cadd K.1 M.1, K.2.add M.2) (cadd S T) = true := by rw [← e4_, ← hS, ← hT, cadd_ca2]; exact dhas_iff.2 (dat_add hXS hYT)
  have m4_ : dhas (zmul K M (q + 1)) (cmul S T) = true := dhas_iff.2 (dat_zmul nK nM hKS hMT (q + 1))
  have tA := okA_add qK qM
  have tU := okA_mul qK qM hp200
  have tB := okG_z (a := cadd S T) ⟨add_n _ _, add_n _ _⟩ (cz_add zS zT) (by omega)
  have tC := okG_z (a := cmul S T) ⟨sub_n _ _, add_n _ _⟩ (cz_mul zS zT) (by omega)
  have tS : smallM S T := ⟨_, _, _, _, zS, zT, by omega⟩
  cbv
  repeat' (first | with_reducible refine And.intro ?_ ?_ | (with_reducible refine safe_lift hA ?_; kernel_rfl) | (intro hc_; (first | (with_reducible exfalso; clear hQ; subst hF hA; simp only [fnOf, find, std, reduceIte, Nat.reduceEqDiff, sp1, sp2, a1, a2, FnSpec.out, Shape.build, leafs, leafCells, tups, oneOf, List.cons_append, List.nil_append, List.length_cons, List.length_nil, s_DiscHolds, s_known10, s_fewD10, s_fewC10, s_jHas, s_vCplx, s_jIn, s_jApart, s_jPow, s_vPow, s_jNeg, s_vNeg, s_jAdd, s_vAdd, s_jMul, s_vMul, rv_raw, rv_N0, dv, dz, dx, dcn, dm_raw, dm_N0, vI_N0, raw6_is, rw9_is, Prod.eta, rv9_raw, re2, re4, re6, Bool.not_eq_eq_eq_not, decide_eq_true_eq, decide_eq_false_iff_not, not_true_eq_false, not_false_eq_true, decide_true, decide_false, Bool.true_and, Bool.and_true, Bool.not_true, Bool.not_false, beq_self_eq_true, Bool.true_eq_false, Bool.false_eq_true, reduceCtorEq, gt_iff_lt, ge_iff_le, true_and, and_true, and_self, Bool.false_eq, Bool.and_self, eq_self, Int.reduceLE, Int.reduceNeg, Int.reduceLT, Int.reduceBEq, hfx, hfy, hfs, hft, hK, hM, hS, hT, hq, hk, x1_, x2_, x3_, e4_, e5_, m1_, m2_, kp, ku, kn, m5_, m6_, m3_, m4_] at hc_; done) | (clear hc_; cbv))))
  all_goals subst hF hA
  all_goals (try simp only [fnOf, find, std, reduceIte, Nat.reduceEqDiff, sp1, sp2, a1, a2, FnSpec.out, Shape.build, leafs, leafCells, tups, oneOf, List.cons_append, List.nil_append, List.length_cons, List.length_nil, s_DiscHolds, s_known10, s_fewD10, s_fewC10, s_jHas, s_vCplx, s_jIn, s_jApart, s_jPow, s_vPow, s_jNeg, s_vNeg, s_jAdd, s_vAdd, s_jMul, s_vMul, rv_raw, rv_N0, dv, dz, dx, dcn, dm_raw, dm_N0, vI_N0, raw6_is, rw9_is, Prod.eta, rv9_raw, re2, re4, re6, Bool.not_eq_eq_eq_not, decide_eq_true_eq, decide_eq_false_iff_not, not_true_eq_false, not_false_eq_true, decide_true, decide_false, Bool.true_and, Bool.and_true, Bool.not_true, Bool.not_false, beq_self_eq_true, Bool.true_eq_false, Bool.false_eq_true, reduceCtorEq, gt_iff_lt, ge_iff_le, true_and, and_true, and_self, Bool.false_eq, Bool.and_self, eq_self, Int.reduceLE, Int.reduceNeg, Int.reduceLT, Int.reduceBEq, hfx, hfy, hfs, hft, hK, hM, hS, hT, hq, hk, x1_, x2_, x3_, e4_, e5_, m1_, m2_, kp, ku, kn, m5_, m6_, m3_, m4_] at hQ ⊢)
  all_goals (repeat' (first
   | with_reducible exact hQ
   | with_reducible assumption
   | with_reducible exact isi_int _ _
   | with_reducible exact True.intro
   | omega
   | with_reducible refine And.intro ?_ ?_))
  all_goals first
   | exact hQ
   | exact tP
   | exact tG
   | exact tN
   | exact tM
   | exact tA
   | exact tU
   | exact tB
   | exact tC
   | trace_state
 ·have kp := kq.1
  have hfx : decide (fewDQ n1 e1 n2 e2 n3 e3) = true := decide_eq_true kk.1
  have hfy : decide (fewDQ m1 f1 m2 f2 m3 f3) = true := decide_eq_true kk.2.1
  have hfs : decide ((k1 ≤ 10 ∧ -1000 ≤ i1 ∧ i1 ≤ 1000) ∧ k2 ≤ 10 ∧ -1000 ≤ i2 ∧ i2 ≤ 1000) = true := decide_eq_true kk.2.2.1
  have hft : decide ((k3 ≤ 10 ∧ -1000 ≤ i3 ∧ i3 ≤ 1000) ∧ k4 ≤ 10 ∧ -1000 ≤ i4 ∧ i4 ≤ 1000) = true := decide_eq_true kk.2.2.2
  have fK := okF_few (s1 := s1) (s2 := s2) (s3 := s3) g1 g2 g3 kk.1
  have aK := okF_A fK
  have qK := okF_qd fK
  obtain ⟨K, hK⟩ : ∃ K : Dc, dct (((vI s1 c1, e1), (vI s2 c2, e2)), (vI s3 c3, e3)) = K := ⟨_, rfl⟩
  rw [rv9_raw, hK] at qK
  have nK : 0 ≤ K.2.1 := hK ▸ dct_rn _
  have fM := okF_few (s1 := t1) (s2 := t2) (s3 := t3) p1 p2 p3 kk.2.1
  have aM := okF_A fM
  have qM := okF_qd fM
  obtain ⟨M, hM⟩ : ∃ M : Dc, dct (((vI t1 d1, f1), (vI t2 d2, f2)), (vI t3 d3, f3)) = M := ⟨_, rfl⟩
  rw [rv9_raw, hM] at qM
  have nM : 0 ≤ M.2.1 := hM ▸ dct_rn _
  have sS1 := okSM_few u1 kk.2.2.1.1
  have sS2 := okSM_few u2 kk.2.2.1.2
  have gS := okG_mk (s := v1) (t := v2) sS1.1 sS2.1
  have rS := okR_S (s := v1) (t := v2) sS1.1.1 sS2.1.1
  obtain ⟨S, hS⟩ : ∃ S : Re, ca ((vI v1 b1, i1), (vI v2 b2, i2)) = S := ⟨_, rfl⟩
  have cS : ccan S := hS ▸ ccan_ca _
  have zS : cz S 1000 1320 := hS ▸ cz_ca ⟨sz_fD (fD_few sS1), sz_fD (fD_few sS2)⟩
  have yS := canR_sj cS zS (by omega)
  have sT1 := okSM_few z1 kk.2.2.2.1
  have sT2 := okSM_few z2 kk.2.2.2.2
  have gT := okG_mk (s := w1) (t := w2) sT1.1 sT2.1
  have rT := okR_S (s := w1) (t := w2) sT1.1.1 sT2.1.1
  obtain ⟨T, hT⟩ : ∃ T : Re, ca ((vI w1 b3, i3), (vI w2 b4, i4)) = T := ⟨_, rfl⟩
  have cT : ccan T := hT ▸ ccan_ca _
  have zT : cz T 1000 1320 := hT ▸ cz_ca ⟨sz_fD (fD_few sT1), sz_fD (fD_few sT2)⟩
  have yT := canR_sj cT zT (by omega)
  obtain ⟨q, hq⟩ : ∃ q : Int, b.tmod 100 = q := ⟨_, rfl⟩
  have hq1 : 0 ≤ q := hq ▸ Int.tmod_nonneg _ hb1
  have hq2 : q < 100 := hq ▸ Int.tmod_lt_of_pos _ (by omega)
  obtain ⟨k, hk⟩ : ∃ k : Int, n.tmod 4 = k := ⟨_, rfl⟩
  have hk1 : 0 ≤ k := hk ▸ Int.tmod_nonneg _ hn1
  have hk2 : k < 4 := hk ▸ Int.tmod_lt_of_pos _ (by omega)
  have x1_ : IntKind.i64.wrap q = q := wrap_in (by omega) (by omega)
  have x2_ : IntKind.i64.wrap (q + 1) = q + 1 := wrap_in (by omega) (by omega)
  have x3_ : IntKind.i64.wrap k = k := wrap_in (by omega) (by omega)
  have hp200 : q + 1 ≤ 200 := by omega
  have hN3 : powN k ≤ 3 := by unfold powN; omega
  have hN5 : powN k ≤ 5 := by omega
  have hN8 : powN k ≤ 8 := by omega
  have hXS := dhas_iff.1 kp
  have hKS : dat K S := hK ▸ hS ▸ dat_dct.2 hXS
  have e5_ : dneg (((vI s1 c1, e1), (vI s2 c2, e2)), (vI s3 c3, e3)) = (cneg K.1, K.2) := by rw [dneg_doc, hK]
  have e4_ : dadd (((vI s1 c1, e1), (vI s2 c2, e2)), (vI s3 c3, e3)) (((vI t1 d1, f1), (vI t2 d2, f2)), (vI t3 d3, f3)) = (cadd K.1 M.1, K.2.add M.2) := by rw [dadd_doc, hK, hM]
  have m1_ : dhas (cneg K.1, K.2) (cneg S) = true := by rw [← e5_, ← hS, cneg_ca2]; exact dhas_iff.2 (dat_neg hXS)
  have m2_ : dhas (zpw K (q + 1) (powN k)) (cpw S (powN k)) = true := dhas_iff.2 (dat_zpw nK hKS (q + 1) (powN k))
  have tP := okA_pw qK hp200 hN3
  have tG := okG_pw zS hN3
  have tN := okA_neg qK
  have tM := okG_z (a := cneg S) ⟨neg_n _, neg_n _⟩ (cz_neg zS) (by omega)
  have ku := kq.2.2
  have kn := kq.2.1.1
  have kr := kq.2.1.2
  have m5_ : dhas (((vI t1 d1, f1), (vI t2 d2, f2)), (vI t3 d3, f3)) ((vI v1 b1, i1), (vI v2 b2, i2)) = false := by cases hh : dhas (((vI t1 d1, f1), (vI t2 d2, f2)), (vI t3 d3, f3)) ((vI v1 b1, i1), (vI v2 b2, i2)) with | false => rfl | true => exact absurd kr (by rw [dat_apart hXS (dhas_iff.1 hh)]; decide)
  cbv
  repeat' (first | with_reducible refine And.intro ?_ ?_ | (with_reducible refine safe_lift hA ?_; kernel_rfl) | (intro hc_; (first | (with_reducible exfalso; clear hQ; subst hF hA; simp only [fnOf, find, std, reduceIte, Nat.reduceEqDiff, sp1, sp2, a1, a2, FnSpec.out, Shape.build, leafs, leafCells, tups, oneOf, List.cons_append, List.nil_append, List.length_cons, List.length_nil, s_DiscHolds, s_known10, s_fewD10, s_fewC10, s_jHas, s_vCplx, s_jIn, s_jApart, s_jPow, s_vPow, s_jNeg, s_vNeg, s_jAdd, s_vAdd, s_jMul, s_vMul, rv_raw, rv_N0, dv, dz, dx, dcn, dm_raw, dm_N0, vI_N0, raw6_is, rw9_is, Prod.eta, rv9_raw, re2, re4, re6, Bool.not_eq_eq_eq_not, decide_eq_true_eq, decide_eq_false_iff_not, not_true_eq_false, not_false_eq_true, decide_true, decide_false, Bool.true_and, Bool.and_true, Bool.not_true, Bool.not_false, beq_self_eq_true, Bool.true_eq_false, Bool.false_eq_true, reduceCtorEq, gt_iff_lt, ge_iff_le, true_and, and_true, and_self, Bool.false_eq, Bool.and_self, eq_self, Int.reduceLE, Int.reduceNeg, Int.reduceLT, Int.reduceBEq, hfx, hfy, hfs, hft, hK, hM, hS, hT, hq, hk, x1_, x2_, x3_, e4_, e5_, m1_, m2_, kp, ku, kn, kr, m5_] at hc_; done) | (clear hc_; cbv))))
  all_goals subst hF hA
  all_goals (try simp only [fnOf, find, std, reduceIte, Nat.reduceEqDiff, sp1, sp2, a1, a2, FnSpec.out, Shape.build, leafs, leafCells, tups, oneOf, List.cons_append, List.nil_append, List.length_cons, List.length_nil, s_DiscHolds, s_known10, s_fewD10, s_fewC10, s_jHas, s_vCplx, s_jIn, s_jApart, s_jPow, s_vPow, s_jNeg, s_vNeg, s_jAdd, s_vAdd, s_jMul, s_vMul, rv_raw, rv_N0, dv, dz, dx, dcn, dm_raw, dm_N0, vI_N0, raw6_is, rw9_is, Prod.eta, rv9_raw, re2, re4, re6, Bool.not_eq_eq_eq_not, decide_eq_true_eq, decide_eq_false_iff_not, not_true_eq_false, not_false_eq_true, decide_true, decide_false, Bool.true_and, Bool.and_true, Bool.not_true, Bool.not_false, beq_self_eq_true, Bool.true_eq_false, Bool.false_eq_true, reduceCtorEq, gt_iff_lt, ge_iff_le, true_and, and_true, and_self, Bool.false_eq, Bool.and_self, eq_self, Int.reduceLE, Int.reduceNeg, Int.reduceLT, Int.reduceBEq, hfx, hfy, hfs, hft, hK, hM, hS, hT, hq, hk, x1_, x2_, x3_, e4_, e5_, m1_, m2_, kp, ku, kn, kr, m5_] at hQ ⊢)
  all_goals (repeat' (first
   | with_reducible exact hQ
   | with_reducible assumption
   | with_reducible exact isi_int _ _
   | with_reducible exact True.intro
   | omega
   | with_reducible refine And.intro ?_ ?_))
  all_goals first
   | exact hQ
   | exact tP
   | exact tG
   | exact tN
   | exact tM
   | exact tA
   | exact tU
   | exact tB
   | exact tC
   | trace_state
 ·have kp := kq.1
  have hfx : decide (fewDQ n1 e1 n2 e2 n3 e3) = true := decide_eq_true kk.1
  have hfy : decide (fewDQ m1 f1 m2 f2 m3 f3) = true := decide_eq_true kk.2.1
  have hfs : decide ((k1 ≤ 10 ∧ -1000 ≤ i1 ∧ i1 ≤ 1000) ∧ k2 ≤ 10 ∧ -1000 ≤ i2 ∧ i2 ≤ 1000) = true := decide_eq_true kk.2.2.1
  have hft : decide ((k3 ≤ 10 ∧ -1000 ≤ i3 ∧ i3 ≤ 1000) ∧ k4 ≤ 10 ∧ -1000 ≤ i4 ∧ i4 ≤ 1000) = true := decide_eq_true kk.2.2.2
  have fK := okF_few (s1 := s1) (s2 := s2) (s3 := s3) g1 g2 g3 kk.1
  have aK := okF_A fK
  have qK := okF_qd fK
  obtain ⟨K, hK⟩ : ∃ K : Dc, dct (((vI s1 c1, e1), (vI s2 c2, e2)), (vI s3 c3, e3)) = K := ⟨_, rfl⟩
  rw [rv9_raw, hK] at qK
  have nK : 0 ≤ K.2.1 := hK ▸ dct_rn _
  have fM := okF_few (s1 := t1) (s2 := t2) (s3 := t3) p1 p2 p3 kk.2.1
  have aM := okF_A fM
  have qM := okF_qd fM
  obtain ⟨M, hM⟩ : ∃ M : Dc, dct (((vI t1 d1, f1), (vI t2 d2, f2)), (vI t3 d3, f3)) = M := ⟨_, rfl⟩
  rw [rv9_raw, hM] at qM
  have nM : 0 ≤ M.2.1 := hM ▸ dct_rn _
  have sS1 := okSM_few u1 kk.2.2.1.1
  have sS2 := okSM_few u2 kk.2.2.1.2
  have gS := okG_mk (s := v1) (t := v2) sS1.1 sS2.1
  have rS := okR_S (s := v1) (t := v2) sS1.1.1 sS2.1.1
  obtain ⟨S, hS⟩ : ∃ S : Re, ca ((vI v1 b1, i1), (vI v2 b2, i2)) = S := ⟨_, rfl⟩
  have cS : ccan S := hS ▸ ccan_ca _
  have zS : cz S 1000 1320 := hS ▸ cz_ca ⟨sz_fD (fD_few sS1), sz_fD (fD_few sS2)⟩
  have yS := canR_sj cS zS (by omega)
  have sT1 := okSM_few z1 kk.2.2.2.1
  have sT2 := okSM_few z2 kk.2.2.2.2
  have gT := okG_mk (s := w1) (t := w2) sT1.1 sT2.1
  have rT := okR_S (s := w1) (t := w2) sT1.1.1 sT2.1.1
  obtain ⟨T, hT⟩ : ∃ T : Re, ca ((vI w1 b3, i3), (vI w2 b4, i4)) = T := ⟨_, rfl⟩
  have cT : ccan T := hT ▸ ccan_ca _
  have zT : cz T 1000 1320 := hT ▸ cz_ca ⟨sz_fD (fD_few sT1), sz_fD (fD_few sT2)⟩
  have yT := canR_sj cT zT (by omega)
  obtain ⟨q, hq⟩ : ∃ q : Int, b.tmod 100 = q := ⟨_, rfl⟩
  have hq1 : 0 ≤ q := hq ▸ Int.tmod_nonneg _ hb1
  have hq2 : q < 100 := hq ▸ Int.tmod_lt_of_pos _ (by omega)
  obtain ⟨k, hk⟩ : ∃ k : Int, n.tmod 4 = k := ⟨_, rfl⟩
  have hk1 : 0 ≤ k := hk ▸ Int.tmod_nonneg _ hn1
  have hk2 : k < 4 := hk ▸ Int.tmod_lt_of_pos _ (by omega)
  have x1_ : IntKind.i64.wrap q = q := wrap_in (by omega) (by omega)
  have x2_ : IntKind.i64.wrap (q + 1) = q + 1 := wrap_in (by omega) (by omega)
  have x3_ : IntKind.i64.wrap k = k := wrap_in (by omega) (by omega)
  have hp200 : q + 1 ≤ 200 := by omega
  have hN3 : powN k ≤ 3 := by unfold powN; omega
  have hN5 : powN k ≤ 5 := by omega
  have hN8 : powN k ≤ 8 := by omega
  have hXS := dhas_iff.1 kp
  have hKS : dat K S := hK ▸ hS ▸ dat_dct.2 hXS
  have e5_ : dneg (((vI s1 c1, e1), (vI s2 c2, e2)), (vI s3 c3, e3)) = (cneg K.1, K.2) := by rw [dneg_doc, hK]
  have e4_ : dadd (((vI s1 c1, e1), (vI s2 c2, e2)), (vI s3 c3, e3)) (((vI t1 d1, f1), (vI t2 d2, f2)), (vI t3 d3, f3)) = (cadd K.1 M.1, K.2.add M.2) := by rw [dadd_doc, hK, hM]
  have m1_ : dhas (cneg K.1, K.2) (cneg S) = true := by rw [← e5_, ← hS, cneg_ca2]; exact dhas_iff.2 (dat_neg hXS)
  have m2_ : dhas (zpw K (q + 1) (powN k)) (cpw S (powN k)) = true := dhas_iff.2 (dat_zpw nK hKS (q + 1) (powN k))
  have tP := okA_pw qK hp200 hN3
  have tG := okG_pw zS hN3
  have tN := okA_neg qK
  have tM := okG_z (a := cneg S) ⟨neg_n _, neg_n _⟩ (cz_neg zS) (by omega)
  have ku := kq.2.2
  have kn := kq.2.1.1
  have kr := kq.2.1.2
  have m5_ : dhas (((vI t1 d1, f1), (vI t2 d2, f2)), (vI t3 d3, f3)) ((vI v1 b1, i1), (vI v2 b2, i2)) = false := by cases hh : dhas (((vI t1 d1, f1), (vI t2 d2, f2)), (vI t3 d3, f3)) ((vI v1 b1, i1), (vI v2 b2, i2)) with | false => rfl | true => exact absurd kr (by rw [dat_apart hXS (dhas_iff.1 hh)]; decide)
  have hYT := dhas_iff.1 ku
  have hMT : dat M T := hM ▸ hT ▸ dat_dct.2 hYT
  have m3_ : dhas (cadd K.1 M.1, K.2.add M.2) (cadd S T) = true := by rw [← e4_, ← hS, ← hT, cadd_ca2]; exact dhas_iff.2 (dat_add hXS hYT)
  have m4_ : dhas (zmul K M (q + 1)) (cmul S T) = true := dhas_iff.2 (dat_zmul nK nM hKS hMT (q + 1))
  have tA := okA_add qK qM
  have tU := okA_mul qK qM hp200
  have tB := okG_z (a := cadd S T) ⟨add_n _ _, add_n _ _⟩ (cz_add zS zT) (by omega)
  have tC := okG_z (a := cmul S T) ⟨sub_n _ _, add_n _ _⟩ (cz_mul zS zT) (by omega)
  have tS : smallM S T := ⟨_, _, _, _, zS, zT, by omega⟩
  cbv
  repeat' (first | with_reducible refine And.intro ?_ ?_ | (with_reducible refine safe_lift hA ?_; kernel_rfl) | (intro hc_; (first | (with_reducible exfalso; clear hQ; subst hF hA; simp only [fnOf, find, std, reduceIte, Nat.reduceEqDiff, sp1, sp2, a1, a2, FnSpec.out, Shape.build, leafs, leafCells, tups, oneOf, List.cons_append, List.nil_append, List.length_cons, List.length_nil, s_DiscHolds, s_known10, s_fewD10, s_fewC10, s_jHas, s_vCplx, s_jIn, s_jApart, s_jPow, s_vPow, s_jNeg, s_vNeg, s_jAdd, s_vAdd, s_jMul, s_vMul, rv_raw, rv_N0, dv, dz, dx, dcn, dm_raw, dm_N0, vI_N0, raw6_is, rw9_is, Prod.eta, rv9_raw, re2, re4, re6, Bool.not_eq_eq_eq_not, decide_eq_true_eq, decide_eq_false_iff_not, not_true_eq_false, not_false_eq_true, decide_true, decide_false, Bool.true_and, Bool.and_true, Bool.not_true, Bool.not_false, beq_self_eq_true, Bool.true_eq_false, Bool.false_eq_true, reduceCtorEq, gt_iff_lt, ge_iff_le, true_and, and_true, and_self, Bool.false_eq, Bool.and_self, eq_self, Int.reduceLE, Int.reduceNeg, Int.reduceLT, Int.reduceBEq, hfx, hfy, hfs, hft, hK, hM, hS, hT, hq, hk, x1_, x2_, x3_, e4_, e5_, m1_, m2_, kp, ku, kn, kr, m5_, m3_, m4_] at hc_; done) | (clear hc_; cbv))))
  all_goals subst hF hA
  all_goals (try simp only [fnOf, find, std, reduceIte, Nat.reduceEqDiff, sp1, sp2, a1, a2, FnSpec.out, Shape.build, leafs, leafCells, tups, oneOf, List.cons_append, List.nil_append, List.length_cons, List.length_nil, s_DiscHolds, s_known10, s_fewD10, s_fewC10, s_jHas, s_vCplx, s_jIn, s_jApart, s_jPow, s_vPow, s_jNeg, s_vNeg, s_jAdd, s_vAdd, s_jMul, s_vMul, rv_raw, rv_N0, dv, dz, dx, dcn, dm_raw, dm_N0, vI_N0, raw6_is, rw9_is, Prod.eta, rv9_raw, re2, re4, re6, Bool.not_eq_eq_eq_not, decide_eq_true_eq, decide_eq_false_iff_not, not_true_eq_false, not_false_eq_true, decide_true, decide_false, Bool.true_and, Bool.and_true, Bool.not_true, Bool.not_false, beq_self_eq_true, Bool.true_eq_false, Bool.false_eq_true, reduceCtorEq, gt_iff_lt, ge_iff_le, true_and, and_true, and_self, Bool.false_eq, Bool.and_self, eq_self, Int.reduceLE, Int.reduceNeg, Int.reduceLT, Int.reduceBEq, hfx, hfy, hfs, hft, hK, hM, hS, hT, hq, hk, x1_, x2_, x3_, e4_, e5_, m1_, m2_, kp, ku, kn, kr, m5_, m3_, m4_] at hQ ⊢)
  all_goals (repeat' (first
   | with_reducible exact hQ
   | with_reducible assumption
   | with_reducible exact isi_int _ _
   | with_reducible exact True.intro
   | omega
   | with_reducible refine And.intro ?_ ?_))
  all_goals first
   | exact hQ
   | exact tP
   | exact tG
   | exact tN
   | exact tM
   | exact tA
   | exact tU
   | exact tB
   | exact tC
   | trace_state
 ·have kp := kq.1
  have hfx : decide (fewDQ n1 e1 n2 e2 n3 e3) = true := decide_eq_true kk.1
  have hfy : decide (fewDQ m1 f1 m2 f2 m3 f3) = true := decide_eq_true kk.2.1
  have hfs : decide ((k1 ≤ 10 ∧ -1000 ≤ i1 ∧ i1 ≤ 1000) ∧ k2 ≤ 10 ∧ -1000 ≤ i2 ∧ i2 ≤ 1000) = true := decide_eq_true kk.2.2.1
  have hft : decide ((k3 ≤ 10 ∧ -1000 ≤ i3 ∧ i3 ≤ 1000) ∧ k4 ≤ 10 ∧ -1000 ≤ i4 ∧ i4 ≤ 1000) = true := decide_eq_true kk.2.2.2
  have fK := okF_few (s1 := s1) (s2 := s2) (s3 := s3) g1 g2 g3 kk.1
  have aK := okF_A fK
  have qK := okF_qd fK
  obtain ⟨K, hK⟩ : ∃ K : Dc, dct (((vI s1 c1, e1), (vI s2 c2, e2)), (vI s3 c3, e3)) = K := ⟨_, rfl⟩
  rw [rv9_raw, hK] at qK
  have nK : 0 ≤ K.2.1 := hK ▸ dct_rn _
  have fM := okF_few (s1 := t1) (s2 := t2) (s3 := t3) p1 p2 p3 kk.2.1
  have aM := okF_A fM
  have qM := okF_qd fM
  obtain ⟨M, hM⟩ : ∃ M : Dc, dct (((vI t1 d1, f1), (vI t2 d2, f2)), (vI t3 d3, f3)) = M := ⟨_, rfl⟩
  rw [rv9_raw, hM] at qM
  have nM : 0 ≤ M.2.1 := hM ▸ dct_rn _
  have sS1 := okSM_few u1 kk.2.2.1.1
  have sS2 := okSM_few u2 kk.2.2.1.2
  have gS := okG_mk (s := v1) (t := v2) sS1.1 sS2.1
  have rS := okR_S (s := v1) (t := v2) sS1.1.1 sS2.1.1
  obtain ⟨S, hS⟩ : ∃ S : Re, ca ((vI v1 b1, i1), (vI v2 b2, i2)) = S := ⟨_, rfl⟩
  have cS : ccan S := hS ▸ ccan_ca _
  have zS : cz S 1000 1320 := hS ▸ cz_ca ⟨sz_fD (fD_few sS1), sz_fD (fD_few sS2)⟩
  have yS := canR_sj cS zS (by omega)
  have sT1 := okSM_few z1 kk.2.2.2.1
  have sT2 := okSM_few z2 kk.2.2.2.2
  have gT := okG_mk (s := w1) (t := w2) sT1.1 sT2.1
  have rT := okR_S (s := w1) (t := w2) sT1.1.1 sT2.1.1
  obtain ⟨T, hT⟩ : ∃ T : Re, ca ((vI w1 b3, i3), (vI w2 b4, i4)) = T := ⟨_, rfl⟩
  have cT : ccan T := hT ▸ ccan_ca _
  have zT : cz T 1000 1320 := hT ▸ cz_ca ⟨sz_fD (fD_few sT1), sz_fD (fD_few sT2)⟩
  have yT := canR_sj cT zT (by omega)
  obtain ⟨q, hq⟩ : ∃ q : Int, b.tmod 100 = q := ⟨_, rfl⟩
  have hq1 : 0 ≤ q := hq ▸ Int.tmod_nonneg _ hb1
  have hq2 : q < 100 := hq ▸ Int.tmod_lt_of_pos _ (by omega)
  obtain ⟨k, hk⟩ : ∃ k : Int, n.tmod 4 = k := ⟨_, rfl⟩
  have hk1 : 0 ≤ k := hk ▸ Int.tmod_nonneg _ hn1
  have hk2 : k < 4 := hk ▸ Int.tmod_lt_of_pos _ (by omega)
  have x1_ : IntKind.i64.wrap q = q := wrap_in (by omega) (by omega)
  have x2_ : IntKind.i64.wrap (q + 1) = q + 1 := wrap_in (by omega) (by omega)
  have x3_ : IntKind.i64.wrap k = k := wrap_in (by omega) (by omega)
  have hp200 : q + 1 ≤ 200 := by omega
  have hN3 : powN k ≤ 3 := by unfold powN; omega
  have hN5 : powN k ≤ 5 := by omega
  have hN8 : powN k ≤ 8 := by omega
  have hXS := dhas_iff.1 kp
  have hKS : dat K S := hK ▸ hS ▸ dat_dct.2 hXS
  have e5_ : dneg (((vI s1 c1, e1), (vI s2 c2, e2)), (vI s3 c3, e3)) = (cneg K.1, K.2) := by rw [dneg_doc, hK]
  have e4_ : dadd (((vI s1 c1, e1), (vI s2 c2, e2)), (vI s3 c3, e3)) (((vI t1 d1, f1), (vI t2 d2, f2)), (vI t3 d3, f3)) = (cadd K.1 M.1, K.2.add M.2) := by rw [dadd_doc, hK, hM]
  have m1_ : dhas (cneg K.1, K.2) (cneg S) = true := by rw [← e5_, ← hS, cneg_ca2]; exact dhas_iff.2 (dat_neg hXS)
  have m2_ : dhas (zpw K (q + 1) (powN k)) (cpw S (powN k)) = true := dhas_iff.2 (dat_zpw nK hKS (q + 1) (powN k))
  have tP := okA_pw qK hp200 hN3
  have tG := okG_pw zS hN3
  have tN := okA_neg qK
  have tM := okG_z (a := cneg S) ⟨neg_n _, neg_n _⟩ (cz_neg zS) (by omega)
  have ku := kq.2.2
  have kn := kq.2.1.1
  have kr := kq.2.1.2
  cbv
  repeat' (first | with_reducible refine And.intro ?_ ?_ | (with_reducible refine safe_lift hA ?_; kernel_rfl) | (intro hc_; (first | (with_reducible exfalso; clear hQ; subst hF hA; simp only [fnOf, find, std, reduceIte, Nat.reduceEqDiff, sp1, sp2, a1, a2, FnSpec.out, Shape.build, leafs, leafCells, tups, oneOf, List.cons_append, List.nil_append, List.length_cons, List.length_nil, s_DiscHolds, s_known10, s_fewD10, s_fewC10, s_jHas, s_vCplx, s_jIn, s_jApart, s_jPow, s_vPow, s_jNeg, s_vNeg, s_jAdd, s_vAdd, s_jMul, s_vMul, rv_raw, rv_N0, dv, dz, dx, dcn, dm_raw, dm_N0, vI_N0, raw6_is, rw9_is, Prod.eta, rv9_raw, re2, re4, re6, Bool.not_eq_eq_eq_not, decide_eq_true_eq, decide_eq_false_iff_not, not_true_eq_false, not_false_eq_true, decide_true, decide_false, Bool.true_and, Bool.and_true, Bool.not_true, Bool.not_false, beq_self_eq_true, Bool.true_eq_false, Bool.false_eq_true, reduceCtorEq, gt_iff_lt, ge_iff_le, true_and, and_true, and_self, Bool.false_eq, Bool.and_self, eq_self, Int.reduceLE, Int.reduceNeg, Int.reduceLT, Int.reduceBEq, hfx, hfy, hfs, hft, hK, hM, hS, hT, hq, hk, x1_, x2_, x3_, e4_, e5_, m1_, m2_, kp, ku, kn, kr] at hc_; done) | (clear hc_; cbv))))
  all_goals subst hF hA
  all_goals (try simp only [fnOf, find, std, reduceIte, Nat.reduceEqDiff, sp1, sp2, a1, a2, FnSpec.out, Shape.build, leafs, leafCells, tups, oneOf, List.cons_append, List.nil_append, List.length_cons, List.length_nil, s_DiscHolds, s_known10, s_fewD10, s_fewC10, s_jHas, s_vCplx, s_jIn, s_jApart, s_jPow, s_vPow, s_jNeg, s_vNeg, s_jAdd, s_vAdd, s_jMul, s_vMul, rv_raw, rv_N0, dv, dz, dx, dcn, dm_raw, dm_N0, vI_N0, raw6_is, rw9_is, Prod.eta, rv9_raw, re2, re4, re6, Bool.not_eq_eq_eq_not, decide_eq_true_eq, decide_eq_false_iff_not, not_true_eq_false, not_false_eq_true, decide_true, decide_false, Bool.true_and, Bool.and_true, Bool.not_true, Bool.not_false, beq_self_eq_true, Bool.true_eq_false, Bool.false_eq_true, reduceCtorEq, gt_iff_lt, ge_iff_le, true_and, and_true, and_self, Bool.false_eq, Bool.and_self, eq_self, Int.reduceLE, Int.reduceNeg, Int.reduceLT, Int.reduceBEq, hfx, hfy, hfs, hft, hK, hM, hS, hT, hq, hk, x1_, x2_, x3_, e4_, e5_, m1_, m2_, kp, ku, kn, kr] at hQ ⊢)
  all_goals (repeat' (first
   | with_reducible exact hQ
   | with_reducible assumption
   | with_reducible exact isi_int _ _
   | with_reducible exact True.intro
   | omega
   | with_reducible refine And.intro ?_ ?_))
  all_goals first
   | exact hQ
   | exact tP
   | exact tG
   | exact tN
   | exact tM
   | exact tA
   | exact tU
   | exact tB
   | exact tC
   | trace_state
 ·have kp := kq.1
  have hfx : decide (fewDQ n1 e1 n2 e2 n3 e3) = true := decide_eq_true kk.1
  have hfy : decide (fewDQ m1 f1 m2 f2 m3 f3) = true := decide_eq_true kk.2.1
  have hfs : decide ((k1 ≤ 10 ∧ -1000 ≤ i1 ∧ i1 ≤ 1000) ∧ k2 ≤ 10 ∧ -1000 ≤ i2 ∧ i2 ≤ 1000) = true := decide_eq_true kk.2.2.1
  have hft : decide ((k3 ≤ 10 ∧ -1000 ≤ i3 ∧ i3 ≤ 1000) ∧ k4 ≤ 10 ∧ -1000 ≤ i4 ∧ i4 ≤ 1000) = true := decide_eq_true kk.2.2.2
  have fK := okF_few (s1 := s1) (s2 := s2) (s3 := s3) g1 g2 g3 kk.1
  have aK := okF_A fK
  have qK := okF_qd fK
  obtain ⟨K, hK⟩ : ∃ K : Dc, dct (((vI s1 c1, e1), (vI s2 c2, e2)), (vI s3 c3, e3)) = K := ⟨_, rfl⟩
  rw [rv9_raw, hK] at qK
  have nK : 0 ≤ K.2.1 := hK ▸ dct_rn _
  have fM := okF_few (s1 := t1) (s2 := t2) (s3 := t3) p1 p2 p3 kk.2.1
  have aM := okF_A fM
  have qM := okF_qd fM
  obtain ⟨M, hM⟩ : ∃ M : Dc, dct (((vI t1 d1, f1), (vI t2 d2, f2)), (vI t3 d3, f3)) = M := ⟨_, rfl⟩
  rw [rv9_raw, hM] at qM
  have nM : 0 ≤ M.2.1 := hM ▸ dct_rn _
  have sS1 := okSM_few u1 kk.2.2.1.1
  have sS2 := okSM_few u2 kk.2.2.1.2
  have gS := okG_mk (s := v1) (t := v2) sS1.1 sS2.1
  have rS := okR_S (s := v1) (t := v2) sS1.1.1 sS2.1.1
  obtain ⟨S, hS⟩ : ∃ S : Re, ca ((vI v1 b1, i1), (vI v2 b2, i2)) = S := ⟨_, rfl⟩
  have cS : ccan S := hS ▸ ccan_ca _
  have zS : cz S 1000 1320 := hS ▸ cz_ca ⟨sz_fD (fD_few sS1), sz_fD (fD_few sS2)⟩
  have yS := canR_sj cS zS (by omega)
  have sT1 := okSM_few z1 kk.2.2.2.1
  have sT2 := okSM_few z2 kk.2.2.2.2
  have gT := okG_mk (s := w1) (t := w2) sT1.1 sT2.1
  have rT := okR_S (s := w1) (t := w2) sT1.1.1 sT2.1.1
  obtain ⟨T, hT⟩ : ∃ T : Re, ca ((vI w1 b3, i3), (vI w2 b4, i4)) = T := ⟨_, rfl⟩
  have cT : ccan T := hT ▸ ccan_ca _
  have zT : cz T 1000 1320 := hT ▸ cz_ca ⟨sz_fD (fD_few sT1), sz_fD (fD_few sT2)⟩
  have yT := canR_sj cT zT (by omega)
  obtain ⟨q, hq⟩ : ∃ q : Int, b.tmod 100 = q := ⟨_, rfl⟩
  have hq1 : 0 ≤ q := hq ▸ Int.tmod_nonneg _ hb1
  have hq2 : q < 100 := hq ▸ Int.tmod_lt_of_pos _ (by omega)
  obtain ⟨k, hk⟩ : ∃ k : Int, n.tmod 4 = k := ⟨_, rfl⟩
  have hk1 : 0 ≤ k := hk ▸ Int.tmod_nonneg _ hn1
  have hk2 : k < 4 := hk ▸ Int.tmod_lt_of_pos _ (by omega)
  have x1_ : IntKind.i64.wrap q = q := wrap_in (by omega) (by omega)
  have x2_ : IntKind.i64.wrap (q + 1) = q + 1 := wrap_in (by omega) (by omega)
  have x3_ : IntKind.i64.wrap k = k := wrap_in (by omega) (by omega)
  have hp200 : q + 1 ≤ 200 := by omega
  have hN3 : powN k ≤ 3 := by unfold powN; omega
  have hN5 : powN k ≤ 5 := by omega
  have hN8 : powN k ≤ 8 := by omega
  have hXS := dhas_iff.1 kp
  have hKS : dat K S := hK ▸ hS ▸ dat_dct.2 hXS
  have e5_ : dneg (((vI s1 c1, e1), (vI s2 c2, e2)), (vI s3 c3, e3)) = (cneg K.1, K.2) := by rw [dneg_doc, hK]
  have e4_ : dadd (((vI s1 c1, e1), (vI s2 c2, e2)), (vI s3 c3, e3)) (((vI t1 d1, f1), (vI t2 d2, f2)), (vI t3 d3, f3)) = (cadd K.1 M.1, K.2.add M.2) := by rw [dadd_doc, hK, hM]
  have m1_ : dhas (cneg K.1, K.2) (cneg S) = true := by rw [← e5_, ← hS, cneg_ca2]; exact dhas_iff.2 (dat_neg hXS)
  have m2_ : dhas (zpw K (q + 1) (powN k)) (cpw S (powN k)) = true := dhas_iff.2 (dat_zpw nK hKS (q + 1) (powN k))
  have tP := okA_pw qK hp200 hN3
  have tG := okG_pw zS hN3
  have tN := okA_neg qK
  have tM := okG_z (a := cneg S) ⟨neg_n _, neg_n _⟩ (cz_neg zS) (by omega)
  have ku := kq.2.2
  have kn := kq.2.1.1
  have kr := kq.2.1.2
  have hYT := dhas_iff.1 ku
  have hMT : dat M T := hM ▸ hT ▸ dat_dct.2 hYT
  have m3_ : dhas (cadd K.1 M.1, K.2.add M.2) (cadd S T) = true := by rw [← e4_, ← hS, ← hT, cadd_ca2]; exact dhas_iff.2 (dat_add hXS hYT)
  have m4_ : dhas (zmul K M (q + 1)) (cmul S T) = true := dhas_iff.2 (dat_zmul nK nM hKS hMT (q + 1))
  have tA := okA_add qK qM
  have tU := okA_mul qK qM hp200
  have tB := okG_z (a := cadd S T) ⟨add_n _ _, add_n _ _⟩ (cz_add zS zT) (by omega)
  have tC := okG_z (a := cmul S T) ⟨sub_n _ _, add_n _ _⟩ (cz_mul zS zT) (by omega)
  have tS : smallM S T := ⟨_, _, _, _, zS, zT, by omega⟩
  cbv
  repeat' (first | with_reducible refine And.intro ?_ ?_ | (with_reducible refine safe_lift hA ?_; kernel_rfl) | (intro hc_; (first | (with_reducible exfalso; clear hQ; subst hF hA; simp only [fnOf, find, std, reduceIte, Nat.reduceEqDiff, sp1, sp2, a1, a2, FnSpec.out, Shape.build, leafs, leafCells, tups, oneOf, List.cons_append, List.nil_append, List.length_cons, List.length_nil, s_DiscHolds, s_known10, s_fewD10, s_fewC10, s_jHas, s_vCplx, s_jIn, s_jApart, s_jPow, s_vPow, s_jNeg, s_vNeg, s_jAdd, s_vAdd, s_jMul, s_vMul, rv_raw, rv_N0, dv, dz, dx, dcn, dm_raw, dm_N0, vI_N0, raw6_is, rw9_is, Prod.eta, rv9_raw, re2, re4, re6, Bool.not_eq_eq_eq_not, decide_eq_true_eq, decide_eq_false_iff_not, not_true_eq_false, not_false_eq_true, decide_true, decide_false, Bool.true_and, Bool.and_true, Bool.not_true, Bool.not_false, beq_self_eq_true, Bool.true_eq_false, Bool.false_eq_true, reduceCtorEq, gt_iff_lt, ge_iff_le, true_and, and_true, and_self, Bool.false_eq, Bool.and_self, eq_self, Int.reduceLE, Int.reduceNeg, Int.reduceLT, Int.reduceBEq, hfx, hfy, hfs, hft, hK, hM, hS, hT, hq, hk, x1_, x2_, x3_, e4_, e5_, m1_, m2_, kp, ku, kn, kr, m3_, m4_] at hc_; done) | (clear hc_; cbv))))
  all_goals subst hF hA
  all_goals (try simp only [fnOf, find, std, reduceIte, Nat.reduceEqDiff, sp1, sp2, a1, a2, FnSpec.out, Shape.build, leafs, leafCells, tups, oneOf, List.cons_append, List.nil_append, List.length_cons, List.length_nil, s_DiscHolds, s_known10, s_fewD10, s_fewC10, s_jHas, s_vCplx, s_jIn, s_jApart, s_jPow, s_vPow, s_jNeg, s_vNeg, s_jAdd, s_vAdd, s_jMul, s_vMul, rv_raw, rv_N0, dv, dz, dx, dcn, dm_raw, dm_N0, vI_N0, raw6_is, rw9_is, Prod.eta, rv9_raw, re2, re4, re6, Bool.not_eq_eq_eq_not, decide_eq_true_eq, decide_eq_false_iff_not, not_true_eq_false, not_false_eq_true, decide_true, decide_false, Bool.true_and, Bool.and_true, Bool.not_true, Bool.not_false, beq_self_eq_true, Bool.true_eq_false, Bool.false_eq_true, reduceCtorEq, gt_iff_lt, ge_iff_le, true_and, and_true, and_self, Bool.false_eq, Bool.and_self, eq_self, Int.reduceLE, Int.reduceNeg, Int.reduceLT, Int.reduceBEq, hfx, hfy, hfs, hft, hK, hM, hS, hT, hq, hk, x1_, x2_, x3_, e4_, e5_, m1_, m2_, kp, ku, kn, kr, m3_, m4_] at hQ ⊢)
  all_goals (repeat' (first
   | with_reducible exact hQ
   | with_reducible assumption
   | with_reducible exact isi_int _ _
   | with_reducible exact True.intro
   | omega
   | with_reducible refine And.intro ?_ ?_))
  all_goals first
   | exact hQ
   | exact tP
   | exact tG
   | exact tN
   | exact tM
   | exact tA
   | exact tU
   | exact tB
   | exact tC
   | trace_state
end Go.Proofs.YtnjjfakjnkhhjaaGreatDoor.Ev
