import Derived.Test.YtnjjfakjnkhhjaaGreatDoorJk
import Derived.Test.YtnjjfakjnkhhjaaGreatDoorJh
set_option maxHeartbeats 16000000
set_option maxRecDepth 100000
set_option linter.all false
namespace Go.Proofs.YtnjjfakjnkhhjaaGreatDoor.Ev
open Go Go.RowKit
theorem okSM_q {a : Dy} (h : fD a 320 1000) : okSM (N0.ln a.1) (N0.lm a.1) a.2 ∧ N0.ln a.1 ≤ 10 ∧ -1000 ≤ a.2 ∧ a.2 ≤ 1000 := by
 have h1 := h.2.1
 have h2 := h.2.2
 have h3 : N0.ln a.1 ≤ 10 := h.1.ln (by omega)
 exact ⟨⟨okS_fD (h.mono (by omega) (by omega)), by omega, by omega, by omega⟩, h3, by omega, by omega⟩
theorem okF_q {a : Dc} (h1 : fD a.1.1 320 1000) (h2 : fD a.1.2 320 1000) (h3 : fD a.2 320 1000) : okF (rel9 a) := ⟨okSM_q h1, okSM_q h2, okSM_q h3⟩
theorem fD_int {m e : Int} (h : -1000 ≤ m ∧ m ≤ 1000) (g : -1000 ≤ e ∧ e ≤ 1000) : fD (m, e) 320 1000 := by
 have h1 : Fit m 10 := by unfold Fit; omega
 exact ⟨h1.mono (by omega), by dsimp only; omega, by dsimp only; omega⟩
theorem n_2 : Dy.n (2, 0) = (1, 1) := by decide +kernel
theorem n_3 : Dy.n (3, 0) = (3, 0) := by decide +kernel
theorem n_4 : Dy.n (4, 0) = (1, 2) := by decide +kernel
theorem n_m1 : Dy.n (-1, 0) = (-1, 0) := by decide +kernel
theorem kd_0 : ca ((0, 0), (0, 0)) = ((0, 0), (0, 0)) := by decide +kernel
theorem kd_3 : ca ((3, 0), (0, 0)) = ((3, 0), (0, 0)) := by decide +kernel
theorem kd_2 : ca ((2, 0), (0, 0)) = ((1, 1), (0, 0)) := by decide +kernel
theorem kd_i : ca ((0, 0), (1, 0)) = ((0, 0), (1, 0)) := by decide +kernel
theorem k_ap1 : dapart (((0, 0), (0, 0)), (1, 0)) (((3, 0), (0, 0)), (1, 0)) = true := by decide +kernel
theorem k_ap2 : dapart (((0, 0), (0, 0)), (1, 0)) (((1, 1), (0, 0)), (1, 0)) = false := by decide +kernel
theorem k_has : dhas (((0, 0), (0, 0)), (1, 0)) ((0, 0), (1, 0)) = true := by decide +kernel
theorem k_in1 : din (((0, 0), (0, 0)), (1, 0)) (((0, 0), (0, 0)), (1, 1)) = true := by decide +kernel
theorem k_in2 : din (((0, 0), (0, 0)), (1, 0)) (((3, 0), (0, 0)), (1, 0)) = false := by decide +kernel
theorem k_add : dadd (((0, 0), (0, 0)), (1, 0)) (((3, 0), (0, 0)), (1, 0)) = (((3, 0), (0, 0)), (1, 1)) := by decide +kernel
theorem k_d1 : dct (((0, 0), (0, 0)), (1, 0)) = (((0, 0), (0, 0)), (1, 0)) := by decide +kernel
theorem k_d3 : dct (((3, 0), (0, 0)), (1, 0)) = (((3, 0), (0, 0)), (1, 0)) := by decide +kernel
theorem k_rE : rE 9 0 20 = -18 := by decide +kernel
theorem k_qm : qrM (9 * 2 ^ 36) (2 ^ 0) 1 = 786432 := by
 have h : ∀ N r : Nat, N = r * r → qrM N (2 ^ 0) 1 = r := fun N r e => by
  unfold qrM
  have hr : rt (r * r) = r := rt_unique (Nat.le_refl _) (Nat.mul_lt_mul'' (Nat.lt_succ_self r) (Nat.lt_succ_self r))
  rw [Nat.pow_zero, Nat.div_one, e, hr, Nat.mul_one, if_neg (by simp)]; rfl
 exact h _ 786432 (by decide)
theorem k_qr : qr 9 0 (-18) 1 = 786432 := by
 unfold qr
 rw [if_neg (by decide)]
 show ((qrM (9 * 2 ^ 36) (2 ^ 0) 1 : Nat) : Int) = 786432
 exact congrArg Int.ofNat k_qm
theorem k_far3 : dsqrt (9, 0) 20 1 = (3, 0) := by
 rw [dsqrt_is]
 dsimp only
 rw [k_rE, k_qr]; decide +kernel
theorem k_far0 : dsqrt (0, 0) 20 1 = (0, 0) := by decide +kernel
theorem k_n3 : cnorm ((3, 0), (0, 0)) = (9, 0) := by decide +kernel
theorem k_n0 : cnorm ((0, 0), (0, 0)) = (0, 0) := by decide +kernel
theorem k_mul : zmul (((0, 0), (0, 0)), (1, 0)) (((3, 0), (0, 0)), (1, 0)) 20 = (((0, 0), (0, 0)), (1, 2)) := by
 unfold zmul zrad
 dsimp only
 rw [k_n3, k_n0, k_far3, k_far0]; decide +kernel
theorem k_sg1 : sg 1 = 1 := by decide
theorem k_sgm : sg (-1) = -1 := by decide
theorem k_rad : rad (1, 0) = (1, 0) := by decide +kernel
theorem k_gr : Dy.mul (1, 0) (Dy.n (max 3 0, 0)) = (3, 0) := by decide +kernel
theorem k_cmp : cmpY (1, 0) (1, 0) = 0 := by decide +kernel
theorem toldE_q {a : Dc} (hc : ccan a.1 ∧ a.2.n = a.2) (f1 : fD a.1.1 320 1000) (f2 : fD a.1.2 320 1000) (f3 : fD a.2 320 1000) : toldE (rel9 a) := toldE_mk ⟨hc, ⟨sz_mono (sz_fD f1) (by omega) (by omega), sz_mono (sz_fD f2) (by omega) (by omega)⟩, sz_mono (sz_fD f3) (by omega) (by omega)⟩
def s_known10 : FnSpec := ⟨.one .b, fun ds => ds = [], fun _ _ => 0, fun _ _ => true, fun _ _ => 0, fun _ _ => []⟩
theorem good_known10 : Good Tryz.prog (GWL [0, 1, 2, 3, 4, 7]) N0 12 s_known10 := by
 refine goodM 0 (gl good_of10 rfl <| gl good_jIs rfl <| gl good_jApart rfl <| gl good_vOf rfl <| gl good_jHas rfl <| gl good_jIn rfl <| gl good_jAdd rfl <| gl good_zEqualD rfl <| gc good_jMul <| gl good_jGrow rfl <| gl good_jSame rfl gn) Tryz.f12 (by kernel_rfl) (by kernel_rfl) fun ds hp F A Q hF hA hQ => ?_
 have hp : ds = [] := hp
 subst hp
 cbv
 repeat' (first | with_reducible refine And.intro ?_ ?_ | (with_reducible refine safe_lift hA ?_; kernel_rfl) | (intro hc_; (first | (with_reducible exfalso; clear hQ; subst hF hA; simp only [fnOf, find, std, reduceIte, Nat.reduceEqDiff, sp1, sp2, a1, a2, FnSpec.out, Shape.build, leafs, leafCells, tups, oneOf, List.cons_append, List.nil_append, List.length_cons, List.length_nil, s_known10, s_of10, s_jIs, s_jApart, s_vOf, s_jHas, s_jIn, s_jAdd, s_zEqualD, s_jMul, s_jGrow, s_jSame, rv_raw, rv_N0, dv, dz, dx, dcn, dm_raw, dm_N0, vI_N0, raw6_is, Prod.eta, rv9_raw, re2, re4, re6, s_uOf, kd_0, kd_2, kd_3, kd_i, n_2, n_3, n_4, n_m1, one_n, zero_n, k_ap1, k_ap2, k_has, k_in1, k_in2, k_add, k_d1, k_d3, k_mul, k_sg1, k_sgm, k_rad, k_gr, k_cmp, Bool.not_eq_eq_eq_not, decide_eq_true_eq, decide_eq_false_iff_not, not_true_eq_false, not_false_eq_true, decide_true, decide_false, Bool.true_and, Bool.and_true, Bool.not_true, Bool.not_false, beq_self_eq_true, Bool.true_eq_false, Bool.false_eq_true, reduceCtorEq, gt_iff_lt, ge_iff_le, true_and, and_true, and_self, Bool.false_eq, Bool.and_self, eq_self, Int.reduceLE, Int.reduceNeg, Int.reduceLT, Int.reduceBEq] at hc_; done) | (clear hc_; cbv))))
 all_goals subst hF hA
 all_goals (try simp only [fnOf, find, std, reduceIte, Nat.reduceEqDiff, sp1, sp2, a1, a2, FnSpec.out, Shape.build, leafs, leafCells, tups, oneOf, List.cons_append, List.nil_append, List.length_cons, List.length_nil, s_known10, s_of10, s_jIs, s_jApart, s_vOf, s_jHas, s_jIn, s_jAdd, s_zEqualD, s_jMul, s_jGrow, s_jSame, rv_raw, rv_N0, dv, dz, dx, dcn, dm_raw, dm_N0, vI_N0, raw6_is, Prod.eta, rv9_raw, re2, re4, re6, s_uOf, kd_0, kd_2, kd_3, kd_i, n_2, n_3, n_4, n_m1, one_n, zero_n, k_ap1, k_ap2, k_has, k_in1, k_in2, k_add, k_d1, k_d3, k_mul, k_sg1, k_sgm, k_rad, k_gr, k_cmp, Bool.not_eq_eq_eq_not, decide_eq_true_eq, decide_eq_false_iff_not, not_true_eq_false, not_false_eq_true, decide_true, decide_false, Bool.true_and, Bool.and_true, Bool.not_true, Bool.not_false, beq_self_eq_true, Bool.true_eq_false, Bool.false_eq_true, reduceCtorEq, gt_iff_lt, ge_iff_le, true_and, and_true, and_self, Bool.false_eq, Bool.and_self, eq_self, Int.reduceLE, Int.reduceNeg, Int.reduceLT, Int.reduceBEq] at hQ ⊢)
 all_goals (repeat' (first
  | with_reducible exact hQ
  | with_reducible exact isi_int _ _
  | with_reducible exact True.intro
  | exact ⟨isi_int _ _, by decide, by decide⟩
  | with_reducible refine And.intro ?_ ?_))
 all_goals first
  | (refine okF_A (okF_q (a := (((_, _), (_, _)), (_, _))) ?_ ?_ ?_) <;> exact fD_int (by decide) (by decide))
  | (refine okF_q (a := (((_, _), (_, _)), (_, _))) ?_ ?_ ?_ <;> exact fD_int (by decide) (by decide))
  | exact okG_mk (okSM_q (a := (0, 0)) (fD_int (by decide) (by decide))).1 (okSM_q (a := (1, 0)) (fD_int (by decide) (by decide))).1
  | (refine toldE_q (a := (((_, _), (_, _)), (_, _))) ⟨⟨?_, ?_⟩, ?_⟩ ?_ ?_ ?_ <;> first | exact fD_int (by decide) (by decide) | decide +kernel)
  | trace_state
end Go.Proofs.YtnjjfakjnkhhjaaGreatDoor.Ev
namespace Go.Proofs.YtnjjfakjnkhhjaaGreatDoor.Ev
open Go Go.RowKit
theorem cadd_ca2 (a b : Re) : cadd (ca a) (ca b) = cadd a b := Prod.ext (nn_eq (add_n _ _) (add_n _ _) (by rw [q1_add, q1_add, ca_n1, ca_n1])) (nn_eq (add_n _ _) (add_n _ _) (by rw [q2_add, q2_add, ca_n2, ca_n2]))
theorem cneg_ca2 (a : Re) : cneg (ca a) = cneg a := Prod.ext (nn_eq (neg_n _) (neg_n _) (by rw [q1_neg, q1_neg, ca_n1])) (nn_eq (neg_n _) (neg_n _) (by rw [q2_neg, q2_neg, ca_n2]))
theorem dadd_doc (a b : Dc) : dadd a b = (cadd (dct a).1 (dct b).1, (dct a).2.add (dct b).2) := by
 unfold dadd dct; dsimp only; rw [cadd_ca2]
theorem dneg_doc (a : Dc) : dneg a = (cneg (dct a).1, (dct a).2) := by
 unfold dneg dct; dsimp only; rw [cneg_ca2]
theorem dsame_doc (a b : Dc) : (decide (ca a.1 = ca b.1) && (cmpY (rad a.2) (rad b.2) == 0)) = decide (dct a = dct b) := by
 have h : cmpY (rad a.2) (rad b.2) = 0 ↔ rad a.2 = rad b.2 := by
  constructor
  ·intro h
   refine nn_eq (rad_n _) (rad_n _) (Rat.le_antisymm ((cmpY_le _ _).1 (by omega)) ?_)
   exact (cmp_ge _ _).1 (by show 0 ≤ cmpY (rad a.2) (rad b.2); omega)
  ·intro h
   have h1 := (cmpY_le (rad a.2) (rad b.2)).2 (by rw [h]; exact Rat.le_refl)
   have h2 : 0 ≤ cmpY (rad a.2) (rad b.2) := (cmp_ge _ _).2 (by rw [h]; exact Rat.le_refl)
   omega
 rw [Bool.eq_iff_iff, Bool.and_eq_true, decide_eq_true_iff, decide_eq_true_iff, beq_iff_eq, h, ← Prod.mk.injEq]
 rfl
end Go.Proofs.YtnjjfakjnkhhjaaGreatDoor.Ev
namespace Go.Proofs.YtnjjfakjnkhhjaaGreatDoor.Ev
open Go Go.RowKit
theorem okSM_few {n : Nat} {c : List D} {e : Int} (g : n ≤ 100000 → okC n c) (k : n ≤ 10 ∧ -1000 ≤ e ∧ e ≤ 1000) : okSM n c e ∧ n ≤ 10 ∧ -1000 ≤ e ∧ e ≤ 1000 := ⟨⟨⟨g (by omega), by omega, by omega, by omega⟩, by omega, by omega, by omega⟩, k.1, k.2.1, k.2.2⟩
theorem okF_few {s1 s2 s3 : Bool} {n1 n2 n3 : Nat} {c1 c2 c3 : List D} {e1 e2 e3 : Int} (g1 : n1 ≤ 100000 → okC n1 c1) (g2 : n2 ≤ 100000 → okC n2 c2) (g3 : n3 ≤ 100000 → okC n3 c3) (k : fewDQ n1 e1 n2 e2 n3 e3) : okF (.agg [.bool s1, .sl n1 c1, .int .i64 e1, .bool s2, .sl n2 c2, .int .i64 e2, .bool s3, .sl n3 c3, .int .i64 e3]) := ⟨okSM_few g1 k.1.1, okSM_few g2 k.1.2, okSM_few g3 k.2⟩
theorem okSM_z {a : Dy} (hn : a.n = a) {L H : Nat} (h : sz a L H) (hb : L + H ≤ 9500) : okSM (N0.ln a.1) (N0.lm a.1) a.2 := by
 have f := sz_can hn h
 have h1 := f.2.1
 have h2 := f.2.2
 exact ⟨okS_fD (f.mono (by omega) (by omega)), f.1.ln (by omega), by omega, by omega⟩
theorem okA_z {a : Dc} (h1 : ccan a.1 ∧ a.2.n = a.2) {L H M K : Nat} (h2 : cz a.1 L H) (h3 : sz a.2 M K) (hb : L + H ≤ 9500) (hc : M + K ≤ 9500) : okA (rel9 a) := ⟨okSM_z h1.1.1 h2.1 hb, okSM_z h1.1.2 h2.2 hb, okSM_z h1.2 h3 hc⟩
theorem okG_z {a : Re} (h1 : ccan a) {L H : Nat} (h2 : cz a L H) (hb : L + H ≤ 9500) : okG (rl4 a) := okG_mk (okSM_z h1.1 h2.1 hb) (okSM_z h1.2 h2.2 hb)
theorem sz_int {n : Int} (h1 : -1000 ≤ n) (h2 : n ≤ 1000) : sz (Dy.n (n, 0)) 0 10 := sz_n (sz_fD (k := 10) (B := 0) ⟨by unfold Fit; omega, by dsimp only; omega, by dsimp only; omega⟩)
theorem okA_grow {a : Dc} (h : qd (dct a)) {n : Int} (h1 : 0 ≤ n) (h2 : n ≤ 255) : okA (rel9 (ca a.1, (rad a.2).mul (Dy.n (max (n + 1) 0, 0)))) :=
 okA_z (a := (ca a.1, (rad a.2).mul (Dy.n (max (n + 1) 0, 0)))) ⟨h.1.1, mul_n _ _⟩ h.2.1 (sz_mul h.2.2 (sz_int (by omega) (by omega))) (by omega) (by omega)
theorem lev_zero {r : Rat} (h : 0 ≤ r) : lev 0 0 r := ⟨h, by
 have := Rat.mul_nonneg h h
 grind⟩
theorem din_self (a : Dc) : din a a = true := din_iff.2 ⟨Rat.le_refl, by
 rw [show qv a.1.1 - qv a.1.1 = 0 by grind, show qv a.1.2 - qv a.1.2 = 0 by grind, show qv (rad a.2) - qv (rad a.2) = 0 by grind]
 exact lev_zero Rat.le_refl⟩
theorem dapart_of_in {a b : Dc} (h : din a b = true) : dapart a b = false := dapart_iff.2 (by
 obtain ⟨h1, h2⟩ := din_iff.1 h
 have h3 := rad_nn a.2
 exact lev_mono h2 (by grind))
theorem dapart_self (a : Dc) : dapart a a = false := dapart_of_in (din_self a)
theorem dhas_self (a : Dc) : dhas a a.1 = true := dhas_iff.2 (by
 unfold dat
 rw [show qv a.1.1 - qv a.1.1 = 0 by grind, show qv a.1.2 - qv a.1.2 = 0 by grind]
 exact lev_zero (rad_nn _))
theorem qv_int (n : Int) : qv (n, 0) = n := by unfold qv; dsimp only; rw [Rat.zpow_zero, Rat.mul_one]
theorem din_grow (a : Dc) {n : Int} (h : 1 ≤ n) : din a (ca a.1, (rad a.2).mul (Dy.n (max n 0, 0))) = true := by
 have h0 := rad_nn a.2
 have hn : (1 : Rat) ≤ ((max n 0 : Int) : Rat) := by exact_mod_cast (show (1 : Int) ≤ max n 0 by omega)
 have e1 : qv ((rad a.2).mul (Dy.n (max n 0, 0))) = qv (rad a.2) * ((max n 0 : Int) : Rat) := by rw [qv_mul, qv_n, qv_int]
 have h1 : qv (rad a.2) * 1 ≤ qv (rad a.2) * ((max n 0 : Int) : Rat) := Rat.mul_le_mul_of_nonneg_left hn h0
 have h2 : qv (rad a.2) ≤ qv (rad ((rad a.2).mul (Dy.n (max n 0, 0)))) := by
  rw [rad_id (r := (rad a.2).mul (Dy.n (max n 0, 0))) (by rw [e1]; grind), e1]; grind
 refine din_iff.2 ⟨h2, ?_⟩
 dsimp only
 rw [ca_n1, ca_n2, show qv a.1.1 - qv a.1.1 = 0 by grind, show qv a.1.2 - qv a.1.2 = 0 by grind]
 exact lev_zero (by grind)
end Go.Proofs.YtnjjfakjnkhhjaaGreatDoor.Ev
namespace Go.Proofs.YtnjjfakjnkhhjaaGreatDoor.Ev
open Go Go.RowKit
def okPF (x : D) : Prop := match x with
 | .agg [.bool _, .sl n1 c1, .int .i64 e1, .bool _, .sl n2 c2, .int .i64 e2, .bool _, .sl n3 c3, .int .i64 e3, .bool _, .sl n4 c4, .int .i64 e4] => ((okSM n1 c1 e1 ∧ n1 ≤ 10 ∧ -1000 ≤ e1 ∧ e1 ≤ 1000) ∧ (okSM n2 c2 e2 ∧ n2 ≤ 10 ∧ -1000 ≤ e2 ∧ e2 ≤ 1000)) ∧ (okSM n3 c3 e3 ∧ n3 ≤ 10 ∧ -1000 ≤ e3 ∧ e3 ≤ 1000) ∧ okSM n4 c4 e4 ∧ n4 ≤ 10 ∧ -1000 ≤ e4 ∧ e4 ≤ 1000
 | _ => False
theorem okPF_arg {x : D} (h : okPF x) : ∃ s1 n1 c1 e1 s2 n2 c2 e2 s3 n3 c3 e3 s4 n4 c4 e4, x = .agg [.bool s1, .sl n1 c1, .int .i64 e1, .bool s2, .sl n2 c2, .int .i64 e2, .bool s3, .sl n3 c3, .int .i64 e3, .bool s4, .sl n4 c4, .int .i64 e4] ∧ ((okSM n1 c1 e1 ∧ n1 ≤ 10 ∧ -1000 ≤ e1 ∧ e1 ≤ 1000) ∧ (okSM n2 c2 e2 ∧ n2 ≤ 10 ∧ -1000 ≤ e2 ∧ e2 ≤ 1000)) ∧ (okSM n3 c3 e3 ∧ n3 ≤ 10 ∧ -1000 ≤ e3 ∧ e3 ≤ 1000) ∧ okSM n4 c4 e4 ∧ n4 ≤ 10 ∧ -1000 ≤ e4 ∧ e4 ≤ 1000 := by
 unfold okPF at h
 split at h
 ·exact ⟨_, _, _, _, _, _, _, _, _, _, _, _, _, _, _, _, rfl, h⟩
 ·exact h.elim
def zaround (X : Rc) (p : Int) : Dc := (pmid X, dsqrt (cnorm (csub (X.1.2, X.2.2) (pmid X))) p 1)
theorem qv_scl_2 (a : Dy) : qv (a.scl (-2)) = qv a / 4 := by
 unfold Dy.scl; rw [qv_n]; show qv (a.1, a.2 + (-2)) = _
 unfold qv; dsimp only; rw [Rat.zpow_add (by decide)]; have : (2 : Rat) ^ (-2 : Int) = 1 / 4 := by decide +kernel
 rw [this]; grind
theorem qv_scl_1 (a : Dy) : qv (a.scl (-1)) = qv a / 2 := by
 unfold Dy.scl; rw [qv_n]; show qv (a.1, a.2 + (-1)) = _
 unfold qv; dsimp only; rw [Rat.zpow_add (by decide)]; have : (2 : Rat) ^ (-1 : Int) = 1 / 2 := by decide +kernel
 rw [this]; grind
theorem around_norm (X : Rc) : (dist2 (X.1.1, X.2.1) (X.1.2, X.2.2)).scl (-2) = cnorm (csub ((rcn X).1.2, (rcn X).2.2) (pmid (rcn X))) :=
 nn_eq (scl_n _ _) (norm_n _) (by
  rw [qv_scl_2, qv_dist2, q_norm, q1_sub, q2_sub, pmid_rcn]
  unfold pmid; dsimp only
  rw [qv_scl_1, qv_scl_1, qv_add, qv_add]
  have h : ∀ x : Re, (qv (rn x).2 = qv x.2 ∨ qv (rn x).2 = qv x.1) := fun x => by
   unfold rn; split
   ·exact .inl (qv_n _)
   ·exact .inr (qv_n _)
  show _ = (qv (rn X.1).2 - _) * (qv (rn X.1).2 - _) + (qv (rn X.2).2 - _) * (qv (rn X.2).2 - _)
  rcases h X.1 with e | e <;> rcases h X.2 with f | f <;> rw [e, f] <;> grind)
theorem sz_quarter {a : Dy} {L H : Nat} (h : sz a L H) : sz (a.scl (-2)) (L + 2) (H + 1) := by
 have e : a.scl (-2) = a.mul (1, -2) := nn_eq (scl_n _ _) (mul_n _ _) (by
  rw [qv_scl_2, qv_mul]; have : qv (1, -2) = 1 / 4 := by decide +kernel
  rw [this]; grind)
 rw [e]; exact sz_mul h (sz_raw (k := 1) (L := 2) (B := 0) (by unfold Fit; decide) (by decide) (by decide))
def s_jAround : FnSpec := sp2 DS (fun x y => okPF x ∧ isi .i64 y) (fun x y i => re6 (zaround (rcn (rv8 x)) (dz y)) i) (fun _ _ _ => false)
theorem good_jAround : Good Tryz.prog (GWL [0, 1, 2, 3]) N0 45 s_jAround := by
 refine goodM 0 (gl good_jBetween rfl <| gl good_cScale rfl <| gl good_hMid rfl <| gl good_jRoot rfl gn) Tryz.f45 (by kernel_rfl) (by kernel_rfl) fun ds hp F A Q hF hA hQ => ?_
 obtain ⟨x, y, rfl, hx, hy⟩ := sp2_arg hp
 obtain ⟨s1, n1, c1, e1, s2, n2, c2, e2, s3, n3, c3, e3, s4, n4, c4, e4, rfl, ⟨hf1, hf2⟩, hf3, hf4⟩ := okPF_arg hx
 obtain ⟨k, rfl⟩ := isi_arg hy
 have g1 := okG_mk (s := s1) (t := s3) hf1.1 hf3.1
 have g2 := okG_mk (s := s2) (t := s4) hf2.1 hf4.1
 have hN := around_norm (((vI s1 c1, e1), (vI s2 c2, e2)), ((vI s3 c3, e3), (vI s4 c4, e4)))
 have z1 := sz_fD (fD_few (s := s1) hf1)
 have z2 := sz_fD (fD_few (s := s2) hf2)
 have z3 := sz_fD (fD_few (s := s3) hf3)
 have z4 := sz_fD (fD_few (s := s4) hf4)
 have zD := sz_dist (a := ((vI s1 c1, e1), (vI s3 c3, e3))) (b := ((vI s2 c2, e2), (vI s4 c4, e4))) ⟨z1, z3⟩ ⟨z2, z4⟩
 have mD := mid_mk (dist2_n _ _) zD (by omega) (by omega)
 have oD := mid_okD mD
 have lD := Nat.le_trans (mid_ln mD) (show 20000 ≤ 90000 by omega)
 have tD := toldM_mk (midS_mk (scl_n _ _) (sz_quarter zD) (by omega) (by omega))
 have hS : smP (.agg [.bool s1, .sl n1 c1, .int .i64 e1, .bool s2, .sl n2 c2, .int .i64 e2, .bool s3, .sl n3 c3, .int .i64 e3, .bool s4, .sl n4 c4, .int .i64 e4]) := ⟨⟨⟨hf1.1.1, hf2.1.1, hf3.1.1, hf4.1.1⟩, ⟨hf1.1.2, hf2.1.2⟩, hf3.1.2, hf4.1.2⟩, ⟨z1, z2⟩, z3, z4⟩
 obtain ⟨d, hd⟩ : ∃ d : Dy, dist2 ((vI s1 c1, e1), (vI s3 c3, e3)) ((vI s2 c2, e2), (vI s4 c4, e4)) = d := ⟨_, rfl⟩
 rw [hd] at oD lD tD
 dsimp only at hN
 rw [hd] at hN
 clear hp hx hy zD mD z1 z2 z3 z4
 cbv
 repeat' (first | with_reducible refine And.intro ?_ ?_ | (with_reducible refine safe_lift hA ?_; kernel_rfl) | (intro hc_; cbv))
 all_goals (repeat (rw [safe_true hA, true_and]; rotate_left; kernel_rfl))
 all_goals subst hF hA
 all_goals simp only [fnOf, find, std, reduceIte, Nat.reduceEqDiff, sp1, sp2, a1, a2, FnSpec.out, Shape.build, leafs, leafCells, tups, oneOf, List.cons_append, List.nil_append, List.length_cons, List.length_nil, s_jAround, s_jBetween, s_cScale, s_hMid, s_jRoot, rv_raw, rv_N0, dv, dz, dx, dcn, dm_raw, dm_N0, vI_N0, raw6_is, Prod.eta, rv9_raw, re2, re4, re6, decide_eq_true_eq, decide_eq_false_iff_not, hd, ← hN, zaround, rv8, rw12_is] at *
 all_goals (repeat' (first
  | with_reducible exact hQ
  | with_reducible assumption
  | with_reducible exact isi_int _ _
  | with_reducible refine And.intro ?_ ?_
  | omega))
 all_goals first
  | exact hQ
  | trace_state
end Go.Proofs.YtnjjfakjnkhhjaaGreatDoor.Ev
