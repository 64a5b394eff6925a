import Derived.Test.YtnjjfakjnkhhjaaGreatDoorHa
set_option maxHeartbeats 2000000
set_option maxRecDepth 100000
set_option linter.all false
namespace Go.Proofs.YtnjjfakjnkhhjaaGreatDoor.Ev
open Go Go.RowKit
abbrev Dc := Re × Dy
def rad (r : Dy) : Dy := if r.1 < 0 then (0, 0) else r.n
def sq2 (x y : Dy) : Dy := (x.add y).mul (x.add y)
def dist2 (a b : Re) : Dy := (sq2 a.1 b.1.neg).add (sq2 a.2 b.2.neg)
def dhas (d : Dc) (c : Re) : Bool := decide (cmpY (dist2 d.1 c) ((rad d.2).mul (rad d.2)) ≤ 0)
def dsub2 (a b : Dc) : Dy := sq2 (rad b.2) (rad a.2).neg
def din (a b : Dc) : Bool := decide (0 ≤ cmpY (rad b.2) (rad a.2)) && decide (cmpY (dist2 a.1 b.1) (dsub2 a b) ≤ 0)
def dapart (a b : Dc) : Bool := decide (0 < cmpY (dist2 a.1 b.1) (sq2 (rad a.2) (rad b.2)))
theorem qv_nn {a : Dy} : (0 : Rat) ≤ qv a ↔ 0 ≤ a.1 := by
 unfold qv
 have h2 : (0 : Rat) < (2 : Rat) ^ a.2 := Rat.zpow_pos (by decide)
 constructor
 ·intro h
  by_cases g : a.1 < 0
  ·exfalso
   have h3 : (a.1 : Rat) < 0 := by exact_mod_cast g
   have h4 : (a.1 : Rat) * (2 : Rat) ^ a.2 < 0 := by
    have := Rat.mul_lt_mul_of_pos_right h3 h2
    rwa [Rat.zero_mul] at this
   exact absurd h (Rat.not_le.2 h4)
  ·omega
 ·intro h
  have h3 : (0 : Rat) ≤ (a.1 : Rat) := by exact_mod_cast h
  exact Rat.mul_nonneg h3 (Rat.le_of_lt h2)
theorem cmpY_le (a b : Dy) : cmpY a b ≤ 0 ↔ qv a ≤ qv b := cmp_le a b
theorem rad_nn (r : Dy) : (0 : Rat) ≤ qv (rad r) := by
 unfold rad; split
 ·rw [qv_c0]; exact Rat.le_refl
 ·rw [qv_n]; exact qv_nn.2 (by omega)
theorem rad_n (r : Dy) : (rad r).n = rad r := by
 unfold rad; split
 ·exact zero_n
 ·exact n_n _
theorem rad_rad (r : Dy) : rad (rad r) = rad r := by
 have h := (qv_nn (a := rad r)).1 (rad_nn r)
 rw [show rad (rad r) = (rad r).n from if_neg (by omega), rad_n]
theorem qv_sq2 (x y : Dy) : qv (sq2 x y) = (qv x + qv y) * (qv x + qv y) := by unfold sq2; rw [qv_mul, qv_add]
theorem qv_dist2 (a b : Re) : qv (dist2 a b) = (qv a.1 - qv b.1) * (qv a.1 - qv b.1) + (qv a.2 - qv b.2) * (qv a.2 - qv b.2) := by
 unfold dist2; rw [qv_add, qv_sq2, qv_sq2, qv_neg, qv_neg]; grind
theorem sq2_swap (x y : Dy) : sq2 x y = sq2 y x := nn_eq (mul_n _ _) (mul_n _ _) (by rw [qv_sq2, qv_sq2, Rat.add_comm])
theorem dist2_n (a b : Re) : (dist2 a b).n = dist2 a b := add_n _ _
theorem dist2_swap (a b : Re) : dist2 a b = dist2 b a := nn_eq (dist2_n _ _) (dist2_n _ _) (by rw [qv_dist2, qv_dist2]; grind)
def lev (u v r : Rat) : Prop := 0 ≤ r ∧ u * u + v * v ≤ r * r
theorem sq_le {x y : Rat} (hy : 0 ≤ y) (h : x * x ≤ y * y) : x ≤ y := by
 rcases Rat.le_total (a := x) (b := y) with g | g
 ·exact g
 ·rcases Rat.le_total (a := x) (b := 0) with k | k
  ·exact Rat.le_trans k hy
  ·have h1 : y * y ≤ y * x := Rat.mul_le_mul_of_nonneg_left g hy
   have h2 : y * x ≤ x * x := Rat.mul_le_mul_of_nonneg_right g k
   have h3 : x * x = y * x := Rat.le_antisymm (Rat.le_trans h h1) h2
   have h4 : y * x = y * y := Rat.le_antisymm (by rw [← h3]; exact h) h1
   have h5 : (x - y) * (x - y) = 0 := by grind
   have h6 : x - y = 0 := by
    rcases Rat.mul_eq_zero.1 h5 with e | e <;> exact e
   grind
theorem lev_mono {u v r s : Rat} (h : lev u v r) (k : r ≤ s) : lev u v s :=
 ⟨Rat.le_trans h.1 k, Rat.le_trans h.2 (Rat.le_trans (Rat.mul_le_mul_of_nonneg_left k h.1) (Rat.mul_le_mul_of_nonneg_right k (Rat.le_trans h.1 k)))⟩
theorem lev_mul {u v r s t q : Rat} (h : lev u v r) (k : lev s t q) : lev (u * s - v * t) (u * t + v * s) (r * q) := by
 refine ⟨Rat.mul_nonneg h.1 k.1, ?_⟩
 have e : (u * s - v * t) * (u * s - v * t) + (u * t + v * s) * (u * t + v * s) = (u * u + v * v) * (s * s + t * t) := by grind
 rw [e]
 have h0 : 0 ≤ s * s + t * t := Rat.add_nonneg (sq_nn s) (sq_nn t)
 have h1 := Rat.mul_le_mul_of_nonneg_right h.2 h0
 have h2 := Rat.mul_le_mul_of_nonneg_left k.2 (sq_nn r)
 have e2 : r * q * (r * q) = r * r * (q * q) := by grind
 rw [e2]
 exact Rat.le_trans h1 h2
theorem lev_dot {u v r s t q : Rat} (h : lev u v r) (k : lev s t q) : u * s + v * t ≤ r * q := by
 refine sq_le (Rat.mul_nonneg h.1 k.1) ?_
 have k2 : lev s (-t) q := ⟨k.1, by have := k.2; grind⟩
 have h3 := (lev_mul h k2).2
 have h4 := sq_nn (u * -t + v * s)
 grind
theorem lev_add {u v r s t q : Rat} (h : lev u v r) (k : lev s t q) : lev (u + s) (v + t) (r + q) := by
 refine ⟨Rat.add_nonneg h.1 k.1, ?_⟩
 have h1 := lev_dot h k
 have h2 := h.2
 have h3 := k.2
 grind
theorem lev_neg {u v r : Rat} (h : lev u v r) : lev (-u) (-v) r := ⟨h.1, by have := h.2; grind⟩
def dat (d : Dc) (c : Re) : Prop := lev (qv c.1 - qv d.1.1) (qv c.2 - qv d.1.2) (qv (rad d.2))
theorem dhas_iff {d : Dc} {c : Re} : dhas d c = true ↔ dat d c := by
 unfold dhas dat lev
 rw [decide_eq_true_iff, cmpY_le, qv_dist2, qv_mul]
 constructor
 ·intro h; exact ⟨rad_nn _, by grind⟩
 ·intro h; have := h.2; grind
theorem din_iff {a b : Dc} : din a b = true ↔ qv (rad a.2) ≤ qv (rad b.2) ∧ lev (qv a.1.1 - qv b.1.1) (qv a.1.2 - qv b.1.2) (qv (rad b.2) - qv (rad a.2)) := by
 unfold din dsub2 lev
 have e1 : (0 ≤ cmpY (rad b.2) (rad a.2)) ↔ qv (rad a.2) ≤ qv (rad b.2) := cmp_ge _ _
 rw [Bool.and_eq_true, decide_eq_true_iff, decide_eq_true_iff, e1, cmpY_le, qv_dist2, qv_sq2, qv_neg]
 constructor
 ·intro ⟨h, k⟩; exact ⟨h, by grind, by grind⟩
 ·intro ⟨h, k, l⟩; exact ⟨h, by grind⟩
theorem dapart_iff {a b : Dc} : dapart a b = false ↔ lev (qv a.1.1 - qv b.1.1) (qv a.1.2 - qv b.1.2) (qv (rad a.2) + qv (rad b.2)) := by
 unfold dapart lev
 have e1 : ¬(0 < cmpY (dist2 a.1 b.1) (sq2 (rad a.2) (rad b.2))) ↔ cmpY (dist2 a.1 b.1) (sq2 (rad a.2) (rad b.2)) ≤ 0 := by omega
 rw [decide_eq_false_iff_not, e1, cmpY_le, qv_dist2, qv_sq2]
 exact ⟨fun h => ⟨Rat.add_nonneg (rad_nn _) (rad_nn _), h⟩, fun h => h.2⟩
theorem dat_in {a b : Dc} {c : Re} (h : dat a c) (k : din a b = true) : dat b c := by
 obtain ⟨_, k⟩ := din_iff.1 k
 have h2 := lev_add h k
 unfold dat
 have e1 : qv c.1 - qv a.1.1 + (qv a.1.1 - qv b.1.1) = qv c.1 - qv b.1.1 := by grind
 have e2 : qv c.2 - qv a.1.2 + (qv a.1.2 - qv b.1.2) = qv c.2 - qv b.1.2 := by grind
 have e3 : qv (rad a.2) + (qv (rad b.2) - qv (rad a.2)) = qv (rad b.2) := by grind
 rwa [e1, e2, e3] at h2
theorem dat_apart {a b : Dc} {c : Re} (h : dat a c) (k : dat b c) : dapart a b = false := by
 rw [dapart_iff]
 have h2 := lev_add (lev_neg h) k
 have e1 : -(qv c.1 - qv a.1.1) + (qv c.1 - qv b.1.1) = qv a.1.1 - qv b.1.1 := by grind
 have e2 : -(qv c.2 - qv a.1.2) + (qv c.2 - qv b.1.2) = qv a.1.2 - qv b.1.2 := by grind
 rwa [e1, e2] at h2
theorem din_trans {a b c : Dc} (h : din a b = true) (k : din b c = true) : din a c = true := by
 obtain ⟨h1, h2⟩ := din_iff.1 h
 obtain ⟨k1, k2⟩ := din_iff.1 k
 refine din_iff.2 ⟨Rat.le_trans h1 k1, ?_⟩
 have h3 := lev_add h2 k2
 have e1 : qv a.1.1 - qv b.1.1 + (qv b.1.1 - qv c.1.1) = qv a.1.1 - qv c.1.1 := by grind
 have e2 : qv a.1.2 - qv b.1.2 + (qv b.1.2 - qv c.1.2) = qv a.1.2 - qv c.1.2 := by grind
 have e3 : qv (rad b.2) - qv (rad a.2) + (qv (rad c.2) - qv (rad b.2)) = qv (rad c.2) - qv (rad a.2) := by grind
 rwa [e1, e2, e3] at h3
theorem dapart_swap (a b : Dc) : dapart a b = dapart b a := by
 unfold dapart; rw [dist2_swap a.1 b.1, sq2_swap (rad a.2)]
theorem dapart_in {a b c : Dc} (h : din a b = true) (k : dapart b c = true) : dapart a c = true := by
 cases hh : dapart a c with
 | true => rfl
 | false =>
  obtain ⟨h1, h2⟩ := din_iff.1 h
  have h4 := dapart_iff.1 hh
  have h5 := lev_add (lev_neg h2) h4
  have e1 : -(qv a.1.1 - qv b.1.1) + (qv a.1.1 - qv c.1.1) = qv b.1.1 - qv c.1.1 := by grind
  have e2 : -(qv a.1.2 - qv b.1.2) + (qv a.1.2 - qv c.1.2) = qv b.1.2 - qv c.1.2 := by grind
  have e3 : qv (rad b.2) - qv (rad a.2) + (qv (rad a.2) + qv (rad c.2)) = qv (rad b.2) + qv (rad c.2) := by grind
  rw [e1, e2, e3] at h5
  rw [dapart_iff.2 h5] at k; cases k
def dadd (a b : Dc) : Dc := (cadd a.1 b.1, (rad a.2).add (rad b.2))
def dneg (a : Dc) : Dc := (cneg a.1, rad a.2)
def mrad (a b : Dc) (F G : Dy) : Dy := ((F.mul (rad b.2)).add ((rad a.2).mul G)).add ((rad a.2).mul (rad b.2))
theorem qv_mrad (a b : Dc) (F G : Dy) : qv (mrad a b F G) = qv F * qv (rad b.2) + qv (rad a.2) * qv G + qv (rad a.2) * qv (rad b.2) := by
 unfold mrad; rw [qv_add, qv_add, qv_mul, qv_mul, qv_mul]
theorem rad_id {r : Dy} (h : (0 : Rat) ≤ qv r) : qv (rad r) = qv r := by
 rw [show rad r = r.n from if_neg (by have := qv_nn.1 h; omega), qv_n]
theorem dat_add {a b : Dc} {s t : Re} (h : dat a s) (k : dat b t) : dat (dadd a b) (cadd s t) := by
 unfold dat dadd
 have h2 := lev_add h k
 dsimp only
 rw [q1_add, q2_add, q1_add, q2_add, rad_id (by rw [qv_add]; exact Rat.add_nonneg (rad_nn _) (rad_nn _)), qv_add]
 have e1 : qv s.1 - qv a.1.1 + (qv t.1 - qv b.1.1) = qv s.1 + qv t.1 - (qv a.1.1 + qv b.1.1) := by grind
 have e2 : qv s.2 - qv a.1.2 + (qv t.2 - qv b.1.2) = qv s.2 + qv t.2 - (qv a.1.2 + qv b.1.2) := by grind
 rwa [e1, e2] at h2
theorem dat_neg {a : Dc} {s : Re} (h : dat a s) : dat (dneg a) (cneg s) := by
 unfold dat dneg
 have h2 := lev_neg h
 dsimp only
 rw [q1_neg, q2_neg, q1_neg, q2_neg, rad_rad]
 have e1 : -(qv s.1 - qv a.1.1) = -qv s.1 - -qv a.1.1 := by grind
 have e2 : -(qv s.2 - qv a.1.2) = -qv s.2 - -qv a.1.2 := by grind
 rwa [e1, e2] at h2
def farOk (c : Re) (r F : Dy) : Prop := (0 : Rat) ≤ qv F ∧ (qv r = 0 ∨ qv (cnorm c) ≤ qv F * qv F)
theorem lev_far {c : Re} {r F : Dy} (h : farOk c r F) {s t : Rat} (k : lev s t (qv r)) : lev (qv c.1 * s - qv c.2 * t) (qv c.1 * t + qv c.2 * s) (qv F * qv r) := by
 rcases h.2 with h0 | h1
 ·have k2 := k.2
  rw [h0] at k2 ⊢
  have hs := sq_nn s
  have ht := sq_nn t
  have e1 : s * s = 0 := Rat.le_antisymm (by grind) hs
  have e2 : t * t = 0 := Rat.le_antisymm (by grind) ht
  have e3 : s = 0 := by rcases Rat.mul_eq_zero.1 e1 with e | e <;> exact e
  have e4 : t = 0 := by rcases Rat.mul_eq_zero.1 e2 with e | e <;> exact e
  subst e3; subst e4
  exact ⟨by grind, by grind⟩
 ·rw [q_norm] at h1
  exact lev_mul ⟨h.1, h1⟩ k
theorem dat_mul {a b : Dc} {s t : Re} {F G R : Dy} (h : dat a s) (k : dat b t) (hF : farOk a.1 (rad b.2) F) (hG : farOk b.1 (rad a.2) G) (hR : qv (mrad a b F G) ≤ qv R) : dat (cmul a.1 b.1, R) (cmul s t) := by
 have hm : (0 : Rat) ≤ qv (mrad a b F G) := by
  rw [qv_mrad]
  exact Rat.add_nonneg (Rat.add_nonneg (Rat.mul_nonneg hF.1 (rad_nn _)) (Rat.mul_nonneg (rad_nn _) hG.1)) (Rat.mul_nonneg (rad_nn _) (rad_nn _))
 have h1 := lev_far hF k
 have h2 := lev_far hG h
 have h3 := lev_mul h k
 have h4 := lev_add (lev_add h1 h2) h3
 unfold dat
 dsimp only
 rw [q1_mul, q2_mul, q1_mul, q2_mul, rad_id (Rat.le_trans hm hR)]
 refine lev_mono (r := qv F * qv (rad b.2) + qv G * qv (rad a.2) + qv (rad a.2) * qv (rad b.2)) ?_ (by rw [qv_mrad] at hR; grind)
 have e1 : qv a.1.1 * (qv t.1 - qv b.1.1) - qv a.1.2 * (qv t.2 - qv b.1.2) + (qv b.1.1 * (qv s.1 - qv a.1.1) - qv b.1.2 * (qv s.2 - qv a.1.2)) + ((qv s.1 - qv a.1.1) * (qv t.1 - qv b.1.1) - (qv s.2 - qv a.1.2) * (qv t.2 - qv b.1.2)) = qv s.1 * qv t.1 - qv s.2 * qv t.2 - (qv a.1.1 * qv b.1.1 - qv a.1.2 * qv b.1.2) := by grind
 have e2 : qv a.1.1 * (qv t.2 - qv b.1.2) + qv a.1.2 * (qv t.1 - qv b.1.1) + (qv b.1.1 * (qv s.2 - qv a.1.2) + qv b.1.2 * (qv s.1 - qv a.1.1)) + ((qv s.1 - qv a.1.1) * (qv t.2 - qv b.1.2) + (qv s.2 - qv a.1.2) * (qv t.1 - qv b.1.1)) = qv s.1 * qv t.2 + qv s.2 * qv t.1 - (qv a.1.1 * qv b.1.2 + qv a.1.2 * qv b.1.1) := by grind
 rwa [e1, e2] at h4
end Go.Proofs.YtnjjfakjnkhhjaaGreatDoor.Ev
namespace Go.Proofs.YtnjjfakjnkhhjaaGreatDoor.Ev
open Go Go.RowKit
def s_qToB : FnSpec := ⟨.agg [.I, .i .i64], fun ds => match ds with | [x, .int .i64 _, .int .i64 _] => canD x ∧ -9800 ≤ dx x ∧ dx x ≤ 9800 ∧ Fit (dm x) 9800 | _ => False, fun ds i => match ds with | [x, .int _ p, .int _ mode] => (match i with | 0 => gm (dm x) (dx x) (stepI (dm x) (dx x) p) mode | _ => ge (dm x) (dx x) (stepI (dm x) (dx x) p) mode) | _ => 0, fun _ _ => false, fun _ _ => 0, fun _ _ => []⟩
theorem qToB_arg {ds : List D} (h : s_qToB.p ds) : ∃ x e k, ds = [x, .int .i64 e, .int .i64 k] ∧ canD x ∧ -9800 ≤ dx x ∧ dx x ≤ 9800 ∧ Fit (dm x) 9800 := by
 match ds, h with
 | [x, .int .i64 e, .int .i64 k], h => exact ⟨x, e, k, rfl, h⟩
theorem topI_inB {z e : Int} (h : Fit z 9800) (h1 : -9800 ≤ e) (h2 : e ≤ 9800) : -9800 ≤ topI z e ∧ topI z e ≤ 19600 := by
 rcases top_bd (e := e) h with h3 | h3 <;> omega
theorem good_qToB : Good Tryz.prog (GWL [0, 1]) N0 113 s_qToB := by
 refine goodM 0 (gc good_qSign <| gc good_qTop <| gc good_qgrid gn) Tryz.f113 (by kernel_rfl) (by kernel_rfl) fun ds hp F A Q hF hA hQ => ?_
 obtain ⟨x, E, md, rfl, hx, hxe, hxe2, hfm⟩ := qToB_arg hp
 obtain ⟨z, e, s, n, cs, rfl, hs, hn, hcs, hz, he, hfz, he1, he2⟩ := canD_arg hx
 clear hp hx
 cbv
 repeat' (first | with_reducible refine And.intro ?_ ?_ | (with_reducible refine safe_lift hA ?_; kernel_rfl) | (intro hc_; cbv))
 all_goals (repeat (rw [safe_true hA, true_and]; rotate_left; kernel_rfl))
 all_goals subst hF hA
 all_goals simp only [fnOf, find, std, reduceIte, Nat.reduceEqDiff, sp1, a1, FnSpec.out, Shape.build, leafs, leafCells, List.cons_append, List.nil_append, s_qToB, s_qSign, s_qTop, s_qgrid, dx, dm_raw, decide_eq_true_eq, decide_eq_false_iff_not, sg_beq, max_min1] at *
 all_goals subst hs hn hcs
 all_goals try simp only [vI_N0] at *
 all_goals have hc : okC (N0.ln z) (N0.lm z) := okC_fitN hfz (by omega)
 all_goals have hln : N0.ln z ≤ 1000 := ln_fit hfz
 case refine_1 => exact hc
 case refine_2.refine_1 => exact Post.d hQ ((gm_lies (.inl hc_)).1.trans hz) ((gm_lies (.inl hc_)).2.trans he)
 all_goals
  have htb := topI_inB hfm hxe hxe2
  have hs1 : IntKind.i64.wrap (IntKind.i64.wrap (topI z e - max 1 (min E 4000)) + 1) = stepI z e E := by rw [wrap_in (z := topI z e - max 1 (min E 4000)) (by omega) (by omega), wrap_in (by omega) (by omega)]; unfold stepI clampE; omega
  have hs2 : -20000 ≤ stepI z e E ∧ stepI z e E ≤ 20000 := by unfold stepI clampE; omega
  (try simp only [hs1] at *)
 all_goals first
  | exact canD_N0 hz he hfz he1 he2
  | exact ⟨canD_N0 hz he hfz he1 he2, by omega, by omega, by omega⟩
  | exact hQ
end Go.Proofs.YtnjjfakjnkhhjaaGreatDoor.Ev
