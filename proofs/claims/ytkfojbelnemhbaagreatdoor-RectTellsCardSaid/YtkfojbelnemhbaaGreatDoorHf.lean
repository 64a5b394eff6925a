import Derived.Test.YtkfojbelnemhbaaGreatDoorHa
set_option linter.all false
namespace Go.Proofs.YtkfojbelnemhbaaGreatDoor.Ev
open Go Go.RowKit
def pin (x : Rc) (u v : Rat) : Prop := rin x.1 u ∧ rin x.2 v
theorem pin_add {x y : Rc} {u v s t : Rat} (h : pin x u v) (k : pin y s t) : pin (padd x y) (u + s) (v + t) := ⟨radd_in h.1 k.1, radd_in h.2 k.2⟩
theorem pin_sub {x y : Rc} {u v s t : Rat} (h : pin x u v) (k : pin y s t) : pin (psub x y) (u - s) (v - t) := ⟨rsub_in h.1 k.1, rsub_in h.2 k.2⟩
theorem pin_neg {x : Rc} {u v : Rat} (h : pin x u v) : pin (pneg x) (-u) (-v) := ⟨rneg_in h.1, rneg_in h.2⟩
theorem pin_mul {x y : Rc} {u v s t : Rat} (h : pin x u v) (k : pin y s t) : pin (pmul x y) (u * s - v * t) (u * t + v * s) :=
 ⟨rsub_in (rmul_in h.1 k.1) (rmul_in h.2 k.2), radd_in (rmul_in h.1 k.2) (rmul_in h.2 k.1)⟩
theorem rin_sq {x : Re} {u : Rat} (h : rin x u) : rin (rpow x 2) (u * u) := by
 have := rpow_in h 2
 rwa [Rat.pow_succ, Rat.pow_succ, Rat.pow_zero, Rat.one_mul] at this
theorem pin_sq {x : Rc} {u v : Rat} (h : pin x u v) : pin (psq x) (u * u - v * v) (u * v + u * v) := ⟨rsub_in (rin_sq h.1) (rin_sq h.2), radd_in (rmul_in h.1 h.2) (rmul_in h.1 h.2)⟩
theorem rin_norm {x : Rc} {u v : Rat} (h : pin x u v) : rin (pnorm x) (u * u + v * v) := radd_in (rin_sq h.1) (rin_sq h.2)
theorem pin_round {x : Rc} {u v : Rat} (h : pin x u v) (p : Int) : pin (pround x p) u v := ⟨rround_in h.1, rround_in h.2⟩
def pat (x : Rc) (s : Re) : Prop := pin x (qv s.1) (qv s.2)
theorem pat_add {x y : Rc} {s t : Re} (h : pat x s) (k : pat y t) : pat (padd x y) (cadd s t) := by
 unfold pat; rw [q1_add, q2_add]; exact pin_add h k
theorem pat_sub {x y : Rc} {s t : Re} (h : pat x s) (k : pat y t) : pat (psub x y) (csub s t) := by
 unfold pat; rw [q1_sub, q2_sub]; exact pin_sub h k
theorem pat_neg {x : Rc} {s : Re} (h : pat x s) : pat (pneg x) (cneg s) := by
 unfold pat; rw [q1_neg, q2_neg]; exact pin_neg h
theorem pat_mul {x y : Rc} {s t : Re} (h : pat x s) (k : pat y t) : pat (pmul x y) (cmul s t) := by
 unfold pat; rw [q1_mul, q2_mul]; exact pin_mul h k
theorem pat_sq {x : Rc} {s : Re} (h : pat x s) : pat (psq x) (cmul s s) := by
 unfold pat; rw [q1_mul, q2_mul, Rat.mul_comm (qv s.2) (qv s.1)]; exact pin_sq h
theorem pat_pt (s : Re) : pat (ppt s) s := ⟨⟨Rat.le_refl, Rat.le_refl⟩, Rat.le_refl, Rat.le_refl⟩
theorem pat_pow {x : Rc} {s : Re} (h : pat x s) : ∀ k, pat (ppw x k) (cpw s k)
 | 0 => pat_pt cone
 | k + 1 => pat_mul (pat_pow h k) h
theorem rin_cnorm {x : Rc} {s : Re} (h : pat x s) : rin (pnorm x) (qv (cnorm s)) := by rw [q_norm]; exact rin_norm h
def phasB (x : Rc) (s : Re) : Bool := hasB x.1 s.1 && hasB x.2 s.2
theorem phas_iff {x : Rc} {s : Re} : phasB x s = true ↔ pat (rcn x) s := by
 unfold phasB pat pin rcn
 rw [Bool.and_eq_true, hasB_iff, hasB_iff]
theorem phas_of {x : Rc} {s : Re} (hc : pcan x) (h : pat x s) : phasB x s = true := by rw [phas_iff, hc.id]; exact h
theorem pat_ca {x : Rc} {s : Re} (h : pat x s) : pat x (ca s) := by unfold pat; rw [q1_ca, q2_ca]; exact h
theorem pcan_add {x y : Rc} (h : pcan x) (k : pcan y) : pcan (padd x y) := ⟨rcan_radd h.1.1 k.1.1, rcan_radd h.2.1 k.2.1⟩
theorem pcan_sub {x y : Rc} (h : pcan x) (k : pcan y) : pcan (psub x y) := ⟨rcan_rsub h.1.1 k.1.1, rcan_rsub h.2.1 k.2.1⟩
theorem pcan_neg {x : Rc} (h : pcan x) : pcan (pneg x) := ⟨rcan_rneg h.1.1, rcan_rneg h.2.1⟩
theorem pcan_mul {x y : Rc} (h : pcan x) (k : pcan y) : pcan (pmul x y) := ⟨rcan_rsub (rcan_rmul h.1.1 k.1.1).1 (rcan_rmul h.2.1 k.2.1).1, rcan_radd (rcan_rmul h.1.1 k.2.1).1 (rcan_rmul h.2.1 k.1.1).1⟩
theorem pcan_sq {x : Rc} (h : pcan x) : pcan (psq x) := ⟨rcan_rsub (rcan_rpow h.1.1 2).1 (rcan_rpow h.2.1 2).1, rcan_radd (rcan_rmul h.1.1 h.2.1).1 (rcan_rmul h.1.1 h.2.1).1⟩
theorem rcan_norm {x : Rc} (h : pcan x) : rcan (pnorm x) := rcan_radd (rcan_rpow h.1.1 2).1 (rcan_rpow h.2.1 2).1
theorem pcan_hull {x y : Rc} (h : pcan x) (k : pcan y) : pcan (phull x y) := ⟨rcan_rhull h.1 k.1, rcan_rhull h.2 k.2⟩
theorem rin_divZ {x y : Re} {a n c : Rat} (hy : rcan y) (h : rin x a) (k : rin y n) (hc : c * n = 1) (hz : er0 y = 0) (p : Int) : rin (rdivZ x y p) (a * c) := by
 have h0 := er0_0 hz
 have e1 : rdivZ x y p = rdiv x y p := if_neg h0
 rw [e1]
 have hh : ¬zeroY (rn y) = true := by rw [hy.id]; exact h0
 have h1 := not_zero hh
 rw [hy.id] at h1
 exact rround_in (rmul_in h (rinv_in h1 k hc))
theorem pin_inv {y : Rc} {s t c : Rat} (hy : pcan y) (k : pin y s t) (hc : c * (s * s + t * t) = 1) (hz : er0 (pnorm y) = 0) (p : Int) : pin (pinvZ y p) (s * c) (-t * c) :=
 ⟨rin_divZ (rcan_norm hy) k.1 (rin_norm k) hc hz p, rin_divZ (rcan_norm hy) (rneg_in k.2) (rin_norm k) hc hz p⟩
theorem pin_div {x y : Rc} {u v s t c : Rat} (hy : pcan y) (h : pin x u v) (k : pin y s t) (hc : c * (s * s + t * t) = 1) (hz : er0 (pnorm y) = 0) (p : Int) :
  pin (pdivZ x y p) ((u * s + v * t) * c) ((v * s - u * t) * c) := by
 have e1 : pdivZ x y p = pround (pmul x (pinvZ y p)) p := if_pos hz
 rw [e1]
 have h1 := pin_round (pin_mul h (pin_inv hy k hc hz p)) p
 have e2 : u * (s * c) - v * (-t * c) = (u * s + v * t) * c := by grind
 have e3 : u * (-t * c) + v * (s * c) = (v * s - u * t) * c := by grind
 rw [e2, e3] at h1
 exact h1
theorem sq_nn (a : Rat) : 0 ≤ a * a := by
 rcases Rat.le_total (a := 0) (b := a) with h | h
 ·exact Rat.mul_nonneg h h
 ·have h1 : 0 ≤ -a := by grind
  have h2 := Rat.mul_nonneg h1 h1
  have h3 : -a * -a = a * a := by grind
  rwa [h3] at h2
theorem norm_pos {y : Rc} {s t : Rat} (hy : pcan y) (k : pin y s t) (hz : er0 (pnorm y) = 0) : 0 < s * s + t * t := by
 have h0 := er0_0 hz
 have hh : ¬zeroY (rn (pnorm y)) = true := by rw [(rcan_norm hy).id]; exact h0
 have h1 := not_zero hh
 rw [(rcan_norm hy).id] at h1
 have h2 := rin_norm k
 rcases h1 with h1 | h1
 ·exact rat_lt2 h1 h2.1
 ·have h3 : s * s + t * t < 0 := rat_lt1 h2.2 h1
  have h4 := sq_nn s
  have h5 := sq_nn t
  grind
theorem inv_ex {n : Rat} (h : 0 < n) : ∃ c : Rat, c * n = 1 ∧ 0 < c := by
 refine ⟨n⁻¹, Rat.inv_mul_cancel _ (by grind), ?_⟩
 exact Rat.inv_pos.2 h
theorem le_cmp {a b : Dy} (h : qv a ≤ qv b) : cmpY a b ≤ 0 := (cmp_le a b).2 h
def betwB (v n : Dy) (y : Re) : Bool := decide (cmpY (y.1.mul n) v ≤ 0) && decide (cmpY v (y.2.mul n) ≤ 0)
theorem betw_of {v n : Dy} {y : Re} {c : Rat} (hn : 0 < qv n) (hc : c * qv n = 1) (h : rin y (qv v * c)) : betwB v n y = true := by
 have e : qv v * c * qv n = qv v := by rw [Rat.mul_assoc, hc, Rat.mul_one]
 have h1 := Rat.mul_le_mul_of_nonneg_right h.1 (Rat.le_of_lt hn)
 have h2 := Rat.mul_le_mul_of_nonneg_right h.2 (Rat.le_of_lt hn)
 rw [e] at h1 h2
 unfold betwB
 rw [Bool.and_eq_true, decide_eq_true_iff, decide_eq_true_iff]
 exact ⟨le_cmp (by rw [qv_mul]; exact h1), le_cmp (by rw [qv_mul]; exact h2)⟩
theorem div_holds {x y : Rc} {a b : Re} (hy : pcan y) (h : pat x a) (k : pat y b) (hz : er0 (pnorm y) = 0) (p : Int) :
  betwB (cmul a (b.1, b.2.neg)).1 (cnorm b) (pdivZ x y p).1 = true ∧ betwB (cmul a (b.1, b.2.neg)).2 (cnorm b) (pdivZ x y p).2 = true := by
 have hn : 0 < qv (cnorm b) := by rw [q_norm]; exact norm_pos hy k hz
 obtain ⟨c, hc, _⟩ := inv_ex hn
 have hd := pin_div hy h k (c := c) (by rw [← q_norm]; exact hc) hz p
 refine ⟨betw_of hn hc ?_, betw_of hn hc ?_⟩
 ·have e : qv (cmul a (b.1, b.2.neg)).1 = qv a.1 * qv b.1 + qv a.2 * qv b.2 := by rw [q1_mul]; show _ * qv b.1 - _ * qv b.2.neg = _; rw [qv_neg]; grind
  rw [e]; exact hd.1
 ·have e : qv (cmul a (b.1, b.2.neg)).2 = qv a.2 * qv b.1 - qv a.1 * qv b.2 := by rw [q2_mul]; show _ * qv b.2.neg + _ * qv b.1 = _; rw [qv_neg]; grind
  rw [e]; exact hd.2
theorem div_back {x y : Rc} {a b : Re} (hy : pcan y) (h : pat x a) (k : pat y b) (hz : er0 (pnorm y) = 0) (p : Int) : pat (pmul (pdivZ x y p) y) a := by
 have hn : 0 < qv (cnorm b) := by rw [q_norm]; exact norm_pos hy k hz
 obtain ⟨c, hc, _⟩ := inv_ex hn
 rw [q_norm] at hc
 have hd := pin_mul (pin_div hy h k hc hz p) k
 have e1 : (qv a.1 * qv b.1 + qv a.2 * qv b.2) * c * qv b.1 - (qv a.2 * qv b.1 - qv a.1 * qv b.2) * c * qv b.2 = qv a.1 * (c * (qv b.1 * qv b.1 + qv b.2 * qv b.2)) := by grind
 have e2 : (qv a.1 * qv b.1 + qv a.2 * qv b.2) * c * qv b.2 + (qv a.2 * qv b.1 - qv a.1 * qv b.2) * c * qv b.1 = qv a.2 * (c * (qv b.1 * qv b.1 + qv b.2 * qv b.2)) := by grind
 rw [e1, e2, hc, Rat.mul_one, Rat.mul_one] at hd
 exact hd
theorem rsub_refl (x : Re) : rsub_ x x := ⟨Rat.le_refl, Rat.le_refl⟩
theorem radd_less2 {w x z u : Re} (h : rsub_ w x) (k : rsub_ z u) : rsub_ (radd w z) (radd x u) := by
 refine ⟨?_, ?_⟩
 ·show qv (x.1.add u.1) ≤ qv (w.1.add z.1)
  rw [qv_add, qv_add]; have := h.1; have := k.1; grind
 ·show qv (w.2.add z.2) ≤ qv (x.2.add u.2)
  rw [qv_add, qv_add]; have := h.2; have := k.2; grind
theorem rsub_less2 {w x z u : Re} (h : rsub_ w x) (k : rsub_ z u) : rsub_ (rsub w z) (rsub x u) := radd_less2 h (rneg_less k)
theorem end_in {w x : Re} {a : Dy} (h : rsub_ w x) (hw : rok w) (ha : a = w.1 ∨ a = w.2) : rin x (qv a) := by
 rcases ha with rfl | rfl
 ·exact ⟨h.1, Rat.le_trans hw h.2⟩
 ·exact ⟨Rat.le_trans h.1 hw, h.2⟩
theorem rmul_less2 {w x z u : Re} (h : rsub_ w x) (k : rsub_ z u) (hw : rok w) (hz : rok z) : rsub_ (rmul w z) (rmul x u) := by
 obtain ⟨⟨a, b, ha, hb, e1⟩, a', b', ha', hb', e2⟩ := rmul_end (x := w) (y := z)
 refine ⟨?_, ?_⟩
 ·rw [e1, qv_mul]; exact (rmul_in (end_in h hw ha) (end_in k hz hb)).1
 ·rw [e2, qv_mul]; exact (rmul_in (end_in h hw ha') (end_in k hz hb')).2
def psub_ (w x : Rc) : Prop := rsub_ w.1 x.1 ∧ rsub_ w.2 x.2
theorem pmul_less {w x z u : Rc} (h : psub_ w x) (k : psub_ z u) (hw : pcan w) (hz : pcan z) : psub_ (pmul w z) (pmul x u) :=
 ⟨rsub_less2 (rmul_less2 h.1 k.1 hw.1.1 hz.1.1) (rmul_less2 h.2 k.2 hw.2.1 hz.2.1), radd_less2 (rmul_less2 h.1 k.2 hw.1.1 hz.2.1) (rmul_less2 h.2 k.1 hw.2.1 hz.1.1)⟩
theorem ppw_less {w x : Rc} (h : psub_ w x) (hw : pcan w) : ∀ k, psub_ (ppw w k) (ppw x k)
 | 0 => ⟨rsub_refl _, rsub_refl _⟩
 | k + 1 => pmul_less (ppw_less h hw k) h (ppw_can hw k) hw
theorem padd_less {w x z : Rc} (h : psub_ w x) : psub_ (padd w z) (padd x z) := ⟨radd_less h.1, radd_less h.2⟩
theorem psq_less {w x : Rc} (h : psub_ w x) (hw : pcan w) : psub_ (psq w) (psq x) :=
 ⟨rsub_less2 (rpow_less h.1 hw.1.1 2) (rpow_less h.2 hw.2.1 2), radd_less2 (rmul_less2 h.1 h.2 hw.1.1 hw.2.1) (rmul_less2 h.1 h.2 hw.1.1 hw.2.1)⟩
theorem phull_less {w x z : Rc} (h : psub_ w x) : psub_ (phull w z) (phull x z) := ⟨rhull_less h.1, rhull_less h.2⟩
def pinB (x y : Rc) : Bool := inB x.1 y.1 && inB x.2 y.2
theorem pinB_of {w x : Rc} (hw : pcan w) (hx : pcan x) (h : psub_ w x) : pinB w x = true := by
 unfold pinB; rw [inB_of hw.1 hx.1 h.1, inB_of hw.2 hx.2 h.2]; rfl
theorem qv_half (a : Dy) : qv (a.scl (-1)) = qv a / 2 := by
 unfold Dy.scl
 rw [qv_n]
 show qv (a.1, a.2 + -1) = _
 unfold qv
 dsimp only
 rw [Rat.zpow_add two_ne]
 have : (2 : Rat) ^ (-1 : Int) = 1 / 2 := by decide +kernel
 rw [this]; grind
theorem mid_in {x : Re} (h : rok x) : rin x (qv ((x.1.add x.2).scl (-1))) := by
 rw [qv_half, qv_add]
 unfold rok at h
 exact ⟨by grind, by grind⟩
theorem pat_mid {x : Rc} (h : pcan x) : pat x (pmid x) := ⟨mid_in h.1.1, mid_in h.2.1⟩
theorem rsub_one (a b : Dy) : rsub (a, a) (b, b) = (a.sub b, a.sub b) := by
 unfold rsub radd rneg; dsimp only; rw [add_neg]
theorem pmul_pt (x y : Re) : pmul (ppt x) (ppt y) = ppt (cmul x y) := by
 unfold pmul ppt cmul; dsimp only
 rw [rmul_one, rmul_one, rmul_one, rmul_one, rsub_one]; rfl
theorem padd_pt (x y : Re) : padd (ppt x) (ppt y) = ppt (cadd x y) := rfl
theorem rsq_one (a : Dy) : rpow (a, a) 2 = (a.mul a, a.mul a) := by
 have ho : rok (a, a) := Rat.le_refl
 have hc := rcan_rpow ho 2
 obtain ⟨⟨c, hc1, e1⟩, d, hd1, e2⟩ := rpow_end ho 2
 have hcq : c = qv a := Rat.le_antisymm hc1.2 hc1.1
 have hdq : d = qv a := Rat.le_antisymm hd1.2 hd1.1
 have sq : ∀ q : Rat, q ^ 2 = q * q := fun q => by rw [Rat.pow_succ, Rat.pow_succ, Rat.pow_zero, Rat.one_mul]
 refine Prod.ext (nn_eq hc.2.1 (mul_n _ _) ?_) (nn_eq hc.2.2 (mul_n _ _) ?_)
 ·rw [e1, qv_mul, hcq, sq]
 ·rw [e2, qv_mul, hdq, sq]
theorem pnorm_pt (x : Re) : pnorm (ppt x) = (cnorm x, cnorm x) := by
 unfold pnorm ppt cnorm; dsimp only; rw [rsq_one, rsq_one]; rfl
theorem pcan_pt {x : Re} (h : ccan x) : pcan (ppt x) := ⟨⟨Rat.le_refl, h.1, h.1⟩, Rat.le_refl, h.2, h.2⟩
theorem er0_pt (x : Re) : (er0 (pnorm (ppt x)) = 11 ∧ x.1.1 = 0 ∧ x.2.1 = 0) ∨ (er0 (pnorm (ppt x)) = 0 ∧ ¬(x.1.1 = 0 ∧ x.2.1 = 0)) := by
 rw [pnorm_pt]
 have hz := norm_zero (x := x)
 have h1 : zeroY (cnorm x, cnorm x) = decide ((cnorm x).1 = 0) := by
  unfold zeroY; dsimp only
  rw [Bool.eq_iff_iff, Bool.and_eq_true, decide_eq_true_iff, decide_eq_true_iff, decide_eq_true_iff]; omega
 have h2 : sg (cnorm x).1 = 0 ↔ (cnorm x).1 = 0 := sg_eq _
 by_cases h0 : (cnorm x).1 = 0
 ·exact .inl ⟨if_pos (by rw [h1]; exact decide_eq_true h0), hz.1 (h2.2 h0)⟩
 ·exact .inr ⟨if_neg (by rw [h1]; simpa using h0), fun k => h0 (h2.1 (hz.2 k))⟩
end Go.Proofs.YtkfojbelnemhbaaGreatDoor.Ev
