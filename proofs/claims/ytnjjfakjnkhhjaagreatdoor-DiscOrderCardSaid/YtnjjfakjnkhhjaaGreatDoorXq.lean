import Derived.Test.YtnjjfakjnkhhjaaGreatDoorEq5
import Derived.Test.YtnjjfakjnkhhjaaGreatDoorXv
set_option linter.all false
namespace Go.Proofs.YtnjjfakjnkhhjaaGreatDoor.Ev
open Go Go.RowKit
theorem sg_nonpos7 (z : Int) : sg z ≤ 0 ↔ z ≤ 0 := by rcases sg_cases z with ⟨h1, h2⟩ | ⟨h1, h2⟩ | ⟨h1, h2⟩ <;> rw [h2] <;> omega
abbrev Dy := Int × Int
def Dy.n (a : Dy) : Dy := (tmI a.1, teI a.1 a.2)
def qv (a : Dy) : Rat := (a.1 : Rat) * (2 : Rat) ^ a.2
theorem two_ne : (2 : Rat) ≠ 0 := by decide
theorem zp_nat (n : Nat) : (2 : Rat) ^ (n : Int) = (2 : Rat) ^ n := Rat.zpow_natCast _ _
theorem zp_toNat {e : Int} (h : 0 ≤ e) : (2 : Rat) ^ e = (2 : Rat) ^ e.toNat := by
 rw [← zp_nat, Int.toNat_of_nonneg h]
theorem cast_pow2 (n : Nat) : (((2 : Int) ^ n : Int) : Rat) = (2 : Rat) ^ n := by
 rw [Rat.intCast_pow]; rfl
theorem qv_V {k : Nat} {a : Dy} (h : -(k : Int) ≤ a.2) : ((V k a.1 a.2 : Int) : Rat) = qv a * 2 ^ k := by
 unfold V qv
 rw [Rat.intCast_mul, cast_pow2, ← zp_toNat (by omega), Rat.zpow_add two_ne, zp_nat, Rat.mul_assoc]
theorem p2_pos (k : Nat) : (0 : Rat) < 2 ^ k := Rat.pow_pos (by decide)
theorem low_ex (a b : Dy) : ∃ k : Nat, -(k : Int) ≤ a.2 ∧ -(k : Int) ≤ b.2 := ⟨a.2.natAbs + b.2.natAbs, by omega, by omega⟩
theorem mul_le_iff {a b c : Rat} (hc : 0 < c) : a * c ≤ b * c ↔ a ≤ b := ⟨fun h => Rat.le_of_mul_le_mul_right h hc, fun h => Rat.mul_le_mul_of_nonneg_right h (Rat.le_of_lt hc)⟩
theorem cmp_le (a b : Dy) : cmpD a.1 a.2 b.1 b.2 ≤ 0 ↔ qv a ≤ qv b := by
 obtain ⟨k, h1, h2⟩ := low_ex a b
 rw [cmp_V h1 h2, sg_nonpos7, ← mul_le_iff (p2_pos k), ← qv_V h1, ← qv_V h2, Rat.intCast_le_intCast]
 omega
theorem cmp_ge (a b : Dy) : 0 ≤ cmpD a.1 a.2 b.1 b.2 ↔ qv b ≤ qv a := by
 obtain ⟨k, h1, h2⟩ := low_ex a b
 have h : ∀ z, 0 ≤ sg z ↔ 0 ≤ z := fun z => by rcases sg_cases z with ⟨h1, h2⟩ | ⟨h1, h2⟩ | ⟨h1, h2⟩ <;> rw [h2] <;> omega
 rw [cmp_V h1 h2, h, ← mul_le_iff (p2_pos k), ← qv_V h1, ← qv_V h2, Rat.intCast_le_intCast]
 omega
theorem cmp_gt (a b : Dy) : 0 < cmpD a.1 a.2 b.1 b.2 ↔ qv b < qv a := by
 have := cmp_le a b
 rw [← Rat.not_le, ← this]; omega
theorem cmp_eq (a b : Dy) : cmpD a.1 a.2 b.1 b.2 = 0 ↔ qv a = qv b := by
 have h1 := cmp_le a b
 have h2 := cmp_ge a b
 constructor
 ·intro h
  exact Rat.le_antisymm (h1.1 (by omega)) (h2.1 (by omega))
 ·intro h
  have := h1.2 (by rw [h]; exact Rat.le_refl)
  have := h2.2 (by rw [h]; exact Rat.le_refl)
  omega
theorem qv_n (a : Dy) : qv a.n = qv a := by
 by_cases h0 : a.1 = 0
 ·unfold qv Dy.n; rw [h0, tmI_zero]; simp
 ·have h1 := tmI_mul a.1
  unfold qv Dy.n
  rw [teI_ne h0, Rat.zpow_add two_ne, zp_nat, ← cast_pow2, Rat.mul_comm ((2 : Rat) ^ a.2), ← Rat.mul_assoc, ← Rat.intCast_mul, h1]
theorem qv_inj {a b : Dy} : qv a = qv b ↔ a.n = b.n := by
 obtain ⟨k, h1, h2⟩ := low_ex a b
 constructor
 ·intro h
  have h3 : V k a.1 a.2 = V k b.1 b.2 := by
   rw [← Rat.intCast_inj, qv_V h1, qv_V h2, h]
  obtain ⟨h4, h5⟩ := V_inj h1 h2 h3
  exact Prod.ext h4 h5
 ·intro h
  rw [← qv_n a, ← qv_n b, h]
theorem n_n (a : Dy) : a.n.n = a.n := qv_inj.1 (qv_n a)
def Dy.add (a b : Dy) : Dy := Dy.n (addM a.1 a.2 b.1 b.2, min a.2 b.2)
def Dy.sub (a b : Dy) : Dy := Dy.n (addM a.1 a.2 (-b.1) b.2, min a.2 b.2)
def Dy.mul (a b : Dy) : Dy := Dy.n (a.1 * b.1, a.2 + b.2)
def Dy.neg (a : Dy) : Dy := Dy.n (-a.1, a.2)
def Dy.abs (a : Dy) : Dy := Dy.n ((a.1.natAbs : Nat), a.2)
theorem qv_mk (m e : Int) : qv (m, e) = (m : Rat) * 2 ^ e := rfl
theorem qv_add (a b : Dy) : qv (a.add b) = qv a + qv b := by
 obtain ⟨k, h1, h2⟩ := low_ex a b
 have h3 : -(k : Int) ≤ min a.2 b.2 := by omega
 unfold Dy.add
 rw [qv_n]
 have hp := p2_pos k
 have h4 := qv_V (a := (addM a.1 a.2 b.1 b.2, min a.2 b.2)) h3
 rw [V_add h1 h2, Rat.intCast_add, qv_V h1, qv_V h2, ← Rat.add_mul] at h4
 exact Rat.le_antisymm ((mul_le_iff hp).1 (by rw [h4]; exact Rat.le_refl)) ((mul_le_iff hp).1 (by rw [h4]; exact Rat.le_refl))
theorem qv_neg' (m e : Int) : qv (-m, e) = -qv (m, e) := by
 rw [qv_mk, qv_mk, Rat.intCast_neg, Rat.neg_mul]
theorem qv_neg (a : Dy) : qv a.neg = -qv a := by unfold Dy.neg; rw [qv_n, qv_neg']
theorem qv_sub (a b : Dy) : qv (a.sub b) = qv a - qv b := by
 have := qv_add a (-b.1, b.2)
 rw [qv_neg'] at this
 rw [Rat.sub_eq_add_neg]
 exact this
theorem qv_mul (a b : Dy) : qv (a.mul b) = qv a * qv b := by
 unfold Dy.mul
 rw [qv_n]
 unfold qv
 rw [Rat.intCast_mul, Rat.zpow_add two_ne]
 grind
theorem qv_zero (e : Int) : qv (0, e) = 0 := by unfold qv; simp
def dmin (a b : Dy) : Dy := if cmpD a.1 a.2 b.1 b.2 ≤ 0 then a else b
def dmax (a b : Dy) : Dy := if 0 ≤ cmpD a.1 a.2 b.1 b.2 then a else b
abbrev Re := Dy × Dy
def rn (x : Re) : Re := if cmpD x.1.1 x.1.2 x.2.1 x.2.2 ≤ 0 then (x.1.n, x.2.n) else (x.2.n, x.1.n)
def rok (x : Re) : Prop := qv x.1 ≤ qv x.2
theorem rn_ok (x : Re) : rok (rn x) := by
 unfold rok rn
 split
 ·rw [qv_n, qv_n]; exact (cmp_le _ _).1 (by assumption)
 ·rw [qv_n, qv_n]; exact (cmp_ge _ _).1 (by omega)
theorem rn_id {x : Re} (h : rok x) (h1 : x.1.n = x.1) (h2 : x.2.n = x.2) : rn x = x := by
 unfold rn
 rw [if_pos ((cmp_le _ _).2 h), h1, h2]
def radd (x y : Re) : Re := (x.1.add y.1, x.2.add y.2)
def rneg (x : Re) : Re := (x.2.neg, x.1.neg)
def rsub (x y : Re) : Re := radd x (rneg y)
def rmul (x y : Re) : Re := (dmin (dmin (x.1.mul y.1) (x.1.mul y.2)) (dmin (x.2.mul y.1) (x.2.mul y.2)), dmax (dmax (x.1.mul y.1) (x.1.mul y.2)) (dmax (x.2.mul y.1) (x.2.mul y.2)))
def rabs (x : Re) : Re := if x.1.1 ≤ 0 ∧ 0 ≤ x.2.1 then ((0, 0), dmax x.1.abs x.2.abs) else (dmin x.1.abs x.2.abs, dmax x.1.abs x.2.abs)
def Dy.pow (a : Dy) (k : Nat) : Dy := Dy.n (a.n.1 ^ k, (k : Int) * a.n.2)
def rpow (x : Re) (k : Nat) : Re := if k % 2 = 0 then ((rabs x).1.pow k, (rabs x).2.pow k) else (x.1.pow k, x.2.pow k)
def rhull (x y : Re) : Re := (dmin x.1 y.1, dmax x.2 y.2)
theorem qv_pow (a : Dy) (k : Nat) : qv (a.pow k) = qv a ^ k := by
 unfold Dy.pow
 rw [qv_n, ← qv_n a]
 generalize a.n = b
 obtain ⟨m, e⟩ := b
 show ((m ^ k : Int) : Rat) * 2 ^ ((k : Int) * e) = ((m : Rat) * 2 ^ e) ^ k
 induction k with
 | zero => simp
 | succ k ih =>
  rw [Rat.pow_succ, ← ih, Int.pow_succ, Rat.intCast_mul, show ((k + 1 : Nat) : Int) * e = (k : Int) * e + e by rw [Int.natCast_add]; grind, Rat.zpow_add two_ne]
  grind
theorem qv_mulraw (m n e f : Int) : qv (m * n, e + f) = qv (m, e) * qv (n, f) := by
 have := qv_mul (m, e) (n, f)
 unfold Dy.mul at this
 rwa [qv_n] at this
def Dy.div (a b : Dy) (p md : Int) : Dy := Dy.n (qm a.1 a.2 b.1 b.2 (qE a.1 a.2 b.1 b.2 p) md, qE a.1 a.2 b.1 b.2 p)
def rinv (x : Re) (p : Int) : Re := (Dy.div (1, 0) x.2 p 0, Dy.div (1, 0) x.1 p 1)
def Dy.to (a : Dy) (p md : Int) : Dy := (gm a.1 a.2 (stepI a.1 a.2 p) md, ge a.1 a.2 (stepI a.1 a.2 p) md)
theorem gm_sides (m e E : Int) : qv (gm m e E 0, ge m e E 0) ≤ qv (m, e) ∧ qv (m, e) ≤ qv (gm m e E 1, ge m e E 1) := by
 obtain ⟨k, h1, h2⟩ : ∃ k : Nat, -(k : Int) ≤ e ∧ -(k : Int) ≤ E := ⟨e.natAbs + E.natAbs, by omega, by omega⟩
 have hU : (0 : Int) < 2 ^ (E + k).toNat := pow_pos' _
 have g0 := V_grid (k := k) (m := m) (e := e) (E := E) 0 h1 h2
 have g1 := V_grid (k := k) (m := m) (e := e) (E := E) 1 h1 h2
 have l0 := ge_low (k := k) (m := m) (e := e) (E := E) 0 h1 h2
 have l1 := ge_low (k := k) (m := m) (e := e) (E := E) 1 h1 h2
 have q0 := qv_V (k := k) (a := (gm m e E 0, ge m e E 0)) l0
 have q1 := qv_V (k := k) (a := (gm m e E 1, ge m e E 1)) l1
 have q := qv_V (k := k) (a := (m, e)) h1
 have hs := rd_sides (v := V k m e) hU
 dsimp only at q0 q1 q
 rw [← mul_le_iff (p2_pos k), ← mul_le_iff (p2_pos k) (a := qv (m, e)), ← q0, ← q1, ← q, Rat.intCast_le_intCast, Rat.intCast_le_intCast, g0, g1]
 rcases hs with ⟨_, a1, a2, _⟩ | ⟨_, a1, a2, a3, _⟩
 ·omega
 ·omega
def rround (x : Re) (p : Int) : Re := (x.1.to p 0, x.2.to p 1)
def cmpY (a b : Dy) : Int := cmpD a.1 a.2 b.1 b.2
def rcan (x : Re) : Prop := rok x ∧ x.1.n = x.1 ∧ x.2.n = x.2
theorem rcan_rn (x : Re) : rcan (rn x) := by
 refine ⟨rn_ok x, ?_, ?_⟩ <;> (unfold rn; split <;> exact n_n _)
theorem rcan.id {x : Re} (h : rcan x) : rn x = x := rn_id h.1 h.2.1 h.2.2
theorem add_n (a b : Dy) : (a.add b).n = a.add b := n_n _
theorem mul_n (a b : Dy) : (a.mul b).n = a.mul b := n_n _
theorem neg_n (a : Dy) : a.neg.n = a.neg := n_n _
theorem pow_n (a : Dy) (k : Nat) : (a.pow k).n = a.pow k := n_n _
theorem to_n (a : Dy) (p md : Int) : (a.to p md).n = a.to p md := Prod.ext (tm_gm _ _ _ _) (te_gm _ _ _ _)
theorem zero_n : Dy.n (0, 0) = (0, 0) := by unfold Dy.n; rw [tmI_zero, teI_zero]
section
variable {X Y Z : Re} {s t : Dy}
def rdiv (x y : Re) (p : Int) : Re := rround (rmul x (rinv y p)) p
end
section
variable {X Y Z : Re}
theorem rn_ends (x : Re) : (rn x = (x.1.n, x.2.n)) ∨ (rn x = (x.2.n, x.1.n)) := by
 unfold rn; split
 ·exact .inl rfl
 ·exact .inr rfl
end
def fD (a : Dy) (k B : Nat) : Prop := Fit a.1 k ∧ -(B : Int) ≤ a.2 ∧ a.2 ≤ B
theorem fD.mono {a : Dy} {k l B C : Nat} (h : fD a k B) (h1 : k ≤ l) (h2 : B ≤ C) : fD a l C := ⟨h.1.mono h1, by have := h.2.1; omega, by have := h.2.2; omega⟩
theorem fD_n {a : Dy} {k B : Nat} (h : fD a k B) : fD a.n k (B + k) := by
 have h1 := teI_bound (e := a.2) h.1
 have h2 := h.2
 refine ⟨fit_tm h.1, ?_, ?_⟩ <;> (show _ ≤ _; unfold Dy.n; dsimp only; omega)
theorem fD_neg {a : Dy} {k B : Nat} (h : fD a k B) : fD a.neg k (B + k) := fD_n (a := (-a.1, a.2)) ⟨h.1.neg, h.2⟩
def fR (x : Re) (k B : Nat) : Prop := fD x.1 k B ∧ fD x.2 k B
theorem fR.mono {x : Re} {k l B C : Nat} (h : fR x k B) (h1 : k ≤ l) (h2 : B ≤ C) : fR x l C := ⟨h.1.mono h1 h2, h.2.mono h1 h2⟩
theorem fD_zero (k B : Nat) : fD (0, 0) k B := ⟨show Fit 0 k by unfold Fit; exact Nat.pow_pos (by decide), by dsimp only; omega, by dsimp only; omega⟩
end Go.Proofs.YtnjjfakjnkhhjaaGreatDoor.Ev
namespace Go.Proofs.YtnjjfakjnkhhjaaGreatDoor.Ev
open Go Go.RowKit
theorem sg_nonneg7 (z : Int) : 0 ≤ sg z ↔ 0 ≤ z := by rcases sg_cases z with ⟨h1, h2⟩ | ⟨h1, h2⟩ | ⟨h1, h2⟩ <;> rw [h2] <;> omega
theorem min_z : min (max (0 : Int) (-20000)) 20000 = 0 := by decide
def ro (x : Re) : Re := if cmpD x.1.1 x.1.2 x.2.1 x.2.2 ≤ 0 then x else (x.2, x.1)
theorem rn_ro (x : Re) : rn x = ((ro x).1.n, (ro x).2.n) := by
 unfold rn ro; split <;> rfl
theorem ro_ok (x : Re) : rok (ro x) := by
 have h := rn_ok x
 rw [rn_ro] at h
 unfold rok at *
 rw [qv_n, qv_n] at h
 exact h
theorem ro_id {x : Re} (h : rok x) : ro x = x := if_pos ((cmp_le _ _).2 h)
theorem nn_eq {a b : Dy} (ha : a.n = a) (hb : b.n = b) (h : qv a = qv b) : a = b := by
 rw [← ha, ← hb]; exact qv_inj.1 h
theorem add_nn (a b : Dy) : a.n.add b.n = a.add b := nn_eq (add_n _ _) (add_n _ _) (by rw [qv_add, qv_add, qv_n, qv_n])
theorem sub_n (a b : Dy) : (a.sub b).n = a.sub b := n_n _
theorem add_neg (a b : Dy) : a.add b.neg = a.sub b := nn_eq (add_n _ _) (sub_n _ _) (by rw [qv_add, qv_neg, qv_sub, Rat.sub_eq_add_neg])
theorem to_nn (a : Dy) (p md : Int) : a.n.to p md = a.to p md := by
 unfold Dy.to Dy.n
 simp only [stepI_nrm, gm_nrm, ge_nrm]
theorem pow_two (a : Dy) : a.pow 2 = a.mul a := nn_eq (pow_n _ _) (mul_n _ _) (by rw [qv_pow, qv_mul, Rat.pow_succ, Rat.pow_succ, Rat.pow_zero, Rat.one_mul])
theorem e_add (x y : Re) : radd (rn x) (rn y) = ((ro x).1.add (ro y).1, (ro x).2.add (ro y).2) := by
 rw [rn_ro, rn_ro y]; unfold radd; simp only [add_nn]
end Go.Proofs.YtnjjfakjnkhhjaaGreatDoor.Ev
