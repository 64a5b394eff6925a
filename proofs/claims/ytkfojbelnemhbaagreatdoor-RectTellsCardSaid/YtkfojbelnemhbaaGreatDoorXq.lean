import Derived.Test.YtkfojbelnemhbaaGreatDoorXh
import Derived.Test.YtkfojbelnemhbaaGreatDoorXv
import Derived.Test.YtkfojbelnemhbaaGreatDoorRg
import Derived.Test.YtkfojbelnemhbaaGreatDoorXc
set_option linter.all false
namespace Go.Proofs.YtkfojbelnemhbaaGreatDoor.Ev
open Go Go.RowKit
theorem sg_nonpos7 (z : Int) : sg z ≤ 0 ↔ z ≤ 0 := by rcases sg_cases z with ⟨h1, h2⟩ | ⟨h1, h2⟩ | ⟨h1, h2⟩ <;> rw [h2] <;> omega
abbrev Dy := Int × Int
def Dy.n (a : Dy) : Dy := (tmI a.1, teI a.1 a.2)
def qv (a : Dy) : Rat := (a.1 : Rat) * (2 : Rat) ^ a.2
theorem two_ne : (2 : Rat) ≠ 0 := by decide
theorem two_pos (e : Int) : (0 : Rat) < (2 : Rat) ^ e := Rat.zpow_pos (by decide)
theorem zp_nat (n : Nat) : (2 : Rat) ^ (n : Int) = (2 : Rat) ^ n := Rat.zpow_natCast _ _
theorem zp_toNat {e : Int} (h : 0 ≤ e) : (2 : Rat) ^ e = (2 : Rat) ^ e.toNat := by
 rw [← zp_nat, Int.toNat_of_nonneg h]
theorem cast_pow2 (n : Nat) : (((2 : Int) ^ n : Int) : Rat) = (2 : Rat) ^ n := by
 rw [Rat.intCast_pow]; rfl
theorem qv_V {k : Nat} {a : Dy} (h : -(k : Int) ≤ a.2) : ((V k a.1 a.2 : Int) : Rat) = qv a * 2 ^ k := by
 unfold V qv
 rw [Rat.intCast_mul, cast_pow2, ← zp_toNat (by omega), Rat.zpow_add two_ne, zp_nat, Rat.mul_assoc]
theorem p2_pos (k : Nat) : (0 : Rat) < 2 ^ k := Rat.pow_pos (by decide)
theorem low_ex (a b : Dy) : ∃ k : Nat, -(k : Int) ≤ a.2 ∧ -(k : Int) ≤ b.2 := ⟨a.2.natAbs + b.2.natAbs, by omega, by omega⟩
theorem mul_le_iff {a b c : Rat} (hc : 0 < c) : a * c ≤ b * c ↔ a ≤ b := ⟨fun h => Rat.le_of_mul_le_mul_right h hc, fun h => Rat.mul_le_mul_of_nonneg_right h (Rat.le_of_lt hc)⟩
theorem cmp_le (a b : Dy) : cmpD a.1 a.2 b.1 b.2 ≤ 0 ↔ qv a ≤ qv b := by
 obtain ⟨k, h1, h2⟩ := low_ex a b
 rw [cmp_V h1 h2, sg_nonpos7, ← mul_le_iff (p2_pos k), ← qv_V h1, ← qv_V h2, Rat.intCast_le_intCast]
 omega
theorem cmp_ge (a b : Dy) : 0 ≤ cmpD a.1 a.2 b.1 b.2 ↔ qv b ≤ qv a := by
 obtain ⟨k, h1, h2⟩ := low_ex a b
 have h : ∀ z, 0 ≤ sg z ↔ 0 ≤ z := fun z => by rcases sg_cases z with ⟨h1, h2⟩ | ⟨h1, h2⟩ | ⟨h1, h2⟩ <;> rw [h2] <;> omega
 rw [cmp_V h1 h2, h, ← mul_le_iff (p2_pos k), ← qv_V h1, ← qv_V h2, Rat.intCast_le_intCast]
 omega
theorem cmp_eq (a b : Dy) : cmpD a.1 a.2 b.1 b.2 = 0 ↔ qv a = qv b := by
 have h1 := cmp_le a b
 have h2 := cmp_ge a b
 constructor
 ·intro h
  exact Rat.le_antisymm (h1.1 (by omega)) (h2.1 (by omega))
 ·intro h
  have := h1.2 (by rw [h]; exact Rat.le_refl)
  have := h2.2 (by rw [h]; exact Rat.le_refl)
  omega
theorem qv_n (a : Dy) : qv a.n = qv a := by
 by_cases h0 : a.1 = 0
 ·unfold qv Dy.n; rw [h0, tmI_zero]; simp
 ·have h1 := tmI_mul a.1
  unfold qv Dy.n
  rw [teI_ne h0, Rat.zpow_add two_ne, zp_nat, ← cast_pow2, Rat.mul_comm ((2 : Rat) ^ a.2), ← Rat.mul_assoc, ← Rat.intCast_mul, h1]
theorem qv_inj {a b : Dy} : qv a = qv b ↔ a.n = b.n := by
 obtain ⟨k, h1, h2⟩ := low_ex a b
 constructor
 ·intro h
  have h3 : V k a.1 a.2 = V k b.1 b.2 := by
   rw [← Rat.intCast_inj, qv_V h1, qv_V h2, h]
  obtain ⟨h4, h5⟩ := V_inj h1 h2 h3
  exact Prod.ext h4 h5
 ·intro h
  rw [← qv_n a, ← qv_n b, h]
theorem n_n (a : Dy) : a.n.n = a.n := qv_inj.1 (qv_n a)
def Dy.add (a b : Dy) : Dy := Dy.n (addM a.1 a.2 b.1 b.2, min a.2 b.2)
def Dy.sub (a b : Dy) : Dy := Dy.n (addM a.1 a.2 (-b.1) b.2, min a.2 b.2)
def Dy.mul (a b : Dy) : Dy := Dy.n (a.1 * b.1, a.2 + b.2)
def Dy.neg (a : Dy) : Dy := Dy.n (-a.1, a.2)
def Dy.abs (a : Dy) : Dy := Dy.n ((a.1.natAbs : Nat), a.2)
theorem qv_mk (m e : Int) : qv (m, e) = (m : Rat) * 2 ^ e := rfl
theorem qv_add (a b : Dy) : qv (a.add b) = qv a + qv b := by
 obtain ⟨k, h1, h2⟩ := low_ex a b
 have h3 : -(k : Int) ≤ min a.2 b.2 := by omega
 unfold Dy.add
 rw [qv_n]
 have hp := p2_pos k
 have h4 := qv_V (a := (addM a.1 a.2 b.1 b.2, min a.2 b.2)) h3
 rw [V_add h1 h2, Rat.intCast_add, qv_V h1, qv_V h2, ← Rat.add_mul] at h4
 exact Rat.le_antisymm ((mul_le_iff hp).1 (by rw [h4]; exact Rat.le_refl)) ((mul_le_iff hp).1 (by rw [h4]; exact Rat.le_refl))
theorem qv_neg' (m e : Int) : qv (-m, e) = -qv (m, e) := by
 rw [qv_mk, qv_mk, Rat.intCast_neg, Rat.neg_mul]
theorem qv_neg (a : Dy) : qv a.neg = -qv a := by unfold Dy.neg; rw [qv_n, qv_neg']
theorem qv_sub (a b : Dy) : qv (a.sub b) = qv a - qv b := by
 have := qv_add a (-b.1, b.2)
 rw [qv_neg'] at this
 rw [Rat.sub_eq_add_neg]
 exact this
theorem qv_mul (a b : Dy) : qv (a.mul b) = qv a * qv b := by
 unfold Dy.mul
 rw [qv_n]
 unfold qv
 rw [Rat.intCast_mul, Rat.zpow_add two_ne]
 grind
theorem qv_pos (a : Dy) : 0 < qv a ↔ 0 < a.1 := by
 have h := two_pos a.2
 unfold qv
 rw [← Rat.intCast_pos]
 constructor
 ·intro h1
  apply Rat.not_le.1
  intro h2
  have := Rat.mul_le_mul_of_nonneg_right h2 (Rat.le_of_lt h)
  rw [Rat.zero_mul] at this
  exact Rat.not_le.2 h1 this
 ·intro h1
  exact Rat.mul_pos h1 h
theorem qv_zero (e : Int) : qv (0, e) = 0 := by unfold qv; simp
theorem qv_eq0 (a : Dy) : qv a = 0 ↔ a.1 = 0 := by
 constructor
 ·intro h
  have h1 := qv_pos a
  have h2 := qv_pos a.neg
  rw [qv_neg, h] at h2
  rw [h] at h1
  have h3 : ¬ (0 : Rat) < 0 := Rat.lt_irrefl
  have h4 : ¬ (0 : Rat) < -0 := by rw [Rat.neg_zero]; exact h3
  have h5 : ¬ 0 < a.neg.1 := fun h => h4 (h2.2 h)
  have h6 : ¬ 0 < a.1 := fun h => h3 (h1.2 h)
  unfold Dy.neg Dy.n at h5
  have h7 := tmI_mul (-a.1)
  apply Classical.byContradiction
  intro h8
  have h9 : tmI (-a.1) ≤ 0 := Int.not_lt.1 h5
  have := Int.mul_le_mul_of_nonneg_right h9 (Int.le_of_lt (pow_pos' (tz (-a.1).natAbs)))
  rw [h7, Int.zero_mul] at this
  omega
 ·intro h
  unfold qv; rw [h]; simp
theorem qv_neg_iff (a : Dy) : qv a < 0 ↔ a.1 < 0 := by
 have h1 := qv_pos a
 have h2 := qv_eq0 a
 constructor
 ·intro h
  apply Classical.byContradiction
  intro h3
  rcases Int.lt_or_eq_of_le (show 0 ≤ a.1 by omega) with h4 | h4
  ·have := h1.2 h4; grind
  ·rw [h2.2 h4.symm] at h; exact Rat.lt_irrefl h
 ·intro h
  apply Rat.not_le.1
  intro h3
  rcases Rat.le_iff_lt_or_eq.1 h3 with h4 | h4
  ·have := h1.1 h4; omega
  ·have := h2.1 h4.symm; omega
theorem qv_nonneg (a : Dy) : 0 ≤ qv a ↔ 0 ≤ a.1 := by rw [← Rat.not_lt, qv_neg_iff]; omega
theorem qv_nonpos (a : Dy) : qv a ≤ 0 ↔ a.1 ≤ 0 := by rw [← Rat.not_lt, qv_pos]; omega
theorem qv_abs (a : Dy) : qv a.abs = if 0 ≤ a.1 then qv a else -qv a := by
 unfold Dy.abs
 rw [qv_n]
 split
 ·rw [show ((a.1.natAbs : Nat) : Int) = a.1 by omega]
 ·rw [show ((a.1.natAbs : Nat) : Int) = -a.1 by omega, qv_neg']
def dmin (a b : Dy) : Dy := if cmpD a.1 a.2 b.1 b.2 ≤ 0 then a else b
def dmax (a b : Dy) : Dy := if 0 ≤ cmpD a.1 a.2 b.1 b.2 then a else b
theorem dmin_or (a b : Dy) : (dmin a b = a ∧ qv a ≤ qv b) ∨ (dmin a b = b ∧ qv b ≤ qv a) := by
 unfold dmin
 have := cmp_le a b
 split
 ·exact .inl ⟨rfl, this.1 (by assumption)⟩
 ·refine .inr ⟨rfl, ?_⟩
  have h1 := cmp_ge a b
  exact h1.1 (by omega)
theorem dmax_or (a b : Dy) : (dmax a b = a ∧ qv b ≤ qv a) ∨ (dmax a b = b ∧ qv a ≤ qv b) := by
 unfold dmax
 have := cmp_ge a b
 split
 ·exact .inl ⟨rfl, this.1 (by assumption)⟩
 ·refine .inr ⟨rfl, ?_⟩
  have h1 := cmp_le a b
  exact h1.1 (by omega)
theorem dmin_n (a b : Dy) : (dmin a b).n = dmin a.n b.n := by
 rcases dmin_or a b with ⟨h1, h2⟩ | ⟨h1, h2⟩ <;> rcases dmin_or a.n b.n with ⟨h3, h4⟩ | ⟨h3, h4⟩ <;> rw [h1, h3]
 ·rw [qv_n, qv_n] at h4; exact qv_inj.1 (Rat.le_antisymm h2 h4)
 ·rw [qv_n, qv_n] at h4; exact qv_inj.1 (Rat.le_antisymm h2 h4)
theorem dmax_n (a b : Dy) : (dmax a b).n = dmax a.n b.n := by
 rcases dmax_or a b with ⟨h1, h2⟩ | ⟨h1, h2⟩ <;> rcases dmax_or a.n b.n with ⟨h3, h4⟩ | ⟨h3, h4⟩ <;> rw [h1, h3]
 ·rw [qv_n, qv_n] at h4; exact qv_inj.1 (Rat.le_antisymm h4 h2)
 ·rw [qv_n, qv_n] at h4; exact qv_inj.1 (Rat.le_antisymm h4 h2)
abbrev Re := Dy × Dy
def rn (x : Re) : Re := if cmpD x.1.1 x.1.2 x.2.1 x.2.2 ≤ 0 then (x.1.n, x.2.n) else (x.2.n, x.1.n)
def rin (x : Re) (q : Rat) : Prop := qv x.1 ≤ q ∧ q ≤ qv x.2
def rok (x : Re) : Prop := qv x.1 ≤ qv x.2
def rsub_ (w x : Re) : Prop := qv x.1 ≤ qv w.1 ∧ qv w.2 ≤ qv x.2
theorem rn_ok (x : Re) : rok (rn x) := by
 unfold rok rn
 split
 ·rw [qv_n, qv_n]; exact (cmp_le _ _).1 (by assumption)
 ·rw [qv_n, qv_n]; exact (cmp_ge _ _).1 (by omega)
theorem rn_id {x : Re} (h : rok x) (h1 : x.1.n = x.1) (h2 : x.2.n = x.2) : rn x = x := by
 unfold rn
 rw [if_pos ((cmp_le _ _).2 h), h1, h2]
def radd (x y : Re) : Re := (x.1.add y.1, x.2.add y.2)
def rneg (x : Re) : Re := (x.2.neg, x.1.neg)
def rsub (x y : Re) : Re := radd x (rneg y)
def rmul (x y : Re) : Re := (dmin (dmin (x.1.mul y.1) (x.1.mul y.2)) (dmin (x.2.mul y.1) (x.2.mul y.2)), dmax (dmax (x.1.mul y.1) (x.1.mul y.2)) (dmax (x.2.mul y.1) (x.2.mul y.2)))
def rabs (x : Re) : Re := if x.1.1 ≤ 0 ∧ 0 ≤ x.2.1 then ((0, 0), dmax x.1.abs x.2.abs) else (dmin x.1.abs x.2.abs, dmax x.1.abs x.2.abs)
def Dy.pow (a : Dy) (k : Nat) : Dy := Dy.n (a.n.1 ^ k, (k : Int) * a.n.2)
def rpow (x : Re) (k : Nat) : Re := if k % 2 = 0 then ((rabs x).1.pow k, (rabs x).2.pow k) else (x.1.pow k, x.2.pow k)
def rhull (x y : Re) : Re := (dmin x.1 y.1, dmax x.2 y.2)
def rmeet (x y : Re) : Re := (dmax x.1 y.1, dmin x.2 y.2)
theorem radd_in {x y : Re} {a b : Rat} (h : rin x a) (k : rin y b) : rin (radd x y) (a + b) := by
 unfold rin radd at *; simp only [qv_add]; grind
theorem rneg_in {x : Re} {a : Rat} (h : rin x a) : rin (rneg x) (-a) := by
 unfold rin rneg at *; simp only [qv_neg]; grind
theorem rsub_in {x y : Re} {a b : Rat} (h : rin x a) (k : rin y b) : rin (rsub x y) (a - b) := by
 have := radd_in h (rneg_in k)
 rwa [← Rat.sub_eq_add_neg] at this
theorem mul_bet {l a h b : Rat} (h1 : l ≤ a) (h2 : a ≤ h) : (l * b ≤ a * b ∧ a * b ≤ h * b) ∨ (h * b ≤ a * b ∧ a * b ≤ l * b) := by
 rcases Rat.le_total (a := 0) (b := b) with hb | hb
 ·exact .inl ⟨Rat.mul_le_mul_of_nonneg_right h1 hb, Rat.mul_le_mul_of_nonneg_right h2 hb⟩
 ·have hb' : 0 ≤ -b := by grind
  have k1 := Rat.mul_le_mul_of_nonneg_right h1 hb'
  have k2 := Rat.mul_le_mul_of_nonneg_right h2 hb'
  right; grind
theorem min4 (a b c d : Dy) : (dmin (dmin a b) (dmin c d) = a ∨ dmin (dmin a b) (dmin c d) = b ∨ dmin (dmin a b) (dmin c d) = c ∨ dmin (dmin a b) (dmin c d) = d) ∧
  qv (dmin (dmin a b) (dmin c d)) ≤ qv a ∧ qv (dmin (dmin a b) (dmin c d)) ≤ qv b ∧ qv (dmin (dmin a b) (dmin c d)) ≤ qv c ∧ qv (dmin (dmin a b) (dmin c d)) ≤ qv d := by
 rcases dmin_or a b with ⟨h1, h2⟩ | ⟨h1, h2⟩ <;> rcases dmin_or c d with ⟨h3, h4⟩ | ⟨h3, h4⟩ <;> rw [h1, h3]
 ·rcases dmin_or a c with ⟨h5, h6⟩ | ⟨h5, h6⟩ <;> rw [h5] <;> refine ⟨by simp, ?_, ?_, ?_, ?_⟩ <;> grind
 ·rcases dmin_or a d with ⟨h5, h6⟩ | ⟨h5, h6⟩ <;> rw [h5] <;> refine ⟨by simp, ?_, ?_, ?_, ?_⟩ <;> grind
 ·rcases dmin_or b c with ⟨h5, h6⟩ | ⟨h5, h6⟩ <;> rw [h5] <;> refine ⟨by simp, ?_, ?_, ?_, ?_⟩ <;> grind
 ·rcases dmin_or b d with ⟨h5, h6⟩ | ⟨h5, h6⟩ <;> rw [h5] <;> refine ⟨by simp, ?_, ?_, ?_, ?_⟩ <;> grind
theorem max4 (a b c d : Dy) : (dmax (dmax a b) (dmax c d) = a ∨ dmax (dmax a b) (dmax c d) = b ∨ dmax (dmax a b) (dmax c d) = c ∨ dmax (dmax a b) (dmax c d) = d) ∧
  qv a ≤ qv (dmax (dmax a b) (dmax c d)) ∧ qv b ≤ qv (dmax (dmax a b) (dmax c d)) ∧ qv c ≤ qv (dmax (dmax a b) (dmax c d)) ∧ qv d ≤ qv (dmax (dmax a b) (dmax c d)) := by
 rcases dmax_or a b with ⟨h1, h2⟩ | ⟨h1, h2⟩ <;> rcases dmax_or c d with ⟨h3, h4⟩ | ⟨h3, h4⟩ <;> rw [h1, h3]
 ·rcases dmax_or a c with ⟨h5, h6⟩ | ⟨h5, h6⟩ <;> rw [h5] <;> refine ⟨by simp, ?_, ?_, ?_, ?_⟩ <;> grind
 ·rcases dmax_or a d with ⟨h5, h6⟩ | ⟨h5, h6⟩ <;> rw [h5] <;> refine ⟨by simp, ?_, ?_, ?_, ?_⟩ <;> grind
 ·rcases dmax_or b c with ⟨h5, h6⟩ | ⟨h5, h6⟩ <;> rw [h5] <;> refine ⟨by simp, ?_, ?_, ?_, ?_⟩ <;> grind
 ·rcases dmax_or b d with ⟨h5, h6⟩ | ⟨h5, h6⟩ <;> rw [h5] <;> refine ⟨by simp, ?_, ?_, ?_, ?_⟩ <;> grind
theorem rmul_in {x y : Re} {a b : Rat} (h : rin x a) (k : rin y b) : rin (rmul x y) (a * b) := by
 obtain ⟨_, n1, n2, n3, n4⟩ := min4 (x.1.mul y.1) (x.1.mul y.2) (x.2.mul y.1) (x.2.mul y.2)
 obtain ⟨_, m1, m2, m3, m4⟩ := max4 (x.1.mul y.1) (x.1.mul y.2) (x.2.mul y.1) (x.2.mul y.2)
 unfold rin rmul at *
 simp only [qv_mul] at n1 n2 n3 n4 m1 m2 m3 m4
 obtain ⟨h1, h2⟩ := h
 obtain ⟨k1, k2⟩ := k
 have t1 := mul_bet (b := b) h1 h2
 have t2 := mul_bet (b := qv x.1) k1 k2
 have t3 := mul_bet (b := qv x.2) k1 k2
 generalize qv (dmin (dmin (x.1.mul y.1) (x.1.mul y.2)) (dmin (x.2.mul y.1) (x.2.mul y.2))) = L at *
 generalize qv (dmax (dmax (x.1.mul y.1) (x.1.mul y.2)) (dmax (x.2.mul y.1) (x.2.mul y.2))) = H at *
 generalize qv x.1 = p at *
 generalize qv x.2 = q at *
 generalize qv y.1 = r at *
 generalize qv y.2 = s at *
 rw [Rat.mul_comm b p, Rat.mul_comm r p, Rat.mul_comm s p] at t2
 rw [Rat.mul_comm b q, Rat.mul_comm r q, Rat.mul_comm s q] at t3
 constructor
 ·rcases t1 with t1 | t1 <;> rcases t2 with t2 | t2 <;> rcases t3 with t3 | t3 <;> grind
 ·rcases t1 with t1 | t1 <;> rcases t2 with t2 | t2 <;> rcases t3 with t3 | t3 <;> grind
theorem rmul_end {x y : Re} : (∃ a b, (a = x.1 ∨ a = x.2) ∧ (b = y.1 ∨ b = y.2) ∧ (rmul x y).1 = a.mul b) ∧ (∃ a b, (a = x.1 ∨ a = x.2) ∧ (b = y.1 ∨ b = y.2) ∧ (rmul x y).2 = a.mul b) := by
 obtain ⟨n, _⟩ := min4 (x.1.mul y.1) (x.1.mul y.2) (x.2.mul y.1) (x.2.mul y.2)
 obtain ⟨m, _⟩ := max4 (x.1.mul y.1) (x.1.mul y.2) (x.2.mul y.1) (x.2.mul y.2)
 constructor
 ·rcases n with n | n | n | n
  ·exact ⟨_, _, .inl rfl, .inl rfl, n⟩
  ·exact ⟨_, _, .inl rfl, .inr rfl, n⟩
  ·exact ⟨_, _, .inr rfl, .inl rfl, n⟩
  ·exact ⟨_, _, .inr rfl, .inr rfl, n⟩
 ·rcases m with n | n | n | n
  ·exact ⟨_, _, .inl rfl, .inl rfl, n⟩
  ·exact ⟨_, _, .inl rfl, .inr rfl, n⟩
  ·exact ⟨_, _, .inr rfl, .inl rfl, n⟩
  ·exact ⟨_, _, .inr rfl, .inr rfl, n⟩
theorem qv_abs0 (a : Dy) : 0 ≤ qv a.abs ∧ (qv a.abs = qv a ∨ qv a.abs = -qv a) ∧ qv a ≤ qv a.abs ∧ -qv a ≤ qv a.abs := by
 have h := qv_abs a
 have h1 := qv_nonneg a
 split at h
 ·have := h1.2 (by assumption)
  rw [h]; grind
 ·have h2 : ¬ 0 ≤ qv a := fun h3 => absurd (h1.1 h3) (by assumption)
  rw [h]; grind
def qa (a : Rat) : Rat := if 0 ≤ a then a else -a
theorem rabs_in {x : Re} {a : Rat} (h : rin x a) : rin (rabs x) (qa a) := by
 have h1 := qv_abs x.1
 have h2 := qv_abs x.2
 have n1 := qv_nonneg x.1
 have n2 := qv_nonneg x.2
 have m1 := qv_nonpos x.1
 have m2 := qv_nonpos x.2
 unfold rin at *
 obtain ⟨k1, k2⟩ := h
 unfold rabs qa
 split
 ·rename_i hc
  have e1 := m1.2 hc.1
  have e2 := n2.2 hc.2
  rw [if_pos hc.2] at h2
  rw [qv_zero]
  rcases dmax_or x.1.abs x.2.abs with ⟨h3, h4⟩ | ⟨h3, h4⟩ <;> rw [h3]
  ·split at h1
   ·have := n1.2 (by assumption); split <;> grind
   ·split <;> grind
  ·split at h1
   ·have := n1.2 (by assumption); split <;> grind
   ·split <;> grind
 ·rename_i hc
  have hs : (0 < x.1.1 ∧ 0 < qv x.1) ∨ (x.2.1 < 0 ∧ qv x.2 < 0) := by
   by_cases hd : x.1.1 ≤ 0
   ·have : x.2.1 < 0 := by omega
    exact .inr ⟨this, (qv_neg_iff _).2 this⟩
   ·have : 0 < x.1.1 := by omega
    exact .inl ⟨this, (qv_pos _).2 this⟩
  rcases hs with ⟨s1, s2⟩ | ⟨s1, s2⟩
  ·have h5 : 0 ≤ x.2.1 := n2.1 (by grind)
   rw [if_pos (by omega)] at h1
   rw [if_pos h5] at h2
   rcases dmax_or x.1.abs x.2.abs with ⟨h3, h4⟩ | ⟨h3, h4⟩ <;> rw [h3] <;> rcases dmin_or x.1.abs x.2.abs with ⟨h6, h7⟩ | ⟨h6, h7⟩ <;> rw [h6] <;> split <;> grind
  ·have h5 : ¬ 0 ≤ x.1.1 := fun h => by have := n1.2 h; grind
   rw [if_neg h5] at h1
   rw [if_neg (by omega)] at h2
   rcases dmax_or x.1.abs x.2.abs with ⟨h3, h4⟩ | ⟨h3, h4⟩ <;> rw [h3] <;> rcases dmin_or x.1.abs x.2.abs with ⟨h6, h7⟩ | ⟨h6, h7⟩ <;> rw [h6] <;> split <;> grind
theorem qv_pow (a : Dy) (k : Nat) : qv (a.pow k) = qv a ^ k := by
 unfold Dy.pow
 rw [qv_n, ← qv_n a]
 generalize a.n = b
 obtain ⟨m, e⟩ := b
 show ((m ^ k : Int) : Rat) * 2 ^ ((k : Int) * e) = ((m : Rat) * 2 ^ e) ^ k
 induction k with
 | zero => simp
 | succ k ih =>
  rw [Rat.pow_succ, ← ih, Int.pow_succ, Rat.intCast_mul, show ((k + 1 : Nat) : Int) * e = (k : Int) * e + e by rw [Int.natCast_add]; grind, Rat.zpow_add two_ne]
  grind
theorem pow_mono {a b : Rat} (h0 : 0 ≤ a) (h : a ≤ b) : ∀ k : Nat, a ^ k ≤ b ^ k
 | 0 => by rw [Rat.pow_zero, Rat.pow_zero]; exact Rat.le_refl
 | k + 1 => by
  rw [Rat.pow_succ, Rat.pow_succ]
  have h1 := pow_mono h0 h k
  exact Rat.le_trans (Rat.mul_le_mul_of_nonneg_right h1 h0) (Rat.mul_le_mul_of_nonneg_left h (Rat.pow_nonneg (by grind)))
theorem neg_pow (a : Rat) : ∀ k : Nat, (-a) ^ k = if k % 2 = 0 then a ^ k else -(a ^ k)
 | 0 => by simp
 | k + 1 => by
  rw [Rat.pow_succ, Rat.pow_succ, neg_pow a k]
  rcases Nat.mod_two_eq_zero_or_one k with h | h
  ·rw [if_pos h, if_neg (by omega)]; grind
  ·rw [if_neg (by omega), if_pos (by omega)]; grind
theorem qa_pow (a : Rat) {k : Nat} (hk : k % 2 = 0) : qa a ^ k = a ^ k := by
 unfold qa
 split
 ·rfl
 ·rw [neg_pow, if_pos hk]
theorem odd_mono {a b : Rat} (h : a ≤ b) {k : Nat} (hk : k % 2 = 1) : a ^ k ≤ b ^ k := by
 rcases Rat.le_total (a := 0) (b := a) with h1 | h1
 ·exact pow_mono h1 h k
 ·have e1 := neg_pow (-a) k
  have e2 := neg_pow (-b) k
  rw [if_neg (by omega), Rat.neg_neg] at e1 e2
  rcases Rat.le_total (a := 0) (b := b) with h2 | h2
  ·have p1 : (0 : Rat) ≤ (-a) ^ k := Rat.pow_nonneg (by grind)
   have p2 : (0 : Rat) ≤ b ^ k := Rat.pow_nonneg h2
   grind
  ·have := pow_mono (a := -b) (b := -a) (by grind) (by grind) k
   grind
theorem rabs_nonneg {x : Re} (h : rok x) : 0 ≤ qv (rabs x).1 ∧ rok (rabs x) := by
 have h1 := qv_abs0 x.1
 have h2 := qv_abs0 x.2
 have k1 := rabs_in (x := x) (a := qv x.1) ⟨Rat.le_refl, h⟩
 refine ⟨?_, Rat.le_trans k1.1 k1.2⟩
 unfold rabs
 split
 ·rw [qv_zero]; exact Rat.le_refl
 ·rcases dmin_or x.1.abs x.2.abs with ⟨h6, h7⟩ | ⟨h6, h7⟩ <;> simp only [h6]
  ·exact h1.1
  ·exact h2.1
theorem rpow_in {x : Re} {a : Rat} (h : rin x a) (k : Nat) : rin (rpow x k) (a ^ k) := by
 have hx : rok x := Rat.le_trans h.1 h.2
 unfold rpow
 split
 ·rename_i hk
  have h1 := rabs_in h
  have h2 := rabs_nonneg hx
  refine ⟨?_, ?_⟩
  ·show qv ((rabs x).1.pow k) ≤ _
   rw [qv_pow, ← qa_pow a hk]; exact pow_mono h2.1 h1.1 k
  ·show _ ≤ qv ((rabs x).2.pow k)
   rw [qv_pow, ← qa_pow a hk]; exact pow_mono (Rat.le_trans h2.1 h1.1) h1.2 k
 ·rename_i hk
  refine ⟨?_, ?_⟩
  ·show qv (x.1.pow k) ≤ _
   rw [qv_pow]; exact odd_mono h.1 (by omega)
  ·show _ ≤ qv (x.2.pow k)
   rw [qv_pow]; exact odd_mono h.2 (by omega)
theorem rabs_end {x : Re} (h : rok x) : (∃ c, rin x c ∧ qv (rabs x).1 = qa c) ∧ (∃ c, rin x c ∧ qv (rabs x).2 = qa c) := by
 have e1 : ∀ a : Dy, qv a.abs = qa (qv a) := fun a => by
  have h1 := qv_abs a
  have h2 := qv_nonneg a
  unfold qa
  by_cases h3 : 0 ≤ a.1
  ·rw [if_pos h3] at h1; rw [if_pos (h2.2 h3)]; exact h1
  ·rw [if_neg h3] at h1; rw [if_neg (fun h4 => h3 (h2.1 h4))]; exact h1
 have r1 : rin x (qv x.1) := ⟨Rat.le_refl, h⟩
 have r2 : rin x (qv x.2) := ⟨h, Rat.le_refl⟩
 unfold rabs
 split
 ·rename_i hc
  refine ⟨⟨0, ⟨(qv_nonpos _).2 hc.1, (qv_nonneg _).2 hc.2⟩, ?_⟩, ?_⟩
  ·rw [qv_zero]; unfold qa; rw [if_pos Rat.le_refl]
  ·rcases dmax_or x.1.abs x.2.abs with ⟨h3, _⟩ | ⟨h3, _⟩
   ·exact ⟨_, r1, by simp only [h3]; exact e1 _⟩
   ·exact ⟨_, r2, by simp only [h3]; exact e1 _⟩
 ·constructor
  ·rcases dmin_or x.1.abs x.2.abs with ⟨h3, _⟩ | ⟨h3, _⟩
   ·exact ⟨_, r1, by simp only [h3]; exact e1 _⟩
   ·exact ⟨_, r2, by simp only [h3]; exact e1 _⟩
  ·rcases dmax_or x.1.abs x.2.abs with ⟨h3, _⟩ | ⟨h3, _⟩
   ·exact ⟨_, r1, by simp only [h3]; exact e1 _⟩
   ·exact ⟨_, r2, by simp only [h3]; exact e1 _⟩
theorem rpow_end {x : Re} (h : rok x) (k : Nat) : (∃ c, rin x c ∧ qv (rpow x k).1 = c ^ k) ∧ (∃ c, rin x c ∧ qv (rpow x k).2 = c ^ k) := by
 unfold rpow
 split
 ·rename_i hk
  obtain ⟨⟨c, c1, c2⟩, d, d1, d2⟩ := rabs_end h
  refine ⟨⟨c, c1, ?_⟩, d, d1, ?_⟩
  ·show qv ((rabs x).1.pow k) = _
   rw [qv_pow, c2, qa_pow _ hk]
  ·show qv ((rabs x).2.pow k) = _
   rw [qv_pow, d2, qa_pow _ hk]
 ·refine ⟨⟨_, ⟨Rat.le_refl, h⟩, qv_pow _ _⟩, _, ⟨h, Rat.le_refl⟩, qv_pow _ _⟩
theorem rsub_in_ {w x : Re} (h : rsub_ w x) {c : Rat} (hc : rin w c) : rin x c := ⟨Rat.le_trans h.1 hc.1, Rat.le_trans hc.2 h.2⟩
theorem rpow_less {w x : Re} (h : rsub_ w x) (hw : rok w) (k : Nat) : rsub_ (rpow w k) (rpow x k) := by
 obtain ⟨⟨c, c1, c2⟩, d, d1, d2⟩ := rpow_end hw k
 unfold rsub_
 rw [c2, d2]
 exact ⟨(rpow_in (rsub_in_ h c1) k).1, (rpow_in (rsub_in_ h d1) k).2⟩
theorem radd_less {w x z : Re} (h : rsub_ w x) : rsub_ (radd w z) (radd x z) := by
 unfold rsub_ radd at *; simp only [qv_add]; grind
theorem rneg_less {w x : Re} (h : rsub_ w x) : rsub_ (rneg w) (rneg x) := by
 unfold rsub_ rneg at *; simp only [qv_neg]; grind
theorem rhull_less {w x z : Re} (h : rsub_ w x) : rsub_ (rhull w z) (rhull x z) := by
 unfold rsub_ rhull at *
 simp only
 rcases dmin_or w.1 z.1 with ⟨h1, _⟩ | ⟨h1, _⟩ <;> rcases dmin_or x.1 z.1 with ⟨h2, _⟩ | ⟨h2, _⟩ <;> rcases dmax_or w.2 z.2 with ⟨h3, _⟩ | ⟨h3, _⟩ <;> rcases dmax_or x.2 z.2 with ⟨h4, _⟩ | ⟨h4, _⟩ <;> rw [h1, h2, h3, h4] <;> grind
theorem rhull_in {x y : Re} {a : Rat} (h : rin x a ∨ rin y a) : rin (rhull x y) a := by
 unfold rin rhull at *
 simp only
 rcases dmin_or x.1 y.1 with ⟨h2, _⟩ | ⟨h2, _⟩ <;> rcases dmax_or x.2 y.2 with ⟨h4, _⟩ | ⟨h4, _⟩ <;> rw [h2, h4] <;> grind
theorem rmeet_less {x y : Re} : rsub_ (rmeet x y) x ∧ rsub_ (rmeet x y) y := by
 unfold rsub_ rmeet
 simp only
 rcases dmin_or x.2 y.2 with ⟨h2, _⟩ | ⟨h2, _⟩ <;> rcases dmax_or x.1 y.1 with ⟨h4, _⟩ | ⟨h4, _⟩ <;> rw [h2, h4] <;> grind
theorem qv_mulraw (m n e f : Int) : qv (m * n, e + f) = qv (m, e) * qv (n, f) := by
 have := qv_mul (m, e) (n, f)
 unfold Dy.mul at this
 rwa [qv_n] at this
def Dy.div (a b : Dy) (p md : Int) : Dy := Dy.n (qm a.1 a.2 b.1 b.2 (qE a.1 a.2 b.1 b.2 p) md, qE a.1 a.2 b.1 b.2 p)
theorem div_sides (a b : Dy) (p : Int) (hb : qv b ≠ 0) : (0 < qv b → qv (a.div b p 0) * qv b ≤ qv a ∧ qv a ≤ qv (a.div b p 1) * qv b) ∧
  (qv b < 0 → qv a ≤ qv (a.div b p 0) * qv b ∧ qv (a.div b p 1) * qv b ≤ qv a) := by
 have hY : b.1 ≠ 0 := fun h => hb ((qv_eq0 b).2 h)
 obtain ⟨s1, s2, _, _⟩ := qm_sides (X := a.1) (e := a.2) (f := b.2) (E := qE a.1 a.2 b.1 b.2 p) hY
 unfold Dy.div
 rw [qv_n, qv_n]
 generalize qE a.1 a.2 b.1 b.2 p = E at *
 have hb2 : qv (b.1, b.2) = qv b := rfl
 constructor
 ·intro h
  rw [sg_pos ((qv_pos b).1 h), Int.one_mul] at s1 s2
  have k1 := (cmp_le (qm a.1 a.2 b.1 b.2 E 0 * b.1, E + b.2) a).1 s1
  have k2 := (cmp_ge (qm a.1 a.2 b.1 b.2 E 1 * b.1, E + b.2) a).1 s2
  rw [qv_mulraw] at k1 k2
  exact ⟨k1, k2⟩
 ·intro h
  rw [sg_neg ((qv_neg_iff b).1 h)] at s1 s2
  have k1 := (cmp_ge (qm a.1 a.2 b.1 b.2 E 0 * b.1, E + b.2) a).1 (by show 0 ≤ cmpD _ _ _ _; dsimp only; omega)
  have k2 := (cmp_le (qm a.1 a.2 b.1 b.2 E 1 * b.1, E + b.2) a).1 (by show cmpD _ _ _ _ ≤ 0; dsimp only; omega)
  rw [qv_mulraw] at k1 k2
  exact ⟨k1, k2⟩
def rinv (x : Re) (p : Int) : Re := (Dy.div (1, 0) x.2 p 0, Dy.div (1, 0) x.1 p 1)
theorem qv_one : qv (1, 0) = 1 := by unfold qv; simp
theorem mul_le_neg {a b c : Rat} (hc : c < 0) (h : a * c ≤ b * c) : b ≤ a := by
 have h2 : b * -c ≤ a * -c := by grind
 exact Rat.le_of_mul_le_mul_right h2 (by grind)
theorem rinv_in {x : Re} {b c : Rat} {p : Int} (h0 : 0 < qv x.1 ∨ qv x.2 < 0) (h : rin x b) (hc : c * b = 1) : rin (rinv x p) c := by
 obtain ⟨h1, h2⟩ := h
 have d1 := fun hb => div_sides (1, 0) x.2 p hb
 have d2 := fun hb => div_sides (1, 0) x.1 p hb
 rw [qv_one] at d1 d2
 unfold rin rinv
 simp only
 generalize qv (Dy.div (1, 0) x.2 p 0) = L at *
 generalize qv (Dy.div (1, 0) x.1 p 1) = H at *
 generalize qv x.1 = u at *
 generalize qv x.2 = v at *
 rcases h0 with h0 | h0
 ·have hb : 0 < b := by grind
  have hv : 0 < v := by grind
  have k1 := ((d1 (by grind)).1 hv).1
  have k2 := ((d2 (by grind)).1 h0).2
  have hc0 : 0 < c := by
   apply Rat.not_le.1
   intro hn
   have := Rat.mul_le_mul_of_nonneg_right hn (Rat.le_of_lt hb)
   grind
  have m1 := Rat.mul_le_mul_of_nonneg_left h2 (Rat.le_of_lt hc0)
  have m2 := Rat.mul_le_mul_of_nonneg_left h1 (Rat.le_of_lt hc0)
  exact ⟨(mul_le_iff hv).1 (by grind), (mul_le_iff h0).1 (by grind)⟩
 ·have hb : b < 0 := by grind
  have hu : u < 0 := by grind
  have k1 := ((d1 (by grind)).2 h0).1
  have k2 := ((d2 (by grind)).2 hu).2
  have hc0 : c < 0 := by
   apply Rat.not_le.1
   intro hn
   have := Rat.mul_le_mul_of_nonneg_left (Rat.le_of_lt hb) hn
   grind
  have hc1 : 0 ≤ -c := by grind
  have m1 := Rat.mul_le_mul_of_nonneg_left h2 hc1
  have m2 := Rat.mul_le_mul_of_nonneg_left h1 hc1
  exact ⟨mul_le_neg h0 (by grind), mul_le_neg hu (by grind)⟩
def Dy.to (a : Dy) (p md : Int) : Dy := (gm a.1 a.2 (stepI a.1 a.2 p) md, ge a.1 a.2 (stepI a.1 a.2 p) md)
theorem gm_sides (m e E : Int) : qv (gm m e E 0, ge m e E 0) ≤ qv (m, e) ∧ qv (m, e) ≤ qv (gm m e E 1, ge m e E 1) := by
 obtain ⟨k, h1, h2⟩ : ∃ k : Nat, -(k : Int) ≤ e ∧ -(k : Int) ≤ E := ⟨e.natAbs + E.natAbs, by omega, by omega⟩
 have hU : (0 : Int) < 2 ^ (E + k).toNat := pow_pos' _
 have g0 := V_grid (k := k) (m := m) (e := e) (E := E) 0 h1 h2
 have g1 := V_grid (k := k) (m := m) (e := e) (E := E) 1 h1 h2
 have l0 := ge_low (k := k) (m := m) (e := e) (E := E) 0 h1 h2
 have l1 := ge_low (k := k) (m := m) (e := e) (E := E) 1 h1 h2
 have q0 := qv_V (k := k) (a := (gm m e E 0, ge m e E 0)) l0
 have q1 := qv_V (k := k) (a := (gm m e E 1, ge m e E 1)) l1
 have q := qv_V (k := k) (a := (m, e)) h1
 have hs := rd_sides (v := V k m e) hU
 dsimp only at q0 q1 q
 rw [← mul_le_iff (p2_pos k), ← mul_le_iff (p2_pos k) (a := qv (m, e)), ← q0, ← q1, ← q, Rat.intCast_le_intCast, Rat.intCast_le_intCast, g0, g1]
 rcases hs with ⟨_, a1, a2, _⟩ | ⟨_, a1, a2, a3, _⟩
 ·omega
 ·omega
def rround (x : Re) (p : Int) : Re := (x.1.to p 0, x.2.to p 1)
theorem rround_in {x : Re} {a : Rat} {p : Int} (h : rin x a) : rin (rround x p) a := by
 unfold rin rround Dy.to at *
 have h1 := (gm_sides x.1.1 x.1.2 (stepI x.1.1 x.1.2 p)).1
 have h2 := (gm_sides x.2.1 x.2.2 (stepI x.2.1 x.2.2 p)).2
 exact ⟨Rat.le_trans h1 h.1, Rat.le_trans h.2 h2⟩
def cmpY (a b : Dy) : Int := cmpD a.1 a.2 b.1 b.2
def hasB (x : Re) (d : Dy) : Bool := decide (cmpY (rn x).1 d ≤ 0) && decide (cmpY d (rn x).2 ≤ 0)
def inB (x y : Re) : Bool := decide (cmpY (rn y).1 (rn x).1 ≤ 0) && decide (cmpY (rn x).2 (rn y).2 ≤ 0)
def zeroB (x : Re) : Bool := decide ((rn x).1.1 ≤ 0) && decide (0 ≤ (rn x).2.1)
theorem hasB_iff (x : Re) (d : Dy) : hasB x d = true ↔ rin (rn x) (qv d) := by
 unfold hasB rin cmpY
 rw [Bool.and_eq_true, decide_eq_true_eq, decide_eq_true_eq, cmp_le, cmp_le]
theorem inB_iff (x y : Re) : inB x y = true ↔ rsub_ (rn x) (rn y) := by
 unfold inB rsub_ cmpY
 rw [Bool.and_eq_true, decide_eq_true_eq, decide_eq_true_eq, cmp_le, cmp_le]
theorem zeroB_iff (x : Re) : zeroB x = true ↔ rin (rn x) 0 := by
 unfold zeroB rin
 rw [Bool.and_eq_true, decide_eq_true_eq, decide_eq_true_eq, qv_nonpos, qv_nonneg]
theorem hasB_zero (x : Re) : hasB x (0, 0) = zeroB x := by
 rw [Bool.eq_iff_iff, hasB_iff, zeroB_iff, qv_zero]
def rcan (x : Re) : Prop := rok x ∧ x.1.n = x.1 ∧ x.2.n = x.2
theorem rcan_rn (x : Re) : rcan (rn x) := by
 refine ⟨rn_ok x, ?_, ?_⟩ <;> (unfold rn; split <;> exact n_n _)
theorem rcan.id {x : Re} (h : rcan x) : rn x = x := rn_id h.1 h.2.1 h.2.2
theorem rn_rn (x : Re) : rn (rn x) = rn x := (rcan_rn x).id
theorem add_n (a b : Dy) : (a.add b).n = a.add b := n_n _
theorem mul_n (a b : Dy) : (a.mul b).n = a.mul b := n_n _
theorem neg_n (a : Dy) : a.neg.n = a.neg := n_n _
theorem abs_n (a : Dy) : a.abs.n = a.abs := n_n _
theorem pow_n (a : Dy) (k : Nat) : (a.pow k).n = a.pow k := n_n _
theorem div_n (a b : Dy) (p md : Int) : (a.div b p md).n = a.div b p md := n_n _
theorem to_n (a : Dy) (p md : Int) : (a.to p md).n = a.to p md := Prod.ext (tm_gm _ _ _ _) (te_gm _ _ _ _)
theorem dmin_can {a b : Dy} (h : a.n = a) (k : b.n = b) : (dmin a b).n = dmin a b := by rcases dmin_or a b with ⟨e, _⟩ | ⟨e, _⟩ <;> rw [e] <;> assumption
theorem dmax_can {a b : Dy} (h : a.n = a) (k : b.n = b) : (dmax a b).n = dmax a b := by rcases dmax_or a b with ⟨e, _⟩ | ⟨e, _⟩ <;> rw [e] <;> assumption
theorem rcan_radd {x y : Re} (h : rok x) (k : rok y) : rcan (radd x y) := by
 refine ⟨?_, add_n _ _, add_n _ _⟩
 unfold rok radd at *; simp only [qv_add]; grind
theorem rcan_rneg {x : Re} (h : rok x) : rcan (rneg x) := by
 refine ⟨?_, neg_n _, neg_n _⟩
 unfold rok rneg at *; simp only [qv_neg]; grind
theorem rcan_rsub {x y : Re} (h : rok x) (k : rok y) : rcan (rsub x y) := rcan_radd h (rcan_rneg k).1
theorem rcan_rmul {x y : Re} (h : rok x) (k : rok y) : rcan (rmul x y) := by
 have := rmul_in (x := x) (y := y) ⟨Rat.le_refl, h⟩ ⟨Rat.le_refl, k⟩
 exact ⟨Rat.le_trans this.1 this.2, dmin_can (dmin_can (mul_n _ _) (mul_n _ _)) (dmin_can (mul_n _ _) (mul_n _ _)), dmax_can (dmax_can (mul_n _ _) (mul_n _ _)) (dmax_can (mul_n _ _) (mul_n _ _))⟩
theorem zero_n : Dy.n (0, 0) = (0, 0) := by unfold Dy.n; rw [tmI_zero, teI_zero]
theorem rcan_rpow {x : Re} (h : rok x) (k : Nat) : rcan (rpow x k) := by
 have := rpow_in (x := x) (a := qv x.1) ⟨Rat.le_refl, h⟩ k
 refine ⟨Rat.le_trans this.1 this.2, ?_, ?_⟩ <;> (unfold rpow; split <;> exact pow_n _ _)
theorem rcan_rhull {x y : Re} (h : rcan x) (k : rcan y) : rcan (rhull x y) := by
 have := rhull_in (x := x) (y := y) (a := qv x.1) (.inl ⟨Rat.le_refl, h.1⟩)
 exact ⟨Rat.le_trans this.1 this.2, dmin_can h.2.1 k.2.1, dmax_can h.2.2 k.2.2⟩
theorem rcan_rround {x : Re} (h : rok x) (p : Int) : rcan (rround x p) := by
 have := rround_in (x := x) (a := qv x.1) (p := p) ⟨Rat.le_refl, h⟩
 exact ⟨Rat.le_trans this.1 this.2, to_n _ _ _, to_n _ _ _⟩
theorem rcan_rinv {x : Re} (h : rok x) (h0 : 0 < qv x.1 ∨ qv x.2 < 0) (p : Int) : rcan (rinv x p) := by
 have hx : qv x.1 ≠ 0 := by
  unfold rok at h
  rcases h0 with h0 | h0
  ·grind
  ·grind
 have := rinv_in (x := x) (b := qv x.1) (c := (qv x.1)⁻¹) (p := p) h0 ⟨Rat.le_refl, h⟩ (Rat.inv_mul_cancel _ hx)
 exact ⟨Rat.le_trans this.1 this.2, div_n _ _ _ _, div_n _ _ _ _⟩
section
variable {X Y Z : Re} {s t : Dy}
theorem qa_abs (a : Dy) : qv a.abs = qa (qv a) := by
 have h1 := qv_abs a
 have h2 := qv_nonneg a
 unfold qa
 by_cases h3 : 0 ≤ a.1
 ·rw [if_pos h3] at h1; rw [if_pos (h2.2 h3)]; exact h1
 ·rw [if_neg h3] at h1; rw [if_neg (fun h4 => h3 (h2.1 h4))]; exact h1
theorem no_zero (h : zeroB Y = false) : 0 < qv (rn Y).1 ∨ qv (rn Y).2 < 0 := by
 have h1 := zeroB_iff Y
 rw [h] at h1
 have h2 : ¬ rin (rn Y) 0 := fun h3 => by have := h1.2 h3; cases this
 unfold rin at h2
 rcases Rat.le_total (a := qv (rn Y).1) (b := 0) with h3 | h3
 ·right; exact Rat.not_le.1 fun h4 => h2 ⟨h3, h4⟩
 ·by_cases h4 : qv (rn Y).1 = 0
  ·right; exact Rat.not_le.1 fun h5 => h2 ⟨by rw [h4]; exact Rat.le_refl, h5⟩
  ·left; exact Rat.lt_of_le_of_ne h3 (Ne.symm h4)
def rdiv (x y : Re) (p : Int) : Re := rround (rmul x (rinv y p)) p
end
section
variable {X Y Z : Re}
def meetB (X Y : Re) : Bool := decide (cmpY (rmeet (rn X) (rn Y)).1 (rmeet (rn X) (rn Y)).2 ≤ 0)
theorem meetB_iff : meetB X Y = true ↔ rok (rmeet (rn X) (rn Y)) := by
 unfold meetB rok cmpY
 rw [decide_eq_true_eq, cmp_le]
theorem meet_no (h : meetB X Y = false) : inB X Y = false := by
 cases hb : inB X Y with
 | false => rfl
 | true =>
  exfalso
  have h1 := (inB_iff X Y).1 hb
  have h2 : ¬ rok (rmeet (rn X) (rn Y)) := fun h3 => by rw [meetB_iff.2 h3] at h; cases h
  have h4 := rn_ok X
  unfold rok rmeet rsub_ at *
  simp only at h2
  rcases dmin_or (rn X).2 (rn Y).2 with ⟨e1, _⟩ | ⟨e1, _⟩ <;> rcases dmax_or (rn X).1 (rn Y).1 with ⟨e2, _⟩ | ⟨e2, _⟩ <;> rw [e1, e2] at h2 <;> grind
theorem rcan_rmeet (h : meetB X Y = true) : rcan (rmeet (rn X) (rn Y)) :=
 ⟨meetB_iff.1 h, dmax_can (rcan_rn X).2.1 (rcan_rn Y).2.1, dmin_can (rcan_rn X).2.2 (rcan_rn Y).2.2⟩
theorem inB_of {w x : Re} (hw : rcan w) (hx : rcan x) (h : rsub_ w x) : inB w x = true := by
 rw [inB_iff, hw.id, hx.id]; exact h
theorem dmin_self (a : Dy) : dmin a a = a := by rcases dmin_or a a with ⟨e, _⟩ | ⟨e, _⟩ <;> exact e
theorem dmax_self (a : Dy) : dmax a a = a := by rcases dmax_or a a with ⟨e, _⟩ | ⟨e, _⟩ <;> exact e
theorem rmul_one (a b : Dy) : rmul (a, a) (b, b) = (a.mul b, a.mul b) := by
 unfold rmul; simp only [dmin_self, dmax_self]
theorem rn_ends (x : Re) : (rn x = (x.1.n, x.2.n)) ∨ (rn x = (x.2.n, x.1.n)) := by
 unfold rn; split
 ·exact .inl rfl
 ·exact .inr rfl
end
def fD (a : Dy) (k B : Nat) : Prop := Fit a.1 k ∧ -(B : Int) ≤ a.2 ∧ a.2 ≤ B
theorem fD.mono {a : Dy} {k l B C : Nat} (h : fD a k B) (h1 : k ≤ l) (h2 : B ≤ C) : fD a l C := ⟨h.1.mono h1, by have := h.2.1; omega, by have := h.2.2; omega⟩
theorem fD_n {a : Dy} {k B : Nat} (h : fD a k B) : fD a.n k (B + k) := by
 have h1 := teI_bound (e := a.2) h.1
 have h2 := h.2
 refine ⟨fit_tm h.1, ?_, ?_⟩ <;> (show _ ≤ _; unfold Dy.n; dsimp only; omega)
theorem fD_abs {a : Dy} {k B : Nat} (h : fD a k B) : fD a.abs k (B + k) := fD_n (a := ((a.1.natAbs : Nat), a.2)) ⟨fit_abs h.1, h.2⟩
theorem fD_mul {a b : Dy} {k l B C : Nat} (ha : fD a k B) (hb : fD b l C) : fD (a.mul b) (k + l) (B + C + k + l) := by
 have a2 := ha.2
 have b2 := hb.2
 exact (fD_n (a := (a.1 * b.1, a.2 + b.2)) (k := k + l) (B := B + C) ⟨ha.1.mul hb.1 (Nat.le_refl _), by dsimp only; omega, by dsimp only; omega⟩).mono (by omega) (by omega)
theorem fD_min {a b : Dy} {k B : Nat} (ha : fD a k B) (hb : fD b k B) : fD (dmin a b) k B := by rcases dmin_or a b with ⟨e, _⟩ | ⟨e, _⟩ <;> rw [e] <;> assumption
theorem fD_max {a b : Dy} {k B : Nat} (ha : fD a k B) (hb : fD b k B) : fD (dmax a b) k B := by rcases dmax_or a b with ⟨e, _⟩ | ⟨e, _⟩ <;> rw [e] <;> assumption
theorem fit_nil (k : Nat) : Fit 0 k := by unfold Fit; exact Nat.pow_pos (by decide)
theorem qm_fitQ {X e Y f p : Int} (fX : Fit X 640) (fY : Fit Y 640) (h1 : -2000 ≤ e) (h2 : e ≤ 2000) (h3 : -2000 ≤ f) (h4 : f ≤ 2000) (hq : p ≤ 400) (md : Int) : Fit (qm X e Y f (qE X e Y f p) md) 401 := by
 by_cases hY : Y = 0
 ·subst hY; rw [qm_zY]; exact fit_nil 401
 ·have e1 : qE X e Y f p = qE X e Y f (max p 1) := by
   unfold qE
   rw [show min (max p 1) 4000 = min (max (max p 1) 1) 4000 by omega]
  have ht := topD_in fX fY h1 h2 h3 h4
  have hE := qE_is (X := X) (e := e) (Y := Y) (f := f) (p := max p 1) (by omega) (by omega) (by omega) (by omega)
  have hl := qm_le (X := X) (e := e) (f := f) (max p 1) hY (by omega) md
  rw [← hE] at hl
  rw [e1]
  exact (fit_le hl).mono (by omega)
theorem fD_div {a b : Dy} (ha : fD a 640 2000) (hb : fD b 640 2000) {p : Int} (hp : p ≤ 400) (md : Int) : fD (a.div b p md) 401 5600 := by
 have hf := qm_fitQ ha.1 hb.1 ha.2.1 ha.2.2 hb.2.1 hb.2.2 hp md
 have ht := topD_in ha.1 hb.1 ha.2.1 ha.2.2 hb.2.1 hb.2.2
 have hE : -5100 ≤ qE a.1 a.2 b.1 b.2 p ∧ qE a.1 a.2 b.1 b.2 p ≤ 4700 := by unfold qE clampE; omega
 exact (fD_n (a := (qm a.1 a.2 b.1 b.2 (qE a.1 a.2 b.1 b.2 p) md, qE a.1 a.2 b.1 b.2 p)) (k := 401) (B := 5100) ⟨hf, by dsimp only; omega, by dsimp only; omega⟩).mono (Nat.le_refl _) (by omega)
def fR (x : Re) (k B : Nat) : Prop := fD x.1 k B ∧ fD x.2 k B
theorem fR_rn {x : Re} {k B : Nat} (h : fR x k B) : fR (rn x) k (B + k) := by
 rcases rn_ends x with e | e <;> rw [e]
 ·exact ⟨fD_n h.1, fD_n h.2⟩
 ·exact ⟨fD_n h.2, fD_n h.1⟩
theorem fR.mono {x : Re} {k l B C : Nat} (h : fR x k B) (h1 : k ≤ l) (h2 : B ≤ C) : fR x l C := ⟨h.1.mono h1 h2, h.2.mono h1 h2⟩
theorem fR_rmul {x y : Re} {k l B C : Nat} (h : fR x k B) (g : fR y l C) : fR (rmul x y) (k + l) (B + C + k + l) :=
 ⟨fD_min (fD_min (fD_mul h.1 g.1) (fD_mul h.1 g.2)) (fD_min (fD_mul h.2 g.1) (fD_mul h.2 g.2)), fD_max (fD_max (fD_mul h.1 g.1) (fD_mul h.1 g.2)) (fD_max (fD_mul h.2 g.1) (fD_mul h.2 g.2))⟩
theorem fD_zero (k B : Nat) : fD (0, 0) k B := ⟨show Fit 0 k by unfold Fit; exact Nat.pow_pos (by decide), by dsimp only; omega, by dsimp only; omega⟩
theorem fR_rabs {x : Re} {k B : Nat} (h : fR x k B) : fR (rabs x) k (B + k) := by
 unfold rabs; split
 ·exact ⟨fD_zero _ _, fD_max (fD_abs h.1) (fD_abs h.2)⟩
 ·exact ⟨fD_min (fD_abs h.1) (fD_abs h.2), fD_max (fD_abs h.1) (fD_abs h.2)⟩
theorem fD_one : fD (1, 0) 640 2000 := ⟨(show Fit 1 1 by unfold Fit; decide).mono (by decide), by decide, by decide⟩
theorem fR_rinv {x : Re} (h : fR x 640 2000) {p : Int} (hp : p ≤ 400) : fR (rinv x p) 401 5600 := ⟨fD_div fD_one h.2 hp _, fD_div fD_one h.1 hp _⟩
end Go.Proofs.YtkfojbelnemhbaaGreatDoor.Ev
namespace Go.Proofs.YtkfojbelnemhbaaGreatDoor.Ev
open Go Go.RowKit
theorem sg_nonneg7 (z : Int) : 0 ≤ sg z ↔ 0 ≤ z := by rcases sg_cases z with ⟨h1, h2⟩ | ⟨h1, h2⟩ | ⟨h1, h2⟩ <;> rw [h2] <;> omega
theorem min_z : min (max (0 : Int) (-20000)) 20000 = 0 := by decide
def ro (x : Re) : Re := if cmpD x.1.1 x.1.2 x.2.1 x.2.2 ≤ 0 then x else (x.2, x.1)
theorem rn_ro (x : Re) : rn x = ((ro x).1.n, (ro x).2.n) := by
 unfold rn ro; split <;> rfl
theorem ro_ok (x : Re) : rok (ro x) := by
 have h := rn_ok x
 rw [rn_ro] at h
 unfold rok at *
 rw [qv_n, qv_n] at h
 exact h
theorem ro_id {x : Re} (h : rok x) : ro x = x := if_pos ((cmp_le _ _).2 h)
theorem nn_eq {a b : Dy} (ha : a.n = a) (hb : b.n = b) (h : qv a = qv b) : a = b := by
 rw [← ha, ← hb]; exact qv_inj.1 h
theorem add_nn (a b : Dy) : a.n.add b.n = a.add b := nn_eq (add_n _ _) (add_n _ _) (by rw [qv_add, qv_add, qv_n, qv_n])
theorem mul_nn (a b : Dy) : a.n.mul b.n = a.mul b := nn_eq (mul_n _ _) (mul_n _ _) (by rw [qv_mul, qv_mul, qv_n, qv_n])
theorem neg_nn (a : Dy) : a.n.neg = a.neg := nn_eq (neg_n _) (neg_n _) (by rw [qv_neg, qv_neg, qv_n])
theorem sub_n (a b : Dy) : (a.sub b).n = a.sub b := n_n _
theorem add_neg (a b : Dy) : a.add b.neg = a.sub b := nn_eq (add_n _ _) (sub_n _ _) (by rw [qv_add, qv_neg, qv_sub, Rat.sub_eq_add_neg])
theorem sub_nn (a b : Dy) : a.n.add b.n.neg = a.sub b := by rw [neg_nn, ← neg_n b, add_nn, add_neg]
theorem pow_nn (a : Dy) (k : Nat) : a.n.pow k = a.pow k := by unfold Dy.pow; rw [n_n]
theorem abs_qv {a b : Dy} (h : qv a = qv b) : qv a.abs = qv b.abs := by rw [qa_abs, qa_abs, h]
theorem abs_nn (a : Dy) : a.n.abs = a.abs := nn_eq (abs_n _) (abs_n _) (abs_qv (qv_n a))
theorem to_nn (a : Dy) (p md : Int) : a.n.to p md = a.to p md := by
 unfold Dy.to Dy.n
 simp only [stepI_nrm, gm_nrm, ge_nrm]
theorem pow_two (a : Dy) : a.pow 2 = a.mul a := nn_eq (pow_n _ _) (mul_n _ _) (by rw [qv_pow, qv_mul, Rat.pow_succ, Rat.pow_succ, Rat.pow_zero, Rat.one_mul])
theorem e_add (x y : Re) : radd (rn x) (rn y) = ((ro x).1.add (ro y).1, (ro x).2.add (ro y).2) := by
 rw [rn_ro, rn_ro y]; unfold radd; simp only [add_nn]
theorem e_neg (x : Re) : rneg (rn x) = ((ro x).2.neg, (ro x).1.neg) := by
 rw [rn_ro]; unfold rneg; simp only [neg_nn]
theorem e_sub (x y : Re) : rsub (rn x) (rn y) = ((ro x).1.sub (ro y).2, (ro x).2.sub (ro y).1) := by
 rw [rn_ro, rn_ro y]; unfold rsub radd rneg; simp only [sub_nn]
theorem e_hull (x y : Re) : rhull (rn x) (rn y) = ((dmin (ro x).1 (ro y).1).n, (dmax (ro x).2 (ro y).2).n) := by
 rw [rn_ro, rn_ro y]; unfold rhull; simp only [dmin_n, dmax_n]
theorem e_meet (x y : Re) : rmeet (rn x) (rn y) = ((dmax (ro x).1 (ro y).1).n, (dmin (ro x).2 (ro y).2).n) := by
 rw [rn_ro, rn_ro y]; unfold rmeet; simp only [dmin_n, dmax_n]
theorem e_round (x : Re) (p : Int) : rround (rn x) p = ((ro x).1.to p 0, (ro x).2.to p 1) := by
 rw [rn_ro]; unfold rround; simp only [to_nn]
theorem rmul_is {x y z : Re} (h1 : z.1.n = z.1) (h2 : z.2.n = z.2)
  (l : qv z.1 ≤ qv x.1 * qv y.1 ∧ qv z.1 ≤ qv x.1 * qv y.2 ∧ qv z.1 ≤ qv x.2 * qv y.1 ∧ qv z.1 ≤ qv x.2 * qv y.2)
  (g : qv x.1 * qv y.1 ≤ qv z.2 ∧ qv x.1 * qv y.2 ≤ qv z.2 ∧ qv x.2 * qv y.1 ≤ qv z.2 ∧ qv x.2 * qv y.2 ≤ qv z.2)
  (e1 : qv z.1 = qv x.1 * qv y.1 ∨ qv z.1 = qv x.1 * qv y.2 ∨ qv z.1 = qv x.2 * qv y.1 ∨ qv z.1 = qv x.2 * qv y.2)
  (e2 : qv z.2 = qv x.1 * qv y.1 ∨ qv z.2 = qv x.1 * qv y.2 ∨ qv z.2 = qv x.2 * qv y.1 ∨ qv z.2 = qv x.2 * qv y.2) : rmul x y = z := by
 obtain ⟨n, n1, n2, n3, n4⟩ := min4 (x.1.mul y.1) (x.1.mul y.2) (x.2.mul y.1) (x.2.mul y.2)
 obtain ⟨m, m1, m2, m3, m4⟩ := max4 (x.1.mul y.1) (x.1.mul y.2) (x.2.mul y.1) (x.2.mul y.2)
 have hn : (rmul x y).1.n = (rmul x y).1 := dmin_can (dmin_can (mul_n _ _) (mul_n _ _)) (dmin_can (mul_n _ _) (mul_n _ _))
 have hm : (rmul x y).2.n = (rmul x y).2 := dmax_can (dmax_can (mul_n _ _) (mul_n _ _)) (dmax_can (mul_n _ _) (mul_n _ _))
 refine Prod.ext (nn_eq hn h1 ?_) (nn_eq hm h2 ?_)
 ·have n' : qv (rmul x y).1 = qv x.1 * qv y.1 ∨ qv (rmul x y).1 = qv x.1 * qv y.2 ∨ qv (rmul x y).1 = qv x.2 * qv y.1 ∨ qv (rmul x y).1 = qv x.2 * qv y.2 := by
   unfold rmul; dsimp only
   rcases n with n | n | n | n <;> rw [n, qv_mul] <;> simp
  simp only [qv_mul] at n1 n2 n3 n4
  have n1' : qv (rmul x y).1 ≤ _ := n1
  have n2' : qv (rmul x y).1 ≤ _ := n2
  have n3' : qv (rmul x y).1 ≤ _ := n3
  have n4' : qv (rmul x y).1 ≤ _ := n4
  clear n n1 n2 n3 n4 m m1 m2 m3 m4 hn hm e2 g
  generalize qv (rmul x y).1 = L at *
  generalize qv z.1 = K at *
  generalize qv x.1 * qv y.1 = a at *
  generalize qv x.1 * qv y.2 = b at *
  generalize qv x.2 * qv y.1 = c at *
  generalize qv x.2 * qv y.2 = d at *
  rcases n' with h | h | h | h <;> rcases e1 with k | k | k | k <;> grind
 ·have n' : qv (rmul x y).2 = qv x.1 * qv y.1 ∨ qv (rmul x y).2 = qv x.1 * qv y.2 ∨ qv (rmul x y).2 = qv x.2 * qv y.1 ∨ qv (rmul x y).2 = qv x.2 * qv y.2 := by
   unfold rmul; dsimp only
   rcases m with n | n | n | n <;> rw [n, qv_mul] <;> simp
  simp only [qv_mul] at m1 m2 m3 m4
  have n1' : _ ≤ qv (rmul x y).2 := m1
  have n2' : _ ≤ qv (rmul x y).2 := m2
  have n3' : _ ≤ qv (rmul x y).2 := m3
  have n4' : _ ≤ qv (rmul x y).2 := m4
  clear n n1 n2 n3 n4 m m1 m2 m3 m4 hn hm e1 l
  generalize qv (rmul x y).2 = L at *
  generalize qv z.2 = K at *
  generalize qv x.1 * qv y.1 = a at *
  generalize qv x.1 * qv y.2 = b at *
  generalize qv x.2 * qv y.1 = c at *
  generalize qv x.2 * qv y.2 = d at *
  rcases n' with h | h | h | h <;> rcases e2 with k | k | k | k <;> grind
def sideZ (x : Re) : Int := if 0 ≤ x.1.1 then 2 else if x.2.1 ≤ 0 then 0 else 1
theorem sideZ_cases (x : Re) : (sideZ x = 2 ∧ 0 ≤ qv x.1) ∨ (sideZ x = 0 ∧ qv x.1 ≤ 0 ∧ qv x.2 ≤ 0) ∨ (sideZ x = 1 ∧ qv x.1 ≤ 0 ∧ 0 ≤ qv x.2) := by
 have a := qv_nonneg x.1
 have b := qv_nonpos x.2
 have c := qv_nonpos x.1
 have d := qv_nonneg x.2
 unfold sideZ
 by_cases h : 0 ≤ x.1.1
 ·rw [if_pos h]; exact .inl ⟨rfl, a.2 h⟩
 ·rw [if_neg h]
  by_cases k : x.2.1 ≤ 0
  ·rw [if_pos k]; exact .inr (.inl ⟨rfl, c.2 (by omega), b.2 k⟩)
  ·rw [if_neg k]; exact .inr (.inr ⟨rfl, c.2 (by omega), d.2 (by omega)⟩)
def endZ (x : Re) (i : Int) : Dy := if i = 0 then x.1 else x.2
theorem mono2 {a b c : Rat} (h : a ≤ b) : (0 ≤ c → a * c ≤ b * c) ∧ (c ≤ 0 → b * c ≤ a * c) := ⟨fun hc => Rat.mul_le_mul_of_nonneg_right h hc, fun hc => by
 have := Rat.mul_le_mul_of_nonneg_right h (show 0 ≤ -c by grind)
 grind⟩
def tabL : List Int := [1, 1, 0, 0, 0, 1, 0, 0, 0, 1, 1, 0, 1, 0, 0, 0, 1, 0, 1, 1, 0, 1, 1, 1, 1, 0, 0, 1, 1, 0, 1, 1, 0, 0, 1, 1]
def crn (x y : Re) (i j : Int) : Dy := (endZ x i).mul (endZ y j)
def tabZ (x y : Re) (k : Nat) : Int := tabL.getD ((sideZ x).toNat * 12 + (sideZ y).toNat * 4 + k) 0
def mulZ (x y : Re) : Re :=
 if sideZ x = 1 ∧ sideZ y = 1 then (dmin (crn x y 1 0) (crn x y 0 1), dmax (crn x y 1 1) (crn x y 0 0))
 else (crn x y (tabZ x y 0) (tabZ x y 1), crn x y (tabZ x y 2) (tabZ x y 3))
theorem e_mul0 {x y : Re} (hx : rok x) (hy : rok y) : rmul x y = mulZ x y := by
 unfold rok at hx hy
 have p1 := mono2 (c := qv y.1) hx
 have p2 := mono2 (c := qv y.2) hx
 have p3 := mono2 (c := qv x.1) hy
 have p4 := mono2 (c := qv x.2) hy
 rw [Rat.mul_comm (qv y.1), Rat.mul_comm (qv y.2)] at p3 p4
 have cx := sideZ_cases x
 have cy := sideZ_cases y
 unfold mulZ tabZ
 rcases cx with ⟨ex, cx⟩ | ⟨ex, cx, cx2⟩ | ⟨ex, cx, cx2⟩ <;> rcases cy with ⟨ey, cy⟩ | ⟨ey, cy, cy2⟩ | ⟨ey, cy, cy2⟩ <;> rw [ex, ey]
 case inr.inr.inr.inr =>
  rw [if_pos ⟨rfl, rfl⟩]
  have d1 := dmin_or (crn x y 1 0) (crn x y 0 1)
  have d2 := dmax_or (crn x y 1 1) (crn x y 0 0)
  refine rmul_is (dmin_can (mul_n _ _) (mul_n _ _)) (dmax_can (mul_n _ _) (mul_n _ _)) ?_ ?_ ?_ ?_ <;> dsimp only
  all_goals
   simp only [crn, endZ, Int.reduceEq, reduceIte, qv_mul] at d1 d2 ⊢
   rcases d1 with ⟨d1, e1⟩ | ⟨d1, e1⟩ <;> rcases d2 with ⟨d2, e2⟩ | ⟨d2, e2⟩ <;> simp only [d1, d2, qv_mul] <;> grind
 all_goals
  rw [if_neg (by decide)]
  simp only [show Int.toNat 2 = 2 from rfl, show Int.toNat 1 = 1 from rfl, show Int.toNat 0 = 0 from rfl, Nat.reduceMul, Nat.reduceAdd, tabL, List.getD_cons_succ, List.getD_cons_zero]
  refine rmul_is (mul_n _ _) (mul_n _ _) ?_ ?_ ?_ ?_ <;> dsimp only <;> simp only [crn, endZ, Int.reduceEq, reduceIte, qv_mul] <;> grind
theorem mulZ_n {x y : Re} : mulZ (x.1.n, x.2.n) (y.1.n, y.2.n) = mulZ x y := by
 have h1 : ∀ z : Re, sideZ (z.1.n, z.2.n) = sideZ z := fun z => by
  have a := qv_nonneg z.1
  have b := qv_nonpos z.2
  have c := qv_nonneg z.1.n
  have d := qv_nonpos z.2.n
  rw [qv_n] at c d
  unfold sideZ
  simp only [← c, ← d, ← a, ← b]
 have h2 : ∀ (i j : Int), crn (x.1.n, x.2.n) (y.1.n, y.2.n) i j = crn x y i j := fun i j => by
  unfold crn endZ
  split <;> split <;> exact mul_nn _ _
 unfold mulZ tabZ
 simp only [h1, h2]
theorem e_mul (x y : Re) : rmul (rn x) (rn y) = mulZ (ro x) (ro y) := by
 rw [e_mul0 (rn_ok x) (rn_ok y), rn_ro, rn_ro y, mulZ_n]
theorem e_abs (x : Re) : rabs (rn x) = if 0 ≤ (ro x).1.1 then ((ro x).1.n, (ro x).2.n) else if (ro x).2.1 ≤ 0 then ((ro x).2.neg, (ro x).1.neg) else ((0, 0), dmax (ro x).1.abs (ro x).2.abs) := by
 have h := ro_ok x
 rw [rn_ro]
 generalize ro x = z at *
 unfold rok at h
 have a := qv_nonneg z.1
 have b := qv_nonpos z.2
 have a' := qv_nonneg z.1.n
 have b' := qv_nonpos z.2.n
 have c' := qv_nonpos z.1.n
 have d' := qv_nonneg z.2.n
 have f1 := qa_abs z.1
 have f2 := qa_abs z.2
 rw [qv_n] at a' b' c' d'
 unfold rabs
 dsimp only
 rw [abs_nn, abs_nn]
 have z0 : qv ((0, 0) : Dy) = 0 := qv_zero 0
 have mx := dmax_or z.1.abs z.2.abs
 have mn := dmin_or z.1.abs z.2.abs
 by_cases h1 : 0 ≤ z.1.1
 ·rw [if_pos h1]
  have k1 := a.2 h1
  have k2 : 0 ≤ qv z.2 := Rat.le_trans k1 h
  have g1 : qv z.1.abs = qv z.1 := by rw [f1]; exact if_pos k1
  have g2 : qv z.2.abs = qv z.2 := by rw [f2]; exact if_pos k2
  split
  ·rename_i hc
   have k3 : qv z.1 ≤ 0 := c'.2 hc.1
   refine Prod.ext ?_ ?_
   ·refine nn_eq zero_n (n_n _) ?_
    rw [z0, qv_n]; exact Rat.le_antisymm k1 k3
   ·refine nn_eq (dmax_can (abs_n _) (abs_n _)) (n_n _) ?_
    rw [qv_n]
    rcases mx with ⟨e, l⟩ | ⟨e, l⟩ <;> rw [e] <;> grind
  ·refine Prod.ext ?_ ?_
   ·refine nn_eq (dmin_can (abs_n _) (abs_n _)) (n_n _) ?_
    rw [qv_n]
    rcases mn with ⟨e, l⟩ | ⟨e, l⟩ <;> rw [e] <;> grind
   ·refine nn_eq (dmax_can (abs_n _) (abs_n _)) (n_n _) ?_
    rw [qv_n]
    rcases mx with ⟨e, l⟩ | ⟨e, l⟩ <;> rw [e] <;> grind
 ·rw [if_neg h1]
  have k1 : qv z.1 < 0 := Rat.not_le.1 fun h => h1 (a.1 h)
  have g1 : qv z.1.abs = -qv z.1 := by rw [f1]; exact if_neg (Rat.not_le.2 k1)
  by_cases h2 : z.2.1 ≤ 0
  ·rw [if_pos h2]
   have k2 := b.2 h2
   have g2 : qv z.2.abs = -qv z.2 := by
    rw [f2]; unfold qa; split
    ·grind
    ·rfl
   split
   ·rename_i hc
    have k3 : 0 ≤ qv z.2 := d'.2 hc.2
    refine Prod.ext ?_ ?_
    ·refine nn_eq zero_n (neg_n _) ?_
     rw [z0, qv_neg]; grind
    ·refine nn_eq (dmax_can (abs_n _) (abs_n _)) (neg_n _) ?_
     rw [qv_neg]
     rcases mx with ⟨e, l⟩ | ⟨e, l⟩ <;> rw [e] <;> grind
   ·refine Prod.ext ?_ ?_
    ·refine nn_eq (dmin_can (abs_n _) (abs_n _)) (neg_n _) ?_
     rw [qv_neg]
     rcases mn with ⟨e, l⟩ | ⟨e, l⟩ <;> rw [e] <;> grind
    ·refine nn_eq (dmax_can (abs_n _) (abs_n _)) (neg_n _) ?_
     rw [qv_neg]
     rcases mx with ⟨e, l⟩ | ⟨e, l⟩ <;> rw [e] <;> grind
  ·rw [if_neg h2]
   have k2 : 0 < qv z.2 := Rat.not_le.1 fun h => h2 (b.1 h)
   rw [if_pos ⟨c'.1 (Rat.le_of_lt k1), d'.1 (Rat.le_of_lt k2)⟩]
theorem e_has (x : Re) (d : Dy) : hasB x d = (decide (cmpD (ro x).1.1 (ro x).1.2 d.1 d.2 ≤ 0) && decide (cmpD d.1 d.2 (ro x).2.1 (ro x).2.2 ≤ 0)) := by
 rw [Bool.eq_iff_iff, hasB_iff, Bool.and_eq_true, decide_eq_true_eq, decide_eq_true_eq, cmp_le, cmp_le, rn_ro]
 unfold rin
 dsimp only
 rw [qv_n, qv_n]
theorem e_in (x y : Re) : inB x y = (hasB y x.1 && hasB y x.2) := by
 rw [Bool.eq_iff_iff, inB_iff, Bool.and_eq_true, hasB_iff, hasB_iff, rn_ro x, rn_ro y]
 have h := ro_ok x
 unfold rsub_ rin rok at *
 dsimp only
 simp only [qv_n]
 unfold ro at h ⊢
 by_cases hc : cmpD x.1.1 x.1.2 x.2.1 x.2.2 ≤ 0
 ·rw [if_pos hc] at h ⊢
  exact ⟨fun k => ⟨⟨k.1, Rat.le_trans h k.2⟩, Rat.le_trans k.1 h, k.2⟩, fun k => ⟨k.1.1, k.2.2⟩⟩
 ·rw [if_neg hc] at h ⊢
  exact ⟨fun k => ⟨⟨Rat.le_trans k.1 h, k.2⟩, k.1, Rat.le_trans h k.2⟩, fun k => ⟨k.2.1, k.1.2⟩⟩
theorem e_same (x y : Re) : decide (rn x = rn y) = (decide (cmpD (ro x).1.1 (ro x).1.2 (ro y).1.1 (ro y).1.2 = 0) && decide (cmpD (ro x).2.1 (ro x).2.2 (ro y).2.1 (ro y).2.2 = 0)) := by
 rw [Bool.eq_iff_iff, Bool.and_eq_true, decide_eq_true_eq, decide_eq_true_eq, decide_eq_true_eq, cmp_eq, cmp_eq, qv_inj, qv_inj, rn_ro, rn_ro y, Prod.ext_iff]
theorem e_pow (x : Re) (k : Nat) : rpow (rn x) k = if k % 2 = 0 then ((rabs (rn x)).1.pow k, (rabs (rn x)).2.pow k) else ((ro x).1.pow k, (ro x).2.pow k) := by
 unfold rpow; rw [rn_ro]; simp only [pow_nn]
theorem e_square (x : Re) : rpow (rn x) 2 = ((rabs (rn x)).1.mul (rabs (rn x)).1, (rabs (rn x)).2.mul (rabs (rn x)).2) := by
 rw [e_pow, if_pos rfl, pow_two, pow_two]
theorem e_meetB (x y : Re) : meetB x y = decide (cmpD (dmax (ro x).1 (ro y).1).1 (dmax (ro x).1 (ro y).1).2 (dmin (ro x).2 (ro y).2).1 (dmin (ro x).2 (ro y).2).2 ≤ 0) := by
 unfold meetB cmpY
 rw [decide_eq_decide, cmp_le, cmp_le, e_meet]
 dsimp only
 rw [qv_n, qv_n]
end Go.Proofs.YtkfojbelnemhbaaGreatDoor.Ev
namespace Go.Proofs.YtkfojbelnemhbaaGreatDoor
open Go.RowKit
theorem RootAt.bit {X i : Nat} {L : List Nat} (h : RootAt X (i + 1) L) (hk : i / 32 < L.length) :
  dig L (i / 32) + 2 ^ (i % 32) < 4294967296 ∧ Ok (L.set (i / 32) (dig L (i / 32) + 2 ^ (i % 32))) ∧ val (L.set (i / 32) (dig L (i / 32) + 2 ^ (i % 32))) = val L + 2 ^ i := by
 have hz := low_zero h.1 h.2.1
 have hb : dig L (i / 32) < 4294967296 := h.1 _
 have hlt : dig L (i / 32) + 2 ^ (i % 32) < 4294967296 := by
  obtain ⟨t, ht⟩ : ∃ t, i % 32 + 1 + t = 32 := ⟨31 - i % 32, by omega⟩
  have hp : 2 ^ (i % 32 + 1) * 2 ^ t = 4294967296 := by rw [← Nat.pow_add, ht]
  obtain ⟨q, hq⟩ : ∃ q, dig L (i / 32) = 2 ^ (i % 32 + 1) * q := ⟨_, (Nat.mul_div_cancel' (Nat.dvd_of_mod_eq_zero hz)).symm⟩
  have h2 : 2 ^ (i % 32) < 2 ^ (i % 32 + 1) := Nat.pow_lt_pow_right (by omega) (by omega)
  rw [hq] at hb ⊢
  rw [← hp] at hb ⊢
  have h3 : q < 2 ^ t := Nat.lt_of_mul_lt_mul_left hb
  have h4 : 2 ^ (i % 32 + 1) * (q + 1) ≤ 2 ^ (i % 32 + 1) * 2 ^ t := Nat.mul_le_mul (Nat.le_refl _) h3
  rw [Nat.mul_add, Nat.mul_one] at h4
  omega
 refine ⟨hlt, h.1.set hk hlt, ?_⟩
 rw [val_set_add hk, Bs_pow_eq, ← Nat.pow_add, Nat.div_add_mod]
theorem RootAt.on {X i : Nat} {L : List Nat} (h : RootAt X (i + 1) L) (hk : i / 32 < L.length) (hle : (val L + 2 ^ i) * (val L + 2 ^ i) ≤ X) :
  RootAt X i (L.set (i / 32) (dig L (i / 32) + 2 ^ (i % 32))) := by
 obtain ⟨h1, h2, h3⟩ := h.bit hk
 have hm : val L % 2 ^ i = 0 := Nat.mod_eq_zero_of_dvd (Nat.dvd_trans (Nat.pow_dvd_pow 2 (Nat.le_succ i)) (Nat.dvd_of_mod_eq_zero h.2.1))
 refine ⟨h2, ?_, ?_, ?_⟩
 ·rw [h3, Nat.add_mod_right, hm]
 ·rw [h3]; exact hle
 ·rw [h3, Nat.add_assoc, ← Nat.two_mul, Nat.mul_comm 2, ← Nat.pow_succ]; exact h.2.2.2
theorem RootAt.off {X i : Nat} {L : List Nat} (h : RootAt X (i + 1) L) (hlt : X < (val L + 2 ^ i) * (val L + 2 ^ i)) : RootAt X i L :=
 ⟨h.1, Nat.mod_eq_zero_of_dvd (Nat.dvd_trans (Nat.pow_dvd_pow 2 (Nat.le_succ i)) (Nat.dvd_of_mod_eq_zero h.2.1)), h.2.2.1, hlt⟩
theorem RootAt.start {X n k : Nat} (h : nb X ≤ 2 * n) (hn : n < k) (len : Nat) : RootAt X k (List.replicate len 0) := by
 have hv : val (List.replicate len 0) = 0 := vt_zero _ fun j _ => dig_zeros _ _
 refine ⟨Ok.zeros _, by rw [hv]; exact Nat.zero_mod _, by rw [hv]; exact Nat.zero_le _, ?_⟩
 rw [hv, Nat.zero_add, ← Nat.pow_add]
 exact Nat.lt_of_lt_of_le (lt_pow_nb X) (Nat.pow_le_pow_right (by omega) (by omega))
theorem RootAt.fin {X : Nat} {L : List Nat} (h : RootAt X 0 L) : val L = rt X := (rt_unique h.2.2.1 h.2.2.2).symm
end Go.Proofs.YtkfojbelnemhbaaGreatDoor
