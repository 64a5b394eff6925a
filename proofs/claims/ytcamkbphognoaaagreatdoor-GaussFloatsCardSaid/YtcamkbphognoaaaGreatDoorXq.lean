/- Dyads as fractions. -/
import Derived.Test.YtcamkbphognoaaaGreatDoorXh
import Derived.Test.YtcamkbphognoaaaGreatDoorXv
namespace Go.Proofs.YtcamkbphognoaaaGreatDoor.Ev
open Go Go.RowKit
set_option linter.unusedSimpArgs false
set_option linter.unusedVariables false
theorem sg_nonpos7 (z : Int) : sg z ≤ 0 ↔ z ≤ 0 := by rcases sg_cases z with ⟨h1, h2⟩ | ⟨h1, h2⟩ | ⟨h1, h2⟩ <;> rw [h2] <;> omega
/-- a dyad: a whole number, an exponent. -/
abbrev Dy := Int × Int
def Dy.n (a : Dy) : Dy := (tmI a.1, teI a.1 a.2)
/-- the fraction that it is. -/
def qv (a : Dy) : Rat := (a.1 : Rat) * (2 : Rat) ^ a.2
theorem two_ne : (2 : Rat) ≠ 0 := by decide
theorem zp_nat (n : Nat) : (2 : Rat) ^ (n : Int) = (2 : Rat) ^ n := Rat.zpow_natCast _ _
theorem zp_toNat {e : Int} (h : 0 ≤ e) : (2 : Rat) ^ e = (2 : Rat) ^ e.toNat := by
  rw [← zp_nat, Int.toNat_of_nonneg h]
theorem cast_pow2 (n : Nat) : (((2 : Int) ^ n : Int) : Rat) = (2 : Rat) ^ n := by
  rw [Rat.intCast_pow]; rfl
/-- as a whole number of small parts. -/
theorem qv_V {k : Nat} {a : Dy} (h : -(k : Int) ≤ a.2) : ((V k a.1 a.2 : Int) : Rat) = qv a * 2 ^ k := by
  unfold V qv
  rw [Rat.intCast_mul, cast_pow2, ← zp_toNat (by omega), Rat.zpow_add two_ne, zp_nat, Rat.mul_assoc]
theorem p2_pos (k : Nat) : (0 : Rat) < 2 ^ k := Rat.pow_pos (by decide)
theorem low_ex (a b : Dy) : ∃ k : Nat, -(k : Int) ≤ a.2 ∧ -(k : Int) ≤ b.2 := ⟨a.2.natAbs + b.2.natAbs, by omega, by omega⟩
theorem mul_le_iff {a b c : Rat} (hc : 0 < c) : a * c ≤ b * c ↔ a ≤ b := ⟨fun h => Rat.le_of_mul_le_mul_right h hc, fun h => Rat.mul_le_mul_of_nonneg_right h (Rat.le_of_lt hc)⟩
theorem cmp_le (a b : Dy) : cmpD a.1 a.2 b.1 b.2 ≤ 0 ↔ qv a ≤ qv b := by
  obtain ⟨k, h1, h2⟩ := low_ex a b
  rw [cmp_V h1 h2, sg_nonpos7, ← mul_le_iff (p2_pos k), ← qv_V h1, ← qv_V h2, Rat.intCast_le_intCast]
  omega
theorem cmp_ge (a b : Dy) : 0 ≤ cmpD a.1 a.2 b.1 b.2 ↔ qv b ≤ qv a := by
  obtain ⟨k, h1, h2⟩ := low_ex a b
  have h : ∀ z, 0 ≤ sg z ↔ 0 ≤ z := fun z => by rcases sg_cases z with ⟨h1, h2⟩ | ⟨h1, h2⟩ | ⟨h1, h2⟩ <;> rw [h2] <;> omega
  rw [cmp_V h1 h2, h, ← mul_le_iff (p2_pos k), ← qv_V h1, ← qv_V h2, Rat.intCast_le_intCast]
  omega
theorem cmp_eq (a b : Dy) : cmpD a.1 a.2 b.1 b.2 = 0 ↔ qv a = qv b := by
  have h1 := cmp_le a b
  have h2 := cmp_ge a b
  constructor
  · intro h
    exact Rat.le_antisymm (h1.1 (by omega)) (h2.1 (by omega))
  · intro h
    have := h1.2 (by rw [h]; exact Rat.le_refl)
    have := h2.2 (by rw [h]; exact Rat.le_refl)
    omega
theorem qv_n (a : Dy) : qv a.n = qv a := by
  by_cases h0 : a.1 = 0
  · unfold qv Dy.n; rw [h0, tmI_zero]; simp
  · have h1 := tmI_mul a.1
    unfold qv Dy.n
    rw [teI_ne h0, Rat.zpow_add two_ne, zp_nat, ← cast_pow2, Rat.mul_comm ((2 : Rat) ^ a.2), ← Rat.mul_assoc, ← Rat.intCast_mul, h1]
theorem qv_inj {a b : Dy} : qv a = qv b ↔ a.n = b.n := by
  obtain ⟨k, h1, h2⟩ := low_ex a b
  constructor
  · intro h
    have h3 : V k a.1 a.2 = V k b.1 b.2 := by
      rw [← Rat.intCast_inj, qv_V h1, qv_V h2, h]
    obtain ⟨h4, h5⟩ := V_inj h1 h2 h3
    exact Prod.ext h4 h5
  · intro h
    rw [← qv_n a, ← qv_n b, h]
theorem n_n (a : Dy) : a.n.n = a.n := qv_inj.1 (qv_n a)
def Dy.add (a b : Dy) : Dy := Dy.n (addM a.1 a.2 b.1 b.2, min a.2 b.2)
def Dy.sub (a b : Dy) : Dy := Dy.n (addM a.1 a.2 (-b.1) b.2, min a.2 b.2)
def Dy.mul (a b : Dy) : Dy := Dy.n (a.1 * b.1, a.2 + b.2)
def Dy.neg (a : Dy) : Dy := Dy.n (-a.1, a.2)
def Dy.abs (a : Dy) : Dy := Dy.n ((a.1.natAbs : Nat), a.2)
theorem qv_mk (m e : Int) : qv (m, e) = (m : Rat) * 2 ^ e := rfl
theorem qv_add (a b : Dy) : qv (a.add b) = qv a + qv b := by
  obtain ⟨k, h1, h2⟩ := low_ex a b
  have h3 : -(k : Int) ≤ min a.2 b.2 := by omega
  unfold Dy.add
  rw [qv_n]
  have hp := p2_pos k
  have h4 := qv_V (a := (addM a.1 a.2 b.1 b.2, min a.2 b.2)) h3
  rw [V_add h1 h2, Rat.intCast_add, qv_V h1, qv_V h2, ← Rat.add_mul] at h4
  exact Rat.le_antisymm ((mul_le_iff hp).1 (by rw [h4]; exact Rat.le_refl)) ((mul_le_iff hp).1 (by rw [h4]; exact Rat.le_refl))
theorem qv_neg' (m e : Int) : qv (-m, e) = -qv (m, e) := by
  rw [qv_mk, qv_mk, Rat.intCast_neg, Rat.neg_mul]
theorem qv_neg (a : Dy) : qv a.neg = -qv a := by unfold Dy.neg; rw [qv_n, qv_neg']
theorem qv_sub (a b : Dy) : qv (a.sub b) = qv a - qv b := by
  have := qv_add a (-b.1, b.2)
  rw [qv_neg'] at this
  rw [Rat.sub_eq_add_neg]
  exact this
theorem qv_mul (a b : Dy) : qv (a.mul b) = qv a * qv b := by
  unfold Dy.mul
  rw [qv_n]
  unfold qv
  rw [Rat.intCast_mul, Rat.zpow_add two_ne]
  grind
theorem qv_zero (e : Int) : qv (0, e) = 0 := by unfold qv; simp
/-- the less, the more of two. -/
def dmin (a b : Dy) : Dy := if cmpD a.1 a.2 b.1 b.2 ≤ 0 then a else b
def dmax (a b : Dy) : Dy := if 0 ≤ cmpD a.1 a.2 b.1 b.2 then a else b
/-- from here to there. -/
abbrev Re := Dy × Dy
def rn (x : Re) : Re := if cmpD x.1.1 x.1.2 x.2.1 x.2.2 ≤ 0 then (x.1.n, x.2.n) else (x.2.n, x.1.n)
def rok (x : Re) : Prop := qv x.1 ≤ qv x.2
theorem rn_id {x : Re} (h : rok x) (h1 : x.1.n = x.1) (h2 : x.2.n = x.2) : rn x = x := by
  unfold rn
  rw [if_pos ((cmp_le _ _).2 h), h1, h2]
def rmul (x y : Re) : Re := (dmin (dmin (x.1.mul y.1) (x.1.mul y.2)) (dmin (x.2.mul y.1) (x.2.mul y.2)), dmax (dmax (x.1.mul y.1) (x.1.mul y.2)) (dmax (x.2.mul y.1) (x.2.mul y.2)))
def Dy.pow (a : Dy) (k : Nat) : Dy := Dy.n (a.n.1 ^ k, (k : Int) * a.n.2)
theorem qv_mulraw (m n e f : Int) : qv (m * n, e + f) = qv (m, e) * qv (n, f) := by
  have := qv_mul (m, e) (n, f)
  unfold Dy.mul at this
  rwa [qv_n] at this
def Dy.div (a b : Dy) (p md : Int) : Dy := Dy.n (qm a.1 a.2 b.1 b.2 (qE a.1 a.2 b.1 b.2 p) md, qE a.1 a.2 b.1 b.2 p)
theorem qv_one : qv (1, 0) = 1 := by unfold qv; simp
def Dy.to (a : Dy) (p md : Int) : Dy := (gm a.1 a.2 (stepI a.1 a.2 p) md, ge a.1 a.2 (stepI a.1 a.2 p) md)
/-- as they are told: in order, both ends as they are told. -/
def rcan (x : Re) : Prop := rok x ∧ x.1.n = x.1 ∧ x.2.n = x.2
theorem rcan.id {x : Re} (h : rcan x) : rn x = x := rn_id h.1 h.2.1 h.2.2
theorem add_n (a b : Dy) : (a.add b).n = a.add b := n_n _
theorem mul_n (a b : Dy) : (a.mul b).n = a.mul b := n_n _
theorem neg_n (a : Dy) : a.neg.n = a.neg := n_n _
theorem zero_n : Dy.n (0, 0) = (0, 0) := by unfold Dy.n; rw [tmI_zero, teI_zero]
section
variable {X Y Z : Re} {s t : Dy}
end
section
variable {X Y Z : Re}
end
/-- of so many bits, with an exponent so far from 0 at most. -/
def fD (a : Dy) (k B : Nat) : Prop := Fit a.1 k ∧ -(B : Int) ≤ a.2 ∧ a.2 ≤ B
theorem fD.mono {a : Dy} {k l B C : Nat} (h : fD a k B) (h1 : k ≤ l) (h2 : B ≤ C) : fD a l C := ⟨h.1.mono h1, by have := h.2.1; omega, by have := h.2.2; omega⟩
theorem fD_n {a : Dy} {k B : Nat} (h : fD a k B) : fD a.n k (B + k) := by
  have h1 := teI_bound (e := a.2) h.1
  have h2 := h.2
  refine ⟨fit_tm h.1, ?_, ?_⟩ <;> (show _ ≤ _; unfold Dy.n; dsimp only; omega)
def fR (x : Re) (k B : Nat) : Prop := fD x.1 k B ∧ fD x.2 k B
theorem fR.mono {x : Re} {k l B C : Nat} (h : fR x k B) (h1 : k ≤ l) (h2 : B ≤ C) : fR x l C := ⟨h.1.mono h1 h2, h.2.mono h1 h2⟩
end Go.Proofs.YtcamkbphognoaaaGreatDoor.Ev
/- Intervals as they lie: what is reckoned of their ends. -/
namespace Go.Proofs.YtcamkbphognoaaaGreatDoor.Ev
open Go Go.RowKit
set_option linter.unusedSimpArgs false
set_option linter.unusedVariables false
theorem sg_nonneg7 (z : Int) : 0 ≤ sg z ↔ 0 ≤ z := by rcases sg_cases z with ⟨h1, h2⟩ | ⟨h1, h2⟩ | ⟨h1, h2⟩ <;> rw [h2] <;> omega
theorem min_z : min (max (0 : Int) (-20000)) 20000 = 0 := by decide
theorem nn_eq {a b : Dy} (ha : a.n = a) (hb : b.n = b) (h : qv a = qv b) : a = b := by
  rw [← ha, ← hb]; exact qv_inj.1 h
theorem sub_n (a b : Dy) : (a.sub b).n = a.sub b := n_n _
theorem add_neg (a b : Dy) : a.add b.neg = a.sub b := nn_eq (add_n _ _) (sub_n _ _) (by rw [qv_add, qv_neg, qv_sub, Rat.sub_eq_add_neg])
end Go.Proofs.YtcamkbphognoaaaGreatDoor.Ev
