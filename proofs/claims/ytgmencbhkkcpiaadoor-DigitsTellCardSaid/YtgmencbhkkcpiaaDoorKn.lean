/- The guess of a digit of a quotient: plain facts. V: the divisor, its topmost digits v1, v2; P: what is divided, its topmost digits p0, p1, p2; E: the weight of what lies below. -/
import Derived.Test.YtgmencbhkkcpiaaDoorLa
import Derived.ScopeJumps
import Derived.WalkMore
namespace Go.Proofs.YtgmencbhkkcpiaaDoor

structure Kn (B E v1 v2 rv p0 p1 p2 rp V P : Nat) : Prop where
  hV : V = (v1 * B + v2) * E + rv
  hP : P = ((p0 * B + p1) * B + p2) * E + rp
  rv : rv < E
  rp : rp < E
  v2 : v2 < B
  p1 : p1 < B
  p2 : p2 < B
  v1 : B ≤ 2 * v1
  lt : P < B * V

variable {B E v1 v2 rv p0 p1 p2 rp V P D R : Nat}
theorem Kn.B0 (h : Kn B E v1 v2 rv p0 p1 p2 rp V P) : 0 < B := by have := h.v2; omega
theorem Kn.q_lt (h : Kn B E v1 v2 rv p0 p1 p2 rp V P) : P / V < B := Nat.div_lt_of_lt_mul (by rw [Nat.mul_comm]; exact h.lt)
/-- V is less than its topmost digits, and 1. -/
theorem Kn.V_lt (h : Kn B E v1 v2 rv p0 p1 p2 rp V P) : V < (v1 * B + v2 + 1) * E := by
  rw [h.hV, Nat.add_mul _ 1 E, Nat.one_mul]; have := h.rv; omega
theorem Kn.P_lt (h : Kn B E v1 v2 rv p0 p1 p2 rp V P) : P < ((p0 * B + p1) * B + p2 + 1) * E := by
  rw [h.hP, Nat.add_mul _ 1 E, Nat.one_mul]; have := h.rp; omega
theorem Kn.big (h : Kn B E v1 v2 rv p0 p1 p2 rp V P) (hW : D * v1 + R = p0 * B + p1) (ht : B ≤ D ∨ R * B + p2 < D * v2) : P / V < D := by
  rcases ht with ht | ht
  · exact Nat.lt_of_lt_of_le h.q_lt ht
  · apply Nat.lt_of_not_le
    intro hle
    have hV0 : 0 < V := by
      apply Nat.pos_of_ne_zero; intro e
      have := h.lt; rw [e] at this; omega
    have h1 : D * V ≤ P := by
      have := (Nat.le_div_iff_mul_le hV0).1 hle
      exact this
    have h2 : D * (v1 * B + v2) * E ≤ D * V := by
      rw [h.hV, Nat.mul_add D _ rv, ← Nat.mul_assoc]; exact Nat.le_add_right _ _
    have h3 : D * (v1 * B + v2) * E < ((p0 * B + p1) * B + p2 + 1) * E := Nat.lt_of_le_of_lt (Nat.le_trans h2 h1) h.P_lt
    have h4 := Nat.lt_of_mul_lt_mul_right h3
    rw [← hW, Nat.mul_add, ← Nat.mul_assoc, Nat.add_mul] at h4
    omega
theorem Kn.far (h : Kn B E v1 v2 rv p0 p1 p2 rp V P) (hW : D * v1 + R = p0 * B + p1) (hD : D ≤ B) (hR : B ≤ R) : D ≤ P / V := by
  have hV0 : 0 < V := by
    apply Nat.pos_of_ne_zero; intro e
    have := h.lt; rw [e] at this; omega
  apply (Nat.le_div_iff_mul_le hV0).2
  have h0 : V ≤ (v1 + 1) * B * E := by
    refine Nat.le_trans (Nat.le_of_lt h.V_lt) (Nat.mul_le_mul ?_ (Nat.le_refl _))
    rw [Nat.add_mul, Nat.one_mul]; have := h.v2; omega
  have h1 : D * V ≤ D * ((v1 + 1) * B * E) := Nat.mul_le_mul (Nat.le_refl _) h0
  have h2 : D * ((v1 + 1) * B * E) = (D * v1 + D) * (B * E) := by
    rw [Nat.mul_assoc (v1 + 1), ← Nat.mul_assoc D, Nat.mul_add, Nat.mul_one]
  have h3 : (D * v1 + D) * (B * E) ≤ (p0 * B + p1) * (B * E) := Nat.mul_le_mul (by omega) (Nat.le_refl _)
  have h4 : (p0 * B + p1) * (B * E) ≤ P := by
    rw [h.hP, ← Nat.mul_assoc]
    have : (p0 * B + p1) * B * E ≤ ((p0 * B + p1) * B + p2) * E := Nat.mul_le_mul (Nat.le_add_right _ _) (Nat.le_refl _)
    omega
  omega
theorem Kn.p0_le (h : Kn B E v1 v2 rv p0 p1 p2 rp V P) : p0 ≤ v1 := by
  apply Nat.le_of_not_lt
  intro c
  have h1 : (v1 + 1) * B * B * E ≤ P := by
    rw [h.hP]
    have a : (v1 + 1) * B ≤ p0 * B + p1 := Nat.le_trans (Nat.mul_le_mul c (Nat.le_refl _)) (Nat.le_add_right _ _)
    have b : (v1 + 1) * B * B ≤ (p0 * B + p1) * B + p2 := Nat.le_trans (Nat.mul_le_mul a (Nat.le_refl _)) (Nat.le_add_right _ _)
    exact Nat.le_trans (Nat.mul_le_mul b (Nat.le_refl _)) (Nat.le_add_right _ _)
  have h2 : V < (v1 + 1) * B * E := by
    refine Nat.lt_of_lt_of_le h.V_lt (Nat.mul_le_mul ?_ (Nat.le_refl _))
    rw [Nat.add_mul, Nat.one_mul]; have := h.v2; omega
  have h3 : B * V ≤ B * ((v1 + 1) * B * E) := Nat.mul_le_mul (Nat.le_refl _) (Nat.le_of_lt h2)
  have h4 : B * ((v1 + 1) * B * E) = (v1 + 1) * B * B * E := by grind
  have := h.lt
  omega
/-- the first guess. -/
theorem Kn.first (h : Kn B E v1 v2 rv p0 p1 p2 rp V P) : P / V ≤ (p0 * B + p1) / v1 ∧ (p0 * B + p1) / v1 ≤ B + 1 := by
  have hB := h.B0
  have hv : 0 < v1 := by have := h.v1; omega
  constructor
  · apply (Nat.le_div_iff_mul_le hv).2
    have h1 : P / V * V ≤ P := Nat.div_mul_le_self _ _
    have h2 : P / V * (v1 * B * E) ≤ P / V * V := Nat.mul_le_mul (Nat.le_refl _) (by
      rw [h.hV]; exact Nat.le_trans (Nat.mul_le_mul (Nat.le_add_right _ _) (Nat.le_refl _)) (Nat.le_add_right _ _))
    have h3 : P < (p0 * B + p1 + 1) * (B * E) := by
      refine Nat.lt_of_lt_of_le h.P_lt ?_
      rw [← Nat.mul_assoc]
      apply Nat.mul_le_mul _ (Nat.le_refl _)
      rw [Nat.add_mul _ 1, Nat.one_mul]; have := h.p2; omega
    have h4 : P / V * (v1 * B * E) = P / V * v1 * (B * E) := by rw [Nat.mul_assoc v1, ← Nat.mul_assoc]
    have h5 : P / V * v1 * (B * E) < (p0 * B + p1 + 1) * (B * E) := by omega
    have := Nat.lt_of_mul_lt_mul_right h5
    omega
  · have h1 := h.p0_le
    have h2 : p0 * B ≤ v1 * B := Nat.mul_le_mul h1 (Nat.le_refl _)
    have h3 := h.p1
    have h4 := h.v1
    apply Nat.le_of_lt_succ
    rw [Nat.div_lt_iff_lt_mul hv]
    have : (B + 1).succ * v1 = v1 * B + 2 * v1 := by grind
    rw [this]; omega
end Go.Proofs.YtgmencbhkkcpiaaDoor
/- Contract: guess. -/
namespace Go.Proofs.YtgmencbhkkcpiaaDoor
open Go.RowKit

/-- what holds of a guess D with its rest R, each time it is asked. -/
def GInv (v1 W q D R : Nat) : Prop := D * v1 + R = W ∧ R < Bs ∧ q ≤ D ∧ D ≤ Bs + 1
theorem GInv.next {v1 W q D R : Nat} (h : GInv v1 W q D R) (hq : q < D) (hR : R + v1 ≤ 4294967295) : GInv v1 W q (D - 1) (R + v1) := by
  obtain ⟨h1, h2, h3, h4⟩ := h
  refine ⟨?_, by rw [Bs_eq]; omega, by omega, by omega⟩
  rw [← h1, Nat.sub_mul, Nat.one_mul]
  have : 1 * v1 ≤ D * v1 := Nat.mul_le_mul (by omega) (Nat.le_refl _)
  omega

end Go.Proofs.YtgmencbhkkcpiaaDoor
