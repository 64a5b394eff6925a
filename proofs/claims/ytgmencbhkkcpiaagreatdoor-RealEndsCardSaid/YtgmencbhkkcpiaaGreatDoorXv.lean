/- The laws of rounding: what they lean on. -/
import Derived.Test.YtgmencbhkkcpiaaGreatDoorEvu
import Derived.Test.YtgmencbhkkcpiaaGreatDoorXp
namespace Go.Proofs.YtgmencbhkkcpiaaGreatDoor.Ev
open Go Go.RowKit
set_option linter.unusedSimpArgs false
set_option linter.unusedVariables false
/-- a whole number that is rounded to multiples of U, as a multiple. -/
def rd (mode v U : Int) : Int :=
  if mode = 0 then v / U else if mode = 1 then -((-v) / U) else
  if U < 2 * (v % U) ∨ (U = 2 * (v % U) ∧ (v / U).natAbs % 2 = 1) then v / U + 1 else v / U
theorem neg_ediv_dvd {v U : Int} (hU : 0 < U) (h : v % U = 0) : (-v) / U = -(v / U) := by
  have h1 := Int.mul_ediv_add_emod v U
  have := Int.ediv_emod_unique (a := -v) (b := U) (q := -(v / U)) (r := 0) hU
  refine (this.2 ⟨?_, by omega, by omega⟩).1
  rw [Int.mul_neg]; omega
theorem neg_ediv_ndvd {v U : Int} (hU : 0 < U) (h : v % U ≠ 0) : (-v) / U = -(v / U) - 1 := by
  have h1 := Int.mul_ediv_add_emod v U
  have h2 := Int.emod_nonneg v (Int.ne_of_gt hU)
  have h3 := Int.emod_lt_of_pos v hU
  have := Int.ediv_emod_unique (a := -v) (b := U) (q := -(v / U) - 1) (r := U - v % U) hU
  refine (this.2 ⟨?_, by omega, by omega⟩).1
  rw [Int.mul_sub, Int.mul_neg]; omega
theorem rd_mul {mode a P T : Int} (hP : 0 < P) (hT : 0 < T) : rd mode (a * T) (P * T) = rd mode a P := by
  unfold rd
  rw [← Int.neg_mul, Int.mul_ediv_mul_of_pos_left _ _ hT, Int.mul_ediv_mul_of_pos_left _ _ hT]
  have h1 : a * T % (P * T) = a % P * T := by rw [Int.mul_comm a, Int.mul_comm P, Int.mul_emod_mul_of_pos _ _ hT, Int.mul_comm]
  have h2 : (P * T < 2 * (a % P * T)) = (P < 2 * (a % P)) := by
    rw [← Int.mul_assoc]
    exact propext ⟨fun h => Int.lt_of_mul_lt_mul_right h (Int.le_of_lt hT), fun h => Int.mul_lt_mul_of_pos_right h hT⟩
  have h3 : (P * T = 2 * (a % P * T)) = (P = 2 * (a % P)) := by
    rw [← Int.mul_assoc]
    exact propext ⟨fun h => Int.eq_of_mul_eq_mul_right (Int.ne_of_gt hT) h, fun h => congrArg (· * T) h⟩
  rw [h1]
  simp only [h2, h3]
theorem te_ge {m e : Int} (h : m ≠ 0) : e ≤ teI m e := by rw [teI_ne h]; omega
theorem tmI_oddN {m : Int} (h : m ≠ 0) : (tmI m).natAbs % 2 = 1 := (tz0_iff (by have := tmI_ne h; omega)).1 (tmI_odd h)
theorem V_abs (k : Nat) (m e : Int) : (V k m e).natAbs = m.natAbs * 2 ^ (e + k).toNat := by
  unfold V; rw [Int.natAbs_mul, Int.natAbs_pow]; rfl
theorem pow2_cast (n : Nat) : ((2 ^ n : Nat) : Int) = 2 ^ n := by rw [Int.natCast_pow]; rfl
theorem k5 : tmI 5 = 5 := tmI_is (k := 0) (by decide) (by decide) (by decide)
theorem k5e (e : Int) : teI 5 e = e := (teI_is (c := 5) (k := 0) (by decide) (by decide) (by decide)).trans (Int.add_zero e)
theorem k2 : tmI 2 = 1 := tmI_is (k := 1) (by decide) (by decide) (by decide)
theorem k2e (e : Int) : teI 2 e = e + 1 := teI_is (c := 1) (k := 1) (by decide) (by decide) (by decide)
theorem k4 : tmI 4 = 1 := tmI_is (k := 2) (by decide) (by decide) (by decide)
theorem k4e (e : Int) : teI 4 e = e + 2 := teI_is (c := 1) (k := 2) (by decide) (by decide) (by decide)
theorem k3e (e : Int) : teI 3 e = e := (teI_is (c := 3) (k := 0) (by decide) (by decide) (by decide)).trans (Int.add_zero e)
end Go.Proofs.YtgmencbhkkcpiaaGreatDoor.Ev
/- Rounding: what the laws of grids, halves and of rounding twice lean on. -/
namespace Go.Proofs.YtgmencbhkkcpiaaGreatDoor.Ev
open Go Go.RowKit
set_option linter.unusedSimpArgs false
set_option linter.unusedVariables false
end Go.Proofs.YtgmencbhkkcpiaaGreatDoor.Ev
