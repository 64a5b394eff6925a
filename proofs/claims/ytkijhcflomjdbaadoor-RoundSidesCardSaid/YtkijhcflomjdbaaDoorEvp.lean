/- Powers of dyads. -/
import Derived.Test.YtkijhcflomjdbaaDoorEvq
namespace Go.Proofs.YtkijhcflomjdbaaDoor.Ev
open Go Go.RowKit
set_option linter.unusedSimpArgs false
set_option linter.unusedVariables false
def powN (k : Int) : Nat := (min (max k 0) 64).toNat
def s_dPow : FnSpec := sp2 (.agg [.I, .i .i64]) (fun x y => okD x ∧ isi .i64 y ∧ dcn x ≤ 3) (fun x y i => match i with | 0 => tmI (tmI (dm x) ^ powN (dz y)) | _ => teI (tmI (dm x) ^ powN (dz y)) (powN (dz y) * teI (dm x) (dx x))) (fun _ _ _ => false)
def s_qPow : FnSpec := sp2 (.agg [.I, .i .i64]) (fun x y => canD x ∧ isi .i64 y ∧ dcn x ≤ 3 ∧ -1000000 ≤ dx x ∧ dx x ≤ 1000000) (fun x y i => match i with | 0 => tmI (tmI (dm x) ^ powN (dz y)) | _ => teI (tmI (dm x) ^ powN (dz y)) (powN (dz y) * teI (dm x) (dx x))) (fun _ _ _ => false)
theorem mul_bound {p t B : Int} (h0 : 0 ≤ p) (h1 : p ≤ 64) (h2 : -B ≤ t) (h3 : t ≤ B) (hB : 0 ≤ B) : -(64 * B) ≤ p * t ∧ p * t ≤ 64 * B := by
  have a := Int.mul_le_mul_of_nonneg_left h3 h0
  have b := Int.mul_le_mul_of_nonneg_left h2 h0
  have c := Int.mul_le_mul_of_nonneg_right h1 hB
  rw [Int.mul_neg] at b
  omega
theorem fit_powI {x : Int} {k : Nat} (h : Fit x k) : ∀ i : Nat, Fit (x ^ i) (k * i + 1)
  | 0 => by rw [Int.pow_zero]; unfold Fit; rw [Nat.mul_zero]; decide
  | i + 1 => by
    rw [Int.pow_succ]
    exact (fit_powI h i).mul h (by rw [Nat.mul_succ]; omega)
theorem pow_fit {x : Int} (h : Fit x 96) {i : Nat} (hi : i ≤ 64) : Fit (x ^ i) 6145 := (fit_powI h i).mono (by omega)
theorem powN_le (k : Int) : powN k ≤ 64 := by unfold powN; omega
theorem powN_min (k : Int) : min (if 0 > k then 0 else k) 64 = (powN k : Int) := by
  unfold powN
  split <;> omega
theorem tmI_mulL (a b : Int) : tmI (tmI a * b) = tmI (a * b) := by
  rw [← tmI_shift (tmI a * b) (tz a.natAbs), Int.mul_assoc, Int.mul_comm b, ← Int.mul_assoc, tmI_mul]
theorem teI_mulL (a b x e : Int) : teI (tmI a * b) (teI a x + e) = teI (a * b) (x + e) := by
  by_cases h : a = 0
  · rw [h, tmI_zero, Int.zero_mul, teI_zero, teI_zero]
  · rw [teI_ne h]
    have := teI_shift (tmI a * b) (x + e) (tz a.natAbs)
    rw [Int.mul_assoc, Int.mul_comm b, ← Int.mul_assoc, tmI_mul] at this
    rw [this]
    congr 1
    omega
end Go.Proofs.YtkijhcflomjdbaaDoor.Ev
