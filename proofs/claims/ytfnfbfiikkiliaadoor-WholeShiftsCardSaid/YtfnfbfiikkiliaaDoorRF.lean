/- Quotient and rest are those of the floor. -/
import Derived.Test.YtfnfbfiikkiliaaDoorWb
import Derived.Deep.RegionHeld3
namespace Go.Proofs.YtfnfbfiikkiliaaDoor
open Go.RowKit

/-- quotient and rest are those of the floor. -/
theorem dqr (X Y : Int) (hY : Y ≠ 0) : dq X Y * Y + dr X Y = X ∧ (dr X Y = 0 ∨ (Y < 0 ∧ Y < dr X Y ∧ dr X Y < 0) ∨ (0 < Y ∧ 0 < dr X Y ∧ dr X Y < Y)) := by
  have hx : X = (X.natAbs : Int) ∨ X = -(X.natAbs : Int) := by omega
  have hy : Y = (Y.natAbs : Int) ∨ Y = -(Y.natAbs : Int) := by omega
  unfold dq dr
  rw [if_neg hY, if_neg hY]
  generalize hxn : X.natAbs = x at *
  generalize hyn : Y.natAbs = y at *
  have hy0 : 0 < y := by omega
  have h1 := Nat.div_add_mod x y
  have h2 := Nat.mod_lt x hy0
  generalize hq : x / y = q at *
  generalize hr : x % y = r at *
  have e : (y : Int) * (q : Int) + (r : Int) = (x : Int) := by exact_mod_cast h1
  have sub : ((y - r : Nat) : Int) = (y : Int) - (r : Int) := by omega
  by_cases hX0 : X = 0
  · have hx0 : x = 0 := by omega
    subst hx0
    have hq0 : q = 0 := by rw [← hq]; exact Nat.zero_div y
    have hr0 : r = 0 := by rw [← hr]; exact Nat.zero_mod y
    subst hq0; subst hr0
    rw [sg_zero hX0, if_neg (by omega), if_neg (by omega)]
    constructor
    · simp; omega
    · left; simp
  · by_cases hXn : X < 0
    · by_cases hYn : Y < 0
      · rw [sg_neg hXn, sg_neg hYn, if_neg (by omega), if_neg (by omega)]
        have hY' : Y = -(y : Int) := by omega
        constructor
        · rw [hY', show ((q : Nat) : Int) * -(y : Int) = -((y : Int) * (q : Int)) from by rw [Int.mul_neg, Int.mul_comm]]; omega
        · by_cases h : r = 0
          · left; omega
          · right; left; omega
      · rw [sg_neg hXn, sg_pos (by omega : 0 < Y)]
        have hY' : Y = (y : Int) := by omega
        by_cases h : r = 0
        · rw [if_pos (by omega), if_pos h, if_neg (fun c => c.2 h)]
          constructor
          · rw [hY', show -((q : Nat) : Int) * (y : Int) = -((y : Int) * (q : Int)) from by rw [Int.neg_mul, Int.mul_comm]]; omega
          · left; omega
        · rw [if_pos (by omega), if_neg h, if_pos ⟨by omega, h⟩, sub]
          constructor
          · rw [hY', show -((q + 1 : Nat) : Int) * (y : Int) = -((y : Int) * (q : Int)) - (y : Int) from by rw [Int.neg_mul, Int.natCast_add, Int.add_mul, Int.mul_comm]; omega]; omega
          · right; right; omega
    · by_cases hYn : Y < 0
      · rw [sg_pos (by omega : 0 < X), sg_neg hYn]
        have hY' : Y = -(y : Int) := by omega
        by_cases h : r = 0
        · rw [if_pos (by omega), if_pos h, if_neg (fun c => c.2 h)]
          constructor
          · rw [hY', show -((q : Nat) : Int) * -(y : Int) = (y : Int) * (q : Int) from by rw [Int.neg_mul_neg, Int.mul_comm]]; omega
          · left; omega
        · rw [if_pos (by omega), if_neg h, if_pos ⟨by omega, h⟩, sub]
          constructor
          · rw [hY', show -((q + 1 : Nat) : Int) * -(y : Int) = (y : Int) * (q : Int) + (y : Int) from by rw [Int.neg_mul_neg, Int.natCast_add, Int.add_mul, Int.mul_comm]; omega]; omega
          · right; left; omega
      · rw [sg_pos (by omega : 0 < X), sg_pos (by omega : 0 < Y), if_neg (by omega), if_neg (by omega)]
        have hY' : Y = (y : Int) := by omega
        constructor
        · rw [hY', show ((q : Nat) : Int) * (y : Int) = (y : Int) * (q : Int) from Int.mul_comm _ _]; omega
        · by_cases h : r = 0
          · left; omega
          · right; right; omega
theorem dq_floor {X P : Int} (hP : 0 < P) : dq X P = X / P := by
  obtain ⟨h1, h2⟩ := dqr X P (by omega)
  have := (Int.ediv_emod_unique (a := X) (b := P) (r := dr X P) (q := dq X P) hP).2 ⟨by rw [Int.mul_comm]; omega, by omega, by omega⟩
  exact this.1.symm
/-- a rest that isn't nought has the divisor's sign. -/
theorem dr_sign {X Y : Int} (hY : Y ≠ 0) (hR : dr X Y ≠ 0) : sg (dr X Y) = sg Y := by
  obtain ⟨_, h | h | h⟩ := dqr X Y hY
  · exact absurd h hR
  · rw [sg_neg h.2.2, sg_neg h.1]
  · rw [sg_pos h.2.1, sg_pos h.1]
theorem dr_less {X Y : Int} (hY : Y ≠ 0) : sg (((dr X Y).natAbs : Int) - (Y.natAbs : Int)) = -1 := by
  obtain ⟨_, h⟩ := dqr X Y hY
  exact sg_neg (by omega)
end Go.Proofs.YtfnfbfiikkiliaaDoor
