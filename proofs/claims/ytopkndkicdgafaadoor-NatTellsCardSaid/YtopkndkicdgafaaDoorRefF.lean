/- Contracts of the document's own numbers: Root. -/
import Derived.Test.YtopkndkicdgafaaDoorRefM
import Derived.Test.YtopkndkicdgafaaDoorRefC
import Derived.Test.YtopkndkicdgafaaDoorRoot
namespace Go.Proofs.YtopkndkicdgafaaDoor
open Go.RowKit

theorem val_set_add {L : List Nat} {k e : Nat} (hk : k < L.length) : val (L.set k (dig L k + e)) = val L + Bs ^ k * e := by
  have e1 := val_split (L.set k (dig L k + e)) k
  have e2 := val_split L k
  have e3 : vt (dig (L.set k (dig L k + e))) k = vt (dig L) k := vt_congr k (fun i hi => by rw [dig_set hk, if_neg (by omega)])
  have e4 : (L.set k (dig L k + e)).drop (k + 1) = L.drop (k + 1) := by rw [List.drop_set, if_pos (by omega)]
  rw [val_drop_succ, dig_set hk, if_pos rfl, e4, e3] at e1
  rw [val_drop_succ] at e2
  rw [e1, e2]
  grind
/-- a root, bit by bit from above: what is held after the bits above k. -/
def RootAt (X k : Nat) (L : List Nat) : Prop := Ok L ∧ val L % 2 ^ k = 0 ∧ val L * val L ≤ X ∧ X < (val L + 2 ^ k) * (val L + 2 ^ k)
theorem low_zero {L : List Nat} {i : Nat} (h : Ok L) (hv : val L % 2 ^ (i + 1) = 0) : dig L (i / 32) % 2 ^ (i % 32 + 1) = 0 := by
  apply Nat.eq_of_testBit_eq
  intro j
  rw [Nat.zero_testBit, Nat.testBit_mod_two_pow]
  by_cases hj : j < i % 32 + 1
  · have h1 := testBit_dig h (32 * (i / 32) + j)
    rw [show (32 * (i / 32) + j) / 32 = i / 32 from by omega, show (32 * (i / 32) + j) % 32 = j from by omega] at h1
    rw [← h1]
    have h2 : (val L % 2 ^ (i + 1)).testBit (32 * (i / 32) + j) = false := by rw [hv, Nat.zero_testBit]
    rw [Nat.testBit_mod_two_pow] at h2
    rw [show decide (32 * (i / 32) + j < i + 1) = true from by rw [decide_eq_true_iff]; omega, Bool.true_and] at h2
    rw [h2, Bool.and_false]
  · rw [show decide (j < i % 32 + 1) = false from by rw [decide_eq_false_iff_not]; exact hj, Bool.false_and]
theorem off_nat {d s : Nat} (h : d % 2 ^ (s + 1) = 0) (hs : s < 32) (hd : d < 2 ^ 32) : (d + 2 ^ s) &&& (2 ^ 32 - (2 ^ s + 1)) = d := by
  have hp : 2 ^ s < 2 ^ (s + 1) := Nat.pow_lt_pow_right (by omega) (by omega)
  have hp2 : 2 ^ s < 2 ^ 32 := Nat.pow_lt_pow_right (by omega) hs
  rw [← nat_join (s + 1) d (2 ^ s) h hp]
  apply Nat.eq_of_testBit_eq
  intro j
  rw [Nat.testBit_and, Nat.testBit_or, Nat.testBit_two_pow_sub_succ hp2, Nat.testBit_two_pow]
  have hlow : j < s + 1 → d.testBit j = false := by
    intro hj
    have h2 : (d % 2 ^ (s + 1)).testBit j = false := by rw [h, Nat.zero_testBit]
    rw [Nat.testBit_mod_two_pow, show decide (j < s + 1) = true from by rw [decide_eq_true_iff]; exact hj, Bool.true_and] at h2
    exact h2
  have hhigh : ¬ j < 32 → d.testBit j = false := fun hj => Nat.testBit_lt_two_pow (Nat.lt_of_lt_of_le hd (Nat.pow_le_pow_right (by omega) (by omega)))
  by_cases h1 : s = j
  · subst h1
    rw [hlow (by omega)]
    simp
  · by_cases h2 : j < 32
    · simp [h1, h2]
    · rw [hhigh h2]; simp [h1, h2]
theorem off32 {d s : Nat} (h : d % 2 ^ (s + 1) = 0) (hs : s < 32) (hd : d + 2 ^ s < 4294967296) : bits .andNot .u32 ((d + 2 ^ s : Nat) : Int) ((2 ^ s : Nat) : Int) = (d : Int) := by
  have hp2 : 2 ^ s < 2 ^ 32 := Nat.pow_lt_pow_right (by omega) hs
  show IntKind.u32.wrap ((BitVec.ofInt 32 ((d + 2 ^ s : Nat) : Int) &&& ~~~BitVec.ofInt 32 ((2 ^ s : Nat) : Int)).toNat : Int) = _
  rw [BitVec.toNat_and, BitVec.toNat_not, BitVec.ofInt_natCast, BitVec.ofInt_natCast, BitVec.toNat_ofNat, BitVec.toNat_ofNat, Nat.mod_eq_of_lt (by omega), Nat.mod_eq_of_lt hp2, show 2 ^ 32 - 1 - 2 ^ s = 2 ^ 32 - (2 ^ s + 1) from by omega, off_nat h hs (by omega)]
  exact IntWalk.u32_in _ (by omega)
end Go.Proofs.YtopkndkicdgafaaDoor
