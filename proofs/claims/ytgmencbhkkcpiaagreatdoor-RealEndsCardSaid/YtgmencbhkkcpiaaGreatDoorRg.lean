/- Contracts of the document's own numbers: Root. -/
import Derived.Test.YtgmencbhkkcpiaaGreatDoorLb
import Derived.Test.YtgmencbhkkcpiaaGreatDoorDv
namespace Go.Proofs.YtgmencbhkkcpiaaGreatDoor
open Go.RowKit

theorem val_set_add {L : List Nat} {k e : Nat} (hk : k < L.length) : val (L.set k (dig L k + e)) = val L + Bs ^ k * e := by
  have e1 := val_split (L.set k (dig L k + e)) k
  have e2 := val_split L k
  have e3 : vt (dig (L.set k (dig L k + e))) k = vt (dig L) k := vt_congr k (fun i hi => by rw [dig_set hk, if_neg (by omega)])
  have e4 : (L.set k (dig L k + e)).drop (k + 1) = L.drop (k + 1) := by rw [List.drop_set, if_pos (by omega)]
  rw [val_drop_succ, dig_set hk, if_pos rfl, e4, e3] at e1
  rw [val_drop_succ] at e2
  rw [e1, e2]
  grind
/-- a root, bit by bit from above: what is held after the bits above k. -/
def RootAt (X k : Nat) (L : List Nat) : Prop := Ok L ∧ val L % 2 ^ k = 0 ∧ val L * val L ≤ X ∧ X < (val L + 2 ^ k) * (val L + 2 ^ k)
theorem low_zero {L : List Nat} {i : Nat} (h : Ok L) (hv : val L % 2 ^ (i + 1) = 0) : dig L (i / 32) % 2 ^ (i % 32 + 1) = 0 := by
  apply Nat.eq_of_testBit_eq
  intro j
  rw [Nat.zero_testBit, Nat.testBit_mod_two_pow]
  by_cases hj : j < i % 32 + 1
  · have h1 := testBit_dig h (32 * (i / 32) + j)
    rw [show (32 * (i / 32) + j) / 32 = i / 32 from by omega, show (32 * (i / 32) + j) % 32 = j from by omega] at h1
    rw [← h1]
    have h2 : (val L % 2 ^ (i + 1)).testBit (32 * (i / 32) + j) = false := by rw [hv, Nat.zero_testBit]
    rw [Nat.testBit_mod_two_pow] at h2
    rw [show decide (32 * (i / 32) + j < i + 1) = true from by rw [decide_eq_true_iff]; omega, Bool.true_and] at h2
    rw [h2, Bool.and_false]
  · rw [show decide (j < i % 32 + 1) = false from by rw [decide_eq_false_iff_not]; exact hj, Bool.false_and]
end Go.Proofs.YtgmencbhkkcpiaaGreatDoor
/- Contracts of the document's own numbers: Div. -/
namespace Go.Proofs.YtgmencbhkkcpiaaGreatDoor
open Go.RowKit

def bitN (X i : Nat) : Nat := if X.testBit i then 1 else 0
theorem bitN_le (X i : Nat) : bitN X i ≤ 1 := by unfold bitN; split <;> omega
theorem half_up (X i : Nat) : X / 2 ^ i = 2 * (X / 2 ^ (i + 1)) + bitN X i := by
  have h : X / 2 ^ (i + 1) = X / 2 ^ i / 2 := by rw [Nat.pow_succ, Nat.div_div_eq_div_mul]
  unfold bitN
  rw [h, Nat.testBit_eq_decide_div_mod_eq]
  by_cases h1 : X / 2 ^ i % 2 = 1
  · rw [if_pos (by rw [decide_eq_true_iff]; exact h1)]; omega
  · rw [if_neg (by rw [decide_eq_true_iff]; exact h1)]; omega
theorem div_on {T Y b : Nat} (hY : 0 < Y) (hb : b ≤ 1) (h : Y ≤ 2 * (T % Y) + b) : (2 * T + b) / Y = 2 * (T / Y) + 1 ∧ (2 * T + b) % Y = 2 * (T % Y) + b - Y := by
  rw [Nat.div_mod_unique hY]
  have h1 := Nat.div_add_mod T Y
  have h2 := Nat.mod_lt T hY
  refine ⟨?_, by omega⟩
  generalize T % Y = r at *
  generalize T / Y = q at *
  rw [← h1, Nat.mul_add, Nat.mul_one, Nat.mul_left_comm]
  generalize Y * q = z at *
  omega
theorem div_off {T Y b : Nat} (hY : 0 < Y) (h : 2 * (T % Y) + b < Y) : (2 * T + b) / Y = 2 * (T / Y) ∧ (2 * T + b) % Y = 2 * (T % Y) + b := by
  rw [Nat.div_mod_unique hY]
  have h1 := Nat.div_add_mod T Y
  refine ⟨?_, h⟩
  generalize T % Y = r at *
  generalize T / Y = q at *
  rw [← h1, Nat.mul_left_comm]
  generalize Y * q = z at *
  omega
/-- a quotient, bit by bit from above: what is held after the bits above k. -/
def DivBits (X Y k : Nat) (L : List Nat) : Prop := Ok L ∧ val L = X / 2 ^ k / Y * 2 ^ k
theorem DivBits.start {X Y : Nat} (len : Nat) : DivBits X Y (nb X) (List.replicate len 0) :=
  ⟨Ok.zeros _, by rw [val_zeros, Nat.div_eq_of_lt (lt_pow_nb X), Nat.zero_div, Nat.zero_mul]⟩
theorem DivBits.low {X Y i : Nat} {L : List Nat} (h : DivBits X Y (i + 1) L) : dig L (i / 32) % 2 ^ (i % 32 + 1) = 0 :=
  low_zero h.1 (by rw [h.2, Nat.mul_mod_left])
theorem DivBits.bit {X Y i : Nat} {L : List Nat} (h : DivBits X Y (i + 1) L) (hk : i / 32 < L.length) :
    dig L (i / 32) + 2 ^ (i % 32) < 4294967296 ∧ Ok (L.set (i / 32) (dig L (i / 32) + 2 ^ (i % 32))) ∧ val (L.set (i / 32) (dig L (i / 32) + 2 ^ (i % 32))) = val L + 2 ^ i := by
  have hz := h.low
  have hb : dig L (i / 32) < 4294967296 := h.1 _
  have hlt : dig L (i / 32) + 2 ^ (i % 32) < 4294967296 := by
    obtain ⟨t, ht⟩ : ∃ t, i % 32 + 1 + t = 32 := ⟨31 - i % 32, by omega⟩
    have hp : 2 ^ (i % 32 + 1) * 2 ^ t = 4294967296 := by rw [← Nat.pow_add, ht]
    obtain ⟨q, hq⟩ : ∃ q, dig L (i / 32) = 2 ^ (i % 32 + 1) * q := ⟨_, (Nat.mul_div_cancel' (Nat.dvd_of_mod_eq_zero hz)).symm⟩
    have h2 : 2 ^ (i % 32) < 2 ^ (i % 32 + 1) := Nat.pow_lt_pow_right (by omega) (by omega)
    rw [hq] at hb ⊢
    rw [← hp] at hb ⊢
    have h3 : q < 2 ^ t := Nat.lt_of_mul_lt_mul_left hb
    have h4 : 2 ^ (i % 32 + 1) * (q + 1) ≤ 2 ^ (i % 32 + 1) * 2 ^ t := Nat.mul_le_mul (Nat.le_refl _) h3
    rw [Nat.mul_add, Nat.mul_one] at h4
    omega
  refine ⟨hlt, h.1.set hk hlt, ?_⟩
  rw [val_set_add hk, Bs_pow_eq, ← Nat.pow_add, Nat.div_add_mod]
theorem DivBits.on {X Y i : Nat} {L : List Nat} (h : DivBits X Y (i + 1) L) (hk : i / 32 < L.length) (hY : 0 < Y) (hle : Y ≤ 2 * (X / 2 ^ (i + 1) % Y) + bitN X i) :
    DivBits X Y i (L.set (i / 32) (dig L (i / 32) + 2 ^ (i % 32))) ∧ 2 * (X / 2 ^ (i + 1) % Y) + bitN X i - Y = X / 2 ^ i % Y := by
  obtain ⟨h1, h2, h3⟩ := h.bit hk
  have hd := div_on hY (bitN_le X i) hle
  rw [← half_up] at hd
  exact ⟨⟨h2, by rw [h3, h.2, hd.1, Nat.pow_succ]; grind⟩, hd.2.symm⟩
theorem DivBits.off {X Y i : Nat} {L : List Nat} (h : DivBits X Y (i + 1) L) (hY : 0 < Y) (hlt : 2 * (X / 2 ^ (i + 1) % Y) + bitN X i < Y) :
    DivBits X Y i L ∧ 2 * (X / 2 ^ (i + 1) % Y) + bitN X i = X / 2 ^ i % Y := by
  have hd := div_off hY hlt
  rw [← half_up] at hd
  exact ⟨⟨h.1, by rw [h.2, hd.1, Nat.pow_succ]; grind⟩, hd.2.symm⟩
theorem DivBits.fin {X Y : Nat} {L : List Nat} (h : DivBits X Y 0 L) : val L = X / Y := by rw [h.2]; simp

end Go.Proofs.YtgmencbhkkcpiaaGreatDoor
