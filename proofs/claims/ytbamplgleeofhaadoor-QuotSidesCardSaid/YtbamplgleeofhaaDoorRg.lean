/- Contracts of the document's own numbers: Root. -/
import Derived.Test.YtbamplgleeofhaaDoorLb
import Derived.Test.YtbamplgleeofhaaDoorDv
namespace Go.Proofs.YtbamplgleeofhaaDoor
open Go.RowKit

theorem val_set_add {L : List Nat} {k e : Nat} (hk : k < L.length) : val (L.set k (dig L k + e)) = val L + Bs ^ k * e := by
  have e1 := val_split (L.set k (dig L k + e)) k
  have e2 := val_split L k
  have e3 : vt (dig (L.set k (dig L k + e))) k = vt (dig L) k := vt_congr k (fun i hi => by rw [dig_set hk, if_neg (by omega)])
  have e4 : (L.set k (dig L k + e)).drop (k + 1) = L.drop (k + 1) := by rw [List.drop_set, if_pos (by omega)]
  rw [val_drop_succ, dig_set hk, if_pos rfl, e4, e3] at e1
  rw [val_drop_succ] at e2
  rw [e1, e2]
  grind
/-- a root, bit by bit from above: what is held after the bits above k. -/
def RootAt (X k : Nat) (L : List Nat) : Prop := Ok L ∧ val L % 2 ^ k = 0 ∧ val L * val L ≤ X ∧ X < (val L + 2 ^ k) * (val L + 2 ^ k)
theorem low_zero {L : List Nat} {i : Nat} (h : Ok L) (hv : val L % 2 ^ (i + 1) = 0) : dig L (i / 32) % 2 ^ (i % 32 + 1) = 0 := by
  apply Nat.eq_of_testBit_eq
  intro j
  rw [Nat.zero_testBit, Nat.testBit_mod_two_pow]
  by_cases hj : j < i % 32 + 1
  · have h1 := testBit_dig h (32 * (i / 32) + j)
    rw [show (32 * (i / 32) + j) / 32 = i / 32 from by omega, show (32 * (i / 32) + j) % 32 = j from by omega] at h1
    rw [← h1]
    have h2 : (val L % 2 ^ (i + 1)).testBit (32 * (i / 32) + j) = false := by rw [hv, Nat.zero_testBit]
    rw [Nat.testBit_mod_two_pow] at h2
    rw [show decide (32 * (i / 32) + j < i + 1) = true from by rw [decide_eq_true_iff]; omega, Bool.true_and] at h2
    rw [h2, Bool.and_false]
  · rw [show decide (j < i % 32 + 1) = false from by rw [decide_eq_false_iff_not]; exact hj, Bool.false_and]
theorem off_nat {d s : Nat} (h : d % 2 ^ (s + 1) = 0) (hs : s < 32) (hd : d < 2 ^ 32) : (d + 2 ^ s) &&& (2 ^ 32 - (2 ^ s + 1)) = d := by
  have hp : 2 ^ s < 2 ^ (s + 1) := Nat.pow_lt_pow_right (by omega) (by omega)
  have hp2 : 2 ^ s < 2 ^ 32 := Nat.pow_lt_pow_right (by omega) hs
  rw [← nat_join (s + 1) d (2 ^ s) h hp]
  apply Nat.eq_of_testBit_eq
  intro j
  rw [Nat.testBit_and, Nat.testBit_or, Nat.testBit_two_pow_sub_succ hp2, Nat.testBit_two_pow]
  have hlow : j < s + 1 → d.testBit j = false := by
    intro hj
    have h2 : (d % 2 ^ (s + 1)).testBit j = false := by rw [h, Nat.zero_testBit]
    rw [Nat.testBit_mod_two_pow, show decide (j < s + 1) = true from by rw [decide_eq_true_iff]; exact hj, Bool.true_and] at h2
    exact h2
  have hhigh : ¬ j < 32 → d.testBit j = false := fun hj => Nat.testBit_lt_two_pow (Nat.lt_of_lt_of_le hd (Nat.pow_le_pow_right (by omega) (by omega)))
  by_cases h1 : s = j
  · subst h1
    rw [hlow (by omega)]
    simp
  · by_cases h2 : j < 32
    · simp [h1, h2]
    · rw [hhigh h2]; simp [h1, h2]
theorem off32 {d s : Nat} (h : d % 2 ^ (s + 1) = 0) (hs : s < 32) (hd : d + 2 ^ s < 4294967296) : bits .andNot .u32 ((d + 2 ^ s : Nat) : Int) ((2 ^ s : Nat) : Int) = (d : Int) := by
  have hp2 : 2 ^ s < 2 ^ 32 := Nat.pow_lt_pow_right (by omega) hs
  show IntKind.u32.wrap ((BitVec.ofInt 32 ((d + 2 ^ s : Nat) : Int) &&& ~~~BitVec.ofInt 32 ((2 ^ s : Nat) : Int)).toNat : Int) = _
  rw [BitVec.toNat_and, BitVec.toNat_not, BitVec.ofInt_natCast, BitVec.ofInt_natCast, BitVec.toNat_ofNat, BitVec.toNat_ofNat, Nat.mod_eq_of_lt (by omega), Nat.mod_eq_of_lt hp2, show 2 ^ 32 - 1 - 2 ^ s = 2 ^ 32 - (2 ^ s + 1) from by omega, off_nat h hs (by omega)]
  exact IntWalk.u32_in _ (by omega)
end Go.Proofs.YtbamplgleeofhaaDoor
/- Contracts of the document's own numbers: Div. -/
namespace Go.Proofs.YtbamplgleeofhaaDoor
open Go.RowKit

def bitN (X i : Nat) : Nat := if X.testBit i then 1 else 0
theorem bitN_le (X i : Nat) : bitN X i ≤ 1 := by unfold bitN; split <;> omega
theorem half_up (X i : Nat) : X / 2 ^ i = 2 * (X / 2 ^ (i + 1)) + bitN X i := by
  have h : X / 2 ^ (i + 1) = X / 2 ^ i / 2 := by rw [Nat.pow_succ, Nat.div_div_eq_div_mul]
  unfold bitN
  rw [h, Nat.testBit_eq_decide_div_mod_eq]
  by_cases h1 : X / 2 ^ i % 2 = 1
  · rw [if_pos (by rw [decide_eq_true_iff]; exact h1)]; omega
  · rw [if_neg (by rw [decide_eq_true_iff]; exact h1)]; omega
theorem div_on {T Y b : Nat} (hY : 0 < Y) (hb : b ≤ 1) (h : Y ≤ 2 * (T % Y) + b) : (2 * T + b) / Y = 2 * (T / Y) + 1 ∧ (2 * T + b) % Y = 2 * (T % Y) + b - Y := by
  rw [Nat.div_mod_unique hY]
  have h1 := Nat.div_add_mod T Y
  have h2 := Nat.mod_lt T hY
  refine ⟨?_, by omega⟩
  generalize T % Y = r at *
  generalize T / Y = q at *
  rw [← h1, Nat.mul_add, Nat.mul_one, Nat.mul_left_comm]
  generalize Y * q = z at *
  omega
theorem div_off {T Y b : Nat} (hY : 0 < Y) (h : 2 * (T % Y) + b < Y) : (2 * T + b) / Y = 2 * (T / Y) ∧ (2 * T + b) % Y = 2 * (T % Y) + b := by
  rw [Nat.div_mod_unique hY]
  have h1 := Nat.div_add_mod T Y
  refine ⟨?_, h⟩
  generalize T % Y = r at *
  generalize T / Y = q at *
  rw [← h1, Nat.mul_left_comm]
  generalize Y * q = z at *
  omega
/-- a quotient, bit by bit from above: what is held after the bits above k. -/
def DivBits (X Y k : Nat) (L : List Nat) : Prop := Ok L ∧ val L = X / 2 ^ k / Y * 2 ^ k
theorem DivBits.start {X Y : Nat} (len : Nat) : DivBits X Y (nb X) (List.replicate len 0) :=
  ⟨Ok.zeros _, by rw [val_zeros, Nat.div_eq_of_lt (lt_pow_nb X), Nat.zero_div, Nat.zero_mul]⟩
theorem DivBits.low {X Y i : Nat} {L : List Nat} (h : DivBits X Y (i + 1) L) : dig L (i / 32) % 2 ^ (i % 32 + 1) = 0 :=
  low_zero h.1 (by rw [h.2, Nat.mul_mod_left])
theorem DivBits.bit {X Y i : Nat} {L : List Nat} (h : DivBits X Y (i + 1) L) (hk : i / 32 < L.length) :
    dig L (i / 32) + 2 ^ (i % 32) < 4294967296 ∧ Ok (L.set (i / 32) (dig L (i / 32) + 2 ^ (i % 32))) ∧ val (L.set (i / 32) (dig L (i / 32) + 2 ^ (i % 32))) = val L + 2 ^ i := by
  have hz := h.low
  have hb : dig L (i / 32) < 4294967296 := h.1 _
  have hlt : dig L (i / 32) + 2 ^ (i % 32) < 4294967296 := by
    obtain ⟨t, ht⟩ : ∃ t, i % 32 + 1 + t = 32 := ⟨31 - i % 32, by omega⟩
    have hp : 2 ^ (i % 32 + 1) * 2 ^ t = 4294967296 := by rw [← Nat.pow_add, ht]
    obtain ⟨q, hq⟩ : ∃ q, dig L (i / 32) = 2 ^ (i % 32 + 1) * q := ⟨_, (Nat.mul_div_cancel' (Nat.dvd_of_mod_eq_zero hz)).symm⟩
    have h2 : 2 ^ (i % 32) < 2 ^ (i % 32 + 1) := Nat.pow_lt_pow_right (by omega) (by omega)
    rw [hq] at hb ⊢
    rw [← hp] at hb ⊢
    have h3 : q < 2 ^ t := Nat.lt_of_mul_lt_mul_left hb
    have h4 : 2 ^ (i % 32 + 1) * (q + 1) ≤ 2 ^ (i % 32 + 1) * 2 ^ t := Nat.mul_le_mul (Nat.le_refl _) h3
    rw [Nat.mul_add, Nat.mul_one] at h4
    omega
  refine ⟨hlt, h.1.set hk hlt, ?_⟩
  rw [val_set_add hk, Bs_pow_eq, ← Nat.pow_add, Nat.div_add_mod]
theorem DivBits.on {X Y i : Nat} {L : List Nat} (h : DivBits X Y (i + 1) L) (hk : i / 32 < L.length) (hY : 0 < Y) (hle : Y ≤ 2 * (X / 2 ^ (i + 1) % Y) + bitN X i) :
    DivBits X Y i (L.set (i / 32) (dig L (i / 32) + 2 ^ (i % 32))) ∧ 2 * (X / 2 ^ (i + 1) % Y) + bitN X i - Y = X / 2 ^ i % Y := by
  obtain ⟨h1, h2, h3⟩ := h.bit hk
  have hd := div_on hY (bitN_le X i) hle
  rw [← half_up] at hd
  exact ⟨⟨h2, by rw [h3, h.2, hd.1, Nat.pow_succ]; grind⟩, hd.2.symm⟩
theorem DivBits.off {X Y i : Nat} {L : List Nat} (h : DivBits X Y (i + 1) L) (hY : 0 < Y) (hlt : 2 * (X / 2 ^ (i + 1) % Y) + bitN X i < Y) :
    DivBits X Y i L ∧ 2 * (X / 2 ^ (i + 1) % Y) + bitN X i = X / 2 ^ i % Y := by
  have hd := div_off hY hlt
  rw [← half_up] at hd
  exact ⟨⟨h.1, by rw [h.2, hd.1, Nat.pow_succ]; grind⟩, hd.2.symm⟩
theorem DivBits.fin {X Y : Nat} {L : List Nat} (h : DivBits X Y 0 L) : val L = X / Y := by rw [h.2]; simp

theorem heldN_one : heldN 1 = 1 := by decide
end Go.Proofs.YtbamplgleeofhaaDoor
