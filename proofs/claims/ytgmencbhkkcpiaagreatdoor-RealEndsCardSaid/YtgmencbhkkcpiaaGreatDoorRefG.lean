/- Contracts of the document's own numbers: Root, the walk. -/
import Derived.Test.YtgmencbhkkcpiaaGreatDoorRg
import Derived.Test.YtgmencbhkkcpiaaGreatDoorRoot
namespace Go.Proofs.YtgmencbhkkcpiaaGreatDoor
open Go.RowKit

theorem RootAt.bit {X i : Nat} {L : List Nat} (h : RootAt X (i + 1) L) (hk : i / 32 < L.length) :
    dig L (i / 32) + 2 ^ (i % 32) < 4294967296 ∧ Ok (L.set (i / 32) (dig L (i / 32) + 2 ^ (i % 32))) ∧ val (L.set (i / 32) (dig L (i / 32) + 2 ^ (i % 32))) = val L + 2 ^ i := by
  have hz := low_zero h.1 h.2.1
  have hb : dig L (i / 32) < 4294967296 := h.1 _
  have hlt : dig L (i / 32) + 2 ^ (i % 32) < 4294967296 := by
    obtain ⟨t, ht⟩ : ∃ t, i % 32 + 1 + t = 32 := ⟨31 - i % 32, by omega⟩
    have hp : 2 ^ (i % 32 + 1) * 2 ^ t = 4294967296 := by rw [← Nat.pow_add, ht]
    obtain ⟨q, hq⟩ : ∃ q, dig L (i / 32) = 2 ^ (i % 32 + 1) * q := ⟨_, (Nat.mul_div_cancel' (Nat.dvd_of_mod_eq_zero hz)).symm⟩
    have h2 : 2 ^ (i % 32) < 2 ^ (i % 32 + 1) := Nat.pow_lt_pow_right (by omega) (by omega)
    rw [hq] at hb ⊢
    rw [← hp] at hb ⊢
    have h3 : q < 2 ^ t := Nat.lt_of_mul_lt_mul_left hb
    have h4 : 2 ^ (i % 32 + 1) * (q + 1) ≤ 2 ^ (i % 32 + 1) * 2 ^ t := Nat.mul_le_mul (Nat.le_refl _) h3
    rw [Nat.mul_add, Nat.mul_one] at h4
    omega
  refine ⟨hlt, h.1.set hk hlt, ?_⟩
  rw [val_set_add hk, Bs_pow_eq, ← Nat.pow_add, Nat.div_add_mod]
theorem RootAt.on {X i : Nat} {L : List Nat} (h : RootAt X (i + 1) L) (hk : i / 32 < L.length) (hle : (val L + 2 ^ i) * (val L + 2 ^ i) ≤ X) :
    RootAt X i (L.set (i / 32) (dig L (i / 32) + 2 ^ (i % 32))) := by
  obtain ⟨h1, h2, h3⟩ := h.bit hk
  have hm : val L % 2 ^ i = 0 := Nat.mod_eq_zero_of_dvd (Nat.dvd_trans (Nat.pow_dvd_pow 2 (Nat.le_succ i)) (Nat.dvd_of_mod_eq_zero h.2.1))
  refine ⟨h2, ?_, ?_, ?_⟩
  · rw [h3, Nat.add_mod_right, hm]
  · rw [h3]; exact hle
  · rw [h3, Nat.add_assoc, ← Nat.two_mul, Nat.mul_comm 2, ← Nat.pow_succ]; exact h.2.2.2
theorem RootAt.off {X i : Nat} {L : List Nat} (h : RootAt X (i + 1) L) (hlt : X < (val L + 2 ^ i) * (val L + 2 ^ i)) : RootAt X i L :=
  ⟨h.1, Nat.mod_eq_zero_of_dvd (Nat.dvd_trans (Nat.pow_dvd_pow 2 (Nat.le_succ i)) (Nat.dvd_of_mod_eq_zero h.2.1)), h.2.2.1, hlt⟩
theorem RootAt.start {X n k : Nat} (h : nb X ≤ 2 * n) (hn : n < k) (len : Nat) : RootAt X k (List.replicate len 0) := by
  have hv : val (List.replicate len 0) = 0 := vt_zero _ fun j _ => dig_zeros _ _
  refine ⟨Ok.zeros _, by rw [hv]; exact Nat.zero_mod _, by rw [hv]; exact Nat.zero_le _, ?_⟩
  rw [hv, Nat.zero_add, ← Nat.pow_add]
  exact Nat.lt_of_lt_of_le (lt_pow_nb X) (Nat.pow_le_pow_right (by omega) (by omega))
theorem RootAt.fin {X : Nat} {L : List Nat} (h : RootAt X 0 L) : val L = rt X := (rt_unique h.2.2.1 h.2.2.2).symm
end Go.Proofs.YtgmencbhkkcpiaaGreatDoor
