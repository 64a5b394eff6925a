/- Contracts of the document's own numbers: Bits, Bit, Low. -/
import Derived.Test.YtopkndkicdgafaaDoorRefA
import Derived.Test.YtopkndkicdgafaaDoorShl
namespace Go.Proofs.YtopkndkicdgafaaDoor
open Go.RowKit

set_option maxHeartbeats 1000000 in
theorem rbits_any (w : World) (A : Option Addr) (n c : Nat) (xs : List Nat) (h : Lm w A n c xs) :
    Calls Tryd.prog 38 #[.slice A n c] w fun e w' => e = .returned (.int .i64 (nb (val xs))) ∧ w = w' := by
  generalize hX : val xs = X
  have HX := Lib.hid hX
  clear hX
  go_enter Tryd.func38, Tryd.ntmps38
  go_wp2_with fail
  refine (rtrim_lm w A n c xs h).mono ?_
  rintro e w1 ⟨m, rfl, hm, hmn, rfl⟩
  rw [HX.out] at hm
  have hbig := hm.big
  have Hlen : Hid (ln X = m) := hm.len
  by_cases h0 : m = 0
  · subst h0
    have hx0 : X = 0 := ln_zero_iff.1 Hlen.out
    subst hx0
    go_wp2
    go_ret
    exact ⟨rfl, rfl⟩
  · have h0' : ((m : Int) == 0) = false := by rw [beq_eq_false_iff_ne]; omega
    have hpos : 1 ≤ m := by omega
    have hnb := Lib.hid (nb_top Hlen.out h0)
    clear h0
    obtain ⟨b, o, rfl, hb, hc0⟩ := hm.at_ (k := m - 1) (by omega)
    have hx := hc0 (m - 1) (by omega)
    have hlt32 := nb_le_of_lt (n := dig (lim X) (m - 1)) (k := 32) (by rw [← Bs_pow]; exact ok_lim X _)
    have hdb := Lib.hid (ok_lim X (m - 1))
    clear hc0
    generalize dig (lim X) (m - 1) = D at *
    go_wp2_with fail
    go_loop [4, 5] (fun nv tv => ∃ (nn t : Nat), nv = .int .i64 nn ∧ tv = d32 t ∧ nn + nb t = 32 * (m - 1) + nb D ∧ t < 4294967296) (fun _ tv => (intOf tv).toNat)
    case atStart => exact ⟨32 * (m - 1), D, by congr 1; omega, rfl, rfl, hdb.out⟩
    case round =>
      obtain ⟨nn, t, rfl, rfl, hs, ht⟩ := hrel
      have hnn : nn ≤ 40000000000000 := by omega
      by_cases hz : t = 0
      · have HS := Lib.hid hs
        subst hz
        clear hs
        go_wp2
        go_ret
        exact ⟨ret_int (by rw [hnb.out.1, ← HS.out, nb_zero]; rfl), rfl⟩
      · have hne : ((t : Int) != 0) = true := by rw [bne_iff_ne]; omega
        have HS := Lib.hid hs
        have HZ := Lib.hid hz
        clear hs hz
        go_wp2
        refine ⟨⟨nn + 1, t / 2, by go_num, by congr 1, ?_, by omega⟩, ?_⟩
        · rw [← HS.out, nb_half HZ.out]; omega
        · simp [intOf]; have := HZ.out; omega

theorem testBit_dig {xs : List Nat} (h : Ok xs) (i : Nat) : (val xs).testBit i = (dig xs (i / 32)).testBit (i % 32) := by
  rw [Nat.testBit_eq_decide_div_mod_eq, Nat.testBit_eq_decide_div_mod_eq]
  have e : val xs / 2 ^ i % 2 = dig xs (i / 32) / 2 ^ (i % 32) % 2 := by
    have h1 : val xs / 2 ^ i = val (xs.drop (i / 32)) / 2 ^ (i % 32) := by
      rw [val_drop h, Bs_pow_eq, Nat.div_div_eq_div_mul, ← Nat.pow_add, Nat.div_add_mod]
    rw [h1, val_drop_succ]
    obtain ⟨d, hd⟩ : ∃ d, 32 = i % 32 + 1 + d := ⟨31 - i % 32, by omega⟩
    have hB : Bs = 2 ^ (i % 32) * (2 * 2 ^ d) := by
      rw [Bs_pow]; conv => lhs; rw [hd]
      rw [Nat.pow_add, Nat.pow_add, Nat.pow_one, Nat.mul_assoc]
    rw [hB, Nat.mul_assoc, Nat.add_mul_div_left _ _ (Nat.two_pow_pos _), Nat.mul_assoc, Nat.add_mul_mod_self_left]
  rw [e]

set_option maxHeartbeats 1000000 in
theorem rbit_any (w : World) (A : Option Addr) (n c : Nat) (xs : List Nat) (i : Nat) (h : Lm w A n c xs) (hi : i ≤ 100000000000000) :
    Calls Tryd.prog 79 #[.slice A n c, .int .i64 i] w fun e w' => e = .returned (.bool ((val xs).testBit i)) ∧ w = w' := by
  have hbig := h.big
  have htb := testBit_dig h.ok i
  obtain ⟨k, hk⟩ : ∃ k, k = i / 32 := ⟨_, rfl⟩
  obtain ⟨s, hs⟩ : ∃ s, s = i % 32 := ⟨_, rfl⟩
  rw [← hk, ← hs] at htb
  rw [htb]
  have e1 : (i : Int) / 32 = (k : Int) := by omega
  have e2 : (i : Int) % 32 = (s : Int) := by omega
  have hsb : s < 32 := by omega
  have hkb : k ≤ 100000000000000 := by omega
  clear hk hs htb
  by_cases hlt : k < n
  · obtain ⟨b, o, rfl, hb, hc0⟩ := h.at_ hlt
    have hc := hc0 k hlt
    clear hc0
    have hx : dig xs k < 4294967296 := h.ok k
    have hq : dig xs k / 2 ^ s < 4294967296 := Nat.lt_of_le_of_lt (Nat.div_le_self _ _) hx
    have hb1 : bits .and .u32 ((dig xs k : Int) / 2 ^ s) 1 = ((dig xs k / 2 ^ s % 2 : Nat) : Int) := by
      rw [shr_cast]
      have := u32_and_nat (dig xs k / 2 ^ s) 1 hq (by omega)
      rw [nat_mask1] at this; exact this
    have htb : (dig xs k).testBit s = decide (dig xs k / 2 ^ s % 2 = 1) := Nat.testBit_eq_decide_div_mod_eq
    rw [htb]
    have h2 : dig xs k / 2 ^ s % 2 = 0 ∨ dig xs k / 2 ^ s % 2 = 1 := by omega
    rcases h2 with h2 | h2
    · rw [h2] at hb1
      rw [h2]
      clear h2 htb hq
      go_enter Tryd.func79, Tryd.ntmps79
      go_wp2
      go_ret
      exact ⟨rfl, rfl⟩
    · rw [h2] at hb1
      rw [h2]
      clear h2 htb hq
      go_enter Tryd.func79, Tryd.ntmps79
      go_wp2
      go_ret
      exact ⟨rfl, rfl⟩
  · have hz : (dig xs k).testBit s = false := by rw [dig_over (by rw [h.len]; omega)]; exact Nat.zero_testBit s
    rw [hz]
    clear hz
    go_enter Tryd.func79, Tryd.ntmps79
    go_wp2
    go_ret
    exact ⟨rfl, rfl⟩
end Go.Proofs.YtopkndkicdgafaaDoor
