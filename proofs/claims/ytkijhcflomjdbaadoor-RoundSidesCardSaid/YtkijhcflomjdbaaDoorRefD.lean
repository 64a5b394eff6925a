/- Contracts of the document's own numbers: Low, Shr. -/
import Derived.Test.YtkijhcflomjdbaaDoorLb
namespace Go.Proofs.YtkijhcflomjdbaaDoor
open Go.RowKit

theorem testBit_tz {X : Nat} (h : X ≠ 0) : X.testBit (tz X) = true := by
  obtain ⟨m, hm⟩ := tz_spec h
  rw [Nat.testBit_eq_decide_div_mod_eq]
  have e : X / 2 ^ tz X = 2 * m + 1 := by
    generalize tz X = t at *
    rw [hm]
    exact Nat.mul_div_cancel_left _ (Nat.two_pow_pos _)
  rw [e, decide_eq_true_iff]; omega
theorem testBit_below {X i : Nat} (h : X ≠ 0) (hi : i < tz X) : X.testBit i = false := by
  obtain ⟨m, hm⟩ := tz_spec h
  rw [Nat.testBit_eq_decide_div_mod_eq]
  obtain ⟨d, hd⟩ : ∃ d, tz X = i + 1 + d := ⟨tz X - i - 1, by omega⟩
  have e : X / 2 ^ i = 2 * (2 ^ d * (2 * m + 1)) := by
    rw [hd] at hm
    rw [hm, Nat.pow_add, Nat.pow_add, Nat.pow_one, Nat.mul_assoc, Nat.mul_assoc, Nat.mul_div_cancel_left _ (Nat.two_pow_pos _)]
  rw [e, Nat.mul_mod_right]; rfl

set_option maxHeartbeats 1000000 in
theorem rlow_any (w : World) (A : Option Addr) (n c : Nat) (xs : List Nat) (h : Lm w A n c xs) :
    Calls Tryd.prog 42 #[.slice A n c] w fun e w' => e = .returned (.int .i64 (tz (val xs))) ∧ w = w' := by
  generalize hX : val xs = X
  have HX := Lib.hid hX
  clear hX
  go_enter Tryd.func42, Tryd.ntmps42
  go_wp2_with fail
  refine (rtrim_lm w A n c xs h).mono ?_
  rintro e w1 ⟨m, rfl, hm, hmn, rfl⟩
  rw [HX.out] at hm
  have hbig := hm.big
  have Hlen : Hid (ln X = m) := hm.len
  by_cases h0 : m = 0
  · subst h0
    have hx0 : X = 0 := ln_zero_iff.1 Hlen.out
    subst hx0
    go_wp2
    go_ret
    exact ⟨ret_int (by rw [tz_zero]; rfl), rfl⟩
  · have h0' : ((m : Int) == 0) = false := by rw [beq_eq_false_iff_ne]; omega
    have hX0 : X ≠ 0 := by rintro rfl; exact h0 (by rw [← Hlen.out]; exact ln_zero_iff.2 rfl)
    have hlt : tz X < 32 * m := tz_lt_of_lt hX0 (by rw [← Bs_pow_eq, ← Hlen.out]; have := val_lt (ok_lim X); rwa [val_lim] at this)
    have hfit : 32 * m ≤ 100000000000000 := by omega
    have H1 := Lib.hid (testBit_tz hX0)
    have H2 := Lib.hid (fun i (hi : i < tz X) => testBit_below hX0 hi)
    obtain ⟨T, hT⟩ : ∃ T, T = tz X := ⟨_, rfl⟩
    rw [← hT] at hlt H1 H2
    have HT := Lib.hid hT
    clear h0 hX0 hT
    go_wp2_with fail
    go_loop [4] (fun nv => ∃ (k : Nat), nv = .int .i64 k ∧ k ≤ T) (fun nv => T - (intOf nv).toNat)
    case atStart => exact ⟨0, rfl, Nat.zero_le _⟩
    case round =>
      obtain ⟨k, rfl, hk⟩ := hrel
      go_wp2_with fail
      refine (rbit_any w A m c (lim X) k hm (by omega)).mono ?_
      rintro e w' ⟨rfl, rfl⟩
      rw [val_lim]
      by_cases hlt' : k < T
      · rw [H2.out k hlt']
        go_wp2
        exact ⟨⟨k + 1, by go_num, by omega⟩, by simp [intOf]; omega⟩
      · obtain rfl : k = T := by omega
        rw [H1.out]
        go_wp2
        go_ret
        exact ⟨ret_int (by rw [HT.out]), rfl⟩
end Go.Proofs.YtkijhcflomjdbaaDoor
