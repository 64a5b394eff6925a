/- Contracts: Shl, Shr, Bits, Low. -/
import Derived.Test.YtopkndkicdgafaaDoorShift
namespace Go.Proofs.YtopkndkicdgafaaDoor
open Go.RowKit

theorem TellsV.lm {w : World} {N len : Nat} {e : Ending} {w' : World} (h : TellsV w N len e w') : ∃ B q d L, e = .returned (.slice B q d) ∧ Lm w' B q d L ∧ val L = N ∧ q ≤ len ∧ Below w.heap.size w w' := h

set_option maxHeartbeats 1000000 in
theorem shl_any (w : World) (A : Option Addr) (n c : Nat) (xs : List Nat) (by_ : Int) (h : Lm w A n c xs) (hn : n ≤ 10000000000) :
    Calls Tryd.prog 33 #[.slice A n c, .int .i64 by_] w (Tells w (val xs * 2 ^ heldN by_) (n + heldN by_ / 32 + 1)) := by
  have hh := heldN_le by_
  have hheld := Lib.hid (fun W => held_any W by_)
  generalize hH : heldN by_ = H at *
  have HH := Lib.hid hH
  clear hH
  generalize hX : val xs = X
  have HX := Lib.hid hX
  clear hX
  go_enter Tryd.func33, Tryd.ntmps33
  go_wp2_with fail
  refine (cut_lm w A n c xs h).mono ?_
  rintro e w1 ⟨m, rfl, hm, hmn, rfl⟩
  rw [HX.out] at hm
  have Hlen : Hid (ln X = m) := hm.len
  by_cases h0 : m = 0
  · subst h0
    have hx0 : X = 0 := ln_zero_iff.1 Hlen.out
    subst hx0
    go_wp2
    go_ret
    exact ⟨none, 0, 0, rfl, by rw [Nat.zero_mul, lim_zero]; exact Lm.nil _, Nat.zero_le _, Below.refl _ _⟩
  · have h0' : ((m : Int) == 0) = false := by rw [beq_eq_false_iff_ne]; omega
    have H0 := Lib.hid h0
    clear h0
    go_wp2_with fail
    refine (hheld.out _).mono ?_
    rintro e w' ⟨rfl, rfl⟩
    go_wp2_with fail
    refine (up_any w A m c _ H hm (by omega) (by omega)).mono ?_
    rintro e w2 ⟨L, rfl, hO, hL, hok, hv, hb⟩
    have HL := Lib.hid hL
    have HV := Lib.hid hv
    clear hL hv
    have hl := hO.lm hok (by rw [HL.out]; omega)
    rw [HL.out] at hl
    go_wp2_with fail
    refine (cut_lm _ _ _ _ _ hl).mono ?_
    rintro e w' ⟨r, rfl, hr, hrn, rfl⟩
    go_wp2
    go_ret
    refine ⟨_, r, _, rfl, ?_, by omega, hb⟩
    rw [HV.out, val_lim] at hr; exact hr

set_option maxHeartbeats 1000000 in
theorem shr_any (w : World) (A : Option Addr) (n c : Nat) (xs : List Nat) (by_ : Int) (h : Lm w A n c xs) (hn : n ≤ 10000000000) :
    Calls Tryd.prog 35 #[.slice A n c, .int .i64 by_] w (Tells w (val xs / 2 ^ heldN by_) n) := by
  have hh := heldN_le by_
  have hheld := Lib.hid (fun W => held_any W by_)
  generalize hH : heldN by_ = H at *
  have HH := Lib.hid hH
  clear hH
  generalize hX : val xs = X
  have HX := Lib.hid hX
  clear hX
  go_enter Tryd.func35, Tryd.ntmps35
  go_wp2_with fail
  refine (cut_lm w A n c xs h).mono ?_
  rintro e w1 ⟨m, rfl, hm, hmn, rfl⟩
  rw [HX.out] at hm
  go_wp2_with fail
  refine (hheld.out _).mono ?_
  rintro e w' ⟨rfl, rfl⟩
  go_wp2_with fail
  refine (down_any w A m c _ H hm (by omega) (by omega)).mono ?_
  rintro e w2 ⟨B, q, d, L, rfl, hl, hv, hq, hb⟩
  have HV := Lib.hid hv
  clear hv
  go_wp2_with fail
  refine (cut_lm _ _ _ _ _ hl).mono ?_
  rintro e w' ⟨r, rfl, hr, hrn, rfl⟩
  go_wp2
  go_ret
  refine ⟨_, r, _, rfl, ?_, by omega, hb⟩
  rw [HV.out, val_lim] at hr; exact hr

/-- the topmost digit, and what lies below it. -/
theorem nb_top {X m : Nat} (h : ln X = m) (h0 : m ≠ 0) : nb X = 32 * (m - 1) + nb (dig (lim X) (m - 1)) ∧ dig (lim X) (m - 1) ≠ 0 := by
  have hX : X ≠ 0 := fun e => h0 (by rw [← h, e]; exact ln_zero)
  have ht := top_lim hX
  rw [h] at ht
  refine ⟨?_, ht⟩
  have e : X = dig (lim X) (m - 1) * 2 ^ (32 * (m - 1)) + vt (dig (lim X)) (m - 1) := by
    have h1 : val (lim X) = vt (dig (lim X)) (m - 1 + 1) := by rw [Nat.sub_add_cancel (by omega)]; exact (val_eq_vt (Nat.le_of_eq h)).symm
    rw [val_lim] at h1
    conv => lhs; rw [h1]
    show vt (dig (lim X)) (m - 1) + Bs ^ (m - 1) * dig (lim X) (m - 1) = _
    rw [Bs_pow_eq, Nat.mul_comm, Nat.add_comm]
  have hlt : vt (dig (lim X)) (m - 1) < 2 ^ (32 * (m - 1)) := by rw [← Bs_pow_eq]; exact vt_lt _ fun i _ => ok_lim X i
  conv => lhs; rw [e]
  rw [nb_join ht hlt, Nat.add_comm]

set_option maxHeartbeats 1000000 in
theorem bits_any (w : World) (A : Option Addr) (n c : Nat) (xs : List Nat) (h : Lm w A n c xs) :
    Calls Tryd.prog 37 #[.slice A n c] w fun e w' => e = .returned (.int .i64 (nb (val xs))) ∧ w = w' := by
  generalize hX : val xs = X
  have HX := Lib.hid hX
  clear hX
  go_enter Tryd.func37, Tryd.ntmps37
  go_wp2_with fail
  refine (cut_lm w A n c xs h).mono ?_
  rintro e w1 ⟨m, rfl, hm, hmn, rfl⟩
  rw [HX.out] at hm
  have hbig := hm.big
  have Hlen : Hid (ln X = m) := hm.len
  by_cases h0 : m = 0
  · subst h0
    have hx0 : X = 0 := ln_zero_iff.1 Hlen.out
    subst hx0
    go_wp2
    go_ret
    exact ⟨rfl, rfl⟩
  · have h0' : ((m : Int) == 0) = false := by rw [beq_eq_false_iff_ne]; omega
    have hpos : 1 ≤ m := by omega
    have hnb := Lib.hid (nb_top Hlen.out h0)
    clear h0
    obtain ⟨b, o, rfl, hb, hc0⟩ := hm.at_ (k := m - 1) (by omega)
    have hx := hc0 (m - 1) (by omega)
    have hlt32 := nb_le_of_lt (n := dig (lim X) (m - 1)) (k := 32) (by rw [← Bs_pow]; exact ok_lim X _)
    clear hc0
    go_wp2_with fail
    refine (len32_any _ _ (ok_lim X (m - 1))).mono ?_
    rintro e w' ⟨rfl, rfl⟩
    go_wp2
    go_ret
    exact ⟨ret_int (by rw [hnb.out.1]; omega), rfl⟩

/-- the lowest digit that isn't 0. -/
theorem tz_low {xs : List Nat} {i : Nat} (hz : ∀ j, j < i → dig xs j = 0) (hd : dig xs i ≠ 0) (hx : dig xs i < Bs) : tz (val xs) = 32 * i + tz (dig xs i) := by
  have h1 := val_split xs i
  rw [vt_zero i hz, Nat.zero_add, val_drop_succ, Bs_pow_eq] at h1
  obtain ⟨m, hm⟩ := tz_spec hd
  have hlt : tz (dig xs i) < 32 := tz_lt_of_lt hd (by rw [← Bs_pow]; exact hx)
  obtain ⟨q, hq⟩ : ∃ q, 32 = tz (dig xs i) + 1 + q := ⟨31 - tz (dig xs i), by omega⟩
  have hB : Bs = 2 ^ tz (dig xs i) * (2 * 2 ^ q) := by
    rw [Bs_pow]; conv => lhs; rw [hq]
    rw [Nat.pow_add, Nat.pow_add, Nat.pow_one, Nat.mul_assoc]
  have e : val xs = 2 ^ (32 * i + tz (dig xs i)) * (2 * (m + 2 ^ q * val (xs.drop (i + 1))) + 1) := by
    rw [h1, Nat.pow_add, Nat.mul_assoc]
    congr 1
    conv => lhs; rw [hB]
    generalize tz (dig xs i) = t at *
    generalize 2 ^ q = u
    generalize val (List.drop (i + 1) xs) = v
    rw [hm]
    generalize 2 ^ t = p
    grind
  rw [e, tz_of]

set_option maxHeartbeats 1000000 in
theorem low_any (w : World) (A : Option Addr) (n c : Nat) (xs : List Nat) (h : Lm w A n c xs) (hT : Tab w) :
    Calls Tryd.prog 39 #[.slice A n c] w fun e w' => e = .returned (.int .i64 (tz (val xs))) ∧ w = w' := by
  have hlen := Lib.hid h.len
  have hbig := h.big
  generalize hR : tz (val xs) = R
  have HR := Lib.hid hR
  clear hR
  have hT' := Lib.hid hT
  clear hT
  go_enter Tryd.func39, Tryd.ntmps39
  go_wp2
  go_loop [7] (fun ix => ∃ k : Nat, k ≤ n ∧ ix = .int .i64 k ∧ ∀ j, j < k → dig xs j = 0) (fun ix => n - (intOf ix).toNat)
  case atStart => exact ⟨0, Nat.zero_le _, rfl, fun j hj => by omega⟩
  case round =>
    obtain ⟨k, hk, rfl, hz0⟩ := hrel
    have hz := Lib.hid hz0
    clear hz0
    by_cases hlt : k < n
    · obtain ⟨b, o, rfl, hb, hc0⟩ := h.at_ hlt
      have hx := hc0 k hlt
      clear hc0
      by_cases hd : dig xs k = 0
      · rw [hd] at hx
        have hd' := Lib.hid hd
        clear hd
        go_wp2
        refine ⟨⟨k + 1, by omega, by go_num, fun j hj => ?_⟩, by simp [intOf]; omega⟩
        rcases Nat.lt_or_ge j k with h3 | h3
        · exact hz.out j h3
        · rw [show j = k from by omega]; exact hd'.out
      · have hne : ((dig xs k : Int) != 0) = true := by rw [bne_iff_ne]; omega
        have hd' := Lib.hid hd
        clear hd
        have htz : tz (dig xs k) < 32 := tz_lt_of_lt hd'.out (by rw [← Bs_pow]; exact h.ok k)
        go_wp2_with fail
        refine (tz32_any _ _ (h.ok k) hd'.out hT'.out).mono ?_
        rintro e w' ⟨rfl, rfl⟩
        go_wp2
        go_ret
        exact ⟨ret_int (by rw [← HR.out, tz_low hz.out hd'.out (h.ok k)]; omega), rfl⟩
    · obtain rfl : k = n := by omega
      go_wp2
      go_ret
      have hv : val xs = 0 := vt_zero _ (fun i hi => hz.out i (by rw [hlen.out] at hi; exact hi))
      exact ⟨ret_int (by rw [← HR.out, hv, tz_zero]; rfl), rfl⟩
end Go.Proofs.YtopkndkicdgafaaDoor
