import Derived.Test.YtnjjfakjnkhhjaaGreatDoorLb
set_option maxHeartbeats 2000000
set_option linter.all false
namespace Go.Proofs.YtnjjfakjnkhhjaaGreatDoor
open Go.RowKit
theorem testBit_tz {X : Nat} (h : X ≠ 0) : X.testBit (tz X) = true := by
 obtain ⟨m, hm⟩ := tz_spec h
 rw [Nat.testBit_eq_decide_div_mod_eq]
 have e : X / 2 ^ tz X = 2 * m + 1 := by
  generalize tz X = t at *
  rw [hm]
  exact Nat.mul_div_cancel_left _ (Nat.two_pow_pos _)
 rw [e, decide_eq_true_iff]; omega
theorem testBit_below {X i : Nat} (h : X ≠ 0) (hi : i < tz X) : X.testBit i = false := by
 obtain ⟨m, hm⟩ := tz_spec h
 rw [Nat.testBit_eq_decide_div_mod_eq]
 obtain ⟨d, hd⟩ : ∃ d, tz X = i + 1 + d := ⟨tz X - i - 1, by omega⟩
 have e : X / 2 ^ i = 2 * (2 ^ d * (2 * m + 1)) := by
  rw [hd] at hm
  rw [hm, Nat.pow_add, Nat.pow_add, Nat.pow_one, Nat.mul_assoc, Nat.mul_assoc, Nat.mul_div_cancel_left _ (Nat.two_pow_pos _)]
 rw [e, Nat.mul_mod_right]; rfl
theorem rlow_any (w : World) (A : Option Addr) (n c : Nat) (xs : List Nat) (h : Lm w A n c xs) :
  Calls Tryz.prog 93 #[.slice A n c] w fun e w' => e = .returned (.int .i64 (tz (val xs))) ∧ w = w' := by
 generalize hX : val xs = X
 have HX := Lib.hid hX
 clear hX
 go_enter Tryz.func93, Tryz.ntmps93
 go_wp2_with fail
 refine (rtrim_lm w A n c xs h).mono ?_
 rintro e w1 ⟨m, rfl, hm, hmn, rfl⟩
 rw [HX.out] at hm
 have hbig := hm.big
 have Hlen : Hid (ln X = m) := hm.len
 by_cases h0 : m = 0
 ·subst h0
  have hx0 : X = 0 := ln_zero_iff.1 Hlen.out
  subst hx0
  go_wp2
  go_ret
  exact ⟨ret_int (by rw [tz_zero]; rfl), rfl⟩
 ·have h0' : ((m : Int) == 0) = false := by rw [beq_eq_false_iff_ne]; omega
  have hX0 : X ≠ 0 := by rintro rfl; exact h0 (by rw [← Hlen.out]; exact ln_zero_iff.2 rfl)
  have hlt : tz X < 32 * m := tz_lt_of_lt hX0 (by rw [← Bs_pow_eq, ← Hlen.out]; have := val_lt (ok_lim X); rwa [val_lim] at this)
  have hfit : 32 * m ≤ 100000000000000 := by omega
  have H1 := Lib.hid (testBit_tz hX0)
  have H2 := Lib.hid (fun i (hi : i < tz X) => testBit_below hX0 hi)
  obtain ⟨T, hT⟩ : ∃ T, T = tz X := ⟨_, rfl⟩
  rw [← hT] at hlt H1 H2
  have HT := Lib.hid hT
  clear h0 hX0 hT
  go_wp2_with fail
  go_loop [4] (fun nv => ∃ (k : Nat), nv = .int .i64 k ∧ k ≤ T) (fun nv => T - (intOf nv).toNat)
  case atStart => exact ⟨0, rfl, Nat.zero_le _⟩
  case round =>
   obtain ⟨k, rfl, hk⟩ := hrel
   go_wp2_with fail
   refine (rbit_any w A m c (lim X) k hm (by omega)).mono ?_
   rintro e w' ⟨rfl, rfl⟩
   rw [val_lim]
   by_cases hlt' : k < T
   ·rw [H2.out k hlt']
    go_wp2
    exact ⟨⟨k + 1, by go_num, by omega⟩, by simp [intOf]; omega⟩
   ·obtain rfl : k = T := by omega
    rw [H1.out]
    go_wp2
    go_ret
    exact ⟨ret_int (by rw [HT.out]), rfl⟩
end Go.Proofs.YtnjjfakjnkhhjaaGreatDoor
namespace Go.Proofs.YtnjjfakjnkhhjaaGreatDoor
open Go.RowKit
theorem Lm.from_ {w : World} {b o n c : Nat} {xs : List Nat} (h : Lm w (some ⟨b, o, none⟩) n c xs) (k q : Nat) (hq : q + k = n) : Lm w (some ⟨b, o + k, none⟩) q (c - k) (xs.drop k) := by
 refine ⟨⟨by rw [List.length_drop, h.len]; omega, by have := h.cap; omega, by have := h.big; omega⟩, h.ok.drop k, fun hn => ?_⟩
 obtain ⟨b', o', e, hb, hc⟩ := h.2.2 (by omega)
 injection e with e; injection e with e1 e2
 subst e1; subst e2
 exact ⟨_, _, rfl, hb, fun j hj => by rw [dig_drop, Nat.add_assoc]; exact hc (k + j) (by omega)⟩
theorem join64' (hi lo : Nat) (h1 : hi < 4294967296) (h2 : lo < 4294967296) : bits .or .u64 (lo : Int) ((hi : Int) * 4294967296) = ((hi * Bs + lo : Nat) : Int) := by
 rw [← join64 hi lo h1 h2]
 have e : ((hi : Int) * 4294967296) = ((hi * 4294967296 : Nat) : Int) := by omega
 rw [e, u64_or_nat _ _ (by omega) (by omega), u64_or_nat _ _ (by omega) (by omega), Nat.or_comm]
theorem rshr_any (w : World) (A : Option Addr) (m c : Nat) (xs : List Nat) (by_ : Int) (h : Lm w A m c xs) (hm : m ≤ 10000000000) :
  Calls Tryz.prog 94 #[.slice A m c, .int .i64 by_] w (Tells w (val xs / 2 ^ heldN by_) m) := by
 have hh := heldN_le by_
 have hcast := heldN_cast' by_
 have hcap := h.cap
 obtain ⟨sk, hsk⟩ : ∃ sk, sk = heldN by_ / 32 := ⟨_, rfl⟩
 obtain ⟨sh, hsh⟩ : ∃ sh, sh = heldN by_ % 32 := ⟨_, rfl⟩
 have e1 : (heldN by_ : Int) / 32 = (sk : Int) := by omega
 have e2 : (heldN by_ : Int) % 32 = (sh : Int) := by omega
 have hskb : sk ≤ 100000 := by omega
 have hshb : sh < 32 := by omega
 have HN : Hid (heldN by_ = 32 * sk + sh) := (by omega : heldN by_ = 32 * sk + sh)
 clear hsk hsh
 generalize heldN by_ = H at *
 by_cases hge : m ≤ sk
 ·have hz : val xs / 2 ^ H = 0 := by
   rw [HN.out]
   apply Nat.div_eq_of_lt
   refine Nat.lt_of_lt_of_le (val_lt h.ok) ?_
   rw [h.len, Bs_pow_eq]
   exact Nat.pow_le_pow_right (by omega) (by omega)
  rw [hz]
  clear hz
  go_enter Tryz.func94, Tryz.ntmps94
  go_wp2
  go_ret
  exact ⟨none, 0, 0, rfl, by have := Lm.nil w; rwa [← lim_zero] at this, Nat.zero_le _, Below.refl _ _⟩
 obtain ⟨q, hq⟩ : ∃ q, q + sk = m := ⟨m - sk, by omega⟩
 have hq1 : q ≤ 100000000000 := by omega
 have eq1 : (m : Int) - (sk : Int) = (q : Int) := by omega
 have HQ := Lib.hid hq
 have hqm : q ≤ m := by omega
 have hqs : sk < m := by omega
 clear hge
 generalize hV : val xs / 2 ^ H = V
 have HV := Lib.hid hV
 clear hV
 obtain ⟨b, o, rfl, hb, hc0⟩ := h.at_ hqs
 have hl' := h.from_ sk q hq
 have eqn : m - sk = q := by omega
 clear hc0 hq
 go_enter Tryz.func94, Tryz.ntmps94
 go_wp2_with
  (at_make
   refine wpList_make_u32 _ rfl _ _ rfl .i64 .i64 _ _ q rfl rfl ?_ ?_ ?_ ?_
   ·rfl
   ·rfl
   ·omega
   intro w1 hown hb1 hs1)
 clear e1 e2 eq1 hcast
 go_loopw [8] (fun ix wr => ∃ (k : Nat) (L : List Nat), k ≤ q ∧ ix = .int .i64 k ∧ L.length = q ∧ Own wr w.heap.size L ∧ DownAt V k L ∧ Below w.heap.size w wr) (fun ix _ => q - (intOf ix).toNat)
 case atStart => exact ⟨0, _, Nat.zero_le _, rfl, by simp, hown, ⟨Ok.zeros _, fun i hi => by omega⟩, hb1⟩
 case round =>
  obtain ⟨k, L, hk, rfl, hL0, hO, hS, hB⟩ := hrel
  have hL := Lib.hid hL0
  clear hL0 hown hb1 hs1
  have hlm := hl'.bel hB
  by_cases hlt : k < q
  ·have hc := hO.cell (i := k) (by rw [hL.out]; omega)
   have hf := hO.free k
   have hj1 : dig xs (sk + k) < 4294967296 := h.ok _
   have hj2 : dig xs (sk + k + 1) < 4294967296 := h.ok _
   have hd1 : dig (xs.drop sk) k = dig xs (sk + k) := dig_drop _ _ _
   have hd2 : dig (xs.drop sk) (k + 1) = dig xs (sk + k + 1) := dig_drop _ _ _
   have ej := join64' _ _ hj2 hj1
   have hsd := Lib.hid (shr_digit h.ok sk sh k (Nat.le_of_lt hshb))
   obtain ⟨J, hJ⟩ : ∃ J, J = dig xs (sk + k + 1) * Bs + dig xs (sk + k) := ⟨_, rfl⟩
   rw [← hJ] at ej
   have hJb : J < 18446744073709551616 := by rw [hJ, Bs_eq]; omega
   have HJ := Lib.hid hJ
   clear hJ
   go_wp2_with fail
   refine (rat_any _ _ q (c - sk) (xs.drop sk) k hlm (by omega)).mono ?_
   rintro e w' ⟨rfl, rfl⟩
   go_wp2_with fail
   refine (rat_any _ _ q (c - sk) (xs.drop sk) (k + 1) hlm (by omega)).mono ?_
   rintro e w' ⟨rfl, rfl⟩
   rw [hd2]
   go_wp2
   have eH : H % 32 = sh := by have := HN.out; omega
   have eJ : dig xs (sk + k) + Bs * dig xs (sk + k + 1) = J := by rw [HJ.out, Nat.mul_comm, Nat.add_comm]
   have hsd' := hsd.out
   rw [eJ] at hsd'
   have ev : (J : Int) / 2 ^ (H % 32) % 4294967296 = ((J / 2 ^ sh % Bs : Nat) : Int) := by rw [eH, shr_cast]; rfl
   rw [ev]
   refine ⟨⟨k + 1, _, by omega, by go_num, ?_, hO.set_ _ _, hS.step (by rw [hL.out]; omega) (by rw [hsd', ← HV.out, HN.out]), hB.setCell (Nat.le_refl _) _⟩, by simp [intOf]; omega⟩
   simpa using hL.out
  ·obtain rfl : k = q := by omega
   have hl := hO.lm hS.1 (by rw [hL.out]; omega)
   rw [hL.out] at hl
   have hv : Hid (val L = V) := (by
    refine val_digits (fun i hi => hS.2 i (by rw [hL.out] at hi; exact hi)) ?_
    rw [hL.out, ← HV.out, HN.out, Nat.div_lt_iff_lt_mul (Nat.two_pow_pos _), Bs_pow_eq, ← Nat.pow_add]
    refine Nat.lt_of_lt_of_le (val_lt h.ok) ?_
    rw [h.len, Bs_pow_eq]
    exact Nat.pow_le_pow_right (by omega) (by have := HQ.out; omega) : val L = V)
   go_wp2_with fail
   refine (rtrim_lm _ _ _ _ _ hl).mono ?_
   rintro e w' ⟨r, rfl, hr, hrn, rfl⟩
   go_wp2
   go_ret
   exact ⟨_, r, _, rfl, by rw [hv.out] at hr; exact hr, Nat.le_trans hrn hqm, hB⟩
end Go.Proofs.YtnjjfakjnkhhjaaGreatDoor
