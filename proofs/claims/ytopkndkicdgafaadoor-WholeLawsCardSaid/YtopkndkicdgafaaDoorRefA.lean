/- Contracts of the document's own numbers: Trim, at, Cmp, Add, Sub. -/
import Derived.Test.YtopkndkicdgafaaDoorSub
namespace Go.Proofs.YtopkndkicdgafaaDoor
open Go.RowKit

set_option maxHeartbeats 400000 in
theorem rtrim_any (w : World) (A : Option Addr) (n c : Nat) (xs : List Nat) (h : Lm w A n c xs) :
    Calls Tryd.prog 24 #[.slice A n c] w fun e w' => e = .returned (.slice A (ln (val xs)) c) ∧ w = w' := by
  have hlen := Lib.hid h.len
  have hcap := h.cap
  have hnn := h.big
  go_enter Tryd.func24, Tryd.ntmps24
  go_wp2
  go_loop [3] (fun t => ∃ m : Nat, m ≤ n ∧ (∀ j, m ≤ j → j < n → dig xs j = 0) ∧ t = .int .i64 m) (fun t => (intOf t).toNat)
  case atStart => exact ⟨n, Nat.le_refl _, fun j h1 h2 => by omega, rfl⟩
  case round =>
    obtain ⟨m, hm, hz0, rfl⟩ := hrel
    have hz := Lib.hid hz0
    clear hz0
    by_cases hp : 0 < m
    · obtain ⟨b, o, rfl, hb, hc0⟩ := h.at_ (k := m - 1) (by omega)
      have hc := hc0 (m - 1) (by omega)
      clear hc0
      by_cases hd : dig xs (m - 1) = 0
      · rw [hd] at hc
        have hd' := Lib.hid hd
        clear hd
        go_wp2
        refine ⟨⟨m - 1, by omega, fun j h1 h2 => ?_, by congr 1; omega⟩, by simp [intOf]; omega⟩
        rcases Nat.lt_or_ge j m with h3 | h3
        · rw [show j = m - 1 from by omega]; exact hd'.out
        · exact hz.out j h3 h2
      · go_wp2
        go_ret
        exact ⟨ret_slice (lim_take h.ok (by rw [hlen.out]; exact hm) (fun j h1 h2 => hz.out j h1 (by rw [hlen.out] at h2; exact h2)) (.inr hd)).1.symm, rfl⟩
    · go_wp2
      go_ret
      exact ⟨ret_slice (lim_take h.ok (by rw [hlen.out]; exact hm) (fun j h1 h2 => hz.out j h1 (by rw [hlen.out] at h2; exact h2)) (.inl (by omega))).1.symm, rfl⟩
theorem rtrim_lm (w : World) (A : Option Addr) (n c : Nat) (xs : List Nat) (h : Lm w A n c xs) :
    Calls Tryd.prog 24 #[.slice A n c] w fun e w' => ∃ m, e = .returned (.slice A m c) ∧ Lm w A m c (lim (val xs)) ∧ m ≤ n ∧ w = w' :=
  (rtrim_any w A n c xs h).mono fun _ _ ⟨he, hw⟩ => ⟨_, he, h.cut, by have := ln_val_le h.ok; rw [h.len] at this; exact this, hw⟩

set_option maxHeartbeats 400000 in
theorem rat_any (w : World) (A : Option Addr) (n c : Nat) (xs : List Nat) (i : Nat) (h : Lm w A n c xs) (_hi : i ≤ 2000000000000) :
    Calls Tryd.prog 76 #[.slice A n c, .int .i64 i] w fun e w' => e = .returned (.int .u64 (dig xs i : Nat)) ∧ w = w' := by
  have hcap := h.cap
  have hbig := h.big
  by_cases hlt : i < n
  · obtain ⟨b, o, rfl, hb, hc0⟩ := h.at_ hlt
    have hc := hc0 i hlt
    have hx : dig xs i < 4294967296 := h.ok i
    clear hc0
    go_enter Tryd.func76, Tryd.ntmps76
    go_wp2
    go_ret
    exact ⟨ret_int (by first | rfl | omega), rfl⟩
  · have hz : dig xs i = 0 := dig_over (by rw [h.len]; omega)
    rw [hz]
    clear hz
    go_enter Tryd.func76, Tryd.ntmps76
    go_wp2
    go_ret
    exact ⟨rfl, rfl⟩

set_option maxHeartbeats 1000000 in
theorem rcmp_any (w : World) (A : Option Addr) (n c : Nat) (xs : List Nat) (A' : Option Addr) (n' c' : Nat) (ys : List Nat) (h : Lm w A n c xs) (h' : Lm w A' n' c' ys) :
    Calls Tryd.prog 28 #[.slice A n c, .slice A' n' c'] w fun e w' => e = .returned (.int .i64 (cmpN (val xs) (val ys))) ∧ ∃ nq, w' = w.drewN nq := by
  generalize hX : val xs = X
  generalize hY : val ys = Y
  have HX := Lib.hid hX
  have HY := Lib.hid hY
  clear hX hY
  go_enter Tryd.func28, Tryd.ntmps28
  go_wp2_with fail
  refine (rtrim_lm w A n c xs h).mono ?_
  rintro e w1 ⟨m, rfl, hm, hmn, rfl⟩
  rw [HX.out] at hm
  go_wp2_with fail
  refine (rtrim_lm w A' n' c' ys h').mono ?_
  rintro e w1 ⟨m', rfl, hm', hmn', rfl⟩
  rw [HY.out] at hm'
  have hbig := hm.big
  have hbig' := hm'.big
  have Hlen : Hid (ln X = m) := hm.len
  have Hlen' : Hid (ln Y = m') := hm'.len
  rcases Nat.lt_trichotomy m m' with hne | hne | hne
  · have hne' : ((m : Int) != (m' : Int)) = true := by rw [bne_iff_ne]; omega
    go_wp2
    go_ret
    exact ⟨ret_int (by rw [cmpN_lt (lt_of_ln_lt (by rw [Hlen.out, Hlen'.out]; exact hne))]), 0, rfl⟩
  · subst hne
    go_wp2_with fail
    go_loopw [7] (fun ix wr => ∃ (t : Int) (nq : Nat), -1 ≤ t ∧ t < m ∧ ix = .int .i64 t ∧ (∀ i : Nat, t < i → i < m → dig (lim X) i = dig (lim Y) i) ∧ wr = w.drewN nq) (fun ix _ => (intOf ix + 1).toNat)
    case atStart => exact ⟨(m : Int) - 1, 0, by omega, by omega, rfl, fun i h1 h2 => by omega, rfl⟩
    case round =>
      obtain ⟨t, nq, ht1, ht2, rfl, ha, rfl⟩ := hrel
      have HA := Lib.hid ha
      clear ha
      by_cases h0 : 0 ≤ t
      · obtain ⟨j, rfl⟩ := Int.eq_ofNat_of_zero_le h0
        have hjm : j < m := by omega
        obtain ⟨b, o, rfl, hb, hc0⟩ := hm.at_ hjm
        obtain ⟨b', o', rfl, hb', hc0'⟩ := hm'.at_ hjm
        have hc := hc0 j hjm
        have hc' := hc0' j hjm
        clear hc0 hc0'
        rcases Nat.lt_trichotomy (dig (lim X) j) (dig (lim Y) j) with hd | hd | hd
        · have HD := Lib.hid hd
          go_wp2_with fail
          go_quiet (fail)
          go_wp2
          go_ret
          exact ⟨ret_int (by rw [cmpN_lt (val_lim_lt Hlen.out Hlen'.out hjm (fun i h1 h2 => HA.out i (by omega) h2) HD.out)]), _, by rw [World.drewN_drewN]⟩
        · have hd' := Lib.hid hd
          rw [hd] at hc
          clear hd
          go_wp2_with fail
          go_quiet (fail)
          go_wp2_with fail
          go_quiet (fail)
          go_wp2
          go_roundw
          case rel => exact ⟨(j : Int) - 1, _, by omega, by omega, rfl, fun i h1 h2 => by
            rcases Nat.lt_or_ge j i with h3 | h3
            · exact HA.out i (by omega) h2
            · rw [show i = j from by omega]; exact hd'.out, rfl⟩
          case measure => simp [intOf]
        · have HD := Lib.hid hd
          have hnl : ¬ dig (lim X) j < dig (lim Y) j := by omega
          go_wp2_with fail
          go_quiet (fail)
          go_wp2_with fail
          go_quiet (fail)
          go_wp2
          go_ret
          exact ⟨ret_int (by rw [cmpN_gt (val_lim_lt Hlen'.out Hlen.out hjm (fun i h1 h2 => (HA.out i (by omega) h2).symm) HD.out)]), _, by rw [World.drewN_drewN, World.drewN_drewN]⟩
      · obtain rfl : t = -1 := by omega
        go_wp2
        go_ret
        refine ⟨ret_int (cmpN_eq (val_lim_eq Hlen.out Hlen'.out (fun i h1 => HA.out i (by omega) h1))).symm, nq, rfl⟩
  · have hne' : ((m : Int) != (m' : Int)) = true := by rw [bne_iff_ne]; omega
    go_wp2
    go_ret
    exact ⟨ret_int (by rw [cmpN_gt (lt_of_ln_lt (by rw [Hlen.out, Hlen'.out]; exact hne))]), 0, rfl⟩
end Go.Proofs.YtopkndkicdgafaaDoor
