/- Contracts: Cmp, Sub. -/
import Derived.Test.YtopkndkicdgafaaDoorAdd
namespace Go.Proofs.YtopkndkicdgafaaDoor
open Go.RowKit

theorem Lm.drew {w : World} {A : Option Addr} {n c : Nat} {xs : List Nat} (h : Lm w A n c xs) : Lm w.drew A n c xs := h
theorem Own.drew {w : World} {g : Nat} {L : List Nat} (h : Own w g L) : Own w.drew g L := h
/-- a contract that leaves the world alone, inside a region that writes at its end. -/
theorem st {P : Program} {f : FuncId} {args : Array Value} {w : World} {v : Value} (h : Calls P f args w fun e w' => e = .returned v ∧ w = w') : Calls P f args w fun e w'' => e = .returned v ∧ w'' = w :=
  h.mono fun _ _ ⟨he, hm⟩ => ⟨he, hm.symm⟩
theorem Lm.drewN {w : World} {A : Option Addr} {n c : Nat} {xs : List Nat} (h : Lm w A n c xs) (k : Nat) : Lm (w.drewN k) A n c xs := h
theorem val_lim_lt {X Y m j : Nat} (h1 : ln X = m) (h2 : ln Y = m) (hj : j < m) (ha : ∀ i, j < i → i < m → dig (lim X) i = dig (lim Y) i) (hlt : dig (lim X) j < dig (lim Y) j) : X < Y := by
  have := vt_lt_of_top (d := dig (lim X)) (e := dig (lim Y)) (ok_lim X) hj ha hlt
  rw [val_eq_vt (Nat.le_of_eq h1), val_eq_vt (Nat.le_of_eq h2), val_lim, val_lim] at this
  exact this
theorem val_lim_eq {X Y m : Nat} (h1 : ln X = m) (h2 : ln Y = m) (ha : ∀ i, i < m → dig (lim X) i = dig (lim Y) i) : X = Y := by
  have := vt_congr m ha
  rw [val_eq_vt (Nat.le_of_eq h1), val_eq_vt (Nat.le_of_eq h2), val_lim, val_lim] at this
  exact this

set_option maxHeartbeats 1000000 in
theorem cmp_any (w : World) (A : Option Addr) (n c : Nat) (xs : List Nat) (A' : Option Addr) (n' c' : Nat) (ys : List Nat) (h : Lm w A n c xs) (h' : Lm w A' n' c' ys) :
    Calls Tryd.prog 27 #[.slice A n c, .slice A' n' c'] w fun e w' => e = .returned (.int .i64 (cmpN (val xs) (val ys))) ∧ ∃ nq, w' = w.drewN nq := by
  generalize hX : val xs = X
  generalize hY : val ys = Y
  have HX := Lib.hid hX
  have HY := Lib.hid hY
  clear hX hY
  go_enter Tryd.func27, Tryd.ntmps27
  go_wp2_with fail
  refine (cut_lm w A n c xs h).mono ?_
  rintro e w1 ⟨m, rfl, hm, hmn, rfl⟩
  rw [HX.out] at hm
  go_wp2_with fail
  refine (cut_lm w A' n' c' ys h').mono ?_
  rintro e w1 ⟨m', rfl, hm', hmn', rfl⟩
  rw [HY.out] at hm'
  have hbig := hm.big
  have hbig' := hm'.big
  have Hlen : Hid (ln X = m) := hm.len
  have Hlen' : Hid (ln Y = m') := hm'.len
  by_cases hne : m < m' ∨ m' < m
  · have hne' : ((m : Int) != (m' : Int)) = true := by rw [bne_iff_ne]; omega
    go_wp2_with fail
    refine (compare_int _ m m').mono ?_
    rintro e w' ⟨rfl, rfl⟩
    go_wp2
    go_ret
    refine ⟨ret_int ?_, 0, rfl⟩
    rcases hne with hne | hne
    · rw [cmpN_lt hne, cmpN_lt (lt_of_ln_lt (by rw [Hlen.out, Hlen'.out]; exact hne))]
    · rw [cmpN_gt hne, cmpN_gt (lt_of_ln_lt (by rw [Hlen.out, Hlen'.out]; exact hne))]
  · obtain rfl : m = m' := by omega
    clear hne
    go_wp2_with fail
    go_loopw [5] (fun ix wr => ∃ (t : Int) (nq : Nat), -1 ≤ t ∧ t < m ∧ ix = .int .i64 t ∧ (∀ i : Nat, t < i → i < m → dig (lim X) i = dig (lim Y) i) ∧ wr = w.drewN nq) (fun ix _ => (intOf ix + 1).toNat)
    case atStart => exact ⟨(m : Int) - 1, 0, by omega, by omega, rfl, fun i h1 h2 => by omega, rfl⟩
    case round =>
      obtain ⟨t, nq, ht1, ht2, rfl, ha, rfl⟩ := hrel
      have HA := Lib.hid ha
      clear ha
      by_cases h0 : 0 ≤ t
      · obtain ⟨j, rfl⟩ := Int.eq_ofNat_of_zero_le h0
        have hjm : j < m := by omega
        obtain ⟨b, o, rfl, hb, hc0⟩ := hm.at_ hjm
        obtain ⟨b', o', rfl, hb', hc0'⟩ := hm'.at_ hjm
        have hc := hc0 j hjm
        have hc' := hc0' j hjm
        clear hc0 hc0'
        by_cases hd : dig (lim X) j = dig (lim Y) j
        · have hd' := Lib.hid hd
          rw [hd] at hc
          clear hd
          go_wp2
          go_quiet (fail)
          go_wp2
          go_roundw
          case rel => exact ⟨(j : Int) - 1, _, by omega, by omega, rfl, fun i h1 h2 => by
            rcases Nat.lt_or_ge j i with h3 | h3
            · exact HA.out i (by omega) h2
            · rw [show i = j from by omega]; exact hd'.out, rfl⟩
          case measure => simp [intOf]
        · have hne : ((dig (lim X) j : Int) != (dig (lim Y) j : Int)) = true := by rw [bne_iff_ne]; omega
          have HD := Lib.hid hd
          clear hd
          go_wp2
          go_quiet (fail)
          go_wp2_with fail
          go_quiet ((go_at_call 81; exact q_add (compare_u32 _ _ _)))
          go_wp2
          go_ret
          refine ⟨ret_int ?_, _, by rw [World.drewN_drewN, World.drewN_drewN]⟩
          rcases Nat.lt_or_gt_of_ne HD.out with hl | hl
          · rw [cmpN_lt hl, cmpN_lt (val_lim_lt Hlen.out Hlen'.out hjm (fun i h1 h2 => HA.out i (by omega) h2) hl)]
          · rw [cmpN_gt hl, cmpN_gt (val_lim_lt Hlen'.out Hlen.out hjm (fun i h1 h2 => (HA.out i (by omega) h2).symm) hl)]
      · obtain rfl : t = -1 := by omega
        go_wp2
        go_ret
        refine ⟨ret_int (cmpN_eq (val_lim_eq Hlen.out Hlen'.out (fun i h1 => HA.out i (by omega) h1))).symm, nq, rfl⟩
end Go.Proofs.YtopkndkicdgafaaDoor
