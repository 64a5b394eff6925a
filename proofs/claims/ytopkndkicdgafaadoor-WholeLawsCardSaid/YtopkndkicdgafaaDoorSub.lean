/- Contract: Sub. -/
import Derived.Test.YtopkndkicdgafaaDoorCmp
import Derived.Deep.RegionWith
import Derived.BigRegion
namespace Go.Proofs.YtopkndkicdgafaaDoor
open Go.RowKit

/-- What Sub tells: none, if M is less than N; else the difference. -/
def TellsSub (w : World) (M N len : Nat) (e : Ending) (w' : World) : Prop :=
  (M < N ∧ e = .returned (.tuple #[.slice none 0 0, .bool false]) ∧ Below w.heap.size w w') ∨
  (N ≤ M ∧ ∃ A m c, e = .returned (.tuple #[.slice A m c, .bool true]) ∧ Lm w' A m c (lim (M - N)) ∧ m ≤ len ∧ Below w.heap.size w w')

theorem dif_step {B vL P s c x y c' vx vy : Nat} (h : vL + vy = vx + P * c) (h2 : s + y + c = x + B * c') : vL + P * s + (vy + P * y) = (vx + P * x) + P * B * c' := by
  have : P * (s + y + c) = P * (x + B * c') := by rw [h2]
  grind
/-- the loop of a difference: k digits are done. -/
def DifAt (X Y k c : Nat) (L : List Nat) : Prop := Ok L ∧ c ≤ 1 ∧ vt (dig L) k + vt (dig (lim Y)) k = vt (dig (lim X)) k + Bs ^ k * c
theorem DifAt.step {X Y k c : Nat} {L : List Nat} (h : DifAt X Y k c L) (hk : k < L.length) :
    DifAt X Y (k + 1) (brw (dig (lim X) k) (dig (lim Y) k) c) (L.set k ((dig (lim X) k + Bs - dig (lim Y) k - c) % Bs)) := by
  obtain ⟨hO, hc, he⟩ := h
  have h1 := ok_lim X k
  have h2 := ok_lim Y k
  refine ⟨hO.set hk (Nat.mod_lt _ Bs_pos), brw_le _ _ _, ?_⟩
  show vt (dig (L.set k _)) k + Bs ^ k * dig (L.set k _) k + (vt (dig (lim Y)) k + Bs ^ k * dig (lim Y) k) = _
  rw [vt_congr (e := dig L) k (fun i hi => by rw [dig_set hk, if_neg (by omega)]), dig_set hk, if_pos rfl, Nat.pow_succ]
  refine dif_step he ?_
  unfold brw
  rw [Bs_eq] at *
  split <;> omega
theorem DifAt.fin {X Y k d : Nat} {L : List Nat} (h : DifAt X Y k d L) (h1 : ln X = k) (hYX : Y ≤ X) (hL : L.length = k) : Ok L ∧ val L = X - Y := by
  obtain ⟨hO, hc, he⟩ := h
  refine ⟨hO, ?_⟩
  have h2 : ln Y ≤ k := by rw [← h1]; exact ln_mono hYX
  rw [val_eq_vt (Nat.le_of_eq h1), val_eq_vt h2, val_lim, val_lim] at he
  have hv : vt (dig L) k = val L := val_eq_vt (Nat.le_of_eq hL)
  have hlt : val L < Bs ^ k := by rw [← hL]; exact val_lt hO
  rw [hv] at he
  have hd : d = 0 := by
    rcases Nat.lt_or_ge d 1 with h0 | h0
    · omega
    · obtain rfl : d = 1 := by omega
      rw [Nat.mul_one] at he; omega
  subst hd
  rw [Nat.mul_zero] at he; omega

set_option maxHeartbeats 1000000 in
theorem sub_any (w : World) (A : Option Addr) (n c : Nat) (xs : List Nat) (A' : Option Addr) (n' c' : Nat) (ys : List Nat) (h : Lm w A n c xs) (h' : Lm w A' n' c' ys) :
    Calls Tryd.prog 19 #[.slice A n c, .slice A' n' c'] w (TellsSub w (val xs) (val ys) n) := by
  generalize hX : val xs = X
  generalize hY : val ys = Y
  have HX := Lib.hid hX
  have HY := Lib.hid hY
  clear hX hY
  go_enter Tryd.func19, Tryd.ntmps19
  go_wp2_with fail
  refine (cut_lm w A n c xs h).mono ?_
  rintro e w1 ⟨m, rfl, hm, hmn, rfl⟩
  rw [HX.out] at hm
  go_wp2_with fail
  refine (cut_lm w A' n' c' ys h').mono ?_
  rintro e w1 ⟨m', rfl, hm', hmn', rfl⟩
  rw [HY.out] at hm'
  have hbig := hm.big
  have Hlen : Hid (ln X = m) := hm.len
  go_wp2_with fail
  refine (cmp_any w A m c _ A' m' c' _ hm hm').mono ?_
  rw [val_lim, val_lim]
  rintro e w0 ⟨rfl, nq, hw0⟩
  have hb0 : Below w.heap.size w w0 := by rw [hw0]; exact below_drewN (Below.refl _ _) nq
  have hm0 : Lm w0 A m c (lim X) := by rw [hw0]; exact hm.drewN nq
  have hm0' : Lm w0 A' m' c' (lim Y) := by rw [hw0]; exact hm'.drewN nq
  have hsz : w0.heap.size = w.heap.size := by rw [hw0]; rfl
  have HSZ := Lib.hid hsz
  clear hw0 hsz hm hm'
  by_cases hlt : X < Y
  · rw [cmpN_lt hlt]
    go_wp2
    go_ret2
    exact .inl ⟨hlt, rfl, hb0⟩
  · have hge : 0 ≤ cmpN X Y := by have := cmpN_neg_iff X Y; omega
    generalize cmpN X Y = q at *
    have HLT := Lib.hid hlt
    clear hlt
    go_wp2_with
      (at_make
       refine wpList_make_u32 _ rfl _ _ rfl .i64 .i64 _ _ m rfl rfl ?_ ?_ ?_ ?_
       · rfl
       · rfl
       · omega
       intro w1 hown hb1 hs1)
    have hb1' : Below w.heap.size w w1 := hb0.trans (hb1.mono (by rw [HSZ.out]; exact Nat.le_refl _))
    have hm1 := hm0.bel hb1
    have hm1' := hm0'.bel hb1
    go_loopw [7, 22] (fun cr ix wr => ∃ (k d : Nat) (L : List Nat), k ≤ m ∧ ix = .int .i64 k ∧ cr = d32 d ∧ L.length = m ∧ Own wr w0.heap.size L ∧ DifAt X Y k d L ∧ Below w0.heap.size w0 wr) (fun _ ix _ => m - (intOf ix).toNat)
    case atStart => exact ⟨0, 0, _, Nat.zero_le _, rfl, rfl, by simp, hown, ⟨Ok.zeros _, by omega, rfl⟩, hb1⟩
    case round =>
      obtain ⟨k, d, L, hk, rfl, rfl, hL0, hO, hS, hB⟩ := hrel
      have hL := Lib.hid hL0
      clear hL0 hown hb1 hs1 hb1' hm1 hm1'
      have hlm := hm0.bel hB
      have hlm' := hm0'.bel hB
      by_cases hlt : k < m
      · obtain ⟨b, o, rfl, hb, hc0⟩ := hlm.at_ hlt
        have hc := hO.cell (i := k) (by rw [hL.out]; omega)
        have hf := hO.free k
        have hx := hc0 k hlt
        clear hc0
        have hd : d ≤ 1 := hS.2.1
        go_wp2
        go_region_with (first
          | (go_at_call 75; refine (at_any _ A' m' c' (lim Y) k hlm'.drew (by omega)).mono ?_; rintro e w' ⟨rfl, rfl⟩)
          | (go_at_call 74; refine (sub32_any _ _ _ _ (ok_lim X k) (ok_lim Y k) hd).mono ?_; rintro e w' ⟨rfl, rfl⟩))
        all_goals go_wp2
        all_goals
          go_roundw
          case rel => exact ⟨k + 1, _, _, by omega, by go_num, rfl, by simpa using hL.out, hO.drew.set_ k _, hS.step (by rw [hL.out]; omega), hB.drew.setCell (Nat.le_refl _) _⟩
          case measure => simp [intOf]; omega
      · obtain rfl : k = m := by omega
        have hv := hS.fin Hlen.out (by have := HLT.out; omega) hL.out
        have HV := Lib.hid hv.2
        have hl := hO.lm hv.1 (by rw [hL.out]; omega)
        clear hv
        rw [hL.out] at hl
        go_wp2_with fail
        refine (cut_lm _ _ _ _ _ hl).mono ?_
        rintro e w' ⟨r, rfl, hr, hrn, rfl⟩
        go_wp2
        go_ret2
        refine .inr ⟨by have := HLT.out; omega, _, r, _, rfl, by rw [HV.out] at hr; exact hr, by omega, ?_⟩
        exact hb0.trans (hB.mono (by rw [HSZ.out]; exact Nat.le_refl _))
end Go.Proofs.YtopkndkicdgafaaDoor
