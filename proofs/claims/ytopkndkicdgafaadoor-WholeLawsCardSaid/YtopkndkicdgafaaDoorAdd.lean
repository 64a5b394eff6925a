/- Contracts: Is, Trim, Cmp, Add, Sub. -/
import Derived.Test.YtopkndkicdgafaaDoorOwn
import Derived.Test.YtopkndkicdgafaaDoorLen
namespace Go.Proofs.YtopkndkicdgafaaDoor
open Go.RowKit

/-- What is told of a number: new limbs, canonical, no longer than len. -/
def Tells (w : World) (N len : Nat) (e : Ending) (w' : World) : Prop := ∃ A m c, e = .returned (.slice A m c) ∧ Lm w' A m c (lim N) ∧ m ≤ len ∧ Below w.heap.size w w'

theorem sum_step {B vL P s c x y c' vx vy : Nat} (h : vL + P * c = vx + vy) (h2 : s + B * c' = x + y + c) : vL + P * s + P * B * c' = (vx + P * x) + (vy + P * y) := by
  have : P * (s + B * c') = P * (x + y + c) := by rw [h2]
  grind
/-- the loop of a sum: k digits are done. -/
def SumAt (X Y k c : Nat) (L : List Nat) : Prop := Ok L ∧ c ≤ 1 ∧ vt (dig L) k + Bs ^ k * c = vt (dig (lim X)) k + vt (dig (lim Y)) k
theorem SumAt.step {X Y k c : Nat} {L : List Nat} (h : SumAt X Y k c L) (hk : k < L.length) :
    SumAt X Y (k + 1) ((dig (lim X) k + dig (lim Y) k + c) / Bs) (L.set k ((dig (lim X) k + dig (lim Y) k + c) % Bs)) := by
  obtain ⟨hO, hc, he⟩ := h
  have h1 := ok_lim X k
  have h2 := ok_lim Y k
  refine ⟨hO.set hk (Nat.mod_lt _ Bs_pos), ?_, ?_⟩
  · rw [Bs_eq] at *; omega
  · show vt (dig (L.set k _)) k + Bs ^ k * dig (L.set k _) k + _ = _
    rw [vt_congr (e := dig L) k (fun i hi => by rw [dig_set hk, if_neg (by omega)]), dig_set hk, if_pos rfl, Nat.pow_succ]
    exact sum_step he (Nat.mod_add_div _ _)

theorem SumAt.fin {X Y k d : Nat} {L : List Nat} (h : SumAt X Y k d L) (h1 : ln X ≤ k) (h2 : ln Y ≤ k) (hL : L.length = k + 1) : Ok (L.set k d) ∧ val (L.set k d) = X + Y := by
  obtain ⟨hO, hc, he⟩ := h
  have hk : k < L.length := by omega
  refine ⟨hO.set hk (by rw [Bs_eq]; omega), ?_⟩
  rw [val_eq_vt h1, val_eq_vt h2, val_lim, val_lim] at he
  rw [← he]
  show vt (dig (L.set k d)) (L.set k d).length = _
  rw [List.length_set, hL]
  show vt (dig (L.set k d)) k + Bs ^ k * dig (L.set k d) k = _
  rw [vt_congr (e := dig L) k (fun i hi => by rw [dig_set hk, if_neg (by omega)]), dig_set hk, if_pos rfl]
theorem lim_le_len {X m N : Nat} (h : (lim X).length = m) (hm : m ≤ N) : ln X ≤ N := by unfold ln; omega

set_option maxHeartbeats 1000000 in
theorem add_any (w : World) (A : Option Addr) (n c : Nat) (xs : List Nat) (A' : Option Addr) (n' c' : Nat) (ys : List Nat) (h : Lm w A n c xs) (h' : Lm w A' n' c' ys) (hn : n ≤ 10000000000) (hn' : n' ≤ 10000000000) :
    Calls Tryd.prog 29 #[.slice A n c, .slice A' n' c'] w (Tells w (val xs + val ys) (max n n' + 1)) := by
  generalize hX : val xs = X
  generalize hY : val ys = Y
  have HX := Lib.hid hX
  have HY := Lib.hid hY
  clear hX hY
  go_enter Tryd.func29, Tryd.ntmps29
  go_wp2_with fail
  refine (cut_lm w A n c xs h).mono ?_
  rintro e w1 ⟨m, rfl, hm, hmn, rfl⟩
  rw [HX.out] at hm
  go_wp2_with fail
  refine (cut_lm w A' n' c' ys h').mono ?_
  rintro e w1 ⟨m', rfl, hm', hmn', rfl⟩
  rw [HY.out] at hm'
  obtain ⟨N, hN1, hN2, hN3, hN4⟩ : ∃ N : Nat, max (m : Int) (m' : Int) = (N : Int) ∧ m ≤ N ∧ m' ≤ N ∧ N ≤ max n n' := ⟨max m m', by omega, by omega, by omega, by omega⟩
  go_wp2_with
    (at_make
     refine wpList_make_u32 _ rfl _ _ rfl .i64 .i64 _ _ (N + 1) rfl rfl ?_ ?_ ?_ ?_
     · omega
     · omega
     · omega
     intro w1 hown hb1 hs1)
  go_loopw [7, 22] (fun cr ix wr => ∃ (k d : Nat) (L : List Nat), k ≤ N ∧ ix = .int .i64 k ∧ cr = d32 d ∧ L.length = N + 1 ∧ Own wr w.heap.size L ∧ SumAt X Y k d L ∧ Below w.heap.size w wr) (fun _ ix _ => N - (intOf ix).toNat)
  case atStart => exact ⟨0, 0, _, Nat.zero_le _, rfl, rfl, by simp, hown, ⟨Ok.zeros _, by omega, rfl⟩, hb1⟩
  case round =>
    obtain ⟨k, d, L, hk, rfl, rfl, hL0, hO, hS, hB⟩ := hrel
    have hL := Lib.hid hL0
    clear hL0 hown hb1 hs1
    have hlm := hm.bel hB
    have hlm' := hm'.bel hB
    by_cases hlt : k < N
    · have hc := hO.cell (i := k) (by rw [hL.out]; omega)
      have hf := hO.free k
      have hd : d < Bs := by have := hS.2.1; rw [Bs_eq]; omega
      go_wp2_with fail
      refine (at_any _ A m c (lim X) k hlm (by omega)).mono ?_
      rintro e w' ⟨rfl, rfl⟩
      go_wp2_with fail
      refine (at_any _ A' m' c' (lim Y) k hlm' (by omega)).mono ?_
      rintro e w' ⟨rfl, rfl⟩
      go_wp2_with fail
      refine (add32_any _ _ _ _ (ok_lim X k) (ok_lim Y k) hd).mono ?_
      rintro e w' ⟨rfl, rfl⟩
      go_wp2
      go_roundw
      case rel => exact ⟨k + 1, _, _, by omega, by go_num, rfl, by simpa using hL.out, hO.set_ k _, hS.step (by rw [hL.out]; omega), hB.setCell (Nat.le_refl _) _⟩
      case measure => simp [intOf]; omega
    · obtain rfl : k = N := by omega
      have hc := hO.cell (i := k) (by rw [hL.out]; omega)
      have hf := hO.free k
      have hv := hS.fin (lim_le_len hm.len hN2) (lim_le_len hm'.len hN3) hL.out
      have HV := Lib.hid hv.2
      have hO2 := hO.set_ k d
      have hok := hv.1
      clear hv
      have hB2 := hB.setCell (p := ⟨w.heap.size, k, none⟩) (Nat.le_refl _) (d32 d)
      have hlen2 : (L.set k d).length = k + 1 := by simpa using hL.out
      have hl := hO2.lm hok (by omega)
      rw [hlen2] at hl
      have HL2 := Lib.hid hlen2
      clear hlen2
      go_wp2_with fail
      refine (cut_lm _ _ _ _ _ hl).mono ?_
      rintro e w' ⟨q, rfl, hq, hqn, rfl⟩
      go_wp2
      go_ret
      exact ⟨_, q, _, rfl, by rw [HV.out] at hq; exact hq, by omega, hB2⟩

set_option maxHeartbeats 400000 in
theorem is_any (w : World) (A : Option Addr) (n c : Nat) (xs : List Nat) (h : Lm w A n c xs) :
    Calls Tryd.prog 23 #[.slice A n c] w fun e w' => e = .returned (.bool (decide (lim (val xs) = xs))) ∧ w = w' := by
  have hl := h.len
  have hle := ln_val_le h.ok
  have hiff : ln (val xs) = xs.length ↔ lim (val xs) = xs := by
    constructor
    · intro e; rw [lim_val_take h.ok, e, List.take_length]
    · intro e; exact congrArg List.length e
  have hb : (((ln (val xs) : Nat) : Int) == (n : Int)) = decide (lim (val xs) = xs) := by
    rw [Bool.eq_iff_iff, decide_eq_true_iff, ← hiff, beq_iff_eq]; omega
  have HB := Lib.hid hb
  clear hb hiff hl
  generalize hL : ln (val xs) = q at *
  have HL := Lib.hid hL
  clear hL
  go_enter Tryd.func23, Tryd.ntmps23
  go_wp2_with fail
  refine (cut_any w A n c xs h).mono ?_
  rintro e w1 ⟨rfl, rfl⟩
  go_wp2
  go_ret
  refine ⟨ret_bool ?_, rfl⟩
  rw [← HB.out, ← HL.out]

set_option maxHeartbeats 400000 in
theorem trim_any (w : World) (A : Option Addr) (n c : Nat) (xs : List Nat) (h : Lm w A n c xs) :
    Calls Tryd.prog 26 #[.slice A n c] w (Tells w (val xs) n) := by
  go_enter Tryd.func26, Tryd.ntmps26
  go_wp2_with fail
  refine (cut_lm w A n c xs h).mono ?_
  rintro e w1 ⟨m, rfl, hm, hmn, rfl⟩
  go_wp2_with
    (at_builtin
     refine wpList_append_lm _ rfl _ _ rfl rfl A m c _ rfl hm ?_
     intro A' c' w' hl hb)
  go_ret
  exact ⟨A', m, c', rfl, hl, hmn, hb⟩
end Go.Proofs.YtopkndkicdgafaaDoor
