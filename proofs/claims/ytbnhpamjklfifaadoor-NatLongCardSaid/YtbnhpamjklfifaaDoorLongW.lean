/- NatLong: the walk. -/
import Derived.Test.YtbnhpamjklfifaaDoorOrderW
import Derived.Test.YtbnhpamjklfifaaDoorLawWords
import Derived.Test.YtbnhpamjklfifaaDoorArg
import Derived.Test.YtbnhpamjklfifaaDoorRefB
namespace Go.Proofs.YtbnhpamjklfifaaDoor
open Go.RowKit

theorem nb_ones (t : Nat) : nb (2 ^ t - 1) = t := by
  cases t with
  | zero => rfl
  | succ t =>
    apply nb_unique
    · have := Nat.two_pow_pos (t + 1); omega
    · rw [Nat.pow_succ]; have := Nat.two_pow_pos t; omega
theorem ones_div (k j : Nat) : (2 ^ k - 1) / 2 ^ j = 2 ^ (k - j) - 1 := by
  rcases Nat.lt_or_ge k j with h | h
  · have h1 : 2 ^ k ≤ 2 ^ j := Nat.pow_le_pow_right (by omega) (by omega)
    have h2 := Nat.two_pow_pos k
    rw [Nat.div_eq_of_lt (by omega), show k - j = 0 from by omega]
  · obtain ⟨d, rfl⟩ : ∃ d, k = j + d := ⟨k - j, by omega⟩
    have h1 := Nat.two_pow_pos j
    have h2 := Nat.two_pow_pos d
    rw [Nat.add_sub_cancel_left, Nat.pow_add]
    have e : 2 ^ j * 2 ^ d - 1 = 2 ^ j * (2 ^ d - 1) + (2 ^ j - 1) := by
      rw [Nat.mul_sub, Nat.mul_one]
      have : 2 ^ j * 1 ≤ 2 ^ j * 2 ^ d := Nat.mul_le_mul (Nat.le_refl _) h2
      omega
    rw [e, Nat.mul_add_div h1, Nat.div_eq_of_lt (by omega), Nat.add_zero]
theorem ones_mod (k j : Nat) : (2 ^ k - 1) % 2 ^ j = 2 ^ (min k j) - 1 := by
  rcases Nat.lt_or_ge k j with h | h
  · have h1 : 2 ^ k ≤ 2 ^ j := Nat.pow_le_pow_right (by omega) (by omega)
    have h2 := Nat.two_pow_pos k
    rw [Nat.mod_eq_of_lt (by omega), Nat.min_eq_left (by omega)]
  · obtain ⟨d, rfl⟩ : ∃ d, k = j + d := ⟨k - j, by omega⟩
    have h1 := Nat.two_pow_pos j
    have h2 := Nat.two_pow_pos d
    rw [Nat.min_eq_right (by omega), Nat.pow_add]
    have e : 2 ^ j * 2 ^ d - 1 = 2 ^ j * (2 ^ d - 1) + (2 ^ j - 1) := by
      rw [Nat.mul_sub, Nat.mul_one]
      have : 2 ^ j * 1 ≤ 2 ^ j * 2 ^ d := Nat.mul_le_mul (Nat.le_refl _) h2
      omega
    rw [e, Nat.mul_add_mod, Nat.mod_eq_of_lt (by omega)]
theorem ones_sq (k : Nat) : (2 ^ (k + 1) - 1) * (2 ^ (k + 1) - 1) = (2 ^ k - 1) * 2 ^ (k + 2) + 1 := by
  obtain ⟨p, hp⟩ : ∃ p, 2 ^ k = p + 1 := ⟨2 ^ k - 1, by have := Nat.two_pow_pos k; omega⟩
  rw [show 2 ^ (k + 2) = 2 ^ k * 2 * 2 from by rw [Nat.pow_succ, Nat.pow_succ], Nat.pow_succ, hp, Nat.add_sub_cancel, show (p + 1) * 2 - 1 = 2 * p + 1 from by omega]
  grind
theorem tz_ones {k : Nat} (h : 0 < k) : tz (2 ^ k - 1) = 0 := by
  obtain ⟨d, rfl⟩ : ∃ d, k = d + 1 := ⟨k - 1, by omega⟩
  apply tz_odd
  rw [Nat.pow_succ]; have := Nat.two_pow_pos d; omega
theorem tz_two (k : Nat) : tz (2 ^ k) = k := by have := tz_of k 0; rwa [Nat.mul_zero, Nat.zero_add, Nat.mul_one] at this
theorem heldN_succ {k : Nat} (h : k ≤ 99999) : heldN ((k : Int) + 1) = k + 1 := by unfold heldN; omega
theorem heldN_pred {k : Nat} (h : k ≤ 99999) : heldN ((k : Int) + 1 - 1) = k := by unfold heldN; omega

set_option maxHeartbeats 1000000 in
theorem low_law (w : World) (k : Nat) (hk : k ≤ 300) : Calls Tryd.prog 36 #[.int .i64 ((k + 1 : Nat) : Int)] w (Tells w (2 ^ k - 1) 400) := by
  have hh := Lib.hid (heldN_nat (k := k) (by omega))
  have ek : ((k + 1 : Nat) : Int) - 1 = (k : Int) := by omega
  generalize hK : ((k + 1 : Nat) : Int) = K at *
  have hkb : K ≤ 301 := by omega
  have hkc : 1 ≤ K := by omega
  clear hK
  go_enter Tryd.func36, Tryd.ntmps36
  have B_0 : Below w.heap.size w w := Below.refl _ _
  go_wp2_with fail
  obtain ⟨v2, hw2⟩ : ∃ v, v = w.alloc (.cells #[.int .u32 1] 37) := ⟨_, rfl⟩
  rw [← hw2]
  have hb2 : Below w.heap.size w v2 := by rw [hw2]; exact (Below.refl _ _).alloc (Nat.le_refl _) _
  have one_2 : Lm v2 (some ⟨w.heap.size, 0, none⟩) 1 1 [1] := by rw [hw2]; exact (Own.list w [1]).lm (Ok.of_mem (fun x hx => by rw [Bs_eq]; simp at hx; omega)) (by simp)
  have B_2 := B_0.trans (hb2.mono B_0.size)
  clear hw2 hb2 B_0
  have cc := Lib.hid (rshl_any v2 _ _ _ _ k one_2 (by omega))
  refine cc.out.mono ?_
  clear cc
  rw [val_single, Nat.one_mul, hh.out]
  rintro e v3 ⟨S1, m1, d1, rfl, s1, hm1, hb3⟩
  have one_3 := one_2.bel hb3
  have B_3 := B_2.trans (hb3.mono B_2.size)
  clear hb3 one_2 B_2
  clear one_3
  go_wp2_with fail
  obtain ⟨v4, hw4⟩ : ∃ v, v = v3.alloc (.cells #[.int .u32 1] 37) := ⟨_, rfl⟩
  rw [← hw4]
  have hb4 : Below v3.heap.size v3 v4 := by rw [hw4]; exact (Below.refl _ _).alloc (Nat.le_refl _) _
  have two_4 : Lm v4 (some ⟨v3.heap.size, 0, none⟩) 1 1 [1] := by rw [hw4]; exact (Own.list v3 [1]).lm (Ok.of_mem (fun x hx => by rw [Bs_eq]; simp at hx; omega)) (by simp)
  have s1_4 := s1.bel hb4
  have B_4 := B_3.trans (hb4.mono B_3.size)
  clear hw4 hb4 s1 B_3
  have cc := Lib.hid (rsub_any v4 _ _ _ _ _ _ _ _ s1_4 two_4)
  refine cc.out.mono ?_
  clear cc
  rw [val_lim, val_single]
  intro e v5 hS
  rcases hS with ⟨hz, _⟩ | ⟨_, D2, m2, d2, rfl, s2, hm2, hb5⟩
  case inl => exact absurd (Nat.two_pow_pos k) (by omega)
  have s1_5 := s1_4.bel hb5
  have two_5 := two_4.bel hb5
  have B_5 := B_4.trans (hb5.mono B_4.size)
  clear hb5 s1_4 two_4 B_4
  go_wp2
  go_ret
  exact ⟨D2, m2, d2, rfl, s2, by omega, B_5⟩

set_option maxHeartbeats 4000000 in
theorem long_walk (w : World) (n m : Nat) (hn : n ≤ 255) (hm : m ≤ 255) (hT : Tab w) :
    Calls Tryd.prog 9 #[.int .u8 n, .int .u8 m] w fun e w' => e = .returned (.bool true) ∧ Below w.heap.size w w' := by
  have hkn := Lib.hid (known_any w hT)
  have hk1 := Lib.hid (heldN_nat (k := n + 1) (by omega))
  have hj1 := Lib.hid (heldN_nat (k := m + 1) (by omega))
  have hk2 := Lib.hid (heldN_succ (k := n + 1) (by omega))
  have hlow := Lib.hid (fun W => low_law W n (by omega))
  have hsq := Lib.hid (ones_sq n)
  have hc := Lib.hid (show ((n + 1 : Nat) : Int) = (n : Int) + 1 from rfl)
  obtain ⟨k, hk⟩ : ∃ k, k = n + 1 := ⟨_, rfl⟩
  obtain ⟨j, hj⟩ : ∃ j, j = m + 1 := ⟨_, rfl⟩
  rw [← hk] at hk1 hk2 hlow hsq
  rw [← hj] at hj1
  have ek : (n : Int) + 1 = (k : Int) := by omega
  have ej : (m : Int) + 1 = (j : Int) := by omega
  have hkb : k ≤ 256 := by omega
  have hjb : j ≤ 256 := by omega
  have hkp : 0 < k := by omega
  have HK := Lib.hid (And.intro hk hj)
  clear hk hj
  obtain ⟨N, hN, eN⟩ : ∃ N, N = k - j ∧ max (0 : Int) ((k : Int) - (j : Int)) = (N : Int) := ⟨k - j, rfl, by omega⟩
  obtain ⟨R, hR, eR⟩ : ∃ R, R = min k j ∧ min (k : Int) (j : Int) = (R : Int) := ⟨min k j, rfl, by omega⟩
  have HNR := Lib.hid (And.intro hN hR)
  have h2k := Lib.hid (Nat.two_pow_pos k)
  clear hN hR
  go_enter Tryd.func9, Tryd.ntmps9
  go_wp2_with fail
  refine hkn.out.mono ?_
  clear hkn
  rintro e w1 ⟨rfl, hb⟩
  have hT1 := Lib.hid (hT.bel hb)
  clear hT
  go_wp2_with fail
  obtain ⟨v2, hw2⟩ : ∃ v, v = w1.alloc (.cells #[.int .u32 1] 37) := ⟨_, rfl⟩
  rw [← hw2]
  have hb2 : Below w1.heap.size w1 v2 := by rw [hw2]; exact (Below.refl _ _).alloc (Nat.le_refl _) _
  have one_2 : Lm v2 (some ⟨w1.heap.size, 0, none⟩) 1 1 [1] := by rw [hw2]; exact (Own.list w1 [1]).lm (Ok.of_mem (fun x hx => by rw [Bs_eq]; simp at hx; omega)) (by simp)
  have HT_2 := Lib.hid (hT1.out.bel hb2)
  have B_2 := hb.trans (hb2.mono hb.size)
  clear hw2 hb2 hT1 hb
  have cc := Lib.hid (shl_any v2 _ _ _ _ k one_2 (by omega))
  refine cc.out.mono ?_
  clear cc
  rw [val_single, Nat.one_mul, hk1.out]
  rintro e v3 ⟨S1, m1, d1, rfl, top, hm1, hb3⟩
  have one_3 := one_2.bel hb3
  have HT_3 := Lib.hid (HT_2.out.bel hb3)
  have B_3 := B_2.trans (hb3.mono B_2.size)
  clear hb3 one_2 HT_2 B_2
  go_wp2_with fail
  have cc := Lib.hid (sub_any v3 _ _ _ _ _ _ _ _ top one_3)
  refine cc.out.mono ?_
  clear cc
  rw [val_lim, val_single]
  intro e v4 hS
  rcases hS with ⟨hz, _⟩ | ⟨_, D2, m2, d2, rfl, all, hm2, hb4⟩
  case inl => exact absurd h2k.out (by omega)
  have one_4 := one_3.bel hb4
  have top_4 := top.bel hb4
  have HT_4 := Lib.hid (HT_3.out.bel hb4)
  have B_4 := B_3.trans (hb4.mono B_3.size)
  clear hb4 one_3 top HT_3 B_3
  go_wp2_with fail
  have cc := Lib.hid (shl_any v4 _ _ _ _ j one_4 (by omega))
  refine cc.out.mono ?_
  clear cc
  rw [val_single, Nat.one_mul, hj1.out]
  rintro e v5 ⟨S3, m3, d3, rfl, s3, hm3, hb5⟩
  have one_5 := one_4.bel hb5
  have top_5 := top_4.bel hb5
  have all_5 := all.bel hb5
  have HT_5 := Lib.hid (HT_4.out.bel hb5)
  have B_5 := B_4.trans (hb5.mono B_4.size)
  clear hb5 one_4 top_4 all HT_4 B_4
  go_wp2_with fail
  have cc := Lib.hid (div_any v5 _ _ _ _ _ _ _ _ all_5 s3 (by omega))
  refine cc.out.mono ?_
  clear cc
  rw [val_lim, val_lim]
  intro e v6 hS
  rcases hS with ⟨hz, _⟩ | ⟨_, Q, mq, dq, RR, mr, dr, rfl, q, r, hmq, hmr, hb6⟩
  case inl => exact absurd (Nat.two_pow_pos j) (by omega)
  rw [ones_div, ← HNR.out.1] at q
  rw [ones_mod, ← HNR.out.2] at r
  have one_6 := one_5.bel hb6
  have top_6 := top_5.bel hb6
  have all_6 := all_5.bel hb6
  have s3_6 := s3.bel hb6
  have HT_6 := Lib.hid (HT_5.out.bel hb6)
  have B_6 := B_5.trans (hb6.mono B_5.size)
  clear hb6 one_5 top_5 all_5 s3 HT_5 B_5
  clear s3_6
  go_wp2_with fail
  have cc := Lib.hid (bits_any v6 _ _ _ _ all_6)
  refine cc.out.mono ?_
  clear cc
  rw [val_lim, nb_ones]
  rintro e w' ⟨rfl, rfl⟩
  go_wp2_with fail
  have cc := Lib.hid (add_any v6 _ _ _ _ _ _ _ _ all_6 one_6 (by omega) (by omega))
  refine cc.out.mono ?_
  clear cc
  rw [val_lim, val_single, Nat.sub_add_cancel h2k.out]
  rintro e v7 ⟨S5, m5, d5, rfl, s5, hm5, hb7⟩
  have one_7 := one_6.bel hb7
  have top_7 := top_6.bel hb7
  have all_7 := all_6.bel hb7
  have q_7 := q.bel hb7
  have r_7 := r.bel hb7
  have HT_7 := Lib.hid (HT_6.out.bel hb7)
  have B_7 := B_6.trans (hb7.mono B_6.size)
  clear hb7 one_6 top_6 all_6 q r HT_6 B_6
  go_wp2_with fail
  have cc := Lib.hid (same_bel v7 _ _ _ _ _ _ _ _ s5 top_7)
  refine cc.out.mono ?_
  clear cc
  rw [dec_same rfl]
  rintro e v8 ⟨rfl, hb8⟩
  have one_8 := one_7.bel hb8
  have top_8 := top_7.bel hb8
  have all_8 := all_7.bel hb8
  have q_8 := q_7.bel hb8
  have r_8 := r_7.bel hb8
  have s5_8 := s5.bel hb8
  have HT_8 := Lib.hid (HT_7.out.bel hb8)
  have B_8 := B_7.trans (hb8.mono B_7.size)
  clear hb8 one_7 top_7 all_7 q_7 r_7 s5 HT_7 B_7
  clear s5_8
  go_wp2_with fail
  have cc := Lib.hid (low_any v8 _ _ _ _ top_8 HT_8.out)
  refine cc.out.mono ?_
  clear cc
  rw [val_lim, tz_two]
  rintro e w' ⟨rfl, rfl⟩
  go_wp2_with fail
  have cc := Lib.hid (low_any v8 _ _ _ _ all_8 HT_8.out)
  refine cc.out.mono ?_
  clear cc
  rw [val_lim, tz_ones hkp]
  rintro e w' ⟨rfl, rfl⟩
  go_wp2_with fail
  have cc := Lib.hid (bits_any v8 _ _ _ _ q_8)
  refine cc.out.mono ?_
  clear cc
  rw [val_lim, nb_ones]
  rintro e w' ⟨rfl, rfl⟩
  go_wp2_with fail
  have cc := Lib.hid (bits_any v8 _ _ _ _ r_8)
  refine cc.out.mono ?_
  clear cc
  rw [val_lim, nb_ones]
  rintro e w' ⟨rfl, rfl⟩
  go_wp2_with fail
  have cc := Lib.hid (mul_any v8 _ _ _ _ _ _ _ _ all_8 all_8 (by omega) (by omega))
  refine cc.out.mono ?_
  clear cc
  rw [val_lim, hsq.out]
  rintro e v9 ⟨S6, m6, d6, rfl, s6, hm6, hb9⟩
  have one_9 := one_8.bel hb9
  have top_9 := top_8.bel hb9
  have all_9 := all_8.bel hb9
  have q_9 := q_8.bel hb9
  have r_9 := r_8.bel hb9
  have HT_9 := Lib.hid (HT_8.out.bel hb9)
  have B_9 := B_8.trans (hb9.mono B_8.size)
  clear hb9 one_8 top_8 all_8 q_8 r_8 HT_8 B_8
  go_wp2_with fail
  have cc := Lib.hid (hlow.out v9)
  refine cc.out.mono ?_
  clear cc
  rintro e v10 ⟨S7, m7, d7, rfl, s7, hm7, hb10⟩
  have one_10 := one_9.bel hb10
  have top_10 := top_9.bel hb10
  have all_10 := all_9.bel hb10
  have q_10 := q_9.bel hb10
  have r_10 := r_9.bel hb10
  have s6_10 := s6.bel hb10
  have HT_10 := Lib.hid (HT_9.out.bel hb10)
  have B_10 := B_9.trans (hb10.mono B_9.size)
  clear hb10 one_9 top_9 all_9 q_9 r_9 s6 HT_9 B_9
  go_wp2_with fail
  have cc := Lib.hid (shl_any v10 _ _ _ _ ((k : Int) + 1) s7 (by omega))
  refine cc.out.mono ?_
  clear cc
  rw [val_lim, hk2.out]
  rintro e v11 ⟨S8, m8, d8, rfl, s8, hm8, hb11⟩
  have one_11 := one_10.bel hb11
  have top_11 := top_10.bel hb11
  have all_11 := all_10.bel hb11
  have q_11 := q_10.bel hb11
  have r_11 := r_10.bel hb11
  have s6_11 := s6_10.bel hb11
  have s7_11 := s7.bel hb11
  have HT_11 := Lib.hid (HT_10.out.bel hb11)
  have B_11 := B_10.trans (hb11.mono B_10.size)
  clear hb11 one_10 top_10 all_10 q_10 r_10 s6_10 s7 HT_10 B_10
  go_wp2_with fail
  have cc := Lib.hid (add_any v11 _ _ _ _ _ _ _ _ s8 one_11 (by omega) (by omega))
  refine cc.out.mono ?_
  clear cc
  rw [val_lim, val_single]
  rintro e v12 ⟨S9, m9, d9, rfl, s9, hm9, hb12⟩
  have one_12 := one_11.bel hb12
  have top_12 := top_11.bel hb12
  have all_12 := all_11.bel hb12
  have q_12 := q_11.bel hb12
  have r_12 := r_11.bel hb12
  have s6_12 := s6_11.bel hb12
  have s7_12 := s7_11.bel hb12
  have s8_12 := s8.bel hb12
  have HT_12 := Lib.hid (HT_11.out.bel hb12)
  have B_12 := B_11.trans (hb12.mono B_11.size)
  clear hb12 one_11 top_11 all_11 q_11 r_11 s6_11 s7_11 s8 HT_11 B_11
  go_wp2_with fail
  have cc := Lib.hid (same_bel v12 _ _ _ _ _ _ _ _ s6_12 s9)
  refine cc.out.mono ?_
  clear cc
  rw [dec_same (by rw [HK.out.1])]
  rintro e v13 ⟨rfl, hb13⟩
  have one_13 := one_12.bel hb13
  have top_13 := top_12.bel hb13
  have all_13 := all_12.bel hb13
  have q_13 := q_12.bel hb13
  have r_13 := r_12.bel hb13
  have s6_13 := s6_12.bel hb13
  have s7_13 := s7_12.bel hb13
  have s8_13 := s8_12.bel hb13
  have s9_13 := s9.bel hb13
  have HT_13 := Lib.hid (HT_12.out.bel hb13)
  have B_13 := B_12.trans (hb13.mono B_12.size)
  clear hb13 one_12 top_12 all_12 q_12 r_12 s6_12 s7_12 s8_12 s9 HT_12 B_12
  go_wp2
  go_ret
  exact ⟨rfl, B_13⟩
theorem long_top (w : World) (n : Int) (hn : (Lit.int .u8 n).wf = true) (m : Int) (hm : (Lit.int .u8 m).wf = true) (hT : Tab w) :
    Calls Tryd.prog 9 #[.int .u8 n, .int .u8 m] w fun e w' => e = .returned (.bool true) ∧ Below w.heap.size w w' := by
  have hb := bounds_u8 hn
  have hc := bounds_u8 hm
  obtain ⟨n, rfl⟩ := Int.eq_ofNat_of_zero_le hb.1
  obtain ⟨m, rfl⟩ := Int.eq_ofNat_of_zero_le hc.1
  exact long_walk w n m (by omega) (by omega) hT
end Go.Proofs.YtbnhpamjklfifaaDoor
