/- NatRoots: the walk. -/
import Derived.Test.YtbnhpamjklfifaaDoorOrderW
import Derived.Test.YtbnhpamjklfifaaDoorLawWords
import Derived.Test.YtbnhpamjklfifaaDoorArg
namespace Go.Proofs.YtbnhpamjklfifaaDoor
open Go.RowKit

theorem tz_le {xs : List Nat} {n : Nat} (h : Ok xs) (hl : xs.length = n) : tz (val xs) ≤ 32 * n := by
  by_cases h0 : val xs = 0
  · rw [h0, tz_zero]; omega
  · have := tz_lt_of_lt h0 (k := 32 * n) (by rw [← Bs_pow_eq, ← hl]; exact val_lt h)
    omega
set_option maxHeartbeats 4000000 in
theorem roots_zero (w : World) (Aa : Option Addr) (na ca : Nat) (xa : List Nat) (La : Lm w Aa na ca xa) (fa : na ≤ 24) (k : Nat) (hk : k ≤ 255) (hT : Tab w) (hX : val xa = 0) :
    Calls Tryd.prog 6 #[.slice Aa na ca, .int .u8 k] w fun e w' => e = .returned (.bool true) ∧ Below w.heap.size w w' := by
  have hkn := Lib.hid (known_any w hT)
  have hXX := Lib.hid hX
  clear hX
  have hsh := Lib.hid (heldN_nat (k := k) (by omega))
  have hnbl := nb_le_len La.ok
  rw [La.len] at hnbl
  go_enter Tryd.func6, Tryd.ntmps6
  go_wp2_with fail
  refine hkn.out.mono ?_
  clear hkn
  rintro e w1 ⟨rfl, hb⟩
  have a1 := La.bel hb
  have hT1 := Lib.hid (hT.bel hb)
  clear La hT
  go_wp2_with (go_at_call 11; refine (few_any _ _ _ _).mono ?_; rintro e w' ⟨rfl, rfl⟩)
  go_wp2_with fail
  have cc := Lib.hid (root_any w1 _ _ _ _ a1 (by omega))
  refine cc.out.mono ?_
  clear cc
  rintro e v2 ⟨S1, m1, d1, rfl, s1, hm1, hb2⟩
  have a_2 := a1.bel hb2
  have HT_2 := Lib.hid (hT1.out.bel hb2)
  have B_2 := hb.trans (hb2.mono hb.size)
  clear hb2 a1 hT1 hb
  go_wp2_with fail
  obtain ⟨v3, hw3⟩ : ∃ v, v = v2.alloc (.cells #[.int .u32 1] 37) := ⟨_, rfl⟩
  rw [← hw3]
  have hb3 : Below v2.heap.size v2 v3 := by rw [hw3]; exact (Below.refl _ _).alloc (Nat.le_refl _) _
  have one_3 : Lm v3 (some ⟨v2.heap.size, 0, none⟩) 1 1 [1] := by rw [hw3]; exact (Own.list v2 [1]).lm (Ok.of_mem (fun x hx => by rw [Bs_eq]; simp at hx; omega)) (by simp)
  have a_3 := a_2.bel hb3
  have s1_3 := s1.bel hb3
  have HT_3 := Lib.hid (HT_2.out.bel hb3)
  have B_3 := B_2.trans (hb3.mono B_2.size)
  clear hw3 hb3 a_2 s1 HT_2 B_2
  have cc := Lib.hid (add_any v3 _ _ _ _ _ _ _ _ s1_3 one_3 (by omega) (by omega))
  refine cc.out.mono ?_
  clear cc
  rw [val_lim, val_single]
  rintro e v4 ⟨S2, m2, d2, rfl, s2, hm2, hb4⟩
  have a_4 := a_3.bel hb4
  have s1_4 := s1_3.bel hb4
  have one_4 := one_3.bel hb4
  have HT_4 := Lib.hid (HT_3.out.bel hb4)
  have B_4 := B_3.trans (hb4.mono B_3.size)
  clear hb4 a_3 s1_3 one_3 HT_3 B_3
  clear one_4
  go_wp2_with fail
  have cc := Lib.hid (shl_any v4 _ _ _ _ k a_4 (by omega))
  refine cc.out.mono ?_
  clear cc
  rw [hsh.out]
  rintro e v5 ⟨S3, m3, d3, rfl, s3, hm3, hb5⟩
  have a_5 := a_4.bel hb5
  have s1_5 := s1_4.bel hb5
  have s2_5 := s2.bel hb5
  have HT_5 := Lib.hid (HT_4.out.bel hb5)
  have B_5 := B_4.trans (hb5.mono B_4.size)
  clear hb5 a_4 s1_4 s2 HT_4 B_4
  go_wp2_with fail
  have cc := Lib.hid (mul_any v5 _ _ _ _ _ _ _ _ s1_5 s1_5 (by omega) (by omega))
  refine cc.out.mono ?_
  clear cc
  rw [val_lim]
  rintro e v6 ⟨S4, m4, d4, rfl, s4, hm4, hb6⟩
  have a_6 := a_5.bel hb6
  have s1_6 := s1_5.bel hb6
  have s2_6 := s2_5.bel hb6
  have s3_6 := s3.bel hb6
  have HT_6 := Lib.hid (HT_5.out.bel hb6)
  have B_6 := B_5.trans (hb6.mono B_5.size)
  clear hb6 a_5 s1_5 s2_5 s3 HT_5 B_5
  go_wp2_with fail
  obtain ⟨q1, hq1, hq1b⟩ : ∃ q, cmpN (rt (val xa) * rt (val xa)) (val xa) = q ∧ q ≤ 0 := ⟨_, rfl, cmpN_le (rt_spec _).1⟩
  have cc := Lib.hid (cmp_bel v6 _ _ _ _ _ _ _ _ s4 a_6)
  refine cc.out.mono ?_
  clear cc
  rw [val_lim, hq1]
  rintro e v7 ⟨rfl, hb7⟩
  have a_7 := a_6.bel hb7
  have s1_7 := s1_6.bel hb7
  have s2_7 := s2_6.bel hb7
  have s3_7 := s3_6.bel hb7
  have s4_7 := s4.bel hb7
  have HT_7 := Lib.hid (HT_6.out.bel hb7)
  have B_7 := B_6.trans (hb7.mono B_6.size)
  clear hb7 a_6 s1_6 s2_6 s3_6 s4 HT_6 B_6
  clear hq1
  clear s4_7
  clear s1_7
  go_wp2_with fail
  have cc := Lib.hid (mul_any v7 _ _ _ _ _ _ _ _ s2_7 s2_7 (by omega) (by omega))
  refine cc.out.mono ?_
  clear cc
  rw [val_lim]
  rintro e v8 ⟨S5, m5, d5, rfl, s5, hm5, hb8⟩
  have a_8 := a_7.bel hb8
  have s2_8 := s2_7.bel hb8
  have s3_8 := s3_7.bel hb8
  have HT_8 := Lib.hid (HT_7.out.bel hb8)
  have B_8 := B_7.trans (hb8.mono B_7.size)
  clear hb8 a_7 s2_7 s3_7 HT_7 B_7
  go_wp2_with fail
  have cc := Lib.hid (cmp_bel v8 _ _ _ _ _ _ _ _ s5 a_8)
  refine cc.out.mono ?_
  clear cc
  rw [val_lim, cmpN_gt (rt_spec _).2]
  rintro e v9 ⟨rfl, hb9⟩
  have a_9 := a_8.bel hb9
  have s2_9 := s2_8.bel hb9
  have s3_9 := s3_8.bel hb9
  have s5_9 := s5.bel hb9
  have HT_9 := Lib.hid (HT_8.out.bel hb9)
  have B_9 := B_8.trans (hb9.mono B_8.size)
  clear hb9 a_8 s2_8 s3_8 s5 HT_8 B_8
  clear s5_9
  clear s2_9
  go_wp2_with fail
  have cc := Lib.hid (shr_any v9 _ _ _ _ k s3_9 (by omega))
  refine cc.out.mono ?_
  clear cc
  rw [hsh.out, val_lim, Nat.mul_div_cancel _ (Nat.two_pow_pos _)]
  rintro e v10 ⟨S6, m6, d6, rfl, s6, hm6, hb10⟩
  have a_10 := a_9.bel hb10
  have s3_10 := s3_9.bel hb10
  have HT_10 := Lib.hid (HT_9.out.bel hb10)
  have B_10 := B_9.trans (hb10.mono B_9.size)
  clear hb10 a_9 s3_9 HT_9 B_9
  go_wp2_with fail
  have cc := Lib.hid (trim_any v10 _ _ _ _ a_10)
  refine cc.out.mono ?_
  clear cc
  rintro e v11 ⟨S7, m7, d7, rfl, s7, hm7, hb11⟩
  have a_11 := a_10.bel hb11
  have s3_11 := s3_10.bel hb11
  have s6_11 := s6.bel hb11
  have HT_11 := Lib.hid (HT_10.out.bel hb11)
  have B_11 := B_10.trans (hb11.mono B_10.size)
  clear hb11 a_10 s3_10 s6 HT_10 B_10
  go_wp2_with fail
  have cc := Lib.hid (same_bel v11 _ _ _ _ _ _ _ _ s6_11 s7)
  refine cc.out.mono ?_
  clear cc
  rw [dec_same rfl]
  rintro e v12 ⟨rfl, hb12⟩
  have a_12 := a_11.bel hb12
  have s3_12 := s3_11.bel hb12
  have s6_12 := s6_11.bel hb12
  have s7_12 := s7.bel hb12
  have HT_12 := Lib.hid (HT_11.out.bel hb12)
  have B_12 := B_11.trans (hb12.mono B_11.size)
  clear hb12 a_11 s3_11 s6_11 s7 HT_11 B_11
  have hz3 := s3_12
  rw [hXX.out, Nat.zero_mul] at hz3
  obtain rfl := lm_zero hz3
  clear hz3
  go_wp2_with fail
  obtain ⟨v13, hw13⟩ : ∃ v, v = v12.alloc (.cells #[.int .u32 1] 37) := ⟨_, rfl⟩
  rw [← hw13]
  have hb13 : Below v12.heap.size v12 v13 := by rw [hw13]; exact (Below.refl _ _).alloc (Nat.le_refl _) _
  have one_13 : Lm v13 (some ⟨v12.heap.size, 0, none⟩) 1 1 [1] := by rw [hw13]; exact (Own.list v12 [1]).lm (Ok.of_mem (fun x hx => by rw [Bs_eq]; simp at hx; omega)) (by simp)
  have a_13 := a_12.bel hb13
  have s3_13 := s3_12.bel hb13
  have s6_13 := s6_12.bel hb13
  have s7_13 := s7_12.bel hb13
  have HT_13 := Lib.hid (HT_12.out.bel hb13)
  have B_13 := B_12.trans (hb13.mono B_12.size)
  clear hw13 hb13 a_12 s3_12 s6_12 s7_12 HT_12 B_12
  have cc := Lib.hid (bits_any v13 _ _ _ _ a_13)
  refine cc.out.mono ?_
  clear cc
  rintro e w' ⟨rfl, rfl⟩
  go_wp2_with fail
  have cc := Lib.hid (shl_any v13 _ _ _ _ (nb (val xa) : Nat) one_13 (by omega))
  refine cc.out.mono ?_
  clear cc
  rw [val_single, heldN_nat (k := nb (val xa)) (by omega), Nat.one_mul]
  rintro e v14 ⟨S8, m8, d8, rfl, s8, hm8, hb14⟩
  have a_14 := a_13.bel hb14
  have s3_14 := s3_13.bel hb14
  have s6_14 := s6_13.bel hb14
  have s7_14 := s7_13.bel hb14
  have one_14 := one_13.bel hb14
  have HT_14 := Lib.hid (HT_13.out.bel hb14)
  have B_14 := B_13.trans (hb14.mono B_13.size)
  clear hb14 a_13 s3_13 s6_13 s7_13 one_13 HT_13 B_13
  go_wp2_with fail
  have cc := Lib.hid (cmp_bel v14 _ _ _ _ _ _ _ _ s8 a_14)
  refine cc.out.mono ?_
  clear cc
  rw [val_lim, cmpN_gt (lt_pow_nb _)]
  rintro e v15 ⟨rfl, hb15⟩
  have a_15 := a_14.bel hb15
  have s3_15 := s3_14.bel hb15
  have s6_15 := s6_14.bel hb15
  have s7_15 := s7_14.bel hb15
  have one_15 := one_14.bel hb15
  have s8_15 := s8.bel hb15
  have HT_15 := Lib.hid (HT_14.out.bel hb15)
  have B_15 := B_14.trans (hb15.mono B_14.size)
  clear hb15 a_14 s3_14 s6_14 s7_14 one_14 s8 HT_14 B_14
  go_wp2
  go_ret
  exact ⟨rfl, B_15⟩
set_option maxHeartbeats 4000000 in
theorem roots_pos (w : World) (Aa : Option Addr) (na ca : Nat) (xa : List Nat) (La : Lm w Aa na ca xa) (fa : na ≤ 24) (k : Nat) (hk : k ≤ 255) (hT : Tab w) (hX : val xa ≠ 0) :
    Calls Tryd.prog 6 #[.slice Aa na ca, .int .u8 k] w fun e w' => e = .returned (.bool true) ∧ Below w.heap.size w w' := by
  have hkn := Lib.hid (known_any w hT)
  have hXX := Lib.hid hX
  clear hX
  have hsh := Lib.hid (heldN_nat (k := k) (by omega))
  have hnbl := nb_le_len La.ok
  rw [La.len] at hnbl
  go_enter Tryd.func6, Tryd.ntmps6
  go_wp2_with fail
  refine hkn.out.mono ?_
  clear hkn
  rintro e w1 ⟨rfl, hb⟩
  have a1 := La.bel hb
  have hT1 := Lib.hid (hT.bel hb)
  clear La hT
  go_wp2_with (go_at_call 11; refine (few_any _ _ _ _).mono ?_; rintro e w' ⟨rfl, rfl⟩)
  go_wp2_with fail
  have cc := Lib.hid (root_any w1 _ _ _ _ a1 (by omega))
  refine cc.out.mono ?_
  clear cc
  rintro e v2 ⟨S1, m1, d1, rfl, s1, hm1, hb2⟩
  have a_2 := a1.bel hb2
  have HT_2 := Lib.hid (hT1.out.bel hb2)
  have B_2 := hb.trans (hb2.mono hb.size)
  clear hb2 a1 hT1 hb
  go_wp2_with fail
  obtain ⟨v3, hw3⟩ : ∃ v, v = v2.alloc (.cells #[.int .u32 1] 37) := ⟨_, rfl⟩
  rw [← hw3]
  have hb3 : Below v2.heap.size v2 v3 := by rw [hw3]; exact (Below.refl _ _).alloc (Nat.le_refl _) _
  have one_3 : Lm v3 (some ⟨v2.heap.size, 0, none⟩) 1 1 [1] := by rw [hw3]; exact (Own.list v2 [1]).lm (Ok.of_mem (fun x hx => by rw [Bs_eq]; simp at hx; omega)) (by simp)
  have a_3 := a_2.bel hb3
  have s1_3 := s1.bel hb3
  have HT_3 := Lib.hid (HT_2.out.bel hb3)
  have B_3 := B_2.trans (hb3.mono B_2.size)
  clear hw3 hb3 a_2 s1 HT_2 B_2
  have cc := Lib.hid (add_any v3 _ _ _ _ _ _ _ _ s1_3 one_3 (by omega) (by omega))
  refine cc.out.mono ?_
  clear cc
  rw [val_lim, val_single]
  rintro e v4 ⟨S2, m2, d2, rfl, s2, hm2, hb4⟩
  have a_4 := a_3.bel hb4
  have s1_4 := s1_3.bel hb4
  have one_4 := one_3.bel hb4
  have HT_4 := Lib.hid (HT_3.out.bel hb4)
  have B_4 := B_3.trans (hb4.mono B_3.size)
  clear hb4 a_3 s1_3 one_3 HT_3 B_3
  clear one_4
  go_wp2_with fail
  have cc := Lib.hid (shl_any v4 _ _ _ _ k a_4 (by omega))
  refine cc.out.mono ?_
  clear cc
  rw [hsh.out]
  rintro e v5 ⟨S3, m3, d3, rfl, s3, hm3, hb5⟩
  have a_5 := a_4.bel hb5
  have s1_5 := s1_4.bel hb5
  have s2_5 := s2.bel hb5
  have HT_5 := Lib.hid (HT_4.out.bel hb5)
  have B_5 := B_4.trans (hb5.mono B_4.size)
  clear hb5 a_4 s1_4 s2 HT_4 B_4
  go_wp2_with fail
  have cc := Lib.hid (mul_any v5 _ _ _ _ _ _ _ _ s1_5 s1_5 (by omega) (by omega))
  refine cc.out.mono ?_
  clear cc
  rw [val_lim]
  rintro e v6 ⟨S4, m4, d4, rfl, s4, hm4, hb6⟩
  have a_6 := a_5.bel hb6
  have s1_6 := s1_5.bel hb6
  have s2_6 := s2_5.bel hb6
  have s3_6 := s3.bel hb6
  have HT_6 := Lib.hid (HT_5.out.bel hb6)
  have B_6 := B_5.trans (hb6.mono B_5.size)
  clear hb6 a_5 s1_5 s2_5 s3 HT_5 B_5
  go_wp2_with fail
  obtain ⟨q1, hq1, hq1b⟩ : ∃ q, cmpN (rt (val xa) * rt (val xa)) (val xa) = q ∧ q ≤ 0 := ⟨_, rfl, cmpN_le (rt_spec _).1⟩
  have cc := Lib.hid (cmp_bel v6 _ _ _ _ _ _ _ _ s4 a_6)
  refine cc.out.mono ?_
  clear cc
  rw [val_lim, hq1]
  rintro e v7 ⟨rfl, hb7⟩
  have a_7 := a_6.bel hb7
  have s1_7 := s1_6.bel hb7
  have s2_7 := s2_6.bel hb7
  have s3_7 := s3_6.bel hb7
  have s4_7 := s4.bel hb7
  have HT_7 := Lib.hid (HT_6.out.bel hb7)
  have B_7 := B_6.trans (hb7.mono B_6.size)
  clear hb7 a_6 s1_6 s2_6 s3_6 s4 HT_6 B_6
  clear hq1
  clear s4_7
  clear s1_7
  go_wp2_with fail
  have cc := Lib.hid (mul_any v7 _ _ _ _ _ _ _ _ s2_7 s2_7 (by omega) (by omega))
  refine cc.out.mono ?_
  clear cc
  rw [val_lim]
  rintro e v8 ⟨S5, m5, d5, rfl, s5, hm5, hb8⟩
  have a_8 := a_7.bel hb8
  have s2_8 := s2_7.bel hb8
  have s3_8 := s3_7.bel hb8
  have HT_8 := Lib.hid (HT_7.out.bel hb8)
  have B_8 := B_7.trans (hb8.mono B_7.size)
  clear hb8 a_7 s2_7 s3_7 HT_7 B_7
  go_wp2_with fail
  have cc := Lib.hid (cmp_bel v8 _ _ _ _ _ _ _ _ s5 a_8)
  refine cc.out.mono ?_
  clear cc
  rw [val_lim, cmpN_gt (rt_spec _).2]
  rintro e v9 ⟨rfl, hb9⟩
  have a_9 := a_8.bel hb9
  have s2_9 := s2_8.bel hb9
  have s3_9 := s3_8.bel hb9
  have s5_9 := s5.bel hb9
  have HT_9 := Lib.hid (HT_8.out.bel hb9)
  have B_9 := B_8.trans (hb9.mono B_8.size)
  clear hb9 a_8 s2_8 s3_8 s5 HT_8 B_8
  clear s5_9
  clear s2_9
  go_wp2_with fail
  have cc := Lib.hid (shr_any v9 _ _ _ _ k s3_9 (by omega))
  refine cc.out.mono ?_
  clear cc
  rw [hsh.out, val_lim, Nat.mul_div_cancel _ (Nat.two_pow_pos _)]
  rintro e v10 ⟨S6, m6, d6, rfl, s6, hm6, hb10⟩
  have a_10 := a_9.bel hb10
  have s3_10 := s3_9.bel hb10
  have HT_10 := Lib.hid (HT_9.out.bel hb10)
  have B_10 := B_9.trans (hb10.mono B_9.size)
  clear hb10 a_9 s3_9 HT_9 B_9
  go_wp2_with fail
  have cc := Lib.hid (trim_any v10 _ _ _ _ a_10)
  refine cc.out.mono ?_
  clear cc
  rintro e v11 ⟨S7, m7, d7, rfl, s7, hm7, hb11⟩
  have a_11 := a_10.bel hb11
  have s3_11 := s3_10.bel hb11
  have s6_11 := s6.bel hb11
  have HT_11 := Lib.hid (HT_10.out.bel hb11)
  have B_11 := B_10.trans (hb11.mono B_10.size)
  clear hb11 a_10 s3_10 s6 HT_10 B_10
  go_wp2_with fail
  have cc := Lib.hid (same_bel v11 _ _ _ _ _ _ _ _ s6_11 s7)
  refine cc.out.mono ?_
  clear cc
  rw [dec_same rfl]
  rintro e v12 ⟨rfl, hb12⟩
  have a_12 := a_11.bel hb12
  have s3_12 := s3_11.bel hb12
  have s6_12 := s6_11.bel hb12
  have s7_12 := s7.bel hb12
  have HT_12 := Lib.hid (HT_11.out.bel hb12)
  have B_12 := B_11.trans (hb12.mono B_11.size)
  clear hb12 a_11 s3_11 s6_11 s7 HT_11 B_11
  have hnz : m3 ≠ 0 := lm_pos s3_12 (Nat.mul_ne_zero hXX.out (Nat.ne_of_gt (Nat.two_pow_pos k)))
  have hnz2 : ((m3 : Int) == 0) = false := by rw [beq_eq_false_iff_ne]; omega
  clear hnz
  clear s6_12
  clear s7_12
  go_wp2_with fail
  have cc := Lib.hid (bits_any v12 _ _ _ _ s3_12)
  refine cc.out.mono ?_
  clear cc
  rw [val_lim, nb_mul_pow hXX.out]
  rintro e w' ⟨rfl, rfl⟩
  go_wp2_with fail
  have cc := Lib.hid (bits_any v12 _ _ _ _ a_12)
  refine cc.out.mono ?_
  clear cc
  rintro e w' ⟨rfl, rfl⟩
  go_wp2_with fail
  have cc := Lib.hid (low_any v12 _ _ _ _ s3_12 HT_12.out)
  refine cc.out.mono ?_
  clear cc
  rw [val_lim, tz_mul_pow hXX.out]
  rintro e w' ⟨rfl, rfl⟩
  go_wp2_with fail
  have htzl := tz_le (xs := xa) a_12.ok a_12.len
  have cc := Lib.hid (low_any v12 _ _ _ _ a_12 HT_12.out)
  refine cc.out.mono ?_
  clear cc
  rintro e w' ⟨rfl, rfl⟩
  go_wp2_with fail
  obtain ⟨v13, hw13⟩ : ∃ v, v = v12.alloc (.cells #[.int .u32 1] 37) := ⟨_, rfl⟩
  rw [← hw13]
  have hb13 : Below v12.heap.size v12 v13 := by rw [hw13]; exact (Below.refl _ _).alloc (Nat.le_refl _) _
  have one_13 : Lm v13 (some ⟨v12.heap.size, 0, none⟩) 1 1 [1] := by rw [hw13]; exact (Own.list v12 [1]).lm (Ok.of_mem (fun x hx => by rw [Bs_eq]; simp at hx; omega)) (by simp)
  have a_13 := a_12.bel hb13
  have s3_13 := s3_12.bel hb13
  have HT_13 := Lib.hid (HT_12.out.bel hb13)
  have B_13 := B_12.trans (hb13.mono B_12.size)
  clear hw13 hb13 a_12 s3_12 HT_12 B_12
  have cc := Lib.hid (bits_any v13 _ _ _ _ a_13)
  refine cc.out.mono ?_
  clear cc
  rintro e w' ⟨rfl, rfl⟩
  go_wp2_with fail
  have cc := Lib.hid (shl_any v13 _ _ _ _ (nb (val xa) : Nat) one_13 (by omega))
  refine cc.out.mono ?_
  clear cc
  rw [val_single, heldN_nat (k := nb (val xa)) (by omega), Nat.one_mul]
  rintro e v14 ⟨S8, m8, d8, rfl, s8, hm8, hb14⟩
  have a_14 := a_13.bel hb14
  have s3_14 := s3_13.bel hb14
  have one_14 := one_13.bel hb14
  have HT_14 := Lib.hid (HT_13.out.bel hb14)
  have B_14 := B_13.trans (hb14.mono B_13.size)
  clear hb14 a_13 s3_13 one_13 HT_13 B_13
  go_wp2_with fail
  have cc := Lib.hid (cmp_bel v14 _ _ _ _ _ _ _ _ s8 a_14)
  refine cc.out.mono ?_
  clear cc
  rw [val_lim, cmpN_gt (lt_pow_nb _)]
  rintro e v15 ⟨rfl, hb15⟩
  have a_15 := a_14.bel hb15
  have s3_15 := s3_14.bel hb15
  have one_15 := one_14.bel hb15
  have s8_15 := s8.bel hb15
  have HT_15 := Lib.hid (HT_14.out.bel hb15)
  have B_15 := B_14.trans (hb15.mono B_14.size)
  clear hb15 a_14 s3_14 one_14 s8 HT_14 B_14
  go_wp2
  go_ret
  exact ⟨rfl, B_15⟩
set_option maxHeartbeats 1000000 in
theorem roots_long0 (w : World) (A0 : Option Addr) (n0 c0 : Nat) (k : Int) (hT : Tab w) (hl : ¬ n0 ≤ 24) :
    Calls Tryd.prog 6 #[.slice A0 n0 c0, .int .u8 k] w fun e w' => e = .returned (.bool true) ∧ Below w.heap.size w w' := by
  have hkn := Lib.hid (known_any w hT)
  clear hT
  go_enter Tryd.func6, Tryd.ntmps6
  go_wp2_with fail
  refine hkn.out.mono ?_
  clear hkn
  rintro e w1 ⟨rfl, hb⟩
  go_wp2_with (go_at_call 11; refine (few_any _ _ _ _).mono ?_; rintro e w' ⟨rfl, rfl⟩)
  go_ret
  exact ⟨rfl, hb⟩
theorem roots_top (w : World) (A0 : Option Addr) (n0 c0 : Nat) (x0 : List Nat) (h0 : Arg w A0 n0 c0 x0) (k : Int) (hk : (Lit.int .u8 k).wf = true) (hT : Tab w) :
    Calls Tryd.prog 6 #[.slice A0 n0 c0, .int .u8 k] w fun e w' => e = .returned (.bool true) ∧ Below w.heap.size w w' := by
  have hb := bounds_u8 hk
  obtain ⟨k, rfl⟩ := Int.eq_ofNat_of_zero_le hb.1
  by_cases f0 : n0 ≤ 24
  case neg => exact roots_long0 w _ _ _ _ hT f0
  by_cases hX : val x0 = 0
  · exact roots_zero w _ _ _ _ (h0.lm (by omega)) f0 k (by omega) hT hX
  · exact roots_pos w _ _ _ _ (h0.lm (by omega)) f0 k (by omega) hT hX
end Go.Proofs.YtbnhpamjklfifaaDoor
