/- NatBack: the walk. -/
import Derived.Test.YtbnhpamjklfifaaDoorOrderW
import Derived.Test.YtbnhpamjklfifaaDoorLawWords
import Derived.Test.YtbnhpamjklfifaaDoorArg
namespace Go.Proofs.YtbnhpamjklfifaaDoor
open Go.RowKit

set_option maxHeartbeats 4000000 in
theorem back_zero (w : World) (Aa : Option Addr) (na ca : Nat) (xa : List Nat) (La : Lm w Aa na ca xa) (fa : na ≤ 24) (Ab : Option Addr) (nb cb : Nat) (xb : List Nat) (Lb : Lm w Ab nb cb xb) (fb : nb ≤ 24) (Ac : Option Addr) (nc cc : Nat) (xc : List Nat) (Lc : Lm w Ac nc cc xc) (fc : nc ≤ 24) (hT : Tab w) (hY : val xb = 0) :
    Calls Tryd.prog 5 #[.slice Aa na ca, .slice Ab nb cb, .slice Ac nc cc] w fun e w' => e = .returned (.bool true) ∧ Below w.heap.size w w' := by
  have hkn := Lib.hid (known_any w hT)
  have hYY := Lib.hid hY
  clear hY
  go_enter Tryd.func5, Tryd.ntmps5
  go_wp2_with fail
  refine hkn.out.mono ?_
  clear hkn
  rintro e w1 ⟨rfl, hb⟩
  have a1 := La.bel hb
  have b1 := Lb.bel hb
  have c1 := Lc.bel hb
  have hT1 := Lib.hid (hT.bel hb)
  clear La Lb Lc hT
  go_wp2_with (go_at_call 11; refine (few_any _ _ _ _).mono ?_; rintro e w' ⟨rfl, rfl⟩)
  go_wp2_with fail
  have cc := Lib.hid (div_any w1 _ _ _ _ _ _ _ _ a1 b1 (by omega))
  refine cc.out.mono ?_
  clear cc
  intro e v2 hS
  rcases hS with ⟨_, rfl, hb2⟩ | ⟨hz, _⟩
  case inr => exact absurd hYY.out hz
  have a_2 := a1.bel hb2
  have b_2 := b1.bel hb2
  have B_2 := hb.trans (hb2.mono hb.size)
  clear hb2 a1 b1 hb
  go_wp2_with fail
  have cc := Lib.hid (trim_any v2 _ _ _ _ b_2)
  refine cc.out.mono ?_
  clear cc
  rw [hYY.out]
  rintro e v3 ⟨S1, m1, d1, rfl, s1, hm1, hb3⟩
  have a_3 := a_2.bel hb3
  have b_3 := b_2.bel hb3
  have B_3 := B_2.trans (hb3.mono B_2.size)
  clear hb3 a_2 b_2 B_2
  obtain rfl := lm_zero s1
  go_wp2
  go_ret
  exact ⟨rfl, B_3⟩
set_option maxHeartbeats 4000000 in
theorem back_pos (w : World) (Aa : Option Addr) (na ca : Nat) (xa : List Nat) (La : Lm w Aa na ca xa) (fa : na ≤ 24) (Ab : Option Addr) (nb cb : Nat) (xb : List Nat) (Lb : Lm w Ab nb cb xb) (fb : nb ≤ 24) (Ac : Option Addr) (nc cc : Nat) (xc : List Nat) (Lc : Lm w Ac nc cc xc) (fc : nc ≤ 24) (hT : Tab w) (hY : val xb ≠ 0) :
    Calls Tryd.prog 5 #[.slice Aa na ca, .slice Ab nb cb, .slice Ac nc cc] w fun e w' => e = .returned (.bool true) ∧ Below w.heap.size w w' := by
  have hkn := Lib.hid (known_any w hT)
  have hYY := Lib.hid hY
  clear hY
  have hr0 := Lib.hid (Nat.mod_lt (val xa) (Nat.pos_of_ne_zero hYY.out))
  go_enter Tryd.func5, Tryd.ntmps5
  go_wp2_with fail
  refine hkn.out.mono ?_
  clear hkn
  rintro e w1 ⟨rfl, hb⟩
  have a1 := La.bel hb
  have b1 := Lb.bel hb
  have c1 := Lc.bel hb
  have hT1 := Lib.hid (hT.bel hb)
  clear La Lb Lc hT
  go_wp2_with (go_at_call 11; refine (few_any _ _ _ _).mono ?_; rintro e w' ⟨rfl, rfl⟩)
  go_wp2_with fail
  have cc := Lib.hid (div_any w1 _ _ _ _ _ _ _ _ a1 b1 (by omega))
  refine cc.out.mono ?_
  clear cc
  intro e v2 hS
  rcases hS with ⟨hz, _⟩ | ⟨_, Q, mq, dq, R, mr, dr, rfl, q, r, hmq, hmr, hb2⟩
  case inl => exact absurd hz hYY.out
  have a_2 := a1.bel hb2
  have b_2 := b1.bel hb2
  have c_2 := c1.bel hb2
  have B_2 := hb.trans (hb2.mono hb.size)
  clear hb2 a1 b1 c1 hb
  go_wp2_with fail
  have cc := Lib.hid (add_any v2 _ _ _ _ _ _ _ _ a_2 b_2 (by omega) (by omega))
  refine cc.out.mono ?_
  clear cc
  rintro e v3 ⟨S1, m1, d1, rfl, s1, hm1, hb3⟩
  have a_3 := a_2.bel hb3
  have b_3 := b_2.bel hb3
  have c_3 := c_2.bel hb3
  have q_3 := q.bel hb3
  have r_3 := r.bel hb3
  have B_3 := B_2.trans (hb3.mono B_2.size)
  clear hb3 a_2 b_2 c_2 q r B_2
  go_wp2_with fail
  have cc := Lib.hid (sub_any v3 _ _ _ _ _ _ _ _ s1 b_3)
  refine cc.out.mono ?_
  clear cc
  rw [val_lim]
  intro e v4 hS
  rcases hS with ⟨hz, _⟩ | ⟨_, D2, m2, d2, rfl, s2, hm2, hb4⟩
  case inl => omega
  rw [Nat.add_sub_cancel] at s2
  have a_4 := a_3.bel hb4
  have b_4 := b_3.bel hb4
  have c_4 := c_3.bel hb4
  have q_4 := q_3.bel hb4
  have r_4 := r_3.bel hb4
  have s1_4 := s1.bel hb4
  have B_4 := B_3.trans (hb4.mono B_3.size)
  clear hb4 a_3 b_3 c_3 q_3 r_3 s1 B_3
  clear s1_4
  go_wp2_with fail
  have cc := Lib.hid (add_any v4 _ _ _ _ _ _ _ _ a_4 b_4 (by omega) (by omega))
  refine cc.out.mono ?_
  clear cc
  rintro e v5 ⟨S3, m3, d3, rfl, s3, hm3, hb5⟩
  have a_5 := a_4.bel hb5
  have b_5 := b_4.bel hb5
  have c_5 := c_4.bel hb5
  have q_5 := q_4.bel hb5
  have r_5 := r_4.bel hb5
  have s2_5 := s2.bel hb5
  have B_5 := B_4.trans (hb5.mono B_4.size)
  clear hb5 a_4 b_4 c_4 q_4 r_4 s2 B_4
  go_wp2_with fail
  have cc := Lib.hid (mul_any v5 _ _ _ _ _ _ _ _ s3 c_5 (by omega) (by omega))
  refine cc.out.mono ?_
  clear cc
  rw [val_lim]
  rintro e v6 ⟨S4, m4, d4, rfl, s4, hm4, hb6⟩
  have a_6 := a_5.bel hb6
  have b_6 := b_5.bel hb6
  have c_6 := c_5.bel hb6
  have q_6 := q_5.bel hb6
  have r_6 := r_5.bel hb6
  have s2_6 := s2_5.bel hb6
  have s3_6 := s3.bel hb6
  have B_6 := B_5.trans (hb6.mono B_5.size)
  clear hb6 a_5 b_5 c_5 q_5 r_5 s2_5 s3 B_5
  clear s3_6
  go_wp2_with fail
  have cc := Lib.hid (mul_any v6 _ _ _ _ _ _ _ _ a_6 c_6 (by omega) (by omega))
  refine cc.out.mono ?_
  clear cc
  rintro e v7 ⟨S5, m5, d5, rfl, s5, hm5, hb7⟩
  have a_7 := a_6.bel hb7
  have b_7 := b_6.bel hb7
  have c_7 := c_6.bel hb7
  have q_7 := q_6.bel hb7
  have r_7 := r_6.bel hb7
  have s2_7 := s2_6.bel hb7
  have s4_7 := s4.bel hb7
  have B_7 := B_6.trans (hb7.mono B_6.size)
  clear hb7 a_6 b_6 c_6 q_6 r_6 s2_6 s4 B_6
  go_wp2_with fail
  have cc := Lib.hid (mul_any v7 _ _ _ _ _ _ _ _ b_7 c_7 (by omega) (by omega))
  refine cc.out.mono ?_
  clear cc
  rintro e v8 ⟨S6, m6, d6, rfl, s6, hm6, hb8⟩
  have a_8 := a_7.bel hb8
  have b_8 := b_7.bel hb8
  have c_8 := c_7.bel hb8
  have q_8 := q_7.bel hb8
  have r_8 := r_7.bel hb8
  have s2_8 := s2_7.bel hb8
  have s4_8 := s4_7.bel hb8
  have s5_8 := s5.bel hb8
  have B_8 := B_7.trans (hb8.mono B_7.size)
  clear hb8 a_7 b_7 c_7 q_7 r_7 s2_7 s4_7 s5 B_7
  go_wp2_with fail
  have cc := Lib.hid (add_any v8 _ _ _ _ _ _ _ _ s5_8 s6 (by omega) (by omega))
  refine cc.out.mono ?_
  clear cc
  rw [val_lim, val_lim]
  rintro e v9 ⟨S7, m7, d7, rfl, s7, hm7, hb9⟩
  have a_9 := a_8.bel hb9
  have b_9 := b_8.bel hb9
  have c_9 := c_8.bel hb9
  have q_9 := q_8.bel hb9
  have r_9 := r_8.bel hb9
  have s2_9 := s2_8.bel hb9
  have s4_9 := s4_8.bel hb9
  have s5_9 := s5_8.bel hb9
  have s6_9 := s6.bel hb9
  have B_9 := B_8.trans (hb9.mono B_8.size)
  clear hb9 a_8 b_8 c_8 q_8 r_8 s2_8 s4_8 s5_8 s6 B_8
  clear s5_9
  clear s6_9
  go_wp2_with fail
  have cc := Lib.hid (cmp_bel v9 _ _ _ _ _ _ _ _ r_9 b_9)
  refine cc.out.mono ?_
  clear cc
  rw [val_lim, cmpN_lt hr0.out]
  rintro e v10 ⟨rfl, hb10⟩
  have a_10 := a_9.bel hb10
  have b_10 := b_9.bel hb10
  have c_10 := c_9.bel hb10
  have q_10 := q_9.bel hb10
  have r_10 := r_9.bel hb10
  have s2_10 := s2_9.bel hb10
  have s4_10 := s4_9.bel hb10
  have s7_10 := s7.bel hb10
  have B_10 := B_9.trans (hb10.mono B_9.size)
  clear hb10 a_9 b_9 c_9 q_9 r_9 s2_9 s4_9 s7 B_9
  go_wp2_with fail
  have cc := Lib.hid (mul_any v10 _ _ _ _ _ _ _ _ q_10 b_10 (by omega) (by omega))
  refine cc.out.mono ?_
  clear cc
  rw [val_lim]
  rintro e v11 ⟨S8, m8, d8, rfl, s8, hm8, hb11⟩
  have a_11 := a_10.bel hb11
  have b_11 := b_10.bel hb11
  have c_11 := c_10.bel hb11
  have q_11 := q_10.bel hb11
  have r_11 := r_10.bel hb11
  have s2_11 := s2_10.bel hb11
  have s4_11 := s4_10.bel hb11
  have s7_11 := s7_10.bel hb11
  have B_11 := B_10.trans (hb11.mono B_10.size)
  clear hb11 a_10 b_10 c_10 q_10 r_10 s2_10 s4_10 s7_10 B_10
  go_wp2_with fail
  have cc := Lib.hid (add_any v11 _ _ _ _ _ _ _ _ s8 r_11 (by omega) (by omega))
  refine cc.out.mono ?_
  clear cc
  rw [val_lim, val_lim, Nat.div_add_mod']
  rintro e v12 ⟨S9, m9, d9, rfl, s9, hm9, hb12⟩
  have a_12 := a_11.bel hb12
  have b_12 := b_11.bel hb12
  have c_12 := c_11.bel hb12
  have q_12 := q_11.bel hb12
  have r_12 := r_11.bel hb12
  have s2_12 := s2_11.bel hb12
  have s4_12 := s4_11.bel hb12
  have s7_12 := s7_11.bel hb12
  have s8_12 := s8.bel hb12
  have B_12 := B_11.trans (hb12.mono B_11.size)
  clear hb12 a_11 b_11 c_11 q_11 r_11 s2_11 s4_11 s7_11 s8 B_11
  clear s8_12
  go_wp2_with fail
  have cc := Lib.hid (trim_any v12 _ _ _ _ a_12)
  refine cc.out.mono ?_
  clear cc
  rintro e v13 ⟨S10, m10, d10, rfl, s10, hm10, hb13⟩
  have a_13 := a_12.bel hb13
  have b_13 := b_12.bel hb13
  have c_13 := c_12.bel hb13
  have q_13 := q_12.bel hb13
  have r_13 := r_12.bel hb13
  have s2_13 := s2_12.bel hb13
  have s4_13 := s4_12.bel hb13
  have s7_13 := s7_12.bel hb13
  have s9_13 := s9.bel hb13
  have B_13 := B_12.trans (hb13.mono B_12.size)
  clear hb13 a_12 b_12 c_12 q_12 r_12 s2_12 s4_12 s7_12 s9 B_12
  go_wp2_with fail
  have cc := Lib.hid (same_bel v13 _ _ _ _ _ _ _ _ s9_13 s10)
  refine cc.out.mono ?_
  clear cc
  rw [dec_same rfl]
  rintro e v14 ⟨rfl, hb14⟩
  have a_14 := a_13.bel hb14
  have b_14 := b_13.bel hb14
  have c_14 := c_13.bel hb14
  have q_14 := q_13.bel hb14
  have r_14 := r_13.bel hb14
  have s2_14 := s2_13.bel hb14
  have s4_14 := s4_13.bel hb14
  have s7_14 := s7_13.bel hb14
  have s9_14 := s9_13.bel hb14
  have s10_14 := s10.bel hb14
  have B_14 := B_13.trans (hb14.mono B_13.size)
  clear hb14 a_13 b_13 c_13 q_13 r_13 s2_13 s4_13 s7_13 s9_13 s10 B_13
  clear s9_14
  clear s10_14
  go_wp2_with fail
  have cc := Lib.hid (trim_any v14 _ _ _ _ a_14)
  refine cc.out.mono ?_
  clear cc
  rintro e v15 ⟨S11, m11, d11, rfl, s11, hm11, hb15⟩
  have a_15 := a_14.bel hb15
  have b_15 := b_14.bel hb15
  have c_15 := c_14.bel hb15
  have q_15 := q_14.bel hb15
  have r_15 := r_14.bel hb15
  have s2_15 := s2_14.bel hb15
  have s4_15 := s4_14.bel hb15
  have s7_15 := s7_14.bel hb15
  have B_15 := B_14.trans (hb15.mono B_14.size)
  clear hb15 a_14 b_14 c_14 q_14 r_14 s2_14 s4_14 s7_14 B_14
  go_wp2_with fail
  have cc := Lib.hid (same_bel v15 _ _ _ _ _ _ _ _ s2_15 s11)
  refine cc.out.mono ?_
  clear cc
  rw [dec_same rfl]
  rintro e v16 ⟨rfl, hb16⟩
  have a_16 := a_15.bel hb16
  have b_16 := b_15.bel hb16
  have c_16 := c_15.bel hb16
  have q_16 := q_15.bel hb16
  have r_16 := r_15.bel hb16
  have s2_16 := s2_15.bel hb16
  have s4_16 := s4_15.bel hb16
  have s7_16 := s7_15.bel hb16
  have s11_16 := s11.bel hb16
  have B_16 := B_15.trans (hb16.mono B_15.size)
  clear hb16 a_15 b_15 c_15 q_15 r_15 s2_15 s4_15 s7_15 s11 B_15
  clear s11_16
  go_wp2_with fail
  have cc := Lib.hid (same_bel v16 _ _ _ _ _ _ _ _ s4_16 s7_16)
  refine cc.out.mono ?_
  clear cc
  rw [dec_same (Nat.add_mul _ _ _)]
  rintro e v17 ⟨rfl, hb17⟩
  have a_17 := a_16.bel hb17
  have b_17 := b_16.bel hb17
  have c_17 := c_16.bel hb17
  have q_17 := q_16.bel hb17
  have r_17 := r_16.bel hb17
  have s2_17 := s2_16.bel hb17
  have s4_17 := s4_16.bel hb17
  have s7_17 := s7_16.bel hb17
  have B_17 := B_16.trans (hb17.mono B_16.size)
  clear hb17 a_16 b_16 c_16 q_16 r_16 s2_16 s4_16 s7_16 B_16
  clear s2_17
  clear s7_17
  go_wp2_with fail
  have cc := Lib.hid (mul_any v17 _ _ _ _ _ _ _ _ a_17 b_17 (by omega) (by omega))
  refine cc.out.mono ?_
  clear cc
  rintro e v18 ⟨S12, m12, d12, rfl, s12, hm12, hb18⟩
  have a_18 := a_17.bel hb18
  have b_18 := b_17.bel hb18
  have c_18 := c_17.bel hb18
  have q_18 := q_17.bel hb18
  have r_18 := r_17.bel hb18
  have s4_18 := s4_17.bel hb18
  have B_18 := B_17.trans (hb18.mono B_17.size)
  clear hb18 a_17 b_17 c_17 q_17 r_17 s4_17 B_17
  go_wp2_with fail
  have cc := Lib.hid (mul_any v18 _ _ _ _ _ _ _ _ b_18 a_18 (by omega) (by omega))
  refine cc.out.mono ?_
  clear cc
  rintro e v19 ⟨S13, m13, d13, rfl, s13, hm13, hb19⟩
  have a_19 := a_18.bel hb19
  have b_19 := b_18.bel hb19
  have c_19 := c_18.bel hb19
  have q_19 := q_18.bel hb19
  have r_19 := r_18.bel hb19
  have s4_19 := s4_18.bel hb19
  have s12_19 := s12.bel hb19
  have B_19 := B_18.trans (hb19.mono B_18.size)
  clear hb19 a_18 b_18 c_18 q_18 r_18 s4_18 s12 B_18
  go_wp2_with fail
  have cc := Lib.hid (same_bel v19 _ _ _ _ _ _ _ _ s12_19 s13)
  refine cc.out.mono ?_
  clear cc
  rw [dec_same (Nat.mul_comm _ _)]
  rintro e v20 ⟨rfl, hb20⟩
  have a_20 := a_19.bel hb20
  have b_20 := b_19.bel hb20
  have c_20 := c_19.bel hb20
  have q_20 := q_19.bel hb20
  have r_20 := r_19.bel hb20
  have s4_20 := s4_19.bel hb20
  have s12_20 := s12_19.bel hb20
  have s13_20 := s13.bel hb20
  have B_20 := B_19.trans (hb20.mono B_19.size)
  clear hb20 a_19 b_19 c_19 q_19 r_19 s4_19 s12_19 s13 B_19
  go_wp2_with fail
  have cc := Lib.hid (is_any v20 _ _ _ _ q_20)
  refine cc.out.mono ?_
  clear cc
  rw [dec_is]
  rintro e w' ⟨rfl, rfl⟩
  go_wp2_with fail
  have cc := Lib.hid (is_any v20 _ _ _ _ r_20)
  refine cc.out.mono ?_
  clear cc
  rw [dec_is]
  rintro e w' ⟨rfl, rfl⟩
  go_wp2_with fail
  have cc := Lib.hid (is_any v20 _ _ _ _ s4_20)
  refine cc.out.mono ?_
  clear cc
  rw [dec_is]
  rintro e w' ⟨rfl, rfl⟩
  go_wp2
  go_ret
  exact ⟨rfl, B_20⟩
set_option maxHeartbeats 1000000 in
theorem back_long0 (w : World) (A0 : Option Addr) (n0 c0 : Nat) (A1 : Option Addr) (n1 c1 : Nat) (A2 : Option Addr) (n2 c2 : Nat) (hT : Tab w) (hl : ¬ n0 ≤ 24) :
    Calls Tryd.prog 5 #[.slice A0 n0 c0, .slice A1 n1 c1, .slice A2 n2 c2] w fun e w' => e = .returned (.bool true) ∧ Below w.heap.size w w' := by
  have hkn := Lib.hid (known_any w hT)
  clear hT
  go_enter Tryd.func5, Tryd.ntmps5
  go_wp2_with fail
  refine hkn.out.mono ?_
  clear hkn
  rintro e w1 ⟨rfl, hb⟩
  go_wp2_with (go_at_call 11; refine (few_any _ _ _ _).mono ?_; rintro e w' ⟨rfl, rfl⟩)
  go_ret
  exact ⟨rfl, hb⟩
set_option maxHeartbeats 1000000 in
theorem back_long1 (w : World) (A0 : Option Addr) (n0 c0 : Nat) (A1 : Option Addr) (n1 c1 : Nat) (A2 : Option Addr) (n2 c2 : Nat) (hT : Tab w) (f0 : n0 ≤ 24) (hl : ¬ n1 ≤ 24) :
    Calls Tryd.prog 5 #[.slice A0 n0 c0, .slice A1 n1 c1, .slice A2 n2 c2] w fun e w' => e = .returned (.bool true) ∧ Below w.heap.size w w' := by
  have hkn := Lib.hid (known_any w hT)
  clear hT
  go_enter Tryd.func5, Tryd.ntmps5
  go_wp2_with fail
  refine hkn.out.mono ?_
  clear hkn
  rintro e w1 ⟨rfl, hb⟩
  go_wp2_with (go_at_call 11; refine (few_any _ _ _ _).mono ?_; rintro e w' ⟨rfl, rfl⟩)
  go_ret
  exact ⟨rfl, hb⟩
set_option maxHeartbeats 1000000 in
theorem back_long2 (w : World) (A0 : Option Addr) (n0 c0 : Nat) (A1 : Option Addr) (n1 c1 : Nat) (A2 : Option Addr) (n2 c2 : Nat) (hT : Tab w) (f0 : n0 ≤ 24) (f1 : n1 ≤ 24) (hl : ¬ n2 ≤ 24) :
    Calls Tryd.prog 5 #[.slice A0 n0 c0, .slice A1 n1 c1, .slice A2 n2 c2] w fun e w' => e = .returned (.bool true) ∧ Below w.heap.size w w' := by
  have hkn := Lib.hid (known_any w hT)
  clear hT
  go_enter Tryd.func5, Tryd.ntmps5
  go_wp2_with fail
  refine hkn.out.mono ?_
  clear hkn
  rintro e w1 ⟨rfl, hb⟩
  go_wp2_with (go_at_call 11; refine (few_any _ _ _ _).mono ?_; rintro e w' ⟨rfl, rfl⟩)
  go_ret
  exact ⟨rfl, hb⟩
theorem back_top (w : World) (A0 : Option Addr) (n0 c0 : Nat) (x0 : List Nat) (h0 : Arg w A0 n0 c0 x0) (A1 : Option Addr) (n1 c1 : Nat) (x1 : List Nat) (h1 : Arg w A1 n1 c1 x1) (A2 : Option Addr) (n2 c2 : Nat) (x2 : List Nat) (h2 : Arg w A2 n2 c2 x2) (hT : Tab w) :
    Calls Tryd.prog 5 #[.slice A0 n0 c0, .slice A1 n1 c1, .slice A2 n2 c2] w fun e w' => e = .returned (.bool true) ∧ Below w.heap.size w w' := by
  by_cases f0 : n0 ≤ 24
  case neg => exact back_long0 w _ _ _ _ _ _ _ _ _ hT f0
  by_cases f1 : n1 ≤ 24
  case neg => exact back_long1 w _ _ _ _ _ _ _ _ _ hT f0 f1
  by_cases f2 : n2 ≤ 24
  case neg => exact back_long2 w _ _ _ _ _ _ _ _ _ hT f0 f1 f2
  by_cases hY : val x1 = 0
  · exact back_zero w _ _ _ _ (h0.lm (by omega)) f0 _ _ _ _ (h1.lm (by omega)) f1 _ _ _ _ (h2.lm (by omega)) f2 hT hY
  · exact back_pos w _ _ _ _ (h0.lm (by omega)) f0 _ _ _ _ (h1.lm (by omega)) f1 _ _ _ _ (h2.lm (by omega)) f2 hT hY
end Go.Proofs.YtbnhpamjklfifaaDoor
