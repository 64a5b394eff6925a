/- NatSquares: the walk. -/
import Derived.Test.YtbnhpamjklfifaaDoorOrderW
import Derived.Test.YtbnhpamjklfifaaDoorLawWords
import Derived.Test.YtbnhpamjklfifaaDoorArg
namespace Go.Proofs.YtbnhpamjklfifaaDoor
open Go.RowKit

theorem sq_sum (X Y : Nat) : (X + Y) * (X + Y) = X * X + Y * Y + X * Y * 2 := by grind
theorem sq_dif (X Y : Nat) : (X + Y) * (X + Y) - X * X = (X + Y + X) * Y := by
  have : (X + Y) * (X + Y) = (X + Y + X) * Y + X * X := by grind
  omega
theorem sq_le (X Y : Nat) : X * X ≤ (X + Y) * (X + Y) := Nat.mul_le_mul (Nat.le_add_right _ _) (Nat.le_add_right _ _)
theorem rt_sq (X : Nat) : rt (X * X) = X := rt_unique (Nat.le_refl _) (by
  have : (X + 1) * (X + 1) = X * X + 2 * X + 1 := by grind
  omega)
theorem held_one : heldN 1 = 1 := by unfold heldN; omega
set_option maxHeartbeats 4000000 in
theorem squares_few (w : World) (Aa : Option Addr) (na ca : Nat) (xa : List Nat) (La : Lm w Aa na ca xa) (fa : na ≤ 24) (Ab : Option Addr) (nb cb : Nat) (xb : List Nat) (Lb : Lm w Ab nb cb xb) (fb : nb ≤ 24) (hT : Tab w) :
    Calls Tryd.prog 7 #[.slice Aa na ca, .slice Ab nb cb] w fun e w' => e = .returned (.bool true) ∧ Below w.heap.size w w' := by
  have hkn := Lib.hid (known_any w hT)
  go_enter Tryd.func7, Tryd.ntmps7
  go_wp2_with fail
  refine hkn.out.mono ?_
  clear hkn
  rintro e w1 ⟨rfl, hb⟩
  have a1 := La.bel hb
  have b1 := Lb.bel hb
  have hT1 := Lib.hid (hT.bel hb)
  clear La Lb hT
  go_wp2_with (go_at_call 11; refine (few_any _ _ _ _).mono ?_; rintro e w' ⟨rfl, rfl⟩)
  go_wp2_with fail
  have cc := Lib.hid (add_any w1 _ _ _ _ _ _ _ _ a1 b1 (by omega) (by omega))
  refine cc.out.mono ?_
  clear cc
  rintro e v2 ⟨S1, m1, d1, rfl, s, hm1, hb2⟩
  have a_2 := a1.bel hb2
  have b_2 := b1.bel hb2
  have B_2 := hb.trans (hb2.mono hb.size)
  clear hb2 a1 b1 hb
  go_wp2_with fail
  have cc := Lib.hid (mul_any v2 _ _ _ _ _ _ _ _ s s (by omega) (by omega))
  refine cc.out.mono ?_
  clear cc
  rw [val_lim]
  rintro e v3 ⟨S2, m2, d2, rfl, l, hm2, hb3⟩
  have a_3 := a_2.bel hb3
  have b_3 := b_2.bel hb3
  have s_3 := s.bel hb3
  have B_3 := B_2.trans (hb3.mono B_2.size)
  clear hb3 a_2 b_2 s B_2
  go_wp2_with fail
  have cc := Lib.hid (mul_any v3 _ _ _ _ _ _ _ _ a_3 a_3 (by omega) (by omega))
  refine cc.out.mono ?_
  clear cc
  rintro e v4 ⟨S3, m3, d3, rfl, s3, hm3, hb4⟩
  have a_4 := a_3.bel hb4
  have b_4 := b_3.bel hb4
  have s_4 := s_3.bel hb4
  have l_4 := l.bel hb4
  have B_4 := B_3.trans (hb4.mono B_3.size)
  clear hb4 a_3 b_3 s_3 l B_3
  go_wp2_with fail
  have cc := Lib.hid (mul_any v4 _ _ _ _ _ _ _ _ b_4 b_4 (by omega) (by omega))
  refine cc.out.mono ?_
  clear cc
  rintro e v5 ⟨S4, m4, d4, rfl, s4, hm4, hb5⟩
  have a_5 := a_4.bel hb5
  have b_5 := b_4.bel hb5
  have s_5 := s_4.bel hb5
  have l_5 := l_4.bel hb5
  have s3_5 := s3.bel hb5
  have B_5 := B_4.trans (hb5.mono B_4.size)
  clear hb5 a_4 b_4 s_4 l_4 s3 B_4
  go_wp2_with fail
  have cc := Lib.hid (add_any v5 _ _ _ _ _ _ _ _ s3_5 s4 (by omega) (by omega))
  refine cc.out.mono ?_
  clear cc
  rw [val_lim, val_lim]
  rintro e v6 ⟨S5, m5, d5, rfl, s5, hm5, hb6⟩
  have a_6 := a_5.bel hb6
  have b_6 := b_5.bel hb6
  have s_6 := s_5.bel hb6
  have l_6 := l_5.bel hb6
  have s3_6 := s3_5.bel hb6
  have s4_6 := s4.bel hb6
  have B_6 := B_5.trans (hb6.mono B_5.size)
  clear hb6 a_5 b_5 s_5 l_5 s3_5 s4 B_5
  clear s3_6
  clear s4_6
  go_wp2_with fail
  have cc := Lib.hid (mul_any v6 _ _ _ _ _ _ _ _ a_6 b_6 (by omega) (by omega))
  refine cc.out.mono ?_
  clear cc
  rintro e v7 ⟨S6, m6, d6, rfl, s6, hm6, hb7⟩
  have a_7 := a_6.bel hb7
  have b_7 := b_6.bel hb7
  have s_7 := s_6.bel hb7
  have l_7 := l_6.bel hb7
  have s5_7 := s5.bel hb7
  have B_7 := B_6.trans (hb7.mono B_6.size)
  clear hb7 a_6 b_6 s_6 l_6 s5 B_6
  go_wp2_with fail
  have cc := Lib.hid (shl_any v7 _ _ _ _ 1 s6 (by omega))
  refine cc.out.mono ?_
  clear cc
  rw [held_one, val_lim, Nat.pow_one]
  rintro e v8 ⟨S7, m7, d7, rfl, s7, hm7, hb8⟩
  have a_8 := a_7.bel hb8
  have b_8 := b_7.bel hb8
  have s_8 := s_7.bel hb8
  have l_8 := l_7.bel hb8
  have s5_8 := s5_7.bel hb8
  have s6_8 := s6.bel hb8
  have B_8 := B_7.trans (hb8.mono B_7.size)
  clear hb8 a_7 b_7 s_7 l_7 s5_7 s6 B_7
  clear s6_8
  go_wp2_with fail
  have cc := Lib.hid (add_any v8 _ _ _ _ _ _ _ _ s5_8 s7 (by omega) (by omega))
  refine cc.out.mono ?_
  clear cc
  rw [val_lim, val_lim]
  rintro e v9 ⟨S8, m8, d8, rfl, r, hm8, hb9⟩
  have a_9 := a_8.bel hb9
  have b_9 := b_8.bel hb9
  have s_9 := s_8.bel hb9
  have l_9 := l_8.bel hb9
  have s5_9 := s5_8.bel hb9
  have s7_9 := s7.bel hb9
  have B_9 := B_8.trans (hb9.mono B_8.size)
  clear hb9 a_8 b_8 s_8 l_8 s5_8 s7 B_8
  clear s5_9
  clear s7_9
  go_wp2_with fail
  have cc := Lib.hid (sub_any v9 _ _ _ _ _ _ _ _ s_9 a_9)
  refine cc.out.mono ?_
  clear cc
  rw [val_lim]
  intro e v10 hS
  rcases hS with ⟨hz, _⟩ | ⟨_, D9, m9, d9, rfl, dd, hm9, hb10⟩
  case inl => omega
  rw [Nat.add_sub_cancel_left] at dd
  have a_10 := a_9.bel hb10
  have b_10 := b_9.bel hb10
  have s_10 := s_9.bel hb10
  have l_10 := l_9.bel hb10
  have r_10 := r.bel hb10
  have B_10 := B_9.trans (hb10.mono B_9.size)
  clear hb10 a_9 b_9 s_9 l_9 r B_9
  go_wp2_with fail
  have cc := Lib.hid (mul_any v10 _ _ _ _ _ _ _ _ s_10 s_10 (by omega) (by omega))
  refine cc.out.mono ?_
  clear cc
  rw [val_lim]
  rintro e v11 ⟨S10, m10, d10, rfl, s10, hm10, hb11⟩
  have a_11 := a_10.bel hb11
  have b_11 := b_10.bel hb11
  have s_11 := s_10.bel hb11
  have l_11 := l_10.bel hb11
  have r_11 := r_10.bel hb11
  have dd_11 := dd.bel hb11
  have B_11 := B_10.trans (hb11.mono B_10.size)
  clear hb11 a_10 b_10 s_10 l_10 r_10 dd B_10
  go_wp2_with fail
  have cc := Lib.hid (mul_any v11 _ _ _ _ _ _ _ _ a_11 a_11 (by omega) (by omega))
  refine cc.out.mono ?_
  clear cc
  rintro e v12 ⟨S11, m11, d11, rfl, s11, hm11, hb12⟩
  have a_12 := a_11.bel hb12
  have b_12 := b_11.bel hb12
  have s_12 := s_11.bel hb12
  have l_12 := l_11.bel hb12
  have r_12 := r_11.bel hb12
  have dd_12 := dd_11.bel hb12
  have s10_12 := s10.bel hb12
  have B_12 := B_11.trans (hb12.mono B_11.size)
  clear hb12 a_11 b_11 s_11 l_11 r_11 dd_11 s10 B_11
  go_wp2_with fail
  have cc := Lib.hid (sub_any v12 _ _ _ _ _ _ _ _ s10_12 s11)
  refine cc.out.mono ?_
  clear cc
  rw [val_lim, val_lim]
  intro e v13 hS
  rcases hS with ⟨hz, _⟩ | ⟨_, D12, m12, d12, rfl, xx, hm12, hb13⟩
  case inl => exact absurd (sq_le (val xa) (val xb)) (by omega)
  rw [sq_dif] at xx
  have a_13 := a_12.bel hb13
  have b_13 := b_12.bel hb13
  have s_13 := s_12.bel hb13
  have l_13 := l_12.bel hb13
  have r_13 := r_12.bel hb13
  have dd_13 := dd_12.bel hb13
  have s10_13 := s10_12.bel hb13
  have s11_13 := s11.bel hb13
  have B_13 := B_12.trans (hb13.mono B_12.size)
  clear hb13 a_12 b_12 s_12 l_12 r_12 dd_12 s10_12 s11 B_12
  clear s10_13
  clear s11_13
  go_wp2_with fail
  have cc := Lib.hid (add_any v13 _ _ _ _ _ _ _ _ s_13 a_13 (by omega) (by omega))
  refine cc.out.mono ?_
  clear cc
  rw [val_lim]
  rintro e v14 ⟨S13, m13, d13, rfl, s13, hm13, hb14⟩
  have a_14 := a_13.bel hb14
  have b_14 := b_13.bel hb14
  have s_14 := s_13.bel hb14
  have l_14 := l_13.bel hb14
  have r_14 := r_13.bel hb14
  have dd_14 := dd_13.bel hb14
  have xx_14 := xx.bel hb14
  have B_14 := B_13.trans (hb14.mono B_13.size)
  clear hb14 a_13 b_13 s_13 l_13 r_13 dd_13 xx B_13
  go_wp2_with fail
  have cc := Lib.hid (mul_any v14 _ _ _ _ _ _ _ _ s13 b_14 (by omega) (by omega))
  refine cc.out.mono ?_
  clear cc
  rw [val_lim]
  rintro e v15 ⟨S14, m14, d14, rfl, yy, hm14, hb15⟩
  have a_15 := a_14.bel hb15
  have b_15 := b_14.bel hb15
  have s_15 := s_14.bel hb15
  have l_15 := l_14.bel hb15
  have r_15 := r_14.bel hb15
  have dd_15 := dd_14.bel hb15
  have xx_15 := xx_14.bel hb15
  have s13_15 := s13.bel hb15
  have B_15 := B_14.trans (hb15.mono B_14.size)
  clear hb15 a_14 b_14 s_14 l_14 r_14 dd_14 xx_14 s13 B_14
  clear s13_15
  go_wp2_with fail
  have cc := Lib.hid (same_bel v15 _ _ _ _ _ _ _ _ l_15 r_15)
  refine cc.out.mono ?_
  clear cc
  rw [dec_same (sq_sum _ _)]
  rintro e v16 ⟨rfl, hb16⟩
  have a_16 := a_15.bel hb16
  have b_16 := b_15.bel hb16
  have s_16 := s_15.bel hb16
  have l_16 := l_15.bel hb16
  have r_16 := r_15.bel hb16
  have dd_16 := dd_15.bel hb16
  have xx_16 := xx_15.bel hb16
  have yy_16 := yy.bel hb16
  have B_16 := B_15.trans (hb16.mono B_15.size)
  clear hb16 a_15 b_15 s_15 l_15 r_15 dd_15 xx_15 yy B_15
  go_wp2_with fail
  have cc := Lib.hid (trim_any v16 _ _ _ _ b_16)
  refine cc.out.mono ?_
  clear cc
  rintro e v17 ⟨S15, m15, d15, rfl, s15, hm15, hb17⟩
  have a_17 := a_16.bel hb17
  have b_17 := b_16.bel hb17
  have s_17 := s_16.bel hb17
  have l_17 := l_16.bel hb17
  have r_17 := r_16.bel hb17
  have dd_17 := dd_16.bel hb17
  have xx_17 := xx_16.bel hb17
  have yy_17 := yy_16.bel hb17
  have B_17 := B_16.trans (hb17.mono B_16.size)
  clear hb17 a_16 b_16 s_16 l_16 r_16 dd_16 xx_16 yy_16 B_16
  go_wp2_with fail
  have cc := Lib.hid (same_bel v17 _ _ _ _ _ _ _ _ dd_17 s15)
  refine cc.out.mono ?_
  clear cc
  rw [dec_same rfl]
  rintro e v18 ⟨rfl, hb18⟩
  have a_18 := a_17.bel hb18
  have b_18 := b_17.bel hb18
  have s_18 := s_17.bel hb18
  have l_18 := l_17.bel hb18
  have r_18 := r_17.bel hb18
  have dd_18 := dd_17.bel hb18
  have xx_18 := xx_17.bel hb18
  have yy_18 := yy_17.bel hb18
  have s15_18 := s15.bel hb18
  have B_18 := B_17.trans (hb18.mono B_17.size)
  clear hb18 a_17 b_17 s_17 l_17 r_17 dd_17 xx_17 yy_17 s15 B_17
  clear s15_18
  go_wp2_with fail
  have cc := Lib.hid (same_bel v18 _ _ _ _ _ _ _ _ xx_18 yy_18)
  refine cc.out.mono ?_
  clear cc
  rw [dec_same rfl]
  rintro e v19 ⟨rfl, hb19⟩
  have a_19 := a_18.bel hb19
  have b_19 := b_18.bel hb19
  have s_19 := s_18.bel hb19
  have l_19 := l_18.bel hb19
  have r_19 := r_18.bel hb19
  have dd_19 := dd_18.bel hb19
  have xx_19 := xx_18.bel hb19
  have yy_19 := yy_18.bel hb19
  have B_19 := B_18.trans (hb19.mono B_18.size)
  clear hb19 a_18 b_18 s_18 l_18 r_18 dd_18 xx_18 yy_18 B_18
  go_wp2_with fail
  have cc := Lib.hid (mul_any v19 _ _ _ _ _ _ _ _ a_19 a_19 (by omega) (by omega))
  refine cc.out.mono ?_
  clear cc
  rintro e v20 ⟨S16, m16, d16, rfl, s16, hm16, hb20⟩
  have a_20 := a_19.bel hb20
  have b_20 := b_19.bel hb20
  have s_20 := s_19.bel hb20
  have l_20 := l_19.bel hb20
  have r_20 := r_19.bel hb20
  have dd_20 := dd_19.bel hb20
  have xx_20 := xx_19.bel hb20
  have yy_20 := yy_19.bel hb20
  have B_20 := B_19.trans (hb20.mono B_19.size)
  clear hb20 a_19 b_19 s_19 l_19 r_19 dd_19 xx_19 yy_19 B_19
  go_wp2_with fail
  have cc := Lib.hid (root_any v20 _ _ _ _ s16 (by omega))
  refine cc.out.mono ?_
  clear cc
  rw [val_lim, rt_sq]
  rintro e v21 ⟨S17, m17, d17, rfl, s17, hm17, hb21⟩
  have a_21 := a_20.bel hb21
  have b_21 := b_20.bel hb21
  have s_21 := s_20.bel hb21
  have l_21 := l_20.bel hb21
  have r_21 := r_20.bel hb21
  have dd_21 := dd_20.bel hb21
  have xx_21 := xx_20.bel hb21
  have yy_21 := yy_20.bel hb21
  have s16_21 := s16.bel hb21
  have B_21 := B_20.trans (hb21.mono B_20.size)
  clear hb21 a_20 b_20 s_20 l_20 r_20 dd_20 xx_20 yy_20 s16 B_20
  go_wp2_with fail
  have cc := Lib.hid (trim_any v21 _ _ _ _ a_21)
  refine cc.out.mono ?_
  clear cc
  rintro e v22 ⟨S18, m18, d18, rfl, s18, hm18, hb22⟩
  have a_22 := a_21.bel hb22
  have b_22 := b_21.bel hb22
  have s_22 := s_21.bel hb22
  have l_22 := l_21.bel hb22
  have r_22 := r_21.bel hb22
  have dd_22 := dd_21.bel hb22
  have xx_22 := xx_21.bel hb22
  have yy_22 := yy_21.bel hb22
  have s16_22 := s16_21.bel hb22
  have s17_22 := s17.bel hb22
  have B_22 := B_21.trans (hb22.mono B_21.size)
  clear hb22 a_21 b_21 s_21 l_21 r_21 dd_21 xx_21 yy_21 s16_21 s17 B_21
  go_wp2_with fail
  have cc := Lib.hid (same_bel v22 _ _ _ _ _ _ _ _ s17_22 s18)
  refine cc.out.mono ?_
  clear cc
  rw [dec_same rfl]
  rintro e v23 ⟨rfl, hb23⟩
  have a_23 := a_22.bel hb23
  have b_23 := b_22.bel hb23
  have s_23 := s_22.bel hb23
  have l_23 := l_22.bel hb23
  have r_23 := r_22.bel hb23
  have dd_23 := dd_22.bel hb23
  have xx_23 := xx_22.bel hb23
  have yy_23 := yy_22.bel hb23
  have s16_23 := s16_22.bel hb23
  have s17_23 := s17_22.bel hb23
  have s18_23 := s18.bel hb23
  have B_23 := B_22.trans (hb23.mono B_22.size)
  clear hb23 a_22 b_22 s_22 l_22 r_22 dd_22 xx_22 yy_22 s16_22 s17_22 s18 B_22
  go_wp2
  go_ret
  exact ⟨rfl, B_23⟩
set_option maxHeartbeats 1000000 in
theorem squares_long0 (w : World) (A0 : Option Addr) (n0 c0 : Nat) (A1 : Option Addr) (n1 c1 : Nat) (hT : Tab w) (hl : ¬ n0 ≤ 24) :
    Calls Tryd.prog 7 #[.slice A0 n0 c0, .slice A1 n1 c1] w fun e w' => e = .returned (.bool true) ∧ Below w.heap.size w w' := by
  have hkn := Lib.hid (known_any w hT)
  clear hT
  go_enter Tryd.func7, Tryd.ntmps7
  go_wp2_with fail
  refine hkn.out.mono ?_
  clear hkn
  rintro e w1 ⟨rfl, hb⟩
  go_wp2_with (go_at_call 11; refine (few_any _ _ _ _).mono ?_; rintro e w' ⟨rfl, rfl⟩)
  go_ret
  exact ⟨rfl, hb⟩
set_option maxHeartbeats 1000000 in
theorem squares_long1 (w : World) (A0 : Option Addr) (n0 c0 : Nat) (A1 : Option Addr) (n1 c1 : Nat) (hT : Tab w) (f0 : n0 ≤ 24) (hl : ¬ n1 ≤ 24) :
    Calls Tryd.prog 7 #[.slice A0 n0 c0, .slice A1 n1 c1] w fun e w' => e = .returned (.bool true) ∧ Below w.heap.size w w' := by
  have hkn := Lib.hid (known_any w hT)
  clear hT
  go_enter Tryd.func7, Tryd.ntmps7
  go_wp2_with fail
  refine hkn.out.mono ?_
  clear hkn
  rintro e w1 ⟨rfl, hb⟩
  go_wp2_with (go_at_call 11; refine (few_any _ _ _ _).mono ?_; rintro e w' ⟨rfl, rfl⟩)
  go_ret
  exact ⟨rfl, hb⟩
theorem squares_top (w : World) (A0 : Option Addr) (n0 c0 : Nat) (x0 : List Nat) (h0 : Arg w A0 n0 c0 x0) (A1 : Option Addr) (n1 c1 : Nat) (x1 : List Nat) (h1 : Arg w A1 n1 c1 x1) (hT : Tab w) :
    Calls Tryd.prog 7 #[.slice A0 n0 c0, .slice A1 n1 c1] w fun e w' => e = .returned (.bool true) ∧ Below w.heap.size w w' := by
  by_cases f0 : n0 ≤ 24
  case neg => exact squares_long0 w _ _ _ _ _ _ hT f0
  by_cases f1 : n1 ≤ 24
  case neg => exact squares_long1 w _ _ _ _ _ _ hT f0 f1
  exact squares_few w _ _ _ _ (h0.lm (by omega)) f0 _ _ _ _ (h1.lm (by omega)) f1 hT
end Go.Proofs.YtbnhpamjklfifaaDoor
