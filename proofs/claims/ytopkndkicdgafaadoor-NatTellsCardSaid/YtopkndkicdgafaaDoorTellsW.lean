/- NatTells: the walk. -/
import Derived.Test.YtopkndkicdgafaaDoorOrderW
import Derived.Test.YtopkndkicdgafaaDoorLawWords
import Derived.Test.YtopkndkicdgafaaDoorUni
namespace Go.Proofs.YtopkndkicdgafaaDoor
open Go.RowKit

set_option maxHeartbeats 4000000 in
theorem tells_few (w : World) (Aa : Option Addr) (na ca : Nat) (xa : List Nat) (La : Lm w Aa na ca xa) (fa : na ≤ 24) (Ab : Option Addr) (nb cb : Nat) (xb : List Nat) (Lb : Lm w Ab nb cb xb) (fb : nb ≤ 24) (hT : Tab w) :
    Calls Tryd.prog 3 #[.slice Aa na ca, .slice Ab nb cb] w fun e w' => e = .returned (.bool true) ∧ Below w.heap.size w w' := by
  obtain ⟨t1, ht1⟩ : ∃ t, decide (val xb ≤ val xa) = t := ⟨_, rfl⟩
  obtain ⟨t2, ht2⟩ : ∃ t, decide (val xb ≠ 0) = t := ⟨_, rfl⟩
  obtain ⟨t3, ht3⟩ : ∃ t, decide (lim (val xa) = xa) = t := ⟨_, rfl⟩
  obtain ⟨m0, hm0⟩ : ∃ m, ln (val xa) = m := ⟨_, rfl⟩
  have hm0n : ((m0 : Int) == (na : Int)) = t3 := by rw [← hm0, ← ht3]; exact is_len La.ok La.len
  obtain ⟨q0, hq0⟩ : ∃ q, cmpN (val xa) (val xb) = q := ⟨_, rfl⟩
  have hb1 : (t1 == t1) = true := beq_self_eq_true t1
  have hb2 : (t2 == t2) = true := beq_self_eq_true t2
  have hb3 : (t3 == t3) = true := beq_self_eq_true t3
  have hb0 : (q0 == q0) = true := beq_self_eq_true q0
  have ht1 := Lib.hid ht1
  have ht2 := Lib.hid ht2
  have ht3 := Lib.hid ht3
  have hm0 := Lib.hid hm0
  have hq0 := Lib.hid hq0
  have hkn := Lib.hid (known_any w hT)
  go_enter Tryd.func3, Tryd.ntmps3
  go_wp2_with fail
  refine hkn.out.mono ?_
  clear hkn
  rintro e w1 ⟨rfl, hb⟩
  have a1 := La.bel hb
  have b1 := Lb.bel hb
  have hT1 := Lib.hid (hT.bel hb)
  clear La Lb hT
  go_wp2_with (go_at_call 18; refine (few_any _ _ _ _).mono ?_; rintro e w' ⟨rfl, rfl⟩)
  go_wp2_with fail
  have cc := Lib.hid (sub_uni w1 _ _ _ _ _ _ _ _ a1 b1 ht1.out)
  refine cc.out.mono ?_
  clear cc
  rintro e v2 ⟨S1, m1, d1, rfl, s1, hm1, hb2⟩
  have a_2 := a1.bel hb2
  have b_2 := b1.bel hb2
  have B_2 := hb.trans (hb2.mono hb.size)
  clear hb2 a1 b1 hb
  go_wp2_with fail
  have cc := Lib.hid (rsub_uni v2 _ _ _ _ _ _ _ _ a_2 b_2 ht1.out)
  refine cc.out.mono ?_
  clear cc
  rintro e v3 ⟨S2, m2, d2, rfl, s2, hm2, hb3⟩
  have a_3 := a_2.bel hb3
  have b_3 := b_2.bel hb3
  have s1_3 := s1.bel hb3
  have B_3 := B_2.trans (hb3.mono B_2.size)
  clear hb3 a_2 b_2 s1 B_2
  go_wp2_with fail
  have cc := Lib.hid (div_uni v3 _ _ _ _ _ _ _ _ a_3 b_3 ht2.out (by omega))
  refine cc.out.mono ?_
  clear cc
  rintro e v4 ⟨S3, m3, d3, S4, m4, d4, rfl, s3, s4, hm3, hm4, hb4⟩
  have a_4 := a_3.bel hb4
  have b_4 := b_3.bel hb4
  have s1_4 := s1_3.bel hb4
  have s2_4 := s2.bel hb4
  have B_4 := B_3.trans (hb4.mono B_3.size)
  clear hb4 a_3 b_3 s1_3 s2 B_3
  go_wp2_with fail
  have cc := Lib.hid (rdiv_uni v4 _ _ _ _ _ _ _ _ a_4 b_4 ht2.out (by omega) (by omega))
  refine cc.out.mono ?_
  clear cc
  rintro e v5 ⟨S5, m5, d5, S6, m6, d6, rfl, s5, s6, hm5, hm6, hb5⟩
  have a_5 := a_4.bel hb5
  have b_5 := b_4.bel hb5
  have s1_5 := s1_4.bel hb5
  have s2_5 := s2_4.bel hb5
  have s3_5 := s3.bel hb5
  have s4_5 := s4.bel hb5
  have B_5 := B_4.trans (hb5.mono B_4.size)
  clear hb5 a_4 b_4 s1_4 s2_4 s3 s4 B_4
  go_wp2_with fail
  have cc := Lib.hid (is_any v5 _ _ _ _ a_5)
  refine cc.out.mono ?_
  clear cc
  rw [ht3.out]
  rintro e w' ⟨rfl, rfl⟩
  go_wp2_with fail
  have cc := Lib.hid (rtrim_any v5 _ _ _ _ a_5)
  refine cc.out.mono ?_
  clear cc
  rw [hm0.out]
  rintro e w' ⟨rfl, rfl⟩
  go_wp2_with fail
  have cc := Lib.hid (trim_any v5 _ _ _ _ a_5)
  refine cc.out.mono ?_
  clear cc
  rintro e v6 ⟨S7, m7, d7, rfl, s7, hm7, hb6⟩
  have a_6 := a_5.bel hb6
  have b_6 := b_5.bel hb6
  have s1_6 := s1_5.bel hb6
  have s2_6 := s2_5.bel hb6
  have s3_6 := s3_5.bel hb6
  have s4_6 := s4_5.bel hb6
  have s5_6 := s5.bel hb6
  have s6_6 := s6.bel hb6
  have B_6 := B_5.trans (hb6.mono B_5.size)
  clear hb6 a_5 b_5 s1_5 s2_5 s3_5 s4_5 s5 s6 B_5
  go_wp2_with fail
  have cc := Lib.hid (rtrim_bel v6 _ _ _ _ a_6)
  refine cc.out.mono ?_
  clear cc
  rintro e v7 ⟨S8, m8, d8, rfl, s8, hm8, hb7⟩
  have a_7 := a_6.bel hb7
  have b_7 := b_6.bel hb7
  have s1_7 := s1_6.bel hb7
  have s2_7 := s2_6.bel hb7
  have s3_7 := s3_6.bel hb7
  have s4_7 := s4_6.bel hb7
  have s5_7 := s5_6.bel hb7
  have s6_7 := s6_6.bel hb7
  have s7_7 := s7.bel hb7
  have B_7 := B_6.trans (hb7.mono B_6.size)
  clear hb7 a_6 b_6 s1_6 s2_6 s3_6 s4_6 s5_6 s6_6 s7 B_6
  go_wp2_with fail
  have cc := Lib.hid (same_bel v7 _ _ _ _ _ _ _ _ s7_7 s8)
  refine cc.out.mono ?_
  clear cc
  rw [dec_same rfl]
  rintro e v8 ⟨rfl, hb8⟩
  have a_8 := a_7.bel hb8
  have b_8 := b_7.bel hb8
  have s1_8 := s1_7.bel hb8
  have s2_8 := s2_7.bel hb8
  have s3_8 := s3_7.bel hb8
  have s4_8 := s4_7.bel hb8
  have s5_8 := s5_7.bel hb8
  have s6_8 := s6_7.bel hb8
  have s7_8 := s7_7.bel hb8
  have s8_8 := s8.bel hb8
  have B_8 := B_7.trans (hb8.mono B_7.size)
  clear hb8 a_7 b_7 s1_7 s2_7 s3_7 s4_7 s5_7 s6_7 s7_7 s8 B_7
  clear s7_8
  clear s8_8
  go_wp2_with fail
  have cc := Lib.hid (cmp_bel v8 _ _ _ _ _ _ _ _ a_8 b_8)
  refine cc.out.mono ?_
  clear cc
  rw [hq0.out]
  rintro e v9 ⟨rfl, hb9⟩
  have a_9 := a_8.bel hb9
  have b_9 := b_8.bel hb9
  have s1_9 := s1_8.bel hb9
  have s2_9 := s2_8.bel hb9
  have s3_9 := s3_8.bel hb9
  have s4_9 := s4_8.bel hb9
  have s5_9 := s5_8.bel hb9
  have s6_9 := s6_8.bel hb9
  have B_9 := B_8.trans (hb9.mono B_8.size)
  clear hb9 a_8 b_8 s1_8 s2_8 s3_8 s4_8 s5_8 s6_8 B_8
  go_wp2_with fail
  have cc := Lib.hid (rcmp_bel v9 _ _ _ _ _ _ _ _ a_9 b_9)
  refine cc.out.mono ?_
  clear cc
  rw [hq0.out]
  rintro e v10 ⟨rfl, hb10⟩
  have a_10 := a_9.bel hb10
  have b_10 := b_9.bel hb10
  have s1_10 := s1_9.bel hb10
  have s2_10 := s2_9.bel hb10
  have s3_10 := s3_9.bel hb10
  have s4_10 := s4_9.bel hb10
  have s5_10 := s5_9.bel hb10
  have s6_10 := s6_9.bel hb10
  have B_10 := B_9.trans (hb10.mono B_9.size)
  clear hb10 a_9 b_9 s1_9 s2_9 s3_9 s4_9 s5_9 s6_9 B_9
  go_wp2_with fail
  have cc := Lib.hid (add_any v10 _ _ _ _ _ _ _ _ a_10 b_10 (by omega) (by omega))
  refine cc.out.mono ?_
  clear cc
  rintro e v11 ⟨S9, m9, d9, rfl, s9, hm9, hb11⟩
  have a_11 := a_10.bel hb11
  have b_11 := b_10.bel hb11
  have s1_11 := s1_10.bel hb11
  have s2_11 := s2_10.bel hb11
  have s3_11 := s3_10.bel hb11
  have s4_11 := s4_10.bel hb11
  have s5_11 := s5_10.bel hb11
  have s6_11 := s6_10.bel hb11
  have B_11 := B_10.trans (hb11.mono B_10.size)
  clear hb11 a_10 b_10 s1_10 s2_10 s3_10 s4_10 s5_10 s6_10 B_10
  go_wp2_with fail
  have cc := Lib.hid (radd_any v11 _ _ _ _ _ _ _ _ a_11 b_11 (by omega) (by omega))
  refine cc.out.mono ?_
  clear cc
  rintro e v12 ⟨S10, m10, d10, rfl, s10, hm10, hb12⟩
  have a_12 := a_11.bel hb12
  have b_12 := b_11.bel hb12
  have s1_12 := s1_11.bel hb12
  have s2_12 := s2_11.bel hb12
  have s3_12 := s3_11.bel hb12
  have s4_12 := s4_11.bel hb12
  have s5_12 := s5_11.bel hb12
  have s6_12 := s6_11.bel hb12
  have s9_12 := s9.bel hb12
  have B_12 := B_11.trans (hb12.mono B_11.size)
  clear hb12 a_11 b_11 s1_11 s2_11 s3_11 s4_11 s5_11 s6_11 s9 B_11
  go_wp2_with fail
  have cc := Lib.hid (same_bel v12 _ _ _ _ _ _ _ _ s9_12 s10)
  refine cc.out.mono ?_
  clear cc
  rw [dec_same rfl]
  rintro e v13 ⟨rfl, hb13⟩
  have a_13 := a_12.bel hb13
  have b_13 := b_12.bel hb13
  have s1_13 := s1_12.bel hb13
  have s2_13 := s2_12.bel hb13
  have s3_13 := s3_12.bel hb13
  have s4_13 := s4_12.bel hb13
  have s5_13 := s5_12.bel hb13
  have s6_13 := s6_12.bel hb13
  have s9_13 := s9_12.bel hb13
  have s10_13 := s10.bel hb13
  have B_13 := B_12.trans (hb13.mono B_12.size)
  clear hb13 a_12 b_12 s1_12 s2_12 s3_12 s4_12 s5_12 s6_12 s9_12 s10 B_12
  clear s9_13
  clear s10_13
  go_wp2_with fail
  have cc := Lib.hid (same_bel v13 _ _ _ _ _ _ _ _ s1_13 s2_13)
  refine cc.out.mono ?_
  clear cc
  rw [dec_same rfl]
  rintro e v14 ⟨rfl, hb14⟩
  have a_14 := a_13.bel hb14
  have b_14 := b_13.bel hb14
  have s1_14 := s1_13.bel hb14
  have s2_14 := s2_13.bel hb14
  have s3_14 := s3_13.bel hb14
  have s4_14 := s4_13.bel hb14
  have s5_14 := s5_13.bel hb14
  have s6_14 := s6_13.bel hb14
  have B_14 := B_13.trans (hb14.mono B_13.size)
  clear hb14 a_13 b_13 s1_13 s2_13 s3_13 s4_13 s5_13 s6_13 B_13
  clear s1_14
  clear s2_14
  go_wp2_with fail
  have cc := Lib.hid (mul_any v14 _ _ _ _ _ _ _ _ a_14 b_14 (by omega) (by omega))
  refine cc.out.mono ?_
  clear cc
  rintro e v15 ⟨S11, m11, d11, rfl, s11, hm11, hb15⟩
  have a_15 := a_14.bel hb15
  have b_15 := b_14.bel hb15
  have s3_15 := s3_14.bel hb15
  have s4_15 := s4_14.bel hb15
  have s5_15 := s5_14.bel hb15
  have s6_15 := s6_14.bel hb15
  have B_15 := B_14.trans (hb15.mono B_14.size)
  clear hb15 a_14 b_14 s3_14 s4_14 s5_14 s6_14 B_14
  go_wp2_with fail
  have cc := Lib.hid (rmul_any v15 _ _ _ _ _ _ _ _ a_15 b_15 (by omega) (by omega))
  refine cc.out.mono ?_
  clear cc
  rintro e v16 ⟨S12, m12, d12, rfl, s12, hm12, hb16⟩
  have a_16 := a_15.bel hb16
  have b_16 := b_15.bel hb16
  have s3_16 := s3_15.bel hb16
  have s4_16 := s4_15.bel hb16
  have s5_16 := s5_15.bel hb16
  have s6_16 := s6_15.bel hb16
  have s11_16 := s11.bel hb16
  have B_16 := B_15.trans (hb16.mono B_15.size)
  clear hb16 a_15 b_15 s3_15 s4_15 s5_15 s6_15 s11 B_15
  go_wp2_with fail
  have cc := Lib.hid (same_bel v16 _ _ _ _ _ _ _ _ s11_16 s12)
  refine cc.out.mono ?_
  clear cc
  rw [dec_same rfl]
  rintro e v17 ⟨rfl, hb17⟩
  have a_17 := a_16.bel hb17
  have b_17 := b_16.bel hb17
  have s3_17 := s3_16.bel hb17
  have s4_17 := s4_16.bel hb17
  have s5_17 := s5_16.bel hb17
  have s6_17 := s6_16.bel hb17
  have s11_17 := s11_16.bel hb17
  have s12_17 := s12.bel hb17
  have B_17 := B_16.trans (hb17.mono B_16.size)
  clear hb17 a_16 b_16 s3_16 s4_16 s5_16 s6_16 s11_16 s12 B_16
  clear s11_17
  clear s12_17
  go_wp2_with fail
  have cc := Lib.hid (same_bel v17 _ _ _ _ _ _ _ _ s3_17 s5_17)
  refine cc.out.mono ?_
  clear cc
  rw [dec_same rfl]
  rintro e v18 ⟨rfl, hb18⟩
  have a_18 := a_17.bel hb18
  have b_18 := b_17.bel hb18
  have s3_18 := s3_17.bel hb18
  have s4_18 := s4_17.bel hb18
  have s5_18 := s5_17.bel hb18
  have s6_18 := s6_17.bel hb18
  have B_18 := B_17.trans (hb18.mono B_17.size)
  clear hb18 a_17 b_17 s3_17 s4_17 s5_17 s6_17 B_17
  go_wp2_with fail
  have cc := Lib.hid (same_bel v18 _ _ _ _ _ _ _ _ s4_18 s6_18)
  refine cc.out.mono ?_
  clear cc
  rw [dec_same rfl]
  rintro e v19 ⟨rfl, hb19⟩
  have a_19 := a_18.bel hb19
  have b_19 := b_18.bel hb19
  have s3_19 := s3_18.bel hb19
  have s4_19 := s4_18.bel hb19
  have s5_19 := s5_18.bel hb19
  have s6_19 := s6_18.bel hb19
  have B_19 := B_18.trans (hb19.mono B_18.size)
  clear hb19 a_18 b_18 s3_18 s4_18 s5_18 s6_18 B_18
  go_wp2
  go_ret
  exact ⟨rfl, B_19⟩
set_option maxHeartbeats 1000000 in
theorem tells_long0 (w : World) (A0 : Option Addr) (n0 c0 : Nat) (A1 : Option Addr) (n1 c1 : Nat) (hT : Tab w) (hl : ¬ n0 ≤ 24) :
    Calls Tryd.prog 3 #[.slice A0 n0 c0, .slice A1 n1 c1] w fun e w' => e = .returned (.bool true) ∧ Below w.heap.size w w' := by
  have hkn := Lib.hid (known_any w hT)
  clear hT
  go_enter Tryd.func3, Tryd.ntmps3
  go_wp2_with fail
  refine hkn.out.mono ?_
  clear hkn
  rintro e w1 ⟨rfl, hb⟩
  go_wp2_with (go_at_call 18; refine (few_any _ _ _ _).mono ?_; rintro e w' ⟨rfl, rfl⟩)
  go_ret
  exact ⟨rfl, hb⟩
set_option maxHeartbeats 1000000 in
theorem tells_long1 (w : World) (A0 : Option Addr) (n0 c0 : Nat) (A1 : Option Addr) (n1 c1 : Nat) (hT : Tab w) (f0 : n0 ≤ 24) (hl : ¬ n1 ≤ 24) :
    Calls Tryd.prog 3 #[.slice A0 n0 c0, .slice A1 n1 c1] w fun e w' => e = .returned (.bool true) ∧ Below w.heap.size w w' := by
  have hkn := Lib.hid (known_any w hT)
  clear hT
  go_enter Tryd.func3, Tryd.ntmps3
  go_wp2_with fail
  refine hkn.out.mono ?_
  clear hkn
  rintro e w1 ⟨rfl, hb⟩
  go_wp2_with (go_at_call 18; refine (few_any _ _ _ _).mono ?_; rintro e w' ⟨rfl, rfl⟩)
  go_ret
  exact ⟨rfl, hb⟩
theorem tells_top (w : World) (A0 : Option Addr) (n0 c0 : Nat) (x0 : List Nat) (h0 : Arg w A0 n0 c0 x0) (A1 : Option Addr) (n1 c1 : Nat) (x1 : List Nat) (h1 : Arg w A1 n1 c1 x1) (hT : Tab w) :
    Calls Tryd.prog 3 #[.slice A0 n0 c0, .slice A1 n1 c1] w fun e w' => e = .returned (.bool true) ∧ Below w.heap.size w w' := by
  by_cases f0 : n0 ≤ 24
  case neg => exact tells_long0 w _ _ _ _ _ _ hT f0
  by_cases f1 : n1 ≤ 24
  case neg => exact tells_long1 w _ _ _ _ _ _ hT f0 f1
  exact tells_few w _ _ _ _ (h0.lm (by omega)) f0 _ _ _ _ (h1.lm (by omega)) f1 hT
end Go.Proofs.YtopkndkicdgafaaDoor
