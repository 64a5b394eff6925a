/- WholeRests: the walk. -/
import Derived.Test.YtfnfbfiikkiliaaDoorRestsA
import Derived.Deep.RegionHeld3
import Derived.Deep.DeepCutAuto
namespace Go.Proofs.YtfnfbfiikkiliaaDoor
open Go.RowKit

set_option maxRecDepth 100000 in
set_option maxHeartbeats 40000000 in
theorem rests_few2 (w : World) (sa : Bool) (Aa : Option Addr) (na ca : Nat) (xa : List Nat) (La : Lm w Aa na ca xa) (fa : na ≤ 24) (sb : Bool) (Ab : Option Addr) (nb cb : Nat) (xb : List Nat) (Lb : Lm w Ab nb cb xb) (fb : nb ≤ 24) (k : Nat) (hk : k ≤ 255) (h0 : sgn sb (val xb) ≠ 0) (hr : sg (dr (sgn sa (val xa)) (sgn sb (val xb))) = -1) (hs : sg (sgn sb (val xb)) = -1) (hT : Tab w) (hS : SumsT w) (hP : ProductsT w) (hF : FarthestT w) :
    Calls Tryd.prog 5 #[.agg #[.bool sa, .slice Aa na ca], .agg #[.bool sb, .slice Ab nb cb], .int .u8 (k : Nat)] w fun e w' => e = .returned (.bool true) ∧ Below w.heap.size w w' := by
  obtain ⟨X, hX⟩ : ∃ V0 : Int, sgn sa (val xa) = V0 := ⟨_, rfl⟩
  have HX := Lib.hid hX
  clear hX
  obtain ⟨Y, hY⟩ : ∃ V0 : Int, sgn sb (val xb) = V0 := ⟨_, rfl⟩
  have HY := Lib.hid hY
  clear hY
  have Hd := Lib.hid (And.intro (decide_eq_true (show (na : Int) ≤ 24 by omega)) (decide_eq_true (show (nb : Int) ≤ 24 by omega)))
  obtain ⟨Q, hQ⟩ : ∃ V0 : Int, dq X Y = V0 := ⟨_, rfl⟩
  have HQ := Lib.hid hQ
  clear hQ
  obtain ⟨R, hR⟩ : ∃ V0 : Int, dr X Y = V0 := ⟨_, rfl⟩
  have HR := Lib.hid hR
  clear hR
  have HT0 : Hid (decide (Y ≠ 0) = true) := (by rw [← HY.out]; exact decide_eq_true h0 : decide (Y ≠ 0) = true)
  have HS2 : Hid (sg R = -1) := (by rw [← HR.out, ← HX.out, ← HY.out]; exact hr : sg R = -1)
  have HS1 : Hid (sg Y = -1) := (by rw [← HY.out]; exact hs : sg Y = -1)
  clear hs
  have HY0 : Hid (Y ≠ 0) := (by rw [← HY.out]; exact h0 : Y ≠ 0)
  clear h0 hr
  obtain ⟨O, hO⟩ : ∃ V0 : Int, 1 = V0 := ⟨_, rfl⟩
  have HO := Lib.hid hO
  clear hO
  obtain ⟨P, hP⟩ : ∃ V0 : Int, O * 2 ^ heldN (k : Int) = V0 := ⟨_, rfl⟩
  have HP := Lib.hid hP
  clear hP
  obtain ⟨S, hS⟩ : ∃ V0 : Int, dq X P = V0 := ⟨_, rfl⟩
  have HS := Lib.hid hS
  clear hS
  obtain ⟨T, hT⟩ : ∃ V0 : Int, dr X P = V0 := ⟨_, rfl⟩
  have HT := Lib.hid hT
  clear hT
  obtain ⟨U, hU⟩ : ∃ V0 : Int, Q * Y = V0 := ⟨_, rfl⟩
  have HU := Lib.hid hU
  clear hU
  obtain ⟨B, hB⟩ : ∃ V0 : Int, (Y.natAbs : Int) = V0 := ⟨_, rfl⟩
  have HB := Lib.hid hB
  clear hB
  obtain ⟨D, hD⟩ : ∃ V0 : Int, (R.natAbs : Int) = V0 := ⟨_, rfl⟩
  have HD := Lib.hid hD
  clear hD
  have HK : Hid (heldN (k : Int) = k ∧ k ≤ 255) := (⟨by unfold heldN; omega, hk⟩ : heldN (k : Int) = k ∧ k ≤ 255)
  have HPP : Hid (0 < P) := (by rw [← HP.out, ← HO.out, Int.one_mul]; exact Int.pow_pos (by decide) : 0 < P)
  have HT1 : Hid (decide (P ≠ 0) = true) := (decide_eq_true (by have := HPP.out; omega) : decide (P ≠ 0) = true)
  have HUR : Hid (U + R = X) := (by rw [← HU.out, ← HQ.out, ← HR.out]; exact (dqr X Y HY0.out).1 : U + R = X)
  have HSX : Hid (X / 2 ^ heldN (k : Int) = S) := (by rw [← HS.out, dq_floor HPP.out, ← HP.out, ← HO.out, Int.one_mul] : X / 2 ^ heldN (k : Int) = S)
  have HB2 : Hid (sgn false (val xb) = B) := (by have h1 := sgn_natAbs sb (val xb); have h2 := HB.out; rw [← HY.out, h1] at h2; rw [← h2]; rfl : sgn false (val xb) = B)
  have HD2 : Hid (sgn false (val (lim R.natAbs)) = D) := (by rw [val_lim]; exact HD.out : sgn false (val (lim R.natAbs)) = D)
  have HLT : Hid (sg (D - B) = -1) := (by rw [← HD.out, ← HB.out, ← HR.out]; exact dr_less HY0.out : sg (D - B) = -1)
  have HWK : Hid (wrap64 (k : Int) = (k : Int)) := (by rw [← IntWalk.i64_left]; exact IntWalk.i64_in _ (by omega) : wrap64 (k : Int) = (k : Int))
  clear hk
  have HTT := Lib.hid hT
  have HTS := Lib.hid hS
  have HTP := Lib.hid hP
  have HTF := Lib.hid hF
  clear hT hS hP hF
  go_enter Tryd.func5, Tryd.ntmps5
  go_wp2_with fail
  obtain ⟨ga, hga⟩ : ∃ g, g = w.heap.size := ⟨_, rfl⟩
  obtain ⟨gb, hgb⟩ : ∃ g, g = w.heap.size + 1 := ⟨_, rfl⟩
  obtain ⟨w1, hw1⟩ : ∃ v, v = ((w.alloc (.cells #[.bool sa, .slice Aa na ca] 24)).alloc (.cells #[.bool sb, .slice Ab nb cb] 24)) := ⟨_, rfl⟩
  have bel1 : Below w.heap.size w w1 := by rw [hw1]; exact bel_alloc2 _ _ _
  have b_a1 : Box w1 ga sa Aa na ca := by rw [hw1, hga]; exact ((Box.new _ _ _ _ _).alloc _)
  have b_b1 : Box w1 gb sb Ab nb cb := by rw [hw1, hgb]; exact (Box.at1 _ _ _ _ _ _)
  rw [← hw1, ← hgb, ← hga]
  have hgs : w.heap.size ≤ ga ∧ w.heap.size ≤ gb ∧ ga ≠ gb ∧ gb ≠ ga := by omega
  have HG := Lib.hid hgs
  clear hw1 hgs hga hgb
  have l_a1 := La.bel bel1
  have l_b1 := Lb.bel bel1
  have t_T1 := Lib.hid (HTT.out.bel bel1)
  have t_S1 := Lib.hid (HTS.out.bel bel1)
  have t_P1 := Lib.hid (HTP.out.bel bel1)
  have t_F1 := Lib.hid (HTF.out.bel bel1)
  have c_a0_1 := b_a1.c0
  have c_a1_1 := b_a1.c1
  have c_b0_1 := b_b1.c0
  have c_b1_1 := b_b1.c1
  have cc := Lib.hid (known2_any w1 t_T1.out t_P1.out t_F1.out)
  refine cc.out.mono ?_
  clear cc
  rintro e v2 ⟨rfl, kb2⟩
  have b_a2 := b_a1.bel kb2
  have b_b2 := b_b1.bel kb2
  have l_a2 := l_a1.bel kb2
  have l_b2 := l_b1.bel kb2
  have t_T2 := Lib.hid (t_T1.out.bel kb2)
  have t_S2 := Lib.hid (t_S1.out.bel kb2)
  have t_P2 := Lib.hid (t_P1.out.bel kb2)
  have t_F2 := Lib.hid (t_F1.out.bel kb2)
  have bel2 := bel1.trans (kb2.mono bel1.size)
  have c_a0_2 := b_a2.c0
  have c_a1_2 := b_a2.c1
  have c_b0_2 := b_b2.c0
  have c_b1_2 := b_b2.c1
  clear kb2 b_a1 c_a0_1 c_a1_1 b_b1 c_b0_1 c_b1_1 l_a1 l_b1 t_T1 t_S1 t_P1 t_F1 bel1
  go_wp2_with fail
  have cc := Lib.hid (few2_any v2 sa Aa na ca Hd.out.1)
  refine cc.out.mono ?_
  clear cc
  rintro e v3 ⟨rfl, kb3⟩
  have b_a3 := b_a2.bel kb3
  have b_b3 := b_b2.bel kb3
  have l_a3 := l_a2.bel kb3
  have l_b3 := l_b2.bel kb3
  have t_T3 := Lib.hid (t_T2.out.bel kb3)
  have t_S3 := Lib.hid (t_S2.out.bel kb3)
  have t_P3 := Lib.hid (t_P2.out.bel kb3)
  have t_F3 := Lib.hid (t_F2.out.bel kb3)
  have bel3 := bel2.trans (kb3.mono bel2.size)
  have c_a0_3 := b_a3.c0
  have c_a1_3 := b_a3.c1
  have c_b0_3 := b_b3.c0
  have c_b1_3 := b_b3.c1
  clear kb3 b_a2 c_a0_2 c_a1_2 b_b2 c_b0_2 c_b1_2 l_a2 l_b2 t_T2 t_S2 t_P2 t_F2 bel2
  go_wp2_with fail
  have cc := Lib.hid (few2_any v3 sb Ab nb cb Hd.out.2)
  refine cc.out.mono ?_
  clear cc
  rintro e v4 ⟨rfl, kb4⟩
  have b_a4 := b_a3.bel kb4
  have b_b4 := b_b3.bel kb4
  have l_a4 := l_a3.bel kb4
  have l_b4 := l_b3.bel kb4
  have t_T4 := Lib.hid (t_T3.out.bel kb4)
  have t_S4 := Lib.hid (t_S3.out.bel kb4)
  have t_P4 := Lib.hid (t_P3.out.bel kb4)
  have t_F4 := Lib.hid (t_F3.out.bel kb4)
  have bel4 := bel3.trans (kb4.mono bel3.size)
  have c_a0_4 := b_a4.c0
  have c_a1_4 := b_a4.c1
  have c_b0_4 := b_b4.c0
  have c_b1_4 := b_b4.c1
  clear kb4 b_a3 c_a0_3 c_a1_3 b_b3 c_b0_3 c_b1_3 l_a3 l_b3 t_T3 t_S3 t_P3 t_F3 bel3
  go_wp2_with fail
  have cc := Lib.hid (wdiv_g v4 X Y sa Aa na ca xa l_a4 HX.out sb Ab nb cb xb l_b4 HY.out t_P4.out (by omega) (by omega) HT0.out HQ.out HR.out)
  refine cc.out.mono ?_
  clear cc
  rintro e v5 ⟨A1, m1, c1, A2, m2, c2, rfl, h1, h2, hm1, hm2, kb5⟩
  have b_a5 := b_a4.bel kb5
  have b_b5 := b_b4.bel kb5
  have l_a5 := l_a4.bel kb5
  have l_b5 := l_b4.bel kb5
  have t_T5 := Lib.hid (t_T4.out.bel kb5)
  have t_S5 := Lib.hid (t_S4.out.bel kb5)
  have t_P5 := Lib.hid (t_P4.out.bel kb5)
  have t_F5 := Lib.hid (t_F4.out.bel kb5)
  have bel5 := bel4.trans (kb5.mono bel4.size)
  have c_a0_5 := b_a5.c0
  have c_a1_5 := b_a5.c1
  have c_b0_5 := b_b5.c0
  have c_b1_5 := b_b5.c1
  clear kb5 b_a4 c_a0_4 c_a1_4 b_b4 c_b0_4 c_b1_4 l_a4 l_b4 t_T4 t_S4 t_P4 t_F4 bel4
  obtain ⟨gq, hgq⟩ : ∃ g, g = v5.heap.size := ⟨_, rfl⟩
  obtain ⟨gr, hgr⟩ : ∃ g, g = v5.heap.size + 1 := ⟨_, rfl⟩
  obtain ⟨wdq, hwd⟩ : ∃ v, v = (v5.alloc (.cells #[.bool (decide (Q < 0)), .slice A1 m1 c1] 24)).alloc (.cells #[.bool (decide (R < 0)), .slice A2 m2 c2] 24) := ⟨_, rfl⟩
  have b1 : Box wdq gq (decide (Q < 0)) A1 m1 c1 := by rw [hwd, hgq]; exact (Box.new _ _ _ _ _).alloc _
  have b2 : Box wdq gr (decide (R < 0)) A2 m2 c2 := by rw [hwd, hgr]; exact Box.at1 _ _ _ _ _ _
  have d10 := b1.c0
  have d11 := b1.c1
  have d20 := b2.c0
  have d21 := b2.c1
  rw [hwd, hgq] at d10 d11
  rw [hwd, hgr] at d20 d21
  have hbd : Below v5.heap.size v5 wdq := by rw [hwd]; exact bel_alloc2 _ _ _
  have ka0 := ((b_a5.alloc (.cells #[.bool (decide (Q < 0)), .slice A1 m1 c1] 24)).alloc (.cells #[.bool (decide (R < 0)), .slice A2 m2 c2] 24)).c0
  have ka1 := ((b_a5.alloc (.cells #[.bool (decide (Q < 0)), .slice A1 m1 c1] 24)).alloc (.cells #[.bool (decide (R < 0)), .slice A2 m2 c2] 24)).c1
  have kb0 := ((b_b5.alloc (.cells #[.bool (decide (Q < 0)), .slice A1 m1 c1] 24)).alloc (.cells #[.bool (decide (R < 0)), .slice A2 m2 c2] 24)).c0
  have kb1 := ((b_b5.alloc (.cells #[.bool (decide (Q < 0)), .slice A1 m1 c1] 24)).alloc (.cells #[.bool (decide (R < 0)), .slice A2 m2 c2] 24)).c1
  go_wp2_with fail
  rw [← hwd, ← hgr, ← hgq]
  clear hwd hgq hgr d10 d11 d20 d21 ka0 ka1 kb0 kb1
  have b_a6 := b_a5.bel hbd
  have b_b6 := b_b5.bel hbd
  have l_a6 := l_a5.bel hbd
  have l_b6 := l_b5.bel hbd
  have l_q6 := h1.bel hbd
  have l_r6 := h2.bel hbd
  have t_T6 := Lib.hid (t_T5.out.bel hbd)
  have t_S6 := Lib.hid (t_S5.out.bel hbd)
  have t_P6 := Lib.hid (t_P5.out.bel hbd)
  have t_F6 := Lib.hid (t_F5.out.bel hbd)
  have bel6 := bel5.trans (hbd.mono bel5.size)
  have c_a0_6 := b_a6.c0
  have c_a1_6 := b_a6.c1
  have c_b0_6 := b_b6.c0
  have c_b1_6 := b_b6.c1
  clear hbd b_a5 c_a0_5 c_a1_5 b_b5 c_b0_5 c_b1_5 l_a5 l_b5 h1 h2 t_T5 t_S5 t_P5 t_F5 bel5
  have b_q6 := b1
  have c_q0_6 := b_q6.c0
  have c_q1_6 := b_q6.c1
  have b_r6 := b2
  have c_r0_6 := b_r6.c0
  have c_r1_6 := b_r6.c1
  clear b1 b2
  go_upto_region 9 with (fail)
  rw [HWK.out]
  go_cut [11, 12, 13] (fun s11 s12 s13 wx => s13 = .bool true ∧ Laid2 wdq S T s11 s12 wx)
  case first =>
    have hS0 := And.intro (held0 b_a6) ( And.intro (held0 b_b6) ( And.intro (held0 b_q6) (held0 b_r6)))
    have y0 : Below wdq.heap.size wdq wdq := Below.refl _ _
    go_region_held3 (fun w' => (Box w' ga sa Aa na ca ∧ w'.cell? ⟨ga, 0, none⟩ = some (.bool sa) ∧ w'.cell? ⟨ga, 1, none⟩ = some (.slice Aa na ca)) ∧ (Box w' gb sb Ab nb cb ∧ w'.cell? ⟨gb, 0, none⟩ = some (.bool sb) ∧ w'.cell? ⟨gb, 1, none⟩ = some (.slice Ab nb cb)) ∧ (Box w' gq (decide (Q < 0)) A1 m1 c1 ∧ w'.cell? ⟨gq, 0, none⟩ = some (.bool (decide (Q < 0))) ∧ w'.cell? ⟨gq, 1, none⟩ = some (.slice A1 m1 c1)) ∧ (Box w' gr (decide (R < 0)) A2 m2 c2 ∧ w'.cell? ⟨gr, 0, none⟩ = some (.bool (decide (R < 0))) ∧ w'.cell? ⟨gr, 1, none⟩ = some (.slice A2 m2 c2)))
      ((with_reducible refine keep40 ?_ hS0; (focus repeat' (first | with_reducible assumption | with_reducible refine bel_drw ?_ | with_reducible refine bel_al ?_ | with_reducible refine bel_put ?_ ?_ _ _ | omega))))
      (first
        | (go_at_call 36; (fail_if_success (have hq := z1)); refine (wof_g _ 1 ?_ HO.out).mono ?_; decide; rintro e x1 ⟨A21, m21, c21, rfl, h21, hm21, e1⟩; have z1 : True := trivial; have hc := bel_undrew e1; have q1 : Below wdq.heap.size wdq x1 := (by first | with_reducible exact hc | with_reducible exact bel_a1 hc | with_reducible exact bel_a2 hc | with_reducible exact bel_a3 hc); have y1 : Below wdq.heap.size wdq x1 := bel_next y0 q1; have La_1 := l_a6.bel q1; have Lb_1 := l_b6.bel q1; have Lq_1 := l_q6.bel q1; have Lr_1 := l_r6.bel q1; have s1 := bel_size q1; (first | (with_reducible have tab : Two x1 wdq.heap.size ∧ Two x1 (wdq.heap.size + 1) := zn1 hc; have ta1_1 := tab.1; have tb1_1 := tab.2; clear tab) | (with_reducible have ta1_1 : Two x1 wdq.heap.size := zn0 hc) | skip); (try (have hs1 : wdq.heap.size < x1.heap.size := Two.lt ta1_1)))
        | (go_at_call 37; have hq := z1; (fail_if_success (have hq := z2)); refine (wshl_g _ O (k : Int) _ A21 m21 c21 _ ?_ (sgn_lim O) ?_ HP.out).mono ?_; (focus repeat' (first | with_reducible exact h21 | with_reducible refine Lm.drew ?_ | with_reducible refine Lm.al ?_ _ | with_reducible refine Lm.put ?_ ?_ _ _ | with_reducible assumption)); omega; rintro e x2 ⟨A22, m22, c22, rfl, h22, hm22, e2⟩; have z2 : True := trivial; have hc := e2; have q2 : Below x1.heap.size x1 x2 := (by first | with_reducible exact hc | with_reducible exact bel_a1 hc | with_reducible exact bel_a2 hc | with_reducible exact bel_a3 hc); have y2 : Below wdq.heap.size wdq x2 := bel_next y1 q2; have La_2 := La_1.bel q2; have Lb_2 := Lb_1.bel q2; have Lq_2 := Lq_1.bel q2; have Lr_2 := Lr_1.bel q2; have Lo_2 := h21.bel q2; have s2 := bel_size q2; (try with_reducible have ta1_2 := Two.bel ta1_1 q2); (try with_reducible have tb1_2 := Two.bel tb1_1 q2); (first | (with_reducible have tab : Two x2 x1.heap.size ∧ Two x2 (x1.heap.size + 1) := zn1 hc; have ta2_2 := tab.1; have tb2_2 := tab.2; clear tab) | (with_reducible have ta2_2 : Two x2 x1.heap.size := zn0 hc) | skip); (try (have hs2 : x1.heap.size < x2.heap.size := Two.lt ta2_2)))
        | (go_at_call 13; have hq := z2; (fail_if_success (have hq := z3)); refine (wdiv_g _ X P sa Aa na ca xa ?_ HX.out _ A22 m22 c22 _ ?_ (sgn_lim P) ?_ ?_ ?_ HT1.out HS.out HT.out).mono ?_; (focus repeat' (first | with_reducible exact La_2 | with_reducible refine Lm.drew ?_ | with_reducible refine Lm.al ?_ _ | with_reducible refine Lm.put ?_ ?_ _ _ | with_reducible assumption)); (focus repeat' (first | with_reducible exact h22 | with_reducible refine Lm.drew ?_ | with_reducible refine Lm.al ?_ _ | with_reducible refine Lm.put ?_ ?_ _ _ | with_reducible assumption)); (refine t_P6.out.bel ?_; (focus repeat' (first | with_reducible assumption | with_reducible refine bel_drw ?_ | with_reducible refine bel_al ?_ | with_reducible refine bel_put ?_ ?_ _ _ | omega))); omega; (have hkk := HK.out; omega); rintro e x3 ⟨A3, m3, c3, A4, m4, c4, rfl, h3, h4, hm3, hm4, e3⟩; have z3 : True := trivial; have hc := e3; have q3 : Below x2.heap.size x2 x3 := (by first | with_reducible exact hc | with_reducible exact bel_a1 hc | with_reducible exact bel_a2 hc | with_reducible exact bel_a3 hc); have y3 : Below wdq.heap.size wdq x3 := bel_next y2 q3; have La_3 := La_2.bel q3; have Lb_3 := Lb_2.bel q3; have Lq_3 := Lq_2.bel q3; have Lr_3 := Lr_2.bel q3; have Lo_3 := Lo_2.bel q3; have Lp_3 := h22.bel q3; have s3 := bel_size q3; (try with_reducible have ta1_3 := Two.bel ta1_2 q3); (try with_reducible have tb1_3 := Two.bel tb1_2 q3); (try with_reducible have ta2_3 := Two.bel ta2_2 q3); (try with_reducible have tb2_3 := Two.bel tb2_2 q3); (first | (with_reducible have tab : Two x3 x2.heap.size ∧ Two x3 (x2.heap.size + 1) := zn1 hc; have ta3_3 := tab.1; have tb3_3 := tab.2; clear tab) | (with_reducible have ta3_3 : Two x3 x2.heap.size := zn0 hc) | skip); (try (have hs3 : x2.heap.size < x3.heap.size := Two.lt ta3_3)); (try (have ra1 := ta1_3.room.2; have rl1 := ta1_3.lt)); (try (have rb1 := tb1_3.room.2)); (try (have hq1 := ta1_3; have hq2 := ta2_3; have na := Nat.ne_of_lt (show wdq.heap.size < x1.heap.size from by omega); have nc := na.symm; clear hq1 hq2)); (try (have hq1 := ta1_3; have hq2 := ta3_3; have na := Nat.ne_of_lt (show wdq.heap.size < x2.heap.size from by omega); have nc := na.symm; clear hq1 hq2)); (try (have ra2 := ta2_3.room.2; have rl2 := ta2_3.lt)); (try (have rb2 := tb2_3.room.2)); (try (have hq1 := ta2_3; have hq2 := ta3_3; have na := Nat.ne_of_lt (show x1.heap.size < x2.heap.size from by omega); have nc := na.symm; clear hq1 hq2)); (try (have ra3 := ta3_3.room.2; have rl3 := ta3_3.lt)); (try (have rb3 := tb3_3.room.2))))
    all_goals (go_wp2_with fail; go_meet)
    all_goals refine ⟨rfl, ?_⟩
    all_goals (have hkk := HK.out)
    all_goals (first | ((with_reducible refine laidNN y3 h3 ?_ h4 ?_) <;> (first | with_reducible assumption | omega)) | ((with_reducible refine laidNNx y3 h3 ?_ h4 ?_) <;> (first | with_reducible assumption | omega)) | ((with_reducible refine laidON y3 h3 ?_ h4 ?_ ?_ ?_) <;> (first | with_reducible assumption | omega)) | ((with_reducible refine laidNO y3 h3 ?_ h4 ?_ ?_ ?_) <;> (first | with_reducible assumption | omega)) | ((with_reducible refine laidOO y3 h3 ?_ h4 ?_ ?_ ?_ ?_ ?_ ?_) <;> (first | with_reducible assumption | omega)))
  case rest =>
    obtain ⟨rfl, s, t, rfl, rfl, ⟨A3, m3, c3, bs, ls, hm3⟩, ⟨A4, m4, c4, bt, lt, hm4⟩, hs, ht, hbx⟩ := hcut
    clear bt lt
    have b_s7 := bs
    have l_s7 := ls
    clear bs ls
    have b_a7 := b_a6.bel hbx
    have b_b7 := b_b6.bel hbx
    have b_q7 := b_q6.bel hbx
    have b_r7 := b_r6.bel hbx
    have l_a7 := l_a6.bel hbx
    have l_b7 := l_b6.bel hbx
    have l_q7 := l_q6.bel hbx
    have l_r7 := l_r6.bel hbx
    have t_T7 := Lib.hid (t_T6.out.bel hbx)
    have t_S7 := Lib.hid (t_S6.out.bel hbx)
    have t_P7 := Lib.hid (t_P6.out.bel hbx)
    have t_F7 := Lib.hid (t_F6.out.bel hbx)
    have bel7 := bel6.trans (hbx.mono bel6.size)
    have c_a0_7 := b_a7.c0
    have c_a1_7 := b_a7.c1
    have c_b0_7 := b_b7.c0
    have c_b1_7 := b_b7.c1
    have c_q0_7 := b_q7.c0
    have c_q1_7 := b_q7.c1
    have c_r0_7 := b_r7.c0
    have c_r1_7 := b_r7.c1
    clear hbx b_a6 c_a0_6 c_a1_6 b_b6 c_b0_6 c_b1_6 b_q6 c_q0_6 c_q1_6 b_r6 c_r0_6 c_r1_6 l_a6 l_b6 l_q6 l_r6 t_T6 t_S6 t_P6 t_F6 bel6
    have c_s0_7 := b_s7.c0
    have c_s1_7 := b_s7.c1
    go_wp2_with fail
    have cc := Lib.hid (wnorm_g wc B false Ab nb cb xb l_b7 HB2.out)
    refine cc.out.mono ?_
    clear cc
    rintro e v8 ⟨A5, m5, c5, rfl, h5, hm5, kb8⟩
    have b_a8 := b_a7.bel kb8
    have b_b8 := b_b7.bel kb8
    have b_q8 := b_q7.bel kb8
    have b_r8 := b_r7.bel kb8
    have b_s8 := b_s7.bel kb8
    have l_a8 := l_a7.bel kb8
    have l_b8 := l_b7.bel kb8
    have l_q8 := l_q7.bel kb8
    have l_r8 := l_r7.bel kb8
    have l_s8 := l_s7.bel kb8
    have t_T8 := Lib.hid (t_T7.out.bel kb8)
    have t_S8 := Lib.hid (t_S7.out.bel kb8)
    have t_P8 := Lib.hid (t_P7.out.bel kb8)
    have t_F8 := Lib.hid (t_F7.out.bel kb8)
    have bel8 := bel7.trans (kb8.mono bel7.size)
    have c_a0_8 := b_a8.c0
    have c_a1_8 := b_a8.c1
    have c_b0_8 := b_b8.c0
    have c_b1_8 := b_b8.c1
    have c_q0_8 := b_q8.c0
    have c_q1_8 := b_q8.c1
    have c_r0_8 := b_r8.c0
    have c_r1_8 := b_r8.c1
    have c_s0_8 := b_s8.c0
    have c_s1_8 := b_s8.c1
    clear kb8 b_a7 c_a0_7 c_a1_7 b_b7 c_b0_7 c_b1_7 b_q7 c_q0_7 c_q1_7 b_r7 c_r0_7 c_r1_7 b_s7 c_s0_7 c_s1_7 l_a7 l_b7 l_q7 l_r7 l_s7 t_T7 t_S7 t_P7 t_F7 bel7
    obtain ⟨gm, hgm⟩ : ∃ g, g = v8.heap.size := ⟨_, rfl⟩
    obtain ⟨wdm, hwd⟩ : ∃ v, v = v8.alloc (.cells #[.bool (decide (B < 0)), .slice A5 m5 c5] 24) := ⟨_, rfl⟩
    have b1 : Box wdm gm (decide (B < 0)) A5 m5 c5 := by rw [hwd, hgm]; exact Box.new _ _ _ _ _
    have d10 := b1.c0
    have d11 := b1.c1
    rw [hwd, hgm] at d10 d11
    have hbd : Below v8.heap.size v8 wdm := by rw [hwd]; exact bel_alloc _ _
    have ka0 := (b_a8.alloc (.cells #[.bool (decide (B < 0)), .slice A5 m5 c5] 24)).c0
    have ka1 := (b_a8.alloc (.cells #[.bool (decide (B < 0)), .slice A5 m5 c5] 24)).c1
    have kb0 := (b_b8.alloc (.cells #[.bool (decide (B < 0)), .slice A5 m5 c5] 24)).c0
    have kb1 := (b_b8.alloc (.cells #[.bool (decide (B < 0)), .slice A5 m5 c5] 24)).c1
    have kq0 := (b_q8.alloc (.cells #[.bool (decide (B < 0)), .slice A5 m5 c5] 24)).c0
    have kq1 := (b_q8.alloc (.cells #[.bool (decide (B < 0)), .slice A5 m5 c5] 24)).c1
    have kr0 := (b_r8.alloc (.cells #[.bool (decide (B < 0)), .slice A5 m5 c5] 24)).c0
    have kr1 := (b_r8.alloc (.cells #[.bool (decide (B < 0)), .slice A5 m5 c5] 24)).c1
    have ks0 := (b_s8.alloc (.cells #[.bool (decide (B < 0)), .slice A5 m5 c5] 24)).c0
    have ks1 := (b_s8.alloc (.cells #[.bool (decide (B < 0)), .slice A5 m5 c5] 24)).c1
    go_wp2_with fail
    rw [← hwd, ← hgm]
    clear hwd hgm d10 d11 ka0 ka1 kb0 kb1 kq0 kq1 kr0 kr1 ks0 ks1
    have b_a9 := b_a8.bel hbd
    have b_b9 := b_b8.bel hbd
    have b_q9 := b_q8.bel hbd
    have b_r9 := b_r8.bel hbd
    have b_s9 := b_s8.bel hbd
    have l_a9 := l_a8.bel hbd
    have l_b9 := l_b8.bel hbd
    have l_q9 := l_q8.bel hbd
    have l_r9 := l_r8.bel hbd
    have l_s9 := l_s8.bel hbd
    have l_m9 := h5.bel hbd
    have t_T9 := Lib.hid (t_T8.out.bel hbd)
    have t_S9 := Lib.hid (t_S8.out.bel hbd)
    have t_P9 := Lib.hid (t_P8.out.bel hbd)
    have t_F9 := Lib.hid (t_F8.out.bel hbd)
    have bel9 := bel8.trans (hbd.mono bel8.size)
    have c_a0_9 := b_a9.c0
    have c_a1_9 := b_a9.c1
    have c_b0_9 := b_b9.c0
    have c_b1_9 := b_b9.c1
    have c_q0_9 := b_q9.c0
    have c_q1_9 := b_q9.c1
    have c_r0_9 := b_r9.c0
    have c_r1_9 := b_r9.c1
    have c_s0_9 := b_s9.c0
    have c_s1_9 := b_s9.c1
    clear hbd b_a8 c_a0_8 c_a1_8 b_b8 c_b0_8 c_b1_8 b_q8 c_q0_8 c_q1_8 b_r8 c_r0_8 c_r1_8 b_s8 c_s0_8 c_s1_8 l_a8 l_b8 l_q8 l_r8 l_s8 h5 t_T8 t_S8 t_P8 t_F8 bel8
    have b_m9 := b1
    have c_m0_9 := b_m9.c0
    have c_m1_9 := b_m9.c1
    clear b1
    have cc := Lib.hid (wnorm_g wdm D false A2 m2 c2 _ l_r9 HD2.out)
    refine cc.out.mono ?_
    clear cc
    rintro e v10 ⟨A6, m6, c6, rfl, h6, hm6, kb10⟩
    have b_a10 := b_a9.bel kb10
    have b_b10 := b_b9.bel kb10
    have b_q10 := b_q9.bel kb10
    have b_r10 := b_r9.bel kb10
    have b_s10 := b_s9.bel kb10
    have b_m10 := b_m9.bel kb10
    have l_a10 := l_a9.bel kb10
    have l_b10 := l_b9.bel kb10
    have l_q10 := l_q9.bel kb10
    have l_r10 := l_r9.bel kb10
    have l_s10 := l_s9.bel kb10
    have l_m10 := l_m9.bel kb10
    have t_T10 := Lib.hid (t_T9.out.bel kb10)
    have t_S10 := Lib.hid (t_S9.out.bel kb10)
    have t_P10 := Lib.hid (t_P9.out.bel kb10)
    have t_F10 := Lib.hid (t_F9.out.bel kb10)
    have bel10 := bel9.trans (kb10.mono bel9.size)
    have c_a0_10 := b_a10.c0
    have c_a1_10 := b_a10.c1
    have c_b0_10 := b_b10.c0
    have c_b1_10 := b_b10.c1
    have c_q0_10 := b_q10.c0
    have c_q1_10 := b_q10.c1
    have c_r0_10 := b_r10.c0
    have c_r1_10 := b_r10.c1
    have c_s0_10 := b_s10.c0
    have c_s1_10 := b_s10.c1
    have c_m0_10 := b_m10.c0
    have c_m1_10 := b_m10.c1
    clear kb10 b_a9 c_a0_9 c_a1_9 b_b9 c_b0_9 c_b1_9 b_q9 c_q0_9 c_q1_9 b_r9 c_r0_9 c_r1_9 b_s9 c_s0_9 c_s1_9 b_m9 c_m0_9 c_m1_9 l_a9 l_b9 l_q9 l_r9 l_s9 l_m9 t_T9 t_S9 t_P9 t_F9 bel9
    obtain ⟨gn, hgn⟩ : ∃ g, g = v10.heap.size := ⟨_, rfl⟩
    obtain ⟨wdn, hwd⟩ : ∃ v, v = v10.alloc (.cells #[.bool (decide (D < 0)), .slice A6 m6 c6] 24) := ⟨_, rfl⟩
    have b1 : Box wdn gn (decide (D < 0)) A6 m6 c6 := by rw [hwd, hgn]; exact Box.new _ _ _ _ _
    have d10 := b1.c0
    have d11 := b1.c1
    rw [hwd, hgn] at d10 d11
    have hbd : Below v10.heap.size v10 wdn := by rw [hwd]; exact bel_alloc _ _
    have ka0 := (b_a10.alloc (.cells #[.bool (decide (D < 0)), .slice A6 m6 c6] 24)).c0
    have ka1 := (b_a10.alloc (.cells #[.bool (decide (D < 0)), .slice A6 m6 c6] 24)).c1
    have kb0 := (b_b10.alloc (.cells #[.bool (decide (D < 0)), .slice A6 m6 c6] 24)).c0
    have kb1 := (b_b10.alloc (.cells #[.bool (decide (D < 0)), .slice A6 m6 c6] 24)).c1
    have kq0 := (b_q10.alloc (.cells #[.bool (decide (D < 0)), .slice A6 m6 c6] 24)).c0
    have kq1 := (b_q10.alloc (.cells #[.bool (decide (D < 0)), .slice A6 m6 c6] 24)).c1
    have kr0 := (b_r10.alloc (.cells #[.bool (decide (D < 0)), .slice A6 m6 c6] 24)).c0
    have kr1 := (b_r10.alloc (.cells #[.bool (decide (D < 0)), .slice A6 m6 c6] 24)).c1
    have ks0 := (b_s10.alloc (.cells #[.bool (decide (D < 0)), .slice A6 m6 c6] 24)).c0
    have ks1 := (b_s10.alloc (.cells #[.bool (decide (D < 0)), .slice A6 m6 c6] 24)).c1
    have km0 := (b_m10.alloc (.cells #[.bool (decide (D < 0)), .slice A6 m6 c6] 24)).c0
    have km1 := (b_m10.alloc (.cells #[.bool (decide (D < 0)), .slice A6 m6 c6] 24)).c1
    go_wp2_with fail
    rw [← hwd, ← hgn]
    clear hwd hgn d10 d11 ka0 ka1 kb0 kb1 kq0 kq1 kr0 kr1 ks0 ks1 km0 km1
    have b_a11 := b_a10.bel hbd
    have b_b11 := b_b10.bel hbd
    have b_q11 := b_q10.bel hbd
    have b_r11 := b_r10.bel hbd
    have b_s11 := b_s10.bel hbd
    have b_m11 := b_m10.bel hbd
    have l_a11 := l_a10.bel hbd
    have l_b11 := l_b10.bel hbd
    have l_q11 := l_q10.bel hbd
    have l_r11 := l_r10.bel hbd
    have l_s11 := l_s10.bel hbd
    have l_m11 := l_m10.bel hbd
    have l_n11 := h6.bel hbd
    have t_T11 := Lib.hid (t_T10.out.bel hbd)
    have t_S11 := Lib.hid (t_S10.out.bel hbd)
    have t_P11 := Lib.hid (t_P10.out.bel hbd)
    have t_F11 := Lib.hid (t_F10.out.bel hbd)
    have bel11 := bel10.trans (hbd.mono bel10.size)
    have c_a0_11 := b_a11.c0
    have c_a1_11 := b_a11.c1
    have c_b0_11 := b_b11.c0
    have c_b1_11 := b_b11.c1
    have c_q0_11 := b_q11.c0
    have c_q1_11 := b_q11.c1
    have c_r0_11 := b_r11.c0
    have c_r1_11 := b_r11.c1
    have c_s0_11 := b_s11.c0
    have c_s1_11 := b_s11.c1
    have c_m0_11 := b_m11.c0
    have c_m1_11 := b_m11.c1
    clear hbd b_a10 c_a0_10 c_a1_10 b_b10 c_b0_10 c_b1_10 b_q10 c_q0_10 c_q1_10 b_r10 c_r0_10 c_r1_10 b_s10 c_s0_10 c_s1_10 b_m10 c_m0_10 c_m1_10 l_a10 l_b10 l_q10 l_r10 l_s10 l_m10 h6 t_T10 t_S10 t_P10 t_F10 bel10
    have b_n11 := b1
    have c_n0_11 := b_n11.c0
    have c_n1_11 := b_n11.c1
    clear b1
    have hS0 := And.intro (held0 b_a11) ( And.intro (held0 b_b11) ( And.intro (held0 b_q11) ( And.intro (held0 b_r11) ( And.intro (held0 b_s11) ( And.intro (held0 b_m11) (held0 b_n11))))))
    have y0 : Below wdn.heap.size wdn wdn := Below.refl _ _
    go_region_held3 (fun w' => (Box w' ga sa Aa na ca ∧ w'.cell? ⟨ga, 0, none⟩ = some (.bool sa) ∧ w'.cell? ⟨ga, 1, none⟩ = some (.slice Aa na ca)) ∧ (Box w' gb sb Ab nb cb ∧ w'.cell? ⟨gb, 0, none⟩ = some (.bool sb) ∧ w'.cell? ⟨gb, 1, none⟩ = some (.slice Ab nb cb)) ∧ (Box w' gq (decide (Q < 0)) A1 m1 c1 ∧ w'.cell? ⟨gq, 0, none⟩ = some (.bool (decide (Q < 0))) ∧ w'.cell? ⟨gq, 1, none⟩ = some (.slice A1 m1 c1)) ∧ (Box w' gr (decide (R < 0)) A2 m2 c2 ∧ w'.cell? ⟨gr, 0, none⟩ = some (.bool (decide (R < 0))) ∧ w'.cell? ⟨gr, 1, none⟩ = some (.slice A2 m2 c2)) ∧ (Box w' s (decide (S < 0)) A3 m3 c3 ∧ w'.cell? ⟨s, 0, none⟩ = some (.bool (decide (S < 0))) ∧ w'.cell? ⟨s, 1, none⟩ = some (.slice A3 m3 c3)) ∧ (Box w' gm (decide (B < 0)) A5 m5 c5 ∧ w'.cell? ⟨gm, 0, none⟩ = some (.bool (decide (B < 0))) ∧ w'.cell? ⟨gm, 1, none⟩ = some (.slice A5 m5 c5)) ∧ (Box w' gn (decide (D < 0)) A6 m6 c6 ∧ w'.cell? ⟨gn, 0, none⟩ = some (.bool (decide (D < 0))) ∧ w'.cell? ⟨gn, 1, none⟩ = some (.slice A6 m6 c6)))
      ((with_reducible refine keep70 ?_ hS0; (focus repeat' (first | with_reducible assumption | with_reducible refine bel_drw ?_ | with_reducible refine bel_al ?_ | with_reducible refine bel_put ?_ ?_ _ _ | omega))))
      (first
        | (go_at_call 28; (fail_if_success (have hq := z1)); refine (wmul_g _ Q Y _ A1 m1 c1 _ ?_ (sgn_lim Q) sb Ab nb cb xb ?_ HY.out ?_ ?_ ?_ HU.out).mono ?_; (focus repeat' (first | with_reducible exact l_q11 | with_reducible refine Lm.drew ?_ | with_reducible refine Lm.al ?_ _ | with_reducible refine Lm.put ?_ ?_ _ _ | with_reducible assumption)); (focus repeat' (first | with_reducible exact l_b11 | with_reducible refine Lm.drew ?_ | with_reducible refine Lm.al ?_ _ | with_reducible refine Lm.put ?_ ?_ _ _ | with_reducible assumption)); (refine t_P11.out.bel ?_; (focus repeat' (first | with_reducible assumption | with_reducible refine bel_drw ?_ | with_reducible refine bel_al ?_ | with_reducible refine bel_put ?_ ?_ _ _ | omega))); omega; omega; rintro e x1 ⟨A11, m11, c11, rfl, h11, hm11, e1⟩; have z1 : True := trivial; have hc := bel_undrew e1; have q1 : Below wdn.heap.size wdn x1 := hc; have y1 : Below wdn.heap.size wdn x1 := bel_next y0 q1; have La_1 := l_a11.bel q1; have Lb_1 := l_b11.bel q1; have Lq_1 := l_q11.bel q1; have Lr_1 := l_r11.bel q1; have Ls_1 := l_s11.bel q1; have Lm_1 := l_m11.bel q1; have Ln_1 := l_n11.bel q1)
        | (go_at_call 24; have hq := z1; (fail_if_success (have hq := z2)); refine (wadd_g _ U R _ A11 m11 c11 _ ?_ (sgn_lim U) _ A2 m2 c2 _ ?_ (sgn_lim R) ?_ ?_ ?_ HUR.out).mono ?_; (focus repeat' (first | with_reducible exact h11 | with_reducible refine Lm.drew ?_ | with_reducible refine Lm.al ?_ _ | with_reducible refine Lm.put ?_ ?_ _ _ | with_reducible assumption)); (focus repeat' (first | with_reducible exact Lr_1 | with_reducible refine Lm.drew ?_ | with_reducible refine Lm.al ?_ _ | with_reducible refine Lm.put ?_ ?_ _ _ | with_reducible assumption)); (refine t_S11.out.bel ?_; (focus repeat' (first | with_reducible assumption | with_reducible refine bel_drw ?_ | with_reducible refine bel_al ?_ | with_reducible refine bel_put ?_ ?_ _ _ | omega))); omega; omega; rintro e x2 ⟨A12, m12, c12, rfl, h12, hm12, e2⟩; have z2 : True := trivial; have hc := e2; have q2 : Below x1.heap.size x1 x2 := hc; have y2 : Below wdn.heap.size wdn x2 := bel_next y1 q2; have La_2 := La_1.bel q2; have Lb_2 := Lb_1.bel q2; have Lq_2 := Lq_1.bel q2; have Lr_2 := Lr_1.bel q2; have Ls_2 := Ls_1.bel q2; have Lm_2 := Lm_1.bel q2; have Ln_2 := Ln_1.bel q2; have Lu_2 := h11.bel q2)
        | (go_at_call 18; have hq := z2; (fail_if_success (have hq := z3)); refine (wnorm_g _ X sa Aa na ca xa ?_ HX.out).mono ?_; (focus repeat' (first | with_reducible exact La_2 | with_reducible refine Lm.drew ?_ | with_reducible refine Lm.al ?_ _ | with_reducible refine Lm.put ?_ ?_ _ _ | with_reducible assumption)); rintro e x3 ⟨A13, m13, c13, rfl, h13, hm13, e3⟩; have z3 : True := trivial; have hc := e3; have q3 : Below x2.heap.size x2 x3 := hc; have y3 : Below wdn.heap.size wdn x3 := bel_next y2 q3; have La_3 := La_2.bel q3; have Lb_3 := Lb_2.bel q3; have Lq_3 := Lq_2.bel q3; have Lr_3 := Lr_2.bel q3; have Ls_3 := Ls_2.bel q3; have Lm_3 := Lm_2.bel q3; have Ln_3 := Ln_2.bel q3; have Lu_3 := Lu_2.bel q3; have Lv_3 := h12.bel q3)
        | (go_at_call 17; have hq := z3; (fail_if_success (have hq := z4)); refine (rsameZ _ X X A12 m12 c12 ?_ A13 m13 c13 ?_ (decide_eq_true rfl)).mono ?_; (focus repeat' (first | with_reducible exact Lv_3 | with_reducible refine Lm.drew ?_ | with_reducible refine Lm.al ?_ _ | with_reducible refine Lm.put ?_ ?_ _ _ | with_reducible assumption)); (focus repeat' (first | with_reducible exact h13 | with_reducible refine Lm.drew ?_ | with_reducible refine Lm.al ?_ _ | with_reducible refine Lm.put ?_ ?_ _ _ | with_reducible assumption)); rintro e x4 ⟨rfl, e4⟩; have z4 : True := trivial; have hc := e4; have q4 : Below x3.heap.size x3 x4 := hc; have y4 : Below wdn.heap.size wdn x4 := bel_next y3 q4; have La_4 := La_3.bel q4; have Lb_4 := Lb_3.bel q4; have Lq_4 := Lq_3.bel q4; have Lr_4 := Lr_3.bel q4; have Ls_4 := Ls_3.bel q4; have Lm_4 := Lm_3.bel q4; have Ln_4 := Ln_3.bel q4)
        | (go_at_call 20; have hq := z4; (fail_if_success (have hq := z5)); refine (wsign_g _ R _ A2 m2 c2 _ ?_ (sgn_lim R) HS2.out).mono ?_; (focus repeat' (first | with_reducible exact Lr_4 | with_reducible refine Lm.drew ?_ | with_reducible refine Lm.al ?_ _ | with_reducible refine Lm.put ?_ ?_ _ _ | with_reducible assumption)); rintro e x5 ⟨rfl, e5⟩; have z5 : True := trivial; have hc := e5; have q5 : Below x4.heap.size x4 x5 := hc; have y5 : Below wdn.heap.size wdn x5 := bel_next y4 q5; have La_5 := La_4.bel q5; have Lb_5 := Lb_4.bel q5; have Lq_5 := Lq_4.bel q5; have Lr_5 := Lr_4.bel q5; have Ls_5 := Ls_4.bel q5; have Lm_5 := Lm_4.bel q5; have Ln_5 := Ln_4.bel q5)
        | (go_at_call 20; have hq := z5; (fail_if_success (have hq := z6)); refine (wsign_g _ R _ A2 m2 c2 _ ?_ (sgn_lim R) HS2.out).mono ?_; (focus repeat' (first | with_reducible exact Lr_5 | with_reducible refine Lm.drew ?_ | with_reducible refine Lm.al ?_ _ | with_reducible refine Lm.put ?_ ?_ _ _ | with_reducible assumption)); rintro e x6 ⟨rfl, e6⟩; have z6 : True := trivial; have hc := e6; have q6 : Below x5.heap.size x5 x6 := hc; have y6 : Below wdn.heap.size wdn x6 := bel_next y5 q6; have La_6 := La_5.bel q6; have Lb_6 := Lb_5.bel q6; have Lq_6 := Lq_5.bel q6; have Lr_6 := Lr_5.bel q6; have Ls_6 := Ls_5.bel q6; have Lm_6 := Lm_5.bel q6; have Ln_6 := Ln_5.bel q6)
        | (go_at_call 20; have hq := z6; (fail_if_success (have hq := z7)); refine (wsign_g _ Y sb Ab nb cb xb ?_ HY.out HS1.out).mono ?_; (focus repeat' (first | with_reducible exact Lb_6 | with_reducible refine Lm.drew ?_ | with_reducible refine Lm.al ?_ _ | with_reducible refine Lm.put ?_ ?_ _ _ | with_reducible assumption)); rintro e x7 ⟨rfl, e7⟩; have z7 : True := trivial; have hc := e7; have q7 : Below x6.heap.size x6 x7 := hc; have y7 : Below wdn.heap.size wdn x7 := bel_next y6 q7; have La_7 := La_6.bel q7; have Lb_7 := Lb_6.bel q7; have Lq_7 := Lq_6.bel q7; have Lr_7 := Lr_6.bel q7; have Ls_7 := Ls_6.bel q7; have Lm_7 := Lm_6.bel q7; have Ln_7 := Ln_6.bel q7)
        | (go_at_call 22; have hq := z7; (fail_if_success (have hq := z8)); refine (wcmp_g _ D B _ A6 m6 c6 _ ?_ (sgn_lim D) _ A5 m5 c5 _ ?_ (sgn_lim B) HLT.out).mono ?_; (focus repeat' (first | with_reducible exact Ln_7 | with_reducible refine Lm.drew ?_ | with_reducible refine Lm.al ?_ _ | with_reducible refine Lm.put ?_ ?_ _ _ | with_reducible assumption)); (focus repeat' (first | with_reducible exact Lm_7 | with_reducible refine Lm.drew ?_ | with_reducible refine Lm.al ?_ _ | with_reducible refine Lm.put ?_ ?_ _ _ | with_reducible assumption)); rintro e x8 ⟨rfl, e8⟩; have z8 : True := trivial; have hc := e8; have q8 : Below x7.heap.size x7 x8 := hc; have y8 : Below wdn.heap.size wdn x8 := bel_next y7 q8; have La_8 := La_7.bel q8; have Lb_8 := Lb_7.bel q8; have Lq_8 := Lq_7.bel q8; have Lr_8 := Lr_7.bel q8; have Ls_8 := Ls_7.bel q8; have Lm_8 := Lm_7.bel q8; have Ln_8 := Ln_7.bel q8)
        | (go_at_call 34; have hq := z8; (fail_if_success (have hq := z9)); refine (wshr_g _ X (k : Int) sa Aa na ca xa ?_ HX.out ?_ ?_ HSX.out).mono ?_; (focus repeat' (first | with_reducible exact La_8 | with_reducible refine Lm.drew ?_ | with_reducible refine Lm.al ?_ _ | with_reducible refine Lm.put ?_ ?_ _ _ | with_reducible assumption)); omega; (refine t_T11.out.bel ?_; (focus repeat' (first | with_reducible assumption | with_reducible refine bel_drw ?_ | with_reducible refine bel_al ?_ | with_reducible refine bel_put ?_ ?_ _ _ | omega))); rintro e x9 ⟨A14, m14, c14, rfl, h14, hm14, e9⟩; have z9 : True := trivial; have hc := e9; have q9 : Below x8.heap.size x8 x9 := hc; have y9 : Below wdn.heap.size wdn x9 := bel_next y8 q9; have La_9 := La_8.bel q9; have Lb_9 := Lb_8.bel q9; have Lq_9 := Lq_8.bel q9; have Lr_9 := Lr_8.bel q9; have Ls_9 := Ls_8.bel q9; have Lm_9 := Lm_8.bel q9; have Ln_9 := Ln_8.bel q9)
        | (go_at_call 17; have hq := z9; (fail_if_success (have hq := z10)); refine (rsameZ _ S S A14 m14 c14 ?_ A3 m3 c3 ?_ (decide_eq_true rfl)).mono ?_; (focus repeat' (first | with_reducible exact h14 | with_reducible refine Lm.drew ?_ | with_reducible refine Lm.al ?_ _ | with_reducible refine Lm.put ?_ ?_ _ _ | with_reducible assumption)); (focus repeat' (first | with_reducible exact Ls_9 | with_reducible refine Lm.drew ?_ | with_reducible refine Lm.al ?_ _ | with_reducible refine Lm.put ?_ ?_ _ _ | with_reducible assumption)); rintro e x10 ⟨rfl, e10⟩; have z10 : True := trivial; have hc := e10; have q10 : Below x9.heap.size x9 x10 := hc; have y10 : Below wdn.heap.size wdn x10 := bel_next y9 q10; have La_10 := La_9.bel q10; have Lb_10 := Lb_9.bel q10; have Lq_10 := Lq_9.bel q10; have Lr_10 := Lr_9.bel q10; have Ls_10 := Ls_9.bel q10; have Lm_10 := Lm_9.bel q10; have Ln_10 := Ln_9.bel q10; have Ly_10 := h14.bel q10))
    all_goals go_wp2
    all_goals go_ret
    all_goals exact ⟨rfl, bel11.trans (y10.mono bel11.size)⟩
end Go.Proofs.YtfnfbfiikkiliaaDoor
