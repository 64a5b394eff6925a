/- WholeTells: the walk. -/
import Derived.Test.YtfnfbfiikkiliaaDoorRM
import Derived.Test.YtfnfbfiikkiliaaDoorRQ
import Derived.Test.YtfnfbfiikkiliaaDoorRT
import Derived.Test.YtfnfbfiikkiliaaDoorRP
import Derived.Test.YtfnfbfiikkiliaaDoorRS
import Derived.Deep.RegionHeld3
namespace Go.Proofs.YtfnfbfiikkiliaaDoor
open Go.RowKit

theorem wis_g (w : World) (sa : Bool) (Aa : Option Addr) (na ca : Nat) (xa : List Nat) (La : Lm w Aa na ca xa) {t : Bool} (ht : (decide (lim (val xa) = xa) && !(sa && decide (na = 0))) = t) :
    Calls Tryd.prog 15 #[.agg #[.bool sa, .slice Aa na ca]] w fun e w' => e = .returned (.bool t) ∧ Below w.heap.size w w' := by
  subst ht; exact wis_any w sa Aa na ca xa La
set_option maxRecDepth 100000 in
set_option maxHeartbeats 40000000 in
theorem wtells_few (w : World) (sa : Bool) (Aa : Option Addr) (na ca : Nat) (xa : List Nat) (La : Lm w Aa na ca xa) (fa : na ≤ 24) (sb : Bool) (Ab : Option Addr) (nb cb : Nat) (xb : List Nat) (Lb : Lm w Ab nb cb xb) (fb : nb ≤ 24) (hT : Tab w) (hS : SumsT w) (hP : ProductsT w) (hF : FarthestT w) :
    Calls Tryd.prog 3 #[.agg #[.bool sa, .slice Aa na ca], .agg #[.bool sb, .slice Ab nb cb]] w fun e w' => e = .returned (.bool true) ∧ Below w.heap.size w w' := by
  obtain ⟨X, hX⟩ : ∃ V0 : Int, sgn sa (val xa) = V0 := ⟨_, rfl⟩
  have HX := Lib.hid hX
  clear hX
  obtain ⟨Y, hY⟩ : ∃ V0 : Int, sgn sb (val xb) = V0 := ⟨_, rfl⟩
  have HY := Lib.hid hY
  clear hY
  obtain ⟨SS, hSS⟩ : ∃ V0 : Int, X + Y = V0 := ⟨_, rfl⟩
  have HSS := Lib.hid hSS
  clear hSS
  obtain ⟨DD, hDD⟩ : ∃ V0 : Int, X - Y = V0 := ⟨_, rfl⟩
  have HDD := Lib.hid hDD
  clear hDD
  obtain ⟨MM, hMM⟩ : ∃ V0 : Int, X * Y = V0 := ⟨_, rfl⟩
  have HMM := Lib.hid hMM
  clear hMM
  obtain ⟨NN, hNN⟩ : ∃ V0 : Int, -X = V0 := ⟨_, rfl⟩
  have HNN := Lib.hid hNN
  clear hNN
  obtain ⟨QQ, hQQ⟩ : ∃ V0 : Int, dq X Y = V0 := ⟨_, rfl⟩
  have HQQ := Lib.hid hQQ
  clear hQQ
  obtain ⟨RR, hRR⟩ : ∃ V0 : Int, dr X Y = V0 := ⟨_, rfl⟩
  have HRR := Lib.hid hRR
  clear hRR
  obtain ⟨σ, hσ⟩ : ∃ V0 : Int, sg X = V0 := ⟨_, rfl⟩
  have Hσ := Lib.hid hσ
  clear hσ
  obtain ⟨ρ, hρ⟩ : ∃ V0 : Int, sg (X - Y) = V0 := ⟨_, rfl⟩
  have Hρ := Lib.hid hρ
  clear hρ
  obtain ⟨t0, ht0⟩ : ∃ t : Bool, decide (Y ≠ 0) = t := ⟨_, rfl⟩
  obtain ⟨t1, ht1⟩ : ∃ t : Bool, (decide (lim (val xa) = xa) && !(sa && decide (na = 0))) = t := ⟨_, rfl⟩
  have Ht0 := Lib.hid ht0
  have Ht1 := Lib.hid ht1
  have e0 : (t0 == t0) = true := beq_self_eq_true t0
  have e1 : (t1 == t1) = true := beq_self_eq_true t1
  have e2 : (σ == σ) = true := beq_self_eq_true σ
  have e3 : (ρ == ρ) = true := beq_self_eq_true ρ
  have Hd := Lib.hid (And.intro (decide_eq_true (show (na : Int) ≤ 24 by omega)) (decide_eq_true (show (nb : Int) ≤ 24 by omega)))
  clear ht0 ht1
  have HTT := Lib.hid hT
  have HTS := Lib.hid hS
  have HTP := Lib.hid hP
  have HTF := Lib.hid hF
  clear hT hS hP hF
  go_enter Tryd.func3, Tryd.ntmps3
  go_wp2_with fail
  obtain ⟨ga, hga⟩ : ∃ g, g = w.heap.size := ⟨_, rfl⟩
  obtain ⟨gb, hgb⟩ : ∃ g, g = w.heap.size + 1 := ⟨_, rfl⟩
  obtain ⟨w1, hw1⟩ : ∃ v, v = ((w.alloc (.cells #[.bool sa, .slice Aa na ca] 24)).alloc (.cells #[.bool sb, .slice Ab nb cb] 24)) := ⟨_, rfl⟩
  have bel1 : Below w.heap.size w w1 := by rw [hw1]; exact bel_alloc2 _ _ _
  have b_a1 : Box w1 ga sa Aa na ca := by rw [hw1, hga]; exact ((Box.new _ _ _ _ _).alloc _)
  have b_b1 : Box w1 gb sb Ab nb cb := by rw [hw1, hgb]; exact (Box.at1 _ _ _ _ _ _)
  rw [← hw1, ← hgb, ← hga]
  have hgs : w.heap.size ≤ ga ∧ w.heap.size ≤ gb ∧ ga ≠ gb ∧ gb ≠ ga := by omega
  have HG := Lib.hid hgs
  clear hw1 hgs hga hgb
  have l_a1 := La.bel bel1
  have l_b1 := Lb.bel bel1
  have t_T1 := Lib.hid (HTT.out.bel bel1)
  have t_S1 := Lib.hid (HTS.out.bel bel1)
  have t_P1 := Lib.hid (HTP.out.bel bel1)
  have t_F1 := Lib.hid (HTF.out.bel bel1)
  have c_a0_1 := b_a1.c0
  have c_a1_1 := b_a1.c1
  have c_b0_1 := b_b1.c0
  have c_b1_1 := b_b1.c1
  have cc := Lib.hid (known2_any w1 t_T1.out t_P1.out t_F1.out)
  refine cc.out.mono ?_
  clear cc
  rintro e v2 ⟨rfl, kb2⟩
  have b_a2 := b_a1.bel kb2
  have b_b2 := b_b1.bel kb2
  have l_a2 := l_a1.bel kb2
  have l_b2 := l_b1.bel kb2
  have t_T2 := Lib.hid (t_T1.out.bel kb2)
  have t_S2 := Lib.hid (t_S1.out.bel kb2)
  have t_P2 := Lib.hid (t_P1.out.bel kb2)
  have t_F2 := Lib.hid (t_F1.out.bel kb2)
  have bel2 := bel1.trans (kb2.mono bel1.size)
  have c_a0_2 := b_a2.c0
  have c_a1_2 := b_a2.c1
  have c_b0_2 := b_b2.c0
  have c_b1_2 := b_b2.c1
  clear kb2 b_a1 c_a0_1 c_a1_1 b_b1 c_b0_1 c_b1_1 l_a1 l_b1 t_T1 t_S1 t_P1 t_F1 bel1
  go_wp2_with fail
  have cc := Lib.hid (few2_any v2 sa Aa na ca Hd.out.1)
  refine cc.out.mono ?_
  clear cc
  rintro e v3 ⟨rfl, kb3⟩
  have b_a3 := b_a2.bel kb3
  have b_b3 := b_b2.bel kb3
  have l_a3 := l_a2.bel kb3
  have l_b3 := l_b2.bel kb3
  have t_T3 := Lib.hid (t_T2.out.bel kb3)
  have t_S3 := Lib.hid (t_S2.out.bel kb3)
  have t_P3 := Lib.hid (t_P2.out.bel kb3)
  have t_F3 := Lib.hid (t_F2.out.bel kb3)
  have bel3 := bel2.trans (kb3.mono bel2.size)
  have c_a0_3 := b_a3.c0
  have c_a1_3 := b_a3.c1
  have c_b0_3 := b_b3.c0
  have c_b1_3 := b_b3.c1
  clear kb3 b_a2 c_a0_2 c_a1_2 b_b2 c_b0_2 c_b1_2 l_a2 l_b2 t_T2 t_S2 t_P2 t_F2 bel2
  go_wp2_with fail
  have cc := Lib.hid (few2_any v3 sb Ab nb cb Hd.out.2)
  refine cc.out.mono ?_
  clear cc
  rintro e v4 ⟨rfl, kb4⟩
  have b_a4 := b_a3.bel kb4
  have b_b4 := b_b3.bel kb4
  have l_a4 := l_a3.bel kb4
  have l_b4 := l_b3.bel kb4
  have t_T4 := Lib.hid (t_T3.out.bel kb4)
  have t_S4 := Lib.hid (t_S3.out.bel kb4)
  have t_P4 := Lib.hid (t_P3.out.bel kb4)
  have t_F4 := Lib.hid (t_F3.out.bel kb4)
  have bel4 := bel3.trans (kb4.mono bel3.size)
  have c_a0_4 := b_a4.c0
  have c_a1_4 := b_a4.c1
  have c_b0_4 := b_b4.c0
  have c_b1_4 := b_b4.c1
  clear kb4 b_a3 c_a0_3 c_a1_3 b_b3 c_b0_3 c_b1_3 l_a3 l_b3 t_T3 t_S3 t_P3 t_F3 bel3
  go_wp2_with fail
  have cc := Lib.hid (wdiv_g v4 X Y sa Aa na ca xa l_a4 HX.out sb Ab nb cb xb l_b4 HY.out t_P4.out (by omega) (by omega) Ht0.out HQQ.out HRR.out)
  refine cc.out.mono ?_
  clear cc
  rintro e v5 ⟨A1, m1, c1, A2, m2, c2, rfl, h1, h2, hm1, hm2, kb5⟩
  have b_a5 := b_a4.bel kb5
  have b_b5 := b_b4.bel kb5
  have l_a5 := l_a4.bel kb5
  have l_b5 := l_b4.bel kb5
  have t_T5 := Lib.hid (t_T4.out.bel kb5)
  have t_S5 := Lib.hid (t_S4.out.bel kb5)
  have t_P5 := Lib.hid (t_P4.out.bel kb5)
  have t_F5 := Lib.hid (t_F4.out.bel kb5)
  have bel5 := bel4.trans (kb5.mono bel4.size)
  have c_a0_5 := b_a5.c0
  have c_a1_5 := b_a5.c1
  have c_b0_5 := b_b5.c0
  have c_b1_5 := b_b5.c1
  clear kb5 b_a4 c_a0_4 c_a1_4 b_b4 c_b0_4 c_b1_4 l_a4 l_b4 t_T4 t_S4 t_P4 t_F4 bel4
  obtain ⟨gq, hgq⟩ : ∃ g, g = v5.heap.size := ⟨_, rfl⟩
  obtain ⟨gr, hgr⟩ : ∃ g, g = v5.heap.size + 1 := ⟨_, rfl⟩
  obtain ⟨wdq, hwd⟩ : ∃ v, v = (v5.alloc (.cells #[.bool (decide (QQ < 0)), .slice A1 m1 c1] 24)).alloc (.cells #[.bool (decide (RR < 0)), .slice A2 m2 c2] 24) := ⟨_, rfl⟩
  have b1 : Box wdq gq (decide (QQ < 0)) A1 m1 c1 := by rw [hwd, hgq]; exact (Box.new _ _ _ _ _).alloc _
  have b2 : Box wdq gr (decide (RR < 0)) A2 m2 c2 := by rw [hwd, hgr]; exact Box.at1 _ _ _ _ _ _
  have d10 := b1.c0
  have d11 := b1.c1
  have d20 := b2.c0
  have d21 := b2.c1
  rw [hwd, hgq] at d10 d11
  rw [hwd, hgr] at d20 d21
  have hbd : Below v5.heap.size v5 wdq := by rw [hwd]; exact bel_alloc2 _ _ _
  have ka0 := ((b_a5.alloc (.cells #[.bool (decide (QQ < 0)), .slice A1 m1 c1] 24)).alloc (.cells #[.bool (decide (RR < 0)), .slice A2 m2 c2] 24)).c0
  have ka1 := ((b_a5.alloc (.cells #[.bool (decide (QQ < 0)), .slice A1 m1 c1] 24)).alloc (.cells #[.bool (decide (RR < 0)), .slice A2 m2 c2] 24)).c1
  have kb0 := ((b_b5.alloc (.cells #[.bool (decide (QQ < 0)), .slice A1 m1 c1] 24)).alloc (.cells #[.bool (decide (RR < 0)), .slice A2 m2 c2] 24)).c0
  have kb1 := ((b_b5.alloc (.cells #[.bool (decide (QQ < 0)), .slice A1 m1 c1] 24)).alloc (.cells #[.bool (decide (RR < 0)), .slice A2 m2 c2] 24)).c1
  go_wp2_with fail
  rw [← hwd, ← hgr, ← hgq]
  clear hwd hgq hgr d10 d11 d20 d21 ka0 ka1 kb0 kb1
  have b_a6 := b_a5.bel hbd
  have b_b6 := b_b5.bel hbd
  have l_a6 := l_a5.bel hbd
  have l_b6 := l_b5.bel hbd
  have l_q6 := h1.bel hbd
  have l_r6 := h2.bel hbd
  have t_T6 := Lib.hid (t_T5.out.bel hbd)
  have t_S6 := Lib.hid (t_S5.out.bel hbd)
  have t_P6 := Lib.hid (t_P5.out.bel hbd)
  have t_F6 := Lib.hid (t_F5.out.bel hbd)
  have bel6 := bel5.trans (hbd.mono bel5.size)
  have c_a0_6 := b_a6.c0
  have c_a1_6 := b_a6.c1
  have c_b0_6 := b_b6.c0
  have c_b1_6 := b_b6.c1
  clear hbd b_a5 c_a0_5 c_a1_5 b_b5 c_b0_5 c_b1_5 l_a5 l_b5 h1 h2 t_T5 t_S5 t_P5 t_F5 bel5
  have b_q6 := b1
  have c_q0_6 := b_q6.c0
  have c_q1_6 := b_q6.c1
  have b_r6 := b2
  have c_r0_6 := b_r6.c0
  have c_r1_6 := b_r6.c1
  clear b1 b2
  have cc := Lib.hid (rdivI_g wdq X Y sa Aa na ca xa l_a6 HX.out sb Ab nb cb xb l_b6 HY.out (by omega) (by omega) Ht0.out HQQ.out HRR.out)
  refine cc.out.mono ?_
  clear cc
  rintro e v7 ⟨A3, m3, c3, A4, m4, c4, rfl, h3, h4, hm3, hm4, kb7⟩
  have b_a7 := b_a6.bel kb7
  have b_b7 := b_b6.bel kb7
  have b_q7 := b_q6.bel kb7
  have b_r7 := b_r6.bel kb7
  have l_a7 := l_a6.bel kb7
  have l_b7 := l_b6.bel kb7
  have l_q7 := l_q6.bel kb7
  have l_r7 := l_r6.bel kb7
  have t_T7 := Lib.hid (t_T6.out.bel kb7)
  have t_S7 := Lib.hid (t_S6.out.bel kb7)
  have t_P7 := Lib.hid (t_P6.out.bel kb7)
  have t_F7 := Lib.hid (t_F6.out.bel kb7)
  have bel7 := bel6.trans (kb7.mono bel6.size)
  have c_a0_7 := b_a7.c0
  have c_a1_7 := b_a7.c1
  have c_b0_7 := b_b7.c0
  have c_b1_7 := b_b7.c1
  have c_q0_7 := b_q7.c0
  have c_q1_7 := b_q7.c1
  have c_r0_7 := b_r7.c0
  have c_r1_7 := b_r7.c1
  clear kb7 b_a6 c_a0_6 c_a1_6 b_b6 c_b0_6 c_b1_6 b_q6 c_q0_6 c_q1_6 b_r6 c_r0_6 c_r1_6 l_a6 l_b6 l_q6 l_r6 t_T6 t_S6 t_P6 t_F6 bel6
  obtain ⟨gs, hgs⟩ : ∃ g, g = v7.heap.size := ⟨_, rfl⟩
  obtain ⟨gt, hgt⟩ : ∃ g, g = v7.heap.size + 1 := ⟨_, rfl⟩
  obtain ⟨wds, hwd⟩ : ∃ v, v = (v7.alloc (.cells #[.bool (decide (QQ < 0)), .slice A3 m3 c3] 24)).alloc (.cells #[.bool (decide (RR < 0)), .slice A4 m4 c4] 24) := ⟨_, rfl⟩
  have b1 : Box wds gs (decide (QQ < 0)) A3 m3 c3 := by rw [hwd, hgs]; exact (Box.new _ _ _ _ _).alloc _
  have b2 : Box wds gt (decide (RR < 0)) A4 m4 c4 := by rw [hwd, hgt]; exact Box.at1 _ _ _ _ _ _
  have d10 := b1.c0
  have d11 := b1.c1
  have d20 := b2.c0
  have d21 := b2.c1
  rw [hwd, hgs] at d10 d11
  rw [hwd, hgt] at d20 d21
  have hbd : Below v7.heap.size v7 wds := by rw [hwd]; exact bel_alloc2 _ _ _
  have ka0 := ((b_a7.alloc (.cells #[.bool (decide (QQ < 0)), .slice A3 m3 c3] 24)).alloc (.cells #[.bool (decide (RR < 0)), .slice A4 m4 c4] 24)).c0
  have ka1 := ((b_a7.alloc (.cells #[.bool (decide (QQ < 0)), .slice A3 m3 c3] 24)).alloc (.cells #[.bool (decide (RR < 0)), .slice A4 m4 c4] 24)).c1
  have kb0 := ((b_b7.alloc (.cells #[.bool (decide (QQ < 0)), .slice A3 m3 c3] 24)).alloc (.cells #[.bool (decide (RR < 0)), .slice A4 m4 c4] 24)).c0
  have kb1 := ((b_b7.alloc (.cells #[.bool (decide (QQ < 0)), .slice A3 m3 c3] 24)).alloc (.cells #[.bool (decide (RR < 0)), .slice A4 m4 c4] 24)).c1
  have kq0 := ((b_q7.alloc (.cells #[.bool (decide (QQ < 0)), .slice A3 m3 c3] 24)).alloc (.cells #[.bool (decide (RR < 0)), .slice A4 m4 c4] 24)).c0
  have kq1 := ((b_q7.alloc (.cells #[.bool (decide (QQ < 0)), .slice A3 m3 c3] 24)).alloc (.cells #[.bool (decide (RR < 0)), .slice A4 m4 c4] 24)).c1
  have kr0 := ((b_r7.alloc (.cells #[.bool (decide (QQ < 0)), .slice A3 m3 c3] 24)).alloc (.cells #[.bool (decide (RR < 0)), .slice A4 m4 c4] 24)).c0
  have kr1 := ((b_r7.alloc (.cells #[.bool (decide (QQ < 0)), .slice A3 m3 c3] 24)).alloc (.cells #[.bool (decide (RR < 0)), .slice A4 m4 c4] 24)).c1
  go_wp2_with fail
  rw [← hwd, ← hgt, ← hgs]
  clear hwd hgs hgt d10 d11 d20 d21 ka0 ka1 kb0 kb1 kq0 kq1 kr0 kr1
  have b_a8 := b_a7.bel hbd
  have b_b8 := b_b7.bel hbd
  have b_q8 := b_q7.bel hbd
  have b_r8 := b_r7.bel hbd
  have l_a8 := l_a7.bel hbd
  have l_b8 := l_b7.bel hbd
  have l_q8 := l_q7.bel hbd
  have l_r8 := l_r7.bel hbd
  have l_s8 := h3.bel hbd
  have l_t8 := h4.bel hbd
  have t_T8 := Lib.hid (t_T7.out.bel hbd)
  have t_S8 := Lib.hid (t_S7.out.bel hbd)
  have t_P8 := Lib.hid (t_P7.out.bel hbd)
  have t_F8 := Lib.hid (t_F7.out.bel hbd)
  have bel8 := bel7.trans (hbd.mono bel7.size)
  have c_a0_8 := b_a8.c0
  have c_a1_8 := b_a8.c1
  have c_b0_8 := b_b8.c0
  have c_b1_8 := b_b8.c1
  have c_q0_8 := b_q8.c0
  have c_q1_8 := b_q8.c1
  have c_r0_8 := b_r8.c0
  have c_r1_8 := b_r8.c1
  clear hbd b_a7 c_a0_7 c_a1_7 b_b7 c_b0_7 c_b1_7 b_q7 c_q0_7 c_q1_7 b_r7 c_r0_7 c_r1_7 l_a7 l_b7 l_q7 l_r7 h3 h4 t_T7 t_S7 t_P7 t_F7 bel7
  have b_s8 := b1
  have c_s0_8 := b_s8.c0
  have c_s1_8 := b_s8.c1
  have b_t8 := b2
  have c_t0_8 := b_t8.c0
  have c_t1_8 := b_t8.c1
  clear b1 b2
  simp only [List.append]
  have hS0 := And.intro (held0 b_a8) ( And.intro (held0 b_b8) ( And.intro (held0 b_q8) ( And.intro (held0 b_r8) ( And.intro (held0 b_s8) (held0 b_t8)))))
  have y0 : Below wds.heap.size wds wds := Below.refl _ _
  go_region_held3 (fun w' => (Box w' ga sa Aa na ca ∧ w'.cell? ⟨ga, 0, none⟩ = some (.bool sa) ∧ w'.cell? ⟨ga, 1, none⟩ = some (.slice Aa na ca)) ∧ (Box w' gb sb Ab nb cb ∧ w'.cell? ⟨gb, 0, none⟩ = some (.bool sb) ∧ w'.cell? ⟨gb, 1, none⟩ = some (.slice Ab nb cb)) ∧ (Box w' gq (decide (QQ < 0)) A1 m1 c1 ∧ w'.cell? ⟨gq, 0, none⟩ = some (.bool (decide (QQ < 0))) ∧ w'.cell? ⟨gq, 1, none⟩ = some (.slice A1 m1 c1)) ∧ (Box w' gr (decide (RR < 0)) A2 m2 c2 ∧ w'.cell? ⟨gr, 0, none⟩ = some (.bool (decide (RR < 0))) ∧ w'.cell? ⟨gr, 1, none⟩ = some (.slice A2 m2 c2)) ∧ (Box w' gs (decide (QQ < 0)) A3 m3 c3 ∧ w'.cell? ⟨gs, 0, none⟩ = some (.bool (decide (QQ < 0))) ∧ w'.cell? ⟨gs, 1, none⟩ = some (.slice A3 m3 c3)) ∧ (Box w' gt (decide (RR < 0)) A4 m4 c4 ∧ w'.cell? ⟨gt, 0, none⟩ = some (.bool (decide (RR < 0))) ∧ w'.cell? ⟨gt, 1, none⟩ = some (.slice A4 m4 c4)))
    (first
      | exact ⟨held0 (w := wds.drew) b_a8, held0 (w := wds.drew) b_b8, held0 (w := wds.drew) b_q8, held0 (w := wds.drew) b_r8, held0 (w := wds.drew) b_s8, held0 (w := wds.drew) b_t8⟩
      | with_reducible exact keep60 (by assumption) hS0)
    (first
      | (go_at_call 15; (fail_if_success (have hq := z1)); refine (wis_g _ sa Aa na ca xa ?_ Ht1.out).mono ?_; exact (Lm.drew l_a8); rintro e x1 ⟨rfl, e1⟩; have z1 : True := trivial; have hc := bel_undrew e1; have y1 : Below wds.heap.size wds x1 := (by exact (bel_next (y0) hc)); have La_1 := (by exact (Lm.bel (l_a8) hc) : Lm x1 Aa na ca xa); have Lb_1 := (by exact (Lm.bel (l_b8) hc) : Lm x1 Ab nb cb xb); have Lq_1 := (by exact (Lm.bel (l_q8) hc) : Lm x1 A1 m1 c1 (lim QQ.natAbs)); have Lr_1 := (by exact (Lm.bel (l_r8) hc) : Lm x1 A2 m2 c2 (lim RR.natAbs)); have Ls_1 := (by exact (Lm.bel (l_s8) hc) : Lm x1 A3 m3 c3 (lim QQ.natAbs)); have Lt_1 := (by exact (Lm.bel (l_t8) hc) : Lm x1 A4 m4 c4 (lim RR.natAbs)))
      | (go_at_call 16; have hq := z1; (fail_if_success (have hq := z2)); refine (risI_any _ sa Aa na ca xa ?_ Ht1.out).mono ?_; exact (La_1); rintro e x2 ⟨rfl, e2⟩; have z2 : True := trivial; have y2 : Below wds.heap.size wds x2 := (by exact (bel_next (y1) e2)); have La_2 := (by exact (Lm.bel (La_1) e2) : Lm x2 Aa na ca xa); have Lb_2 := (by exact (Lm.bel (Lb_1) e2) : Lm x2 Ab nb cb xb); have Lq_2 := (by exact (Lm.bel (Lq_1) e2) : Lm x2 A1 m1 c1 (lim QQ.natAbs)); have Lr_2 := (by exact (Lm.bel (Lr_1) e2) : Lm x2 A2 m2 c2 (lim RR.natAbs)); have Ls_2 := (by exact (Lm.bel (Ls_1) e2) : Lm x2 A3 m3 c3 (lim QQ.natAbs)); have Lt_2 := (by exact (Lm.bel (Lt_1) e2) : Lm x2 A4 m4 c4 (lim RR.natAbs)))
      | (go_at_call 18; have hq := z2; (fail_if_success (have hq := z3)); refine (wnorm_g _ X sa Aa na ca xa ?_ HX.out).mono ?_; exact (La_2); rintro e x3 ⟨A10, m10, c10, rfl, h10, hm10, e3⟩; have z3 : True := trivial; have y3 : Below wds.heap.size wds x3 := (by exact (bel_next (y2) e3)); have La_3 := (by exact (Lm.bel (La_2) e3) : Lm x3 Aa na ca xa); have Lb_3 := (by exact (Lm.bel (Lb_2) e3) : Lm x3 Ab nb cb xb); have Lq_3 := (by exact (Lm.bel (Lq_2) e3) : Lm x3 A1 m1 c1 (lim QQ.natAbs)); have Lr_3 := (by exact (Lm.bel (Lr_2) e3) : Lm x3 A2 m2 c2 (lim RR.natAbs)); have Ls_3 := (by exact (Lm.bel (Ls_2) e3) : Lm x3 A3 m3 c3 (lim QQ.natAbs)); have Lt_3 := (by exact (Lm.bel (Lt_2) e3) : Lm x3 A4 m4 c4 (lim RR.natAbs)))
      | (go_at_call 19; have hq := z3; (fail_if_success (have hq := z4)); refine (rnorm_g _ X sa Aa na ca xa ?_ HX.out).mono ?_; exact (La_3); rintro e x4 ⟨A11, m11, c11, rfl, h11, hm11, e4⟩; have z4 : True := trivial; have y4 : Below wds.heap.size wds x4 := (by exact (bel_next (y3) e4)); have La_4 := (by exact (Lm.bel (La_3) e4) : Lm x4 Aa na ca xa); have Lb_4 := (by exact (Lm.bel (Lb_3) e4) : Lm x4 Ab nb cb xb); have Lq_4 := (by exact (Lm.bel (Lq_3) e4) : Lm x4 A1 m1 c1 (lim QQ.natAbs)); have Lr_4 := (by exact (Lm.bel (Lr_3) e4) : Lm x4 A2 m2 c2 (lim RR.natAbs)); have Ls_4 := (by exact (Lm.bel (Ls_3) e4) : Lm x4 A3 m3 c3 (lim QQ.natAbs)); have Lt_4 := (by exact (Lm.bel (Lt_3) e4) : Lm x4 A4 m4 c4 (lim RR.natAbs)); have Lr_u_4 := (by exact (Lm.bel (h10) e4) : Lm x4 A10 m10 c10 (lim X.natAbs)))
      | (go_at_call 17; have hq := z4; (fail_if_success (have hq := z5)); refine (rsameZ _ X X A10 m10 c10 ?_ A11 m11 c11 ?_ (decide_eq_true rfl)).mono ?_; exact (Lr_u_4); exact (h11); rintro e x5 ⟨rfl, e5⟩; have z5 : True := trivial; have y5 : Below wds.heap.size wds x5 := (by exact (bel_next (y4) e5)); have La_5 := (by exact (Lm.bel (La_4) e5) : Lm x5 Aa na ca xa); have Lb_5 := (by exact (Lm.bel (Lb_4) e5) : Lm x5 Ab nb cb xb); have Lq_5 := (by exact (Lm.bel (Lq_4) e5) : Lm x5 A1 m1 c1 (lim QQ.natAbs)); have Lr_5 := (by exact (Lm.bel (Lr_4) e5) : Lm x5 A2 m2 c2 (lim RR.natAbs)); have Ls_5 := (by exact (Lm.bel (Ls_4) e5) : Lm x5 A3 m3 c3 (lim QQ.natAbs)); have Lt_5 := (by exact (Lm.bel (Lt_4) e5) : Lm x5 A4 m4 c4 (lim RR.natAbs)))
      | (go_at_call 20; have hq := z5; (fail_if_success (have hq := z6)); refine (wsign_g _ X sa Aa na ca xa ?_ HX.out Hσ.out).mono ?_; exact (La_5); rintro e x6 ⟨rfl, e6⟩; have z6 : True := trivial; have y6 : Below wds.heap.size wds x6 := (by exact (bel_next (y5) e6)); have La_6 := (by exact (Lm.bel (La_5) e6) : Lm x6 Aa na ca xa); have Lb_6 := (by exact (Lm.bel (Lb_5) e6) : Lm x6 Ab nb cb xb); have Lq_6 := (by exact (Lm.bel (Lq_5) e6) : Lm x6 A1 m1 c1 (lim QQ.natAbs)); have Lr_6 := (by exact (Lm.bel (Lr_5) e6) : Lm x6 A2 m2 c2 (lim RR.natAbs)); have Ls_6 := (by exact (Lm.bel (Ls_5) e6) : Lm x6 A3 m3 c3 (lim QQ.natAbs)); have Lt_6 := (by exact (Lm.bel (Lt_5) e6) : Lm x6 A4 m4 c4 (lim RR.natAbs)))
      | (go_at_call 21; have hq := z6; (fail_if_success (have hq := z7)); refine (rsign_g _ X sa Aa na ca xa ?_ HX.out Hσ.out).mono ?_; exact (La_6); rintro e x7 ⟨rfl, e7⟩; have z7 : True := trivial; have y7 : Below wds.heap.size wds x7 := (by exact (bel_next (y6) e7)); have La_7 := (by exact (Lm.bel (La_6) e7) : Lm x7 Aa na ca xa); have Lb_7 := (by exact (Lm.bel (Lb_6) e7) : Lm x7 Ab nb cb xb); have Lq_7 := (by exact (Lm.bel (Lq_6) e7) : Lm x7 A1 m1 c1 (lim QQ.natAbs)); have Lr_7 := (by exact (Lm.bel (Lr_6) e7) : Lm x7 A2 m2 c2 (lim RR.natAbs)); have Ls_7 := (by exact (Lm.bel (Ls_6) e7) : Lm x7 A3 m3 c3 (lim QQ.natAbs)); have Lt_7 := (by exact (Lm.bel (Lt_6) e7) : Lm x7 A4 m4 c4 (lim RR.natAbs)))
      | (go_at_call 22; have hq := z7; (fail_if_success (have hq := z8)); refine (wcmp_g _ X Y sa Aa na ca xa ?_ HX.out sb Ab nb cb xb ?_ HY.out Hρ.out).mono ?_; exact (La_7); exact (Lb_7); rintro e x8 ⟨rfl, e8⟩; have z8 : True := trivial; have y8 : Below wds.heap.size wds x8 := (by exact (bel_next (y7) e8)); have La_8 := (by exact (Lm.bel (La_7) e8) : Lm x8 Aa na ca xa); have Lb_8 := (by exact (Lm.bel (Lb_7) e8) : Lm x8 Ab nb cb xb); have Lq_8 := (by exact (Lm.bel (Lq_7) e8) : Lm x8 A1 m1 c1 (lim QQ.natAbs)); have Lr_8 := (by exact (Lm.bel (Lr_7) e8) : Lm x8 A2 m2 c2 (lim RR.natAbs)); have Ls_8 := (by exact (Lm.bel (Ls_7) e8) : Lm x8 A3 m3 c3 (lim QQ.natAbs)); have Lt_8 := (by exact (Lm.bel (Lt_7) e8) : Lm x8 A4 m4 c4 (lim RR.natAbs)))
      | (go_at_call 23; have hq := z8; (fail_if_success (have hq := z9)); refine (rcmpI_g _ X Y sa Aa na ca xa ?_ HX.out sb Ab nb cb xb ?_ HY.out ?_ ?_ Hρ.out).mono ?_; exact (La_8); exact (Lb_8); omega; omega; rintro e x9 ⟨rfl, e9⟩; have z9 : True := trivial; have y9 : Below wds.heap.size wds x9 := (by exact (bel_next (y8) e9)); have La_9 := (by exact (Lm.bel (La_8) e9) : Lm x9 Aa na ca xa); have Lb_9 := (by exact (Lm.bel (Lb_8) e9) : Lm x9 Ab nb cb xb); have Lq_9 := (by exact (Lm.bel (Lq_8) e9) : Lm x9 A1 m1 c1 (lim QQ.natAbs)); have Lr_9 := (by exact (Lm.bel (Lr_8) e9) : Lm x9 A2 m2 c2 (lim RR.natAbs)); have Ls_9 := (by exact (Lm.bel (Ls_8) e9) : Lm x9 A3 m3 c3 (lim QQ.natAbs)); have Lt_9 := (by exact (Lm.bel (Lt_8) e9) : Lm x9 A4 m4 c4 (lim RR.natAbs)))
      | (go_at_call 24; have hq := z9; (fail_if_success (have hq := z10)); refine (wadd_g _ X Y sa Aa na ca xa ?_ HX.out sb Ab nb cb xb ?_ HY.out ?_ ?_ ?_ HSS.out).mono ?_; exact (La_9); exact (Lb_9); exact (t_S8.out.bel (y9)); omega; omega; rintro e x10 ⟨A12, m12, c12, rfl, h12, hm12, e10⟩; have z10 : True := trivial; have y10 : Below wds.heap.size wds x10 := (by exact (bel_next (y9) e10)); have La_10 := (by exact (Lm.bel (La_9) e10) : Lm x10 Aa na ca xa); have Lb_10 := (by exact (Lm.bel (Lb_9) e10) : Lm x10 Ab nb cb xb); have Lq_10 := (by exact (Lm.bel (Lq_9) e10) : Lm x10 A1 m1 c1 (lim QQ.natAbs)); have Lr_10 := (by exact (Lm.bel (Lr_9) e10) : Lm x10 A2 m2 c2 (lim RR.natAbs)); have Ls_10 := (by exact (Lm.bel (Ls_9) e10) : Lm x10 A3 m3 c3 (lim QQ.natAbs)); have Lt_10 := (by exact (Lm.bel (Lt_9) e10) : Lm x10 A4 m4 c4 (lim RR.natAbs)))
      | (go_at_call 25; have hq := z10; (fail_if_success (have hq := z11)); refine (raddI_g _ X Y sa Aa na ca xa ?_ HX.out sb Ab nb cb xb ?_ HY.out ?_ ?_ HSS.out).mono ?_; exact (La_10); exact (Lb_10); omega; omega; rintro e x11 ⟨A13, m13, c13, rfl, h13, hm13, e11⟩; have z11 : True := trivial; have y11 : Below wds.heap.size wds x11 := (by exact (bel_next (y10) e11)); have La_11 := (by exact (Lm.bel (La_10) e11) : Lm x11 Aa na ca xa); have Lb_11 := (by exact (Lm.bel (Lb_10) e11) : Lm x11 Ab nb cb xb); have Lq_11 := (by exact (Lm.bel (Lq_10) e11) : Lm x11 A1 m1 c1 (lim QQ.natAbs)); have Lr_11 := (by exact (Lm.bel (Lr_10) e11) : Lm x11 A2 m2 c2 (lim RR.natAbs)); have Ls_11 := (by exact (Lm.bel (Ls_10) e11) : Lm x11 A3 m3 c3 (lim QQ.natAbs)); have Lt_11 := (by exact (Lm.bel (Lt_10) e11) : Lm x11 A4 m4 c4 (lim RR.natAbs)); have Lr_u_11 := (by exact (Lm.bel (h12) e11) : Lm x11 A12 m12 c12 (lim SS.natAbs)))
      | (go_at_call 17; have hq := z11; (fail_if_success (have hq := z12)); refine (rsameZ _ SS SS A12 m12 c12 ?_ A13 m13 c13 ?_ (decide_eq_true rfl)).mono ?_; exact (Lr_u_11); exact (h13); rintro e x12 ⟨rfl, e12⟩; have z12 : True := trivial; have y12 : Below wds.heap.size wds x12 := (by exact (bel_next (y11) e12)); have La_12 := (by exact (Lm.bel (La_11) e12) : Lm x12 Aa na ca xa); have Lb_12 := (by exact (Lm.bel (Lb_11) e12) : Lm x12 Ab nb cb xb); have Lq_12 := (by exact (Lm.bel (Lq_11) e12) : Lm x12 A1 m1 c1 (lim QQ.natAbs)); have Lr_12 := (by exact (Lm.bel (Lr_11) e12) : Lm x12 A2 m2 c2 (lim RR.natAbs)); have Ls_12 := (by exact (Lm.bel (Ls_11) e12) : Lm x12 A3 m3 c3 (lim QQ.natAbs)); have Lt_12 := (by exact (Lm.bel (Lt_11) e12) : Lm x12 A4 m4 c4 (lim RR.natAbs)))
      | (go_at_call 26; have hq := z12; (fail_if_success (have hq := z13)); refine (wsub_g _ X Y sa Aa na ca xa ?_ HX.out sb Ab nb cb xb ?_ HY.out ?_ ?_ ?_ HDD.out).mono ?_; exact (La_12); exact (Lb_12); exact (t_S8.out.bel (y12)); omega; omega; rintro e x13 ⟨A14, m14, c14, rfl, h14, hm14, e13⟩; have z13 : True := trivial; have y13 : Below wds.heap.size wds x13 := (by exact (bel_next (y12) e13)); have La_13 := (by exact (Lm.bel (La_12) e13) : Lm x13 Aa na ca xa); have Lb_13 := (by exact (Lm.bel (Lb_12) e13) : Lm x13 Ab nb cb xb); have Lq_13 := (by exact (Lm.bel (Lq_12) e13) : Lm x13 A1 m1 c1 (lim QQ.natAbs)); have Lr_13 := (by exact (Lm.bel (Lr_12) e13) : Lm x13 A2 m2 c2 (lim RR.natAbs)); have Ls_13 := (by exact (Lm.bel (Ls_12) e13) : Lm x13 A3 m3 c3 (lim QQ.natAbs)); have Lt_13 := (by exact (Lm.bel (Lt_12) e13) : Lm x13 A4 m4 c4 (lim RR.natAbs)))
      | (go_at_call 27; have hq := z13; (fail_if_success (have hq := z14)); refine (rsubI_g _ X Y sa Aa na ca xa ?_ HX.out sb Ab nb cb xb ?_ HY.out ?_ ?_ HDD.out).mono ?_; exact (La_13); exact (Lb_13); omega; omega; rintro e x14 ⟨A15, m15, c15, rfl, h15, hm15, e14⟩; have z14 : True := trivial; have y14 : Below wds.heap.size wds x14 := (by exact (bel_next (y13) e14)); have La_14 := (by exact (Lm.bel (La_13) e14) : Lm x14 Aa na ca xa); have Lb_14 := (by exact (Lm.bel (Lb_13) e14) : Lm x14 Ab nb cb xb); have Lq_14 := (by exact (Lm.bel (Lq_13) e14) : Lm x14 A1 m1 c1 (lim QQ.natAbs)); have Lr_14 := (by exact (Lm.bel (Lr_13) e14) : Lm x14 A2 m2 c2 (lim RR.natAbs)); have Ls_14 := (by exact (Lm.bel (Ls_13) e14) : Lm x14 A3 m3 c3 (lim QQ.natAbs)); have Lt_14 := (by exact (Lm.bel (Lt_13) e14) : Lm x14 A4 m4 c4 (lim RR.natAbs)); have Lr_u_14 := (by exact (Lm.bel (h14) e14) : Lm x14 A14 m14 c14 (lim DD.natAbs)))
      | (go_at_call 17; have hq := z14; (fail_if_success (have hq := z15)); refine (rsameZ _ DD DD A14 m14 c14 ?_ A15 m15 c15 ?_ (decide_eq_true rfl)).mono ?_; exact (Lr_u_14); exact (h15); rintro e x15 ⟨rfl, e15⟩; have z15 : True := trivial; have y15 : Below wds.heap.size wds x15 := (by exact (bel_next (y14) e15)); have La_15 := (by exact (Lm.bel (La_14) e15) : Lm x15 Aa na ca xa); have Lb_15 := (by exact (Lm.bel (Lb_14) e15) : Lm x15 Ab nb cb xb); have Lq_15 := (by exact (Lm.bel (Lq_14) e15) : Lm x15 A1 m1 c1 (lim QQ.natAbs)); have Lr_15 := (by exact (Lm.bel (Lr_14) e15) : Lm x15 A2 m2 c2 (lim RR.natAbs)); have Ls_15 := (by exact (Lm.bel (Ls_14) e15) : Lm x15 A3 m3 c3 (lim QQ.natAbs)); have Lt_15 := (by exact (Lm.bel (Lt_14) e15) : Lm x15 A4 m4 c4 (lim RR.natAbs)))
      | (go_at_call 28; have hq := z15; (fail_if_success (have hq := z16)); refine (wmul_g _ X Y sa Aa na ca xa ?_ HX.out sb Ab nb cb xb ?_ HY.out ?_ ?_ ?_ HMM.out).mono ?_; exact (La_15); exact (Lb_15); exact (t_P8.out.bel (y15)); omega; omega; rintro e x16 ⟨A16, m16, c16, rfl, h16, hm16, e16⟩; have z16 : True := trivial; have y16 : Below wds.heap.size wds x16 := (by exact (bel_next (y15) e16)); have La_16 := (by exact (Lm.bel (La_15) e16) : Lm x16 Aa na ca xa); have Lb_16 := (by exact (Lm.bel (Lb_15) e16) : Lm x16 Ab nb cb xb); have Lq_16 := (by exact (Lm.bel (Lq_15) e16) : Lm x16 A1 m1 c1 (lim QQ.natAbs)); have Lr_16 := (by exact (Lm.bel (Lr_15) e16) : Lm x16 A2 m2 c2 (lim RR.natAbs)); have Ls_16 := (by exact (Lm.bel (Ls_15) e16) : Lm x16 A3 m3 c3 (lim QQ.natAbs)); have Lt_16 := (by exact (Lm.bel (Lt_15) e16) : Lm x16 A4 m4 c4 (lim RR.natAbs)))
      | (go_at_call 29; have hq := z16; (fail_if_success (have hq := z17)); refine (rmulI_g _ X Y sa Aa na ca xa ?_ HX.out sb Ab nb cb xb ?_ HY.out ?_ ?_ HMM.out).mono ?_; exact (La_16); exact (Lb_16); omega; omega; rintro e x17 ⟨A17, m17, c17, rfl, h17, hm17, e17⟩; have z17 : True := trivial; have y17 : Below wds.heap.size wds x17 := (by exact (bel_next (y16) e17)); have La_17 := (by exact (Lm.bel (La_16) e17) : Lm x17 Aa na ca xa); have Lb_17 := (by exact (Lm.bel (Lb_16) e17) : Lm x17 Ab nb cb xb); have Lq_17 := (by exact (Lm.bel (Lq_16) e17) : Lm x17 A1 m1 c1 (lim QQ.natAbs)); have Lr_17 := (by exact (Lm.bel (Lr_16) e17) : Lm x17 A2 m2 c2 (lim RR.natAbs)); have Ls_17 := (by exact (Lm.bel (Ls_16) e17) : Lm x17 A3 m3 c3 (lim QQ.natAbs)); have Lt_17 := (by exact (Lm.bel (Lt_16) e17) : Lm x17 A4 m4 c4 (lim RR.natAbs)); have Lr_u_17 := (by exact (Lm.bel (h16) e17) : Lm x17 A16 m16 c16 (lim MM.natAbs)))
      | (go_at_call 17; have hq := z17; (fail_if_success (have hq := z18)); refine (rsameZ _ MM MM A16 m16 c16 ?_ A17 m17 c17 ?_ (decide_eq_true rfl)).mono ?_; exact (Lr_u_17); exact (h17); rintro e x18 ⟨rfl, e18⟩; have z18 : True := trivial; have y18 : Below wds.heap.size wds x18 := (by exact (bel_next (y17) e18)); have La_18 := (by exact (Lm.bel (La_17) e18) : Lm x18 Aa na ca xa); have Lb_18 := (by exact (Lm.bel (Lb_17) e18) : Lm x18 Ab nb cb xb); have Lq_18 := (by exact (Lm.bel (Lq_17) e18) : Lm x18 A1 m1 c1 (lim QQ.natAbs)); have Lr_18 := (by exact (Lm.bel (Lr_17) e18) : Lm x18 A2 m2 c2 (lim RR.natAbs)); have Ls_18 := (by exact (Lm.bel (Ls_17) e18) : Lm x18 A3 m3 c3 (lim QQ.natAbs)); have Lt_18 := (by exact (Lm.bel (Lt_17) e18) : Lm x18 A4 m4 c4 (lim RR.natAbs)))
      | (go_at_call 30; have hq := z18; (fail_if_success (have hq := z19)); refine (wneg_g _ X sa Aa na ca xa ?_ HX.out HNN.out).mono ?_; exact (La_18); rintro e x19 ⟨A18, m18, c18, rfl, h18, hm18, e19⟩; have z19 : True := trivial; have y19 : Below wds.heap.size wds x19 := (by exact (bel_next (y18) e19)); have La_19 := (by exact (Lm.bel (La_18) e19) : Lm x19 Aa na ca xa); have Lb_19 := (by exact (Lm.bel (Lb_18) e19) : Lm x19 Ab nb cb xb); have Lq_19 := (by exact (Lm.bel (Lq_18) e19) : Lm x19 A1 m1 c1 (lim QQ.natAbs)); have Lr_19 := (by exact (Lm.bel (Lr_18) e19) : Lm x19 A2 m2 c2 (lim RR.natAbs)); have Ls_19 := (by exact (Lm.bel (Ls_18) e19) : Lm x19 A3 m3 c3 (lim QQ.natAbs)); have Lt_19 := (by exact (Lm.bel (Lt_18) e19) : Lm x19 A4 m4 c4 (lim RR.natAbs)))
      | (go_at_call 31; have hq := z19; (fail_if_success (have hq := z20)); refine (rneg_g _ X sa Aa na ca xa ?_ HX.out HNN.out).mono ?_; exact (La_19); rintro e x20 ⟨A19, m19, c19, rfl, h19, hm19, e20⟩; have z20 : True := trivial; have y20 : Below wds.heap.size wds x20 := (by exact (bel_next (y19) e20)); have La_20 := (by exact (Lm.bel (La_19) e20) : Lm x20 Aa na ca xa); have Lb_20 := (by exact (Lm.bel (Lb_19) e20) : Lm x20 Ab nb cb xb); have Lq_20 := (by exact (Lm.bel (Lq_19) e20) : Lm x20 A1 m1 c1 (lim QQ.natAbs)); have Lr_20 := (by exact (Lm.bel (Lr_19) e20) : Lm x20 A2 m2 c2 (lim RR.natAbs)); have Ls_20 := (by exact (Lm.bel (Ls_19) e20) : Lm x20 A3 m3 c3 (lim QQ.natAbs)); have Lt_20 := (by exact (Lm.bel (Lt_19) e20) : Lm x20 A4 m4 c4 (lim RR.natAbs)); have Lr_u_20 := (by exact (Lm.bel (h18) e20) : Lm x20 A18 m18 c18 (lim NN.natAbs)))
      | (go_at_call 17; have hq := z20; (fail_if_success (have hq := z21)); refine (rsameZ _ NN NN A18 m18 c18 ?_ A19 m19 c19 ?_ (decide_eq_true rfl)).mono ?_; exact (Lr_u_20); exact (h19); rintro e x21 ⟨rfl, e21⟩; have z21 : True := trivial; have y21 : Below wds.heap.size wds x21 := (by exact (bel_next (y20) e21)); have La_21 := (by exact (Lm.bel (La_20) e21) : Lm x21 Aa na ca xa); have Lb_21 := (by exact (Lm.bel (Lb_20) e21) : Lm x21 Ab nb cb xb); have Lq_21 := (by exact (Lm.bel (Lq_20) e21) : Lm x21 A1 m1 c1 (lim QQ.natAbs)); have Lr_21 := (by exact (Lm.bel (Lr_20) e21) : Lm x21 A2 m2 c2 (lim RR.natAbs)); have Ls_21 := (by exact (Lm.bel (Ls_20) e21) : Lm x21 A3 m3 c3 (lim QQ.natAbs)); have Lt_21 := (by exact (Lm.bel (Lt_20) e21) : Lm x21 A4 m4 c4 (lim RR.natAbs)))
      | (go_at_call 17; have hq := z21; (fail_if_success (have hq := z22)); refine (rsameZ _ QQ QQ A1 m1 c1 ?_ A3 m3 c3 ?_ (decide_eq_true rfl)).mono ?_; exact (Lq_21); exact (Ls_21); rintro e x22 ⟨rfl, e22⟩; have z22 : True := trivial; have y22 : Below wds.heap.size wds x22 := (by exact (bel_next (y21) e22)); have La_22 := (by exact (Lm.bel (La_21) e22) : Lm x22 Aa na ca xa); have Lb_22 := (by exact (Lm.bel (Lb_21) e22) : Lm x22 Ab nb cb xb); have Lq_22 := (by exact (Lm.bel (Lq_21) e22) : Lm x22 A1 m1 c1 (lim QQ.natAbs)); have Lr_22 := (by exact (Lm.bel (Lr_21) e22) : Lm x22 A2 m2 c2 (lim RR.natAbs)); have Ls_22 := (by exact (Lm.bel (Ls_21) e22) : Lm x22 A3 m3 c3 (lim QQ.natAbs)); have Lt_22 := (by exact (Lm.bel (Lt_21) e22) : Lm x22 A4 m4 c4 (lim RR.natAbs)))
      | (go_at_call 17; have hq := z22; (fail_if_success (have hq := z23)); refine (rsameZ _ RR RR A2 m2 c2 ?_ A4 m4 c4 ?_ (decide_eq_true rfl)).mono ?_; exact (Lr_22); exact (Lt_22); rintro e x23 ⟨rfl, e23⟩; have z23 : True := trivial; have y23 : Below wds.heap.size wds x23 := (by exact (bel_next (y22) e23)); have La_23 := (by exact (Lm.bel (La_22) e23) : Lm x23 Aa na ca xa); have Lb_23 := (by exact (Lm.bel (Lb_22) e23) : Lm x23 Ab nb cb xb); have Lq_23 := (by exact (Lm.bel (Lq_22) e23) : Lm x23 A1 m1 c1 (lim QQ.natAbs)); have Lr_23 := (by exact (Lm.bel (Lr_22) e23) : Lm x23 A2 m2 c2 (lim RR.natAbs)); have Ls_23 := (by exact (Lm.bel (Ls_22) e23) : Lm x23 A3 m3 c3 (lim QQ.natAbs)); have Lt_23 := (by exact (Lm.bel (Lt_22) e23) : Lm x23 A4 m4 c4 (lim RR.natAbs))))
  all_goals go_wp2
  all_goals go_ret
  all_goals exact ⟨rfl, bel8.trans (y23.mono bel8.size)⟩
end Go.Proofs.YtfnfbfiikkiliaaDoor
