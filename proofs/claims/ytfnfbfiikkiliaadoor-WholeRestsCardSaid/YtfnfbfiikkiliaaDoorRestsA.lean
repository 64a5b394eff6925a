/- WholeRests: no quotient. -/
import Derived.Test.YtfnfbfiikkiliaaDoorRM
import Derived.Test.YtfnfbfiikkiliaaDoorRF
import Derived.Deep.RegionHeld3
import Derived.Deep.DeepCutAuto
namespace Go.Proofs.YtfnfbfiikkiliaaDoor
open Go.RowKit

theorem keep70 {w w' : World} {g0 : Nat} {s0 : Bool} {A0 : Option Addr} {n0 c0 : Nat} {g1 : Nat} {s1 : Bool} {A1 : Option Addr} {n1 c1 : Nat} {g2 : Nat} {s2 : Bool} {A2 : Option Addr} {n2 c2 : Nat} {g3 : Nat} {s3 : Bool} {A3 : Option Addr} {n3 c3 : Nat} {g4 : Nat} {s4 : Bool} {A4 : Option Addr} {n4 c4 : Nat} {g5 : Nat} {s5 : Bool} {A5 : Option Addr} {n5 c5 : Nat} {g6 : Nat} {s6 : Bool} {A6 : Option Addr} {n6 c6 : Nat}  {P0 : Prop} {P1 : Prop} {P2 : Prop} {P3 : Prop} {P4 : Prop} {P5 : Prop} {P6 : Prop} (hb : Below w.heap.size w w') (h : (Box w g0 s0 A0 n0 c0 ∧ P0) ∧ (Box w g1 s1 A1 n1 c1 ∧ P1) ∧ (Box w g2 s2 A2 n2 c2 ∧ P2) ∧ (Box w g3 s3 A3 n3 c3 ∧ P3) ∧ (Box w g4 s4 A4 n4 c4 ∧ P4) ∧ (Box w g5 s5 A5 n5 c5 ∧ P5) ∧ (Box w g6 s6 A6 n6 c6 ∧ P6)) : (Box w' g0 s0 A0 n0 c0 ∧ w'.cell? ⟨g0, 0, none⟩ = some (.bool s0) ∧ w'.cell? ⟨g0, 1, none⟩ = some (.slice A0 n0 c0)) ∧ (Box w' g1 s1 A1 n1 c1 ∧ w'.cell? ⟨g1, 0, none⟩ = some (.bool s1) ∧ w'.cell? ⟨g1, 1, none⟩ = some (.slice A1 n1 c1)) ∧ (Box w' g2 s2 A2 n2 c2 ∧ w'.cell? ⟨g2, 0, none⟩ = some (.bool s2) ∧ w'.cell? ⟨g2, 1, none⟩ = some (.slice A2 n2 c2)) ∧ (Box w' g3 s3 A3 n3 c3 ∧ w'.cell? ⟨g3, 0, none⟩ = some (.bool s3) ∧ w'.cell? ⟨g3, 1, none⟩ = some (.slice A3 n3 c3)) ∧ (Box w' g4 s4 A4 n4 c4 ∧ w'.cell? ⟨g4, 0, none⟩ = some (.bool s4) ∧ w'.cell? ⟨g4, 1, none⟩ = some (.slice A4 n4 c4)) ∧ (Box w' g5 s5 A5 n5 c5 ∧ w'.cell? ⟨g5, 0, none⟩ = some (.bool s5) ∧ w'.cell? ⟨g5, 1, none⟩ = some (.slice A5 n5 c5)) ∧ (Box w' g6 s6 A6 n6 c6 ∧ w'.cell? ⟨g6, 0, none⟩ = some (.bool s6) ∧ w'.cell? ⟨g6, 1, none⟩ = some (.slice A6 n6 c6)) :=
  ⟨held0 (h.1.1.bel hb), held0 (h.2.1.1.bel hb), held0 (h.2.2.1.1.bel hb), held0 (h.2.2.2.1.1.bel hb), held0 (h.2.2.2.2.1.1.bel hb), held0 (h.2.2.2.2.2.1.1.bel hb), held0 (h.2.2.2.2.2.2.1.bel hb)⟩
theorem bel_a3 {w w' : World} {o p q : Obj} (h : Below (((w.alloc o).alloc p).alloc q).heap.size (((w.alloc o).alloc p).alloc q) w') : Below w.heap.size w w' := bel_a1 (bel_a2 h)
set_option maxRecDepth 100000 in
set_option maxHeartbeats 40000000 in
theorem rests_zero (w : World) (sa : Bool) (Aa : Option Addr) (na ca : Nat) (xa : List Nat) (La : Lm w Aa na ca xa) (fa : na ≤ 24) (sb : Bool) (Ab : Option Addr) (nb cb : Nat) (xb : List Nat) (Lb : Lm w Ab nb cb xb) (fb : nb ≤ 24) (k : Nat) (h0 : sgn sb (val xb) = 0) (hT : Tab w) (hS : SumsT w) (hP : ProductsT w) (hF : FarthestT w) :
    Calls Tryd.prog 5 #[.agg #[.bool sa, .slice Aa na ca], .agg #[.bool sb, .slice Ab nb cb], .int .u8 (k : Nat)] w fun e w' => e = .returned (.bool true) ∧ Below w.heap.size w w' := by
  obtain ⟨X, hX⟩ : ∃ V0 : Int, sgn sa (val xa) = V0 := ⟨_, rfl⟩
  have HX := Lib.hid hX
  clear hX
  obtain ⟨Y, hY⟩ : ∃ V0 : Int, sgn sb (val xb) = V0 := ⟨_, rfl⟩
  have HY := Lib.hid hY
  clear hY
  have Hd := Lib.hid (And.intro (decide_eq_true (show (na : Int) ≤ 24 by omega)) (decide_eq_true (show (nb : Int) ≤ 24 by omega)))
  obtain ⟨Q, hQ⟩ : ∃ V0 : Int, dq X Y = V0 := ⟨_, rfl⟩
  have HQ := Lib.hid hQ
  clear hQ
  obtain ⟨R, hR⟩ : ∃ V0 : Int, dr X Y = V0 := ⟨_, rfl⟩
  have HR := Lib.hid hR
  clear hR
  have HT0 : Hid (decide (Y ≠ 0) = false) := (by rw [← HY.out, h0]; rfl : decide (Y ≠ 0) = false)
  have HS1 : Hid (sg Y = 0) := (by rw [← HY.out, h0]; rfl : sg Y = 0)
  have HS2 : Hid (sg Q = 0) := (by rw [← HQ.out, ← HY.out, h0]; rfl : sg Q = 0)
  clear h0
  have HTT := Lib.hid hT
  have HTS := Lib.hid hS
  have HTP := Lib.hid hP
  have HTF := Lib.hid hF
  clear hT hS hP hF
  go_enter Tryd.func5, Tryd.ntmps5
  go_wp2_with fail
  obtain ⟨ga, hga⟩ : ∃ g, g = w.heap.size := ⟨_, rfl⟩
  obtain ⟨gb, hgb⟩ : ∃ g, g = w.heap.size + 1 := ⟨_, rfl⟩
  obtain ⟨w1, hw1⟩ : ∃ v, v = ((w.alloc (.cells #[.bool sa, .slice Aa na ca] 24)).alloc (.cells #[.bool sb, .slice Ab nb cb] 24)) := ⟨_, rfl⟩
  have bel1 : Below w.heap.size w w1 := by rw [hw1]; exact bel_alloc2 _ _ _
  have b_a1 : Box w1 ga sa Aa na ca := by rw [hw1, hga]; exact ((Box.new _ _ _ _ _).alloc _)
  have b_b1 : Box w1 gb sb Ab nb cb := by rw [hw1, hgb]; exact (Box.at1 _ _ _ _ _ _)
  rw [← hw1, ← hgb, ← hga]
  have hgs : w.heap.size ≤ ga ∧ w.heap.size ≤ gb ∧ ga ≠ gb ∧ gb ≠ ga := by omega
  have HG := Lib.hid hgs
  clear hw1 hgs hga hgb
  have l_a1 := La.bel bel1
  have l_b1 := Lb.bel bel1
  have t_T1 := Lib.hid (HTT.out.bel bel1)
  have t_S1 := Lib.hid (HTS.out.bel bel1)
  have t_P1 := Lib.hid (HTP.out.bel bel1)
  have t_F1 := Lib.hid (HTF.out.bel bel1)
  have c_a0_1 := b_a1.c0
  have c_a1_1 := b_a1.c1
  have c_b0_1 := b_b1.c0
  have c_b1_1 := b_b1.c1
  have cc := Lib.hid (known2_any w1 t_T1.out t_P1.out t_F1.out)
  refine cc.out.mono ?_
  clear cc
  rintro e v2 ⟨rfl, kb2⟩
  have b_a2 := b_a1.bel kb2
  have b_b2 := b_b1.bel kb2
  have l_a2 := l_a1.bel kb2
  have l_b2 := l_b1.bel kb2
  have t_T2 := Lib.hid (t_T1.out.bel kb2)
  have t_S2 := Lib.hid (t_S1.out.bel kb2)
  have t_P2 := Lib.hid (t_P1.out.bel kb2)
  have t_F2 := Lib.hid (t_F1.out.bel kb2)
  have bel2 := bel1.trans (kb2.mono bel1.size)
  have c_a0_2 := b_a2.c0
  have c_a1_2 := b_a2.c1
  have c_b0_2 := b_b2.c0
  have c_b1_2 := b_b2.c1
  clear kb2 b_a1 c_a0_1 c_a1_1 b_b1 c_b0_1 c_b1_1 l_a1 l_b1 t_T1 t_S1 t_P1 t_F1 bel1
  go_wp2_with fail
  have cc := Lib.hid (few2_any v2 sa Aa na ca Hd.out.1)
  refine cc.out.mono ?_
  clear cc
  rintro e v3 ⟨rfl, kb3⟩
  have b_a3 := b_a2.bel kb3
  have b_b3 := b_b2.bel kb3
  have l_a3 := l_a2.bel kb3
  have l_b3 := l_b2.bel kb3
  have t_T3 := Lib.hid (t_T2.out.bel kb3)
  have t_S3 := Lib.hid (t_S2.out.bel kb3)
  have t_P3 := Lib.hid (t_P2.out.bel kb3)
  have t_F3 := Lib.hid (t_F2.out.bel kb3)
  have bel3 := bel2.trans (kb3.mono bel2.size)
  have c_a0_3 := b_a3.c0
  have c_a1_3 := b_a3.c1
  have c_b0_3 := b_b3.c0
  have c_b1_3 := b_b3.c1
  clear kb3 b_a2 c_a0_2 c_a1_2 b_b2 c_b0_2 c_b1_2 l_a2 l_b2 t_T2 t_S2 t_P2 t_F2 bel2
  go_wp2_with fail
  have cc := Lib.hid (few2_any v3 sb Ab nb cb Hd.out.2)
  refine cc.out.mono ?_
  clear cc
  rintro e v4 ⟨rfl, kb4⟩
  have b_a4 := b_a3.bel kb4
  have b_b4 := b_b3.bel kb4
  have l_a4 := l_a3.bel kb4
  have l_b4 := l_b3.bel kb4
  have t_T4 := Lib.hid (t_T3.out.bel kb4)
  have t_S4 := Lib.hid (t_S3.out.bel kb4)
  have t_P4 := Lib.hid (t_P3.out.bel kb4)
  have t_F4 := Lib.hid (t_F3.out.bel kb4)
  have bel4 := bel3.trans (kb4.mono bel3.size)
  have c_a0_4 := b_a4.c0
  have c_a1_4 := b_a4.c1
  have c_b0_4 := b_b4.c0
  have c_b1_4 := b_b4.c1
  clear kb4 b_a3 c_a0_3 c_a1_3 b_b3 c_b0_3 c_b1_3 l_a3 l_b3 t_T3 t_S3 t_P3 t_F3 bel3
  go_wp2_with fail
  have cc := Lib.hid (wdiv_g v4 X Y sa Aa na ca xa l_a4 HX.out sb Ab nb cb xb l_b4 HY.out t_P4.out (by omega) (by omega) HT0.out HQ.out HR.out)
  refine cc.out.mono ?_
  clear cc
  rintro e v5 ⟨A1, m1, c1, A2, m2, c2, rfl, h1, h2, hm1, hm2, kb5⟩
  have b_a5 := b_a4.bel kb5
  have b_b5 := b_b4.bel kb5
  have l_a5 := l_a4.bel kb5
  have l_b5 := l_b4.bel kb5
  have t_T5 := Lib.hid (t_T4.out.bel kb5)
  have t_S5 := Lib.hid (t_S4.out.bel kb5)
  have t_P5 := Lib.hid (t_P4.out.bel kb5)
  have t_F5 := Lib.hid (t_F4.out.bel kb5)
  have bel5 := bel4.trans (kb5.mono bel4.size)
  have c_a0_5 := b_a5.c0
  have c_a1_5 := b_a5.c1
  have c_b0_5 := b_b5.c0
  have c_b1_5 := b_b5.c1
  clear kb5 b_a4 c_a0_4 c_a1_4 b_b4 c_b0_4 c_b1_4 l_a4 l_b4 t_T4 t_S4 t_P4 t_F4 bel4
  obtain ⟨gq, hgq⟩ : ∃ g, g = v5.heap.size := ⟨_, rfl⟩
  obtain ⟨gr, hgr⟩ : ∃ g, g = v5.heap.size + 1 := ⟨_, rfl⟩
  obtain ⟨wdq, hwd⟩ : ∃ v, v = (v5.alloc (.cells #[.bool (decide (Q < 0)), .slice A1 m1 c1] 24)).alloc (.cells #[.bool (decide (R < 0)), .slice A2 m2 c2] 24) := ⟨_, rfl⟩
  have b1 : Box wdq gq (decide (Q < 0)) A1 m1 c1 := by rw [hwd, hgq]; exact (Box.new _ _ _ _ _).alloc _
  have b2 : Box wdq gr (decide (R < 0)) A2 m2 c2 := by rw [hwd, hgr]; exact Box.at1 _ _ _ _ _ _
  have d10 := b1.c0
  have d11 := b1.c1
  have d20 := b2.c0
  have d21 := b2.c1
  rw [hwd, hgq] at d10 d11
  rw [hwd, hgr] at d20 d21
  have hbd : Below v5.heap.size v5 wdq := by rw [hwd]; exact bel_alloc2 _ _ _
  have ka0 := ((b_a5.alloc (.cells #[.bool (decide (Q < 0)), .slice A1 m1 c1] 24)).alloc (.cells #[.bool (decide (R < 0)), .slice A2 m2 c2] 24)).c0
  have ka1 := ((b_a5.alloc (.cells #[.bool (decide (Q < 0)), .slice A1 m1 c1] 24)).alloc (.cells #[.bool (decide (R < 0)), .slice A2 m2 c2] 24)).c1
  have kb0 := ((b_b5.alloc (.cells #[.bool (decide (Q < 0)), .slice A1 m1 c1] 24)).alloc (.cells #[.bool (decide (R < 0)), .slice A2 m2 c2] 24)).c0
  have kb1 := ((b_b5.alloc (.cells #[.bool (decide (Q < 0)), .slice A1 m1 c1] 24)).alloc (.cells #[.bool (decide (R < 0)), .slice A2 m2 c2] 24)).c1
  go_wp2_with fail
  rw [← hwd, ← hgr, ← hgq]
  clear hwd hgq hgr d10 d11 d20 d21 ka0 ka1 kb0 kb1
  have b_a6 := b_a5.bel hbd
  have b_b6 := b_b5.bel hbd
  have l_a6 := l_a5.bel hbd
  have l_b6 := l_b5.bel hbd
  have l_q6 := h1.bel hbd
  have l_r6 := h2.bel hbd
  have t_T6 := Lib.hid (t_T5.out.bel hbd)
  have t_S6 := Lib.hid (t_S5.out.bel hbd)
  have t_P6 := Lib.hid (t_P5.out.bel hbd)
  have t_F6 := Lib.hid (t_F5.out.bel hbd)
  have bel6 := bel5.trans (hbd.mono bel5.size)
  have c_a0_6 := b_a6.c0
  have c_a1_6 := b_a6.c1
  have c_b0_6 := b_b6.c0
  have c_b1_6 := b_b6.c1
  clear hbd b_a5 c_a0_5 c_a1_5 b_b5 c_b0_5 c_b1_5 l_a5 l_b5 h1 h2 t_T5 t_S5 t_P5 t_F5 bel5
  have b_q6 := b1
  have c_q0_6 := b_q6.c0
  have c_q1_6 := b_q6.c1
  have b_r6 := b2
  have c_r0_6 := b_r6.c0
  have c_r1_6 := b_r6.c1
  clear b1 b2
  go_wp2_with fail
  have cc := Lib.hid (wsign_g wdq Y sb Ab nb cb xb l_b6 HY.out HS1.out)
  refine cc.out.mono ?_
  clear cc
  rintro e v7 ⟨rfl, kb7⟩
  have b_a7 := b_a6.bel kb7
  have b_b7 := b_b6.bel kb7
  have b_q7 := b_q6.bel kb7
  have b_r7 := b_r6.bel kb7
  have l_a7 := l_a6.bel kb7
  have l_b7 := l_b6.bel kb7
  have l_q7 := l_q6.bel kb7
  have l_r7 := l_r6.bel kb7
  have t_T7 := Lib.hid (t_T6.out.bel kb7)
  have t_S7 := Lib.hid (t_S6.out.bel kb7)
  have t_P7 := Lib.hid (t_P6.out.bel kb7)
  have t_F7 := Lib.hid (t_F6.out.bel kb7)
  have bel7 := bel6.trans (kb7.mono bel6.size)
  have c_a0_7 := b_a7.c0
  have c_a1_7 := b_a7.c1
  have c_b0_7 := b_b7.c0
  have c_b1_7 := b_b7.c1
  have c_q0_7 := b_q7.c0
  have c_q1_7 := b_q7.c1
  have c_r0_7 := b_r7.c0
  have c_r1_7 := b_r7.c1
  clear kb7 b_a6 c_a0_6 c_a1_6 b_b6 c_b0_6 c_b1_6 b_q6 c_q0_6 c_q1_6 b_r6 c_r0_6 c_r1_6 l_a6 l_b6 l_q6 l_r6 t_T6 t_S6 t_P6 t_F6 bel6
  go_wp2_with fail
  have cc := Lib.hid (wsign_g v7 Q _ A1 m1 c1 _ l_q7 (sgn_lim Q) HS2.out)
  refine cc.out.mono ?_
  clear cc
  rintro e v8 ⟨rfl, kb8⟩
  have b_a8 := b_a7.bel kb8
  have b_b8 := b_b7.bel kb8
  have b_q8 := b_q7.bel kb8
  have b_r8 := b_r7.bel kb8
  have l_a8 := l_a7.bel kb8
  have l_b8 := l_b7.bel kb8
  have l_q8 := l_q7.bel kb8
  have l_r8 := l_r7.bel kb8
  have t_T8 := Lib.hid (t_T7.out.bel kb8)
  have t_S8 := Lib.hid (t_S7.out.bel kb8)
  have t_P8 := Lib.hid (t_P7.out.bel kb8)
  have t_F8 := Lib.hid (t_F7.out.bel kb8)
  have bel8 := bel7.trans (kb8.mono bel7.size)
  have c_a0_8 := b_a8.c0
  have c_a1_8 := b_a8.c1
  have c_b0_8 := b_b8.c0
  have c_b1_8 := b_b8.c1
  have c_q0_8 := b_q8.c0
  have c_q1_8 := b_q8.c1
  have c_r0_8 := b_r8.c0
  have c_r1_8 := b_r8.c1
  clear kb8 b_a7 c_a0_7 c_a1_7 b_b7 c_b0_7 c_b1_7 b_q7 c_q0_7 c_q1_7 b_r7 c_r0_7 c_r1_7 l_a7 l_b7 l_q7 l_r7 t_T7 t_S7 t_P7 t_F7 bel7
  go_wp2
  go_ret
  exact ⟨rfl, bel8⟩
end Go.Proofs.YtfnfbfiikkiliaaDoor
