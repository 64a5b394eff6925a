/- WholeLaws: the walk. -/
import Derived.Test.YtopkndkicdgafaaDoorRM
import Derived.Deep.RegionHeld3
import Derived.Deep.DeepCutAuto
namespace Go.Proofs.YtopkndkicdgafaaDoor
open Go.RowKit

set_option maxRecDepth 100000 in
set_option maxHeartbeats 40000000 in
theorem laws_few (w : World) (sa : Bool) (Aa : Option Addr) (na ca : Nat) (xa : List Nat) (La : Lm w Aa na ca xa) (fa : na ≤ 24) (sb : Bool) (Ab : Option Addr) (nb cb : Nat) (xb : List Nat) (Lb : Lm w Ab nb cb xb) (fb : nb ≤ 24) (sc : Bool) (Ac : Option Addr) (nc cc : Nat) (xc : List Nat) (Lc : Lm w Ac nc cc xc) (fc : nc ≤ 24) (hT : Tab w) (hS : SumsT w) (hP : ProductsT w) (hF : FarthestT w) :
    Calls Tryd.prog 12 #[.agg #[.bool sa, .slice Aa na ca], .agg #[.bool sb, .slice Ab nb cb], .agg #[.bool sc, .slice Ac nc cc]] w fun e w' => e = .returned (.bool true) ∧ Below w.heap.size w w' := by
  obtain ⟨X, hX⟩ : ∃ V0 : Int, sgn sa (val xa) = V0 := ⟨_, rfl⟩
  have HX := Lib.hid hX
  clear hX
  obtain ⟨Y, hY⟩ : ∃ V0 : Int, sgn sb (val xb) = V0 := ⟨_, rfl⟩
  have HY := Lib.hid hY
  clear hY
  obtain ⟨Z, hZ⟩ : ∃ V0 : Int, sgn sc (val xc) = V0 := ⟨_, rfl⟩
  have HZ := Lib.hid hZ
  clear hZ
  obtain ⟨BC, hBC⟩ : ∃ V0 : Int, Y + Z = V0 := ⟨_, rfl⟩
  obtain ⟨PP, hPP⟩ : ∃ V0 : Int, X * BC = V0 := ⟨_, rfl⟩
  obtain ⟨AB, hAB⟩ : ∃ V0 : Int, X * Y = V0 := ⟨_, rfl⟩
  obtain ⟨AC, hAC⟩ : ∃ V0 : Int, X * Z = V0 := ⟨_, rfl⟩
  obtain ⟨SS, hSS⟩ : ∃ V0 : Int, X + Y = V0 := ⟨_, rfl⟩
  obtain ⟨DD, hDD⟩ : ∃ V0 : Int, X - Y = V0 := ⟨_, rfl⟩
  obtain ⟨NX, hNX⟩ : ∃ V0 : Int, -X = V0 := ⟨_, rfl⟩
  obtain ⟨σ, hσ, hσr⟩ : ∃ σ, sg X = σ ∧ (-1 ≤ σ ∧ σ ≤ 1) := ⟨_, rfl, sg_range _⟩
  obtain ⟨τ, hτ, hτr⟩ : ∃ τ, sg Y = τ ∧ (-1 ≤ τ ∧ τ ≤ 1) := ⟨_, rfl, sg_range _⟩
  obtain ⟨π, hπ, hπr⟩ : ∃ π, sg AB = π ∧ (-1 ≤ π ∧ π ≤ 1) := ⟨_, rfl, sg_range _⟩
  obtain ⟨ρ, hρ, hρr⟩ : ∃ ρ, sg (X - Y) = ρ ∧ (-1 ≤ ρ ∧ ρ ≤ 1) := ⟨_, rfl, sg_range _⟩
  obtain ⟨ν, hν, hνr⟩ : ∃ ν, sg (Y - X) = ν ∧ (-1 ≤ ν ∧ ν ≤ 1) := ⟨_, rfl, sg_range _⟩
  have em : σ * τ = π := by rw [← hσ, ← hτ, ← hπ, ← hAB, sg_mul]
  have en : -ν = ρ := by rw [← hν, ← hρ, ← sg_neg_, Int.neg_sub]
  have wm : IntKind.i64.wrap π = π := wrap_pm (by omega)
  have wn : IntKind.i64.wrap ρ = ρ := wrap_pm (by omega)
  have wm2 : IntKind.i64.wrap (σ * τ) = π := by rw [em]; exact wm
  have wn2 : IntKind.i64.wrap (-ν) = ρ := by rw [en]; exact wn
  have bm : (π == π) = true := beq_self_eq_true π
  have bn : (ρ == ρ) = true := beq_self_eq_true ρ
  have HPP2 : Hid (AB + AC = PP) := (by rw [← hAB, ← hAC, ← hPP, ← hBC, Int.mul_add] : AB + AC = PP)
  have HSX : Hid (SS - Y = X) := (by omega : SS - Y = X)
  have HS2 : Hid (Y + X = SS) := (by omega : Y + X = SS)
  have HDR : Hid (sg DD = ρ) := (by rw [← hDD]; exact hρ : sg DD = ρ)
  have HNN : Hid (-NX = X) := (by omega : -NX = X)
  have Hσ := Lib.hid hσ
  have Hτ := Lib.hid hτ
  have Hπ := Lib.hid hπ
  have Hρ := Lib.hid hρ
  have Hν := Lib.hid hν
  have HBC := Lib.hid hBC
  have HPP := Lib.hid hPP
  have HAB := Lib.hid hAB
  have HAC := Lib.hid hAC
  have HSS := Lib.hid hSS
  have HDD := Lib.hid hDD
  have HNX := Lib.hid hNX
  have d1 := decide_eq_true (show (na : Int) ≤ 24 by omega)
  have d2 := decide_eq_true (show (nb : Int) ≤ 24 by omega)
  have d3 := decide_eq_true (show (nc : Int) ≤ 24 by omega)
  have Hd := Lib.hid (And.intro d1 (And.intro d2 d3))
  clear hσ hτ hπ hρ hν hBC hPP hAB hAC hSS hDD hNX d1 d2 d3
  have HTT := Lib.hid hT
  have HTS := Lib.hid hS
  have HTP := Lib.hid hP
  have HTF := Lib.hid hF
  clear hT hS hP hF
  go_enter Tryd.func12, Tryd.ntmps12
  go_wp2_with fail
  obtain ⟨ga, hga⟩ : ∃ g, g = w.heap.size := ⟨_, rfl⟩
  obtain ⟨gb, hgb⟩ : ∃ g, g = w.heap.size + 1 := ⟨_, rfl⟩
  obtain ⟨gc, hgc⟩ : ∃ g, g = w.heap.size + 2 := ⟨_, rfl⟩
  obtain ⟨w1, hw1⟩ : ∃ v, v = (((w.alloc (.cells #[.bool sa, .slice Aa na ca] 43)).alloc (.cells #[.bool sb, .slice Ab nb cb] 43)).alloc (.cells #[.bool sc, .slice Ac nc cc] 43)) := ⟨_, rfl⟩
  have bel1 : Below w.heap.size w w1 := by rw [hw1]; exact bel_alloc3 _ _ _ _
  have b_a1 : Box w1 ga sa Aa na ca := by rw [hw1, hga]; exact (((Box.new _ _ _ _ _).alloc _).alloc _)
  have b_b1 : Box w1 gb sb Ab nb cb := by rw [hw1, hgb]; exact ((Box.at1 _ _ _ _ _ _).alloc _)
  have b_c1 : Box w1 gc sc Ac nc cc := by rw [hw1, hgc]; exact (Box.at2 _ _ _ _ _ _ _)
  rw [← hw1, ← hgc, ← hgb, ← hga]
  have hgs : w.heap.size ≤ ga ∧ w.heap.size ≤ gb ∧ w.heap.size ≤ gc ∧ ga ≠ gb ∧ ga ≠ gc ∧ gb ≠ ga ∧ gb ≠ gc ∧ gc ≠ ga ∧ gc ≠ gb := by omega
  have HG := Lib.hid hgs
  clear hw1 hgs hga hgb hgc
  have l_a1 := La.bel bel1
  have l_b1 := Lb.bel bel1
  have l_c1 := Lc.bel bel1
  have t_T1 := Lib.hid (HTT.out.bel bel1)
  have t_S1 := Lib.hid (HTS.out.bel bel1)
  have t_P1 := Lib.hid (HTP.out.bel bel1)
  have t_F1 := Lib.hid (HTF.out.bel bel1)
  have c_a0_1 := b_a1.c0
  have c_a1_1 := b_a1.c1
  have c_b0_1 := b_b1.c0
  have c_b1_1 := b_b1.c1
  have c_c0_1 := b_c1.c0
  have c_c1_1 := b_c1.c1
  have cc := Lib.hid (known2_any w1 t_T1.out t_P1.out t_F1.out)
  refine cc.out.mono ?_
  clear cc
  rintro e v2 ⟨rfl, kb2⟩
  have b_a2 := b_a1.bel kb2
  have b_b2 := b_b1.bel kb2
  have b_c2 := b_c1.bel kb2
  have l_a2 := l_a1.bel kb2
  have l_b2 := l_b1.bel kb2
  have l_c2 := l_c1.bel kb2
  have t_T2 := Lib.hid (t_T1.out.bel kb2)
  have t_S2 := Lib.hid (t_S1.out.bel kb2)
  have t_P2 := Lib.hid (t_P1.out.bel kb2)
  have t_F2 := Lib.hid (t_F1.out.bel kb2)
  have bel2 := bel1.trans (kb2.mono bel1.size)
  have c_a0_2 := b_a2.c0
  have c_a1_2 := b_a2.c1
  have c_b0_2 := b_b2.c0
  have c_b1_2 := b_b2.c1
  have c_c0_2 := b_c2.c0
  have c_c1_2 := b_c2.c1
  clear kb2 b_a1 c_a0_1 c_a1_1 b_b1 c_b0_1 c_b1_1 b_c1 c_c0_1 c_c1_1 l_a1 l_b1 l_c1 t_T1 t_S1 t_P1 t_F1 bel1
  go_wp2_with fail
  have cc := Lib.hid (few2_any v2 sa Aa na ca Hd.out.1)
  refine cc.out.mono ?_
  clear cc
  rintro e v3 ⟨rfl, kb3⟩
  have b_a3 := b_a2.bel kb3
  have b_b3 := b_b2.bel kb3
  have b_c3 := b_c2.bel kb3
  have l_a3 := l_a2.bel kb3
  have l_b3 := l_b2.bel kb3
  have l_c3 := l_c2.bel kb3
  have t_T3 := Lib.hid (t_T2.out.bel kb3)
  have t_S3 := Lib.hid (t_S2.out.bel kb3)
  have t_P3 := Lib.hid (t_P2.out.bel kb3)
  have t_F3 := Lib.hid (t_F2.out.bel kb3)
  have bel3 := bel2.trans (kb3.mono bel2.size)
  have c_a0_3 := b_a3.c0
  have c_a1_3 := b_a3.c1
  have c_b0_3 := b_b3.c0
  have c_b1_3 := b_b3.c1
  have c_c0_3 := b_c3.c0
  have c_c1_3 := b_c3.c1
  clear kb3 b_a2 c_a0_2 c_a1_2 b_b2 c_b0_2 c_b1_2 b_c2 c_c0_2 c_c1_2 l_a2 l_b2 l_c2 t_T2 t_S2 t_P2 t_F2 bel2
  go_wp2_with fail
  have cc := Lib.hid (few2_any v3 sb Ab nb cb Hd.out.2.1)
  refine cc.out.mono ?_
  clear cc
  rintro e v4 ⟨rfl, kb4⟩
  have b_a4 := b_a3.bel kb4
  have b_b4 := b_b3.bel kb4
  have b_c4 := b_c3.bel kb4
  have l_a4 := l_a3.bel kb4
  have l_b4 := l_b3.bel kb4
  have l_c4 := l_c3.bel kb4
  have t_T4 := Lib.hid (t_T3.out.bel kb4)
  have t_S4 := Lib.hid (t_S3.out.bel kb4)
  have t_P4 := Lib.hid (t_P3.out.bel kb4)
  have t_F4 := Lib.hid (t_F3.out.bel kb4)
  have bel4 := bel3.trans (kb4.mono bel3.size)
  have c_a0_4 := b_a4.c0
  have c_a1_4 := b_a4.c1
  have c_b0_4 := b_b4.c0
  have c_b1_4 := b_b4.c1
  have c_c0_4 := b_c4.c0
  have c_c1_4 := b_c4.c1
  clear kb4 b_a3 c_a0_3 c_a1_3 b_b3 c_b0_3 c_b1_3 b_c3 c_c0_3 c_c1_3 l_a3 l_b3 l_c3 t_T3 t_S3 t_P3 t_F3 bel3
  go_wp2_with fail
  have cc := Lib.hid (few2_any v4 sc Ac nc cc Hd.out.2.2)
  refine cc.out.mono ?_
  clear cc
  rintro e v5 ⟨rfl, kb5⟩
  have b_a5 := b_a4.bel kb5
  have b_b5 := b_b4.bel kb5
  have b_c5 := b_c4.bel kb5
  have l_a5 := l_a4.bel kb5
  have l_b5 := l_b4.bel kb5
  have l_c5 := l_c4.bel kb5
  have t_T5 := Lib.hid (t_T4.out.bel kb5)
  have t_S5 := Lib.hid (t_S4.out.bel kb5)
  have t_P5 := Lib.hid (t_P4.out.bel kb5)
  have t_F5 := Lib.hid (t_F4.out.bel kb5)
  have bel5 := bel4.trans (kb5.mono bel4.size)
  have c_a0_5 := b_a5.c0
  have c_a1_5 := b_a5.c1
  have c_b0_5 := b_b5.c0
  have c_b1_5 := b_b5.c1
  have c_c0_5 := b_c5.c0
  have c_c1_5 := b_c5.c1
  clear kb5 b_a4 c_a0_4 c_a1_4 b_b4 c_b0_4 c_b1_4 b_c4 c_c0_4 c_c1_4 l_a4 l_b4 l_c4 t_T4 t_S4 t_P4 t_F4 bel4
  go_upto_region 5 with (fail)
  go_cut [7] (fun s7 wx => Laid1 v5 PP s7 wx)
  case first =>
    have hS0 := And.intro (held0 b_a5) ( And.intro (held0 b_b5) (held0 b_c5))
    have y0 : Below v5.heap.size v5 v5 := Below.refl _ _
    go_region_held3 (fun w' => (Box w' ga sa Aa na ca ∧ w'.cell? ⟨ga, 0, none⟩ = some (.bool sa) ∧ w'.cell? ⟨ga, 1, none⟩ = some (.slice Aa na ca)) ∧ (Box w' gb sb Ab nb cb ∧ w'.cell? ⟨gb, 0, none⟩ = some (.bool sb) ∧ w'.cell? ⟨gb, 1, none⟩ = some (.slice Ab nb cb)) ∧ (Box w' gc sc Ac nc cc ∧ w'.cell? ⟨gc, 0, none⟩ = some (.bool sc) ∧ w'.cell? ⟨gc, 1, none⟩ = some (.slice Ac nc cc)))
      (first
        | exact ⟨held0 (w := v5.drew) b_a5, held0 (w := v5.drew) b_b5, held0 (w := v5.drew) b_c5⟩
        | with_reducible exact keep30 (bel_drw (bel_al y0)) hS0
        | with_reducible exact keep30 (bel_al y0) hS0
        | with_reducible exact keep30 (bel_al (by with_reducible assumption)) hS0
        | with_reducible exact keep30 (bel_put (by with_reducible assumption) (by omega) _ _) hS0
        | with_reducible exact keep30 (by assumption) hS0)
      (first
        | (go_at_call 57; (fail_if_success (have hq := z1)); refine (wadd_g _ Y Z sb Ab nb cb xb ?_ HY.out sc Ac nc cc xc ?_ HZ.out ?_ ?_ ?_ HBC.out).mono ?_; (first | with_reducible exact (Lm.drew l_b5) | with_reducible exact (Lm.drew (Lm.al l_b5 _))); (first | with_reducible exact (Lm.drew l_c5) | with_reducible exact (Lm.drew (Lm.al l_c5 _))); (first | with_reducible exact (t_S5.out.bel (bel_drw y0)) | with_reducible exact (t_S5.out.bel (bel_drw (bel_al y0)))); omega; omega; rintro e x1 ⟨A1, m1, c1, rfl, h1, hm1, e1⟩; have z1 : True := trivial; have hc := bel_undrew e1; have y1 : Below v5.heap.size v5 x1 := (by (first | with_reducible exact (bel_next (y0) hc) | with_reducible exact (bel_next ((bel_al y0)) hc))); have La_1 := (by (first | with_reducible exact (Lm.bel (l_a5) hc) | with_reducible exact (Lm.bel ((Lm.al l_a5 _)) hc)) : Lm x1 Aa na ca xa); have Lb_1 := (by (first | with_reducible exact (Lm.bel (l_b5) hc) | with_reducible exact (Lm.bel ((Lm.al l_b5 _)) hc)) : Lm x1 Ab nb cb xb); have Lc_1 := (by (first | with_reducible exact (Lm.bel (l_c5) hc) | with_reducible exact (Lm.bel ((Lm.al l_c5 _)) hc)) : Lm x1 Ac nc cc xc); have s1 := (bel_size y1); (first | with_reducible have tz : Two x1 v5.heap.size := zn0 hc | skip))
        | (go_at_call 61; have hq := z1; (fail_if_success (have hq := z2)); refine (wmul_g _ X BC sa Aa na ca xa ?_ HX.out _ A1 m1 c1 _ ?_ (sgn_lim BC) ?_ ?_ ?_ HPP.out).mono ?_; (first | with_reducible exact (La_1) | with_reducible exact (Lm.al La_1 _)); (first | with_reducible exact (h1) | with_reducible exact (Lm.al h1 _)); (first | with_reducible exact (t_P5.out.bel (y1)) | with_reducible exact (t_P5.out.bel (bel_al y1))); omega; omega; rintro e x2 ⟨A2, m2, c2, rfl, h2, hm2, e2⟩; have z2 : True := trivial; have y2 : Below v5.heap.size v5 x2 := (by (first | with_reducible exact (bel_next (y1) e2) | with_reducible exact (bel_next (bel_al y1) e2))); have La_2 := (by (first | with_reducible exact (Lm.bel (La_1) e2) | with_reducible exact (Lm.bel (Lm.al La_1 _) e2)) : Lm x2 Aa na ca xa); have Lb_2 := (by (first | with_reducible exact (Lm.bel (Lb_1) e2) | with_reducible exact (Lm.bel (Lm.al Lb_1 _) e2)) : Lm x2 Ab nb cb xb); have Lc_2 := (by (first | with_reducible exact (Lm.bel (Lc_1) e2) | with_reducible exact (Lm.bel (Lm.al Lc_1 _) e2)) : Lm x2 Ac nc cc xc); have Lr_bc_2 := (by (first | with_reducible exact (Lm.bel (h1) e2) | with_reducible exact (Lm.bel (Lm.al h1 _) e2)) : Lm x2 A1 m1 c1 (lim BC.natAbs)); have s2 := (bel_size y2); (first | with_reducible have tz : Two x2 x1.heap.size := zn0 e2 | (first | with_reducible have tz : Two x2 _ := Two.bel tz e2 | skip)); (try (have rr := tz.room.2))))
    all_goals (go_wp2_with fail; go_meet)
    all_goals (first | with_reducible exact laid1N y2 h2 (by omega) | with_reducible exact laid1O y2 h2 (by omega) (by with_reducible assumption) (by omega))
  case rest =>
    obtain ⟨q, rfl, ⟨A2, m2, c2, bx, lx, hmx⟩, hq, hbx⟩ := hcut
    have b_x6 := bx
    have l_x6 := lx
    clear bx lx
    have b_a6 := b_a5.bel hbx
    have b_b6 := b_b5.bel hbx
    have b_c6 := b_c5.bel hbx
    have l_a6 := l_a5.bel hbx
    have l_b6 := l_b5.bel hbx
    have l_c6 := l_c5.bel hbx
    have t_T6 := Lib.hid (t_T5.out.bel hbx)
    have t_S6 := Lib.hid (t_S5.out.bel hbx)
    have t_P6 := Lib.hid (t_P5.out.bel hbx)
    have t_F6 := Lib.hid (t_F5.out.bel hbx)
    have bel6 := bel5.trans (hbx.mono bel5.size)
    have c_a0_6 := b_a6.c0
    have c_a1_6 := b_a6.c1
    have c_b0_6 := b_b6.c0
    have c_b1_6 := b_b6.c1
    have c_c0_6 := b_c6.c0
    have c_c1_6 := b_c6.c1
    clear hbx b_a5 c_a0_5 c_a1_5 b_b5 c_b0_5 c_b1_5 b_c5 c_c0_5 c_c1_5 l_a5 l_b5 l_c5 t_T5 t_S5 t_P5 t_F5 bel5
    have c_x0_6 := b_x6.c0
    have c_x1_6 := b_x6.c1
    go_upto_region 6 with (fail)
    go_cut [8] (fun s8 wx => Laid1 wc PP s8 wx)
    case first =>
      have hS0 := And.intro (held0 b_a6) ( And.intro (held0 b_b6) ( And.intro (held0 b_c6) (held0 b_x6)))
      have y0 : Below wc.heap.size wc wc := Below.refl _ _
      go_region_held3 (fun w' => (Box w' ga sa Aa na ca ∧ w'.cell? ⟨ga, 0, none⟩ = some (.bool sa) ∧ w'.cell? ⟨ga, 1, none⟩ = some (.slice Aa na ca)) ∧ (Box w' gb sb Ab nb cb ∧ w'.cell? ⟨gb, 0, none⟩ = some (.bool sb) ∧ w'.cell? ⟨gb, 1, none⟩ = some (.slice Ab nb cb)) ∧ (Box w' gc sc Ac nc cc ∧ w'.cell? ⟨gc, 0, none⟩ = some (.bool sc) ∧ w'.cell? ⟨gc, 1, none⟩ = some (.slice Ac nc cc)) ∧ (Box w' q (decide (PP < 0)) A2 m2 c2 ∧ w'.cell? ⟨q, 0, none⟩ = some (.bool (decide (PP < 0))) ∧ w'.cell? ⟨q, 1, none⟩ = some (.slice A2 m2 c2)))
        (first
          | exact ⟨held0 (w := wc.drew) b_a6, held0 (w := wc.drew) b_b6, held0 (w := wc.drew) b_c6, held0 (w := wc.drew) b_x6⟩
          | with_reducible exact keep40 (bel_drw (bel_al y0)) hS0
          | with_reducible exact keep40 (bel_al y0) hS0
          | with_reducible exact keep40 (bel_al (by with_reducible assumption)) hS0
          | with_reducible exact keep40 (bel_put (by with_reducible assumption) (by omega) _ _) hS0
          | with_reducible exact keep40 (by assumption) hS0)
        (first
          | (go_at_call 61; (fail_if_success (have hq := z1)); refine (wmul_g _ X Y sa Aa na ca xa ?_ HX.out sb Ab nb cb xb ?_ HY.out ?_ ?_ ?_ HAB.out).mono ?_; (first | with_reducible exact (Lm.drew l_a6) | with_reducible exact (Lm.drew (Lm.al l_a6 _))); (first | with_reducible exact (Lm.drew l_b6) | with_reducible exact (Lm.drew (Lm.al l_b6 _))); (first | with_reducible exact (t_P6.out.bel (bel_drw y0)) | with_reducible exact (t_P6.out.bel (bel_drw (bel_al y0)))); omega; omega; rintro e x1 ⟨A11, m11, c11, rfl, h11, hm11, e1⟩; have z1 : True := trivial; have hc := bel_undrew e1; have y1 : Below wc.heap.size wc x1 := (by (first | with_reducible exact (bel_next (y0) hc) | with_reducible exact (bel_next ((bel_al y0)) hc))); have La_1 := (by (first | with_reducible exact (Lm.bel (l_a6) hc) | with_reducible exact (Lm.bel ((Lm.al l_a6 _)) hc)) : Lm x1 Aa na ca xa); have Lb_1 := (by (first | with_reducible exact (Lm.bel (l_b6) hc) | with_reducible exact (Lm.bel ((Lm.al l_b6 _)) hc)) : Lm x1 Ab nb cb xb); have Lc_1 := (by (first | with_reducible exact (Lm.bel (l_c6) hc) | with_reducible exact (Lm.bel ((Lm.al l_c6 _)) hc)) : Lm x1 Ac nc cc xc); have Lx_1 := (by (first | with_reducible exact (Lm.bel (l_x6) hc) | with_reducible exact (Lm.bel ((Lm.al l_x6 _)) hc)) : Lm x1 A2 m2 c2 (lim PP.natAbs)); have s1 := (bel_size y1); (first | with_reducible have tz : Two x1 wc.heap.size := zn0 hc | skip))
          | (go_at_call 61; have hq := z1; (fail_if_success (have hq := z2)); refine (wmul_g _ X Z sa Aa na ca xa ?_ HX.out sc Ac nc cc xc ?_ HZ.out ?_ ?_ ?_ HAC.out).mono ?_; (first | with_reducible exact (La_1) | with_reducible exact (Lm.al La_1 _)); (first | with_reducible exact (Lc_1) | with_reducible exact (Lm.al Lc_1 _)); (first | with_reducible exact (t_P6.out.bel (y1)) | with_reducible exact (t_P6.out.bel (bel_al y1))); omega; omega; rintro e x2 ⟨A12, m12, c12, rfl, h12, hm12, e2⟩; have z2 : True := trivial; have y2 : Below wc.heap.size wc x2 := (by (first | with_reducible exact (bel_next (y1) e2) | with_reducible exact (bel_next (bel_al y1) e2))); have La_2 := (by (first | with_reducible exact (Lm.bel (La_1) e2) | with_reducible exact (Lm.bel (Lm.al La_1 _) e2)) : Lm x2 Aa na ca xa); have Lb_2 := (by (first | with_reducible exact (Lm.bel (Lb_1) e2) | with_reducible exact (Lm.bel (Lm.al Lb_1 _) e2)) : Lm x2 Ab nb cb xb); have Lc_2 := (by (first | with_reducible exact (Lm.bel (Lc_1) e2) | with_reducible exact (Lm.bel (Lm.al Lc_1 _) e2)) : Lm x2 Ac nc cc xc); have Lx_2 := (by (first | with_reducible exact (Lm.bel (Lx_1) e2) | with_reducible exact (Lm.bel (Lm.al Lx_1 _) e2)) : Lm x2 A2 m2 c2 (lim PP.natAbs)); have Lr_ab_2 := (by (first | with_reducible exact (Lm.bel (h11) e2) | with_reducible exact (Lm.bel (Lm.al h11 _) e2)) : Lm x2 A11 m11 c11 (lim AB.natAbs)); have s2 := (bel_size y2); (first | with_reducible have tz : Two x2 x1.heap.size := zn0 e2 | (first | with_reducible have tz : Two x2 _ := Two.bel tz e2 | skip)))
          | (go_at_call 57; have hq := z2; (fail_if_success (have hq := z3)); refine (wadd_g _ AB AC _ A11 m11 c11 _ ?_ (sgn_lim AB) _ A12 m12 c12 _ ?_ (sgn_lim AC) ?_ ?_ ?_ HPP2.out).mono ?_; (first | with_reducible exact (Lr_ab_2) | with_reducible exact (Lm.al Lr_ab_2 _)); (first | with_reducible exact (h12) | with_reducible exact (Lm.al h12 _)); (first | with_reducible exact (t_S6.out.bel (y2)) | with_reducible exact (t_S6.out.bel (bel_al y2))); omega; omega; rintro e x3 ⟨A13, m13, c13, rfl, h13, hm13, e3⟩; have z3 : True := trivial; have y3 : Below wc.heap.size wc x3 := (by (first | with_reducible exact (bel_next (y2) e3) | with_reducible exact (bel_next (bel_al y2) e3))); have La_3 := (by (first | with_reducible exact (Lm.bel (La_2) e3) | with_reducible exact (Lm.bel (Lm.al La_2 _) e3)) : Lm x3 Aa na ca xa); have Lb_3 := (by (first | with_reducible exact (Lm.bel (Lb_2) e3) | with_reducible exact (Lm.bel (Lm.al Lb_2 _) e3)) : Lm x3 Ab nb cb xb); have Lc_3 := (by (first | with_reducible exact (Lm.bel (Lc_2) e3) | with_reducible exact (Lm.bel (Lm.al Lc_2 _) e3)) : Lm x3 Ac nc cc xc); have Lx_3 := (by (first | with_reducible exact (Lm.bel (Lx_2) e3) | with_reducible exact (Lm.bel (Lm.al Lx_2 _) e3)) : Lm x3 A2 m2 c2 (lim PP.natAbs)); have Lr_ab_3 := (by (first | with_reducible exact (Lm.bel (Lr_ab_2) e3) | with_reducible exact (Lm.bel (Lm.al Lr_ab_2 _) e3)) : Lm x3 A11 m11 c11 (lim AB.natAbs)); have Lr_ac_3 := (by (first | with_reducible exact (Lm.bel (h12) e3) | with_reducible exact (Lm.bel (Lm.al h12 _) e3)) : Lm x3 A12 m12 c12 (lim AC.natAbs)); have s3 := (bel_size y3); (first | with_reducible have tz : Two x3 x2.heap.size := zn0 e3 | (first | with_reducible have tz : Two x3 _ := Two.bel tz e3 | skip)); (try (have rr := tz.room.2))))
      all_goals (go_wp2_with fail; go_meet)
      all_goals (first | with_reducible exact laid1N y3 h13 (by omega) | with_reducible exact laid1O y3 h13 (by omega) (by with_reducible assumption) (by omega))
    case rest =>
      obtain ⟨qy, rfl, ⟨A3, m3, c3, bx, lx, hmy⟩, hqy, hbx⟩ := hcut
      have b_y7 := bx
      have l_y7 := lx
      clear bx lx
      have b_a7 := b_a6.bel hbx
      have b_b7 := b_b6.bel hbx
      have b_c7 := b_c6.bel hbx
      have b_x7 := b_x6.bel hbx
      have l_a7 := l_a6.bel hbx
      have l_b7 := l_b6.bel hbx
      have l_c7 := l_c6.bel hbx
      have l_x7 := l_x6.bel hbx
      have t_T7 := Lib.hid (t_T6.out.bel hbx)
      have t_S7 := Lib.hid (t_S6.out.bel hbx)
      have t_P7 := Lib.hid (t_P6.out.bel hbx)
      have t_F7 := Lib.hid (t_F6.out.bel hbx)
      have bel7 := bel6.trans (hbx.mono bel6.size)
      have c_a0_7 := b_a7.c0
      have c_a1_7 := b_a7.c1
      have c_b0_7 := b_b7.c0
      have c_b1_7 := b_b7.c1
      have c_c0_7 := b_c7.c0
      have c_c1_7 := b_c7.c1
      have c_x0_7 := b_x7.c0
      have c_x1_7 := b_x7.c1
      clear hbx b_a6 c_a0_6 c_a1_6 b_b6 c_b0_6 c_b1_6 b_c6 c_c0_6 c_c1_6 b_x6 c_x0_6 c_x1_6 l_a6 l_b6 l_c6 l_x6 t_T6 t_S6 t_P6 t_F6 bel6
      have c_y0_7 := b_y7.c0
      have c_y1_7 := b_y7.c1
      go_wp2_with fail
      simp only [List.append]
      have hS0 := And.intro (held0 b_a7) ( And.intro (held0 b_b7) ( And.intro (held0 b_c7) ( And.intro (held0 b_x7) (held0 b_y7))))
      have y0 : Below wc.heap.size wc wc := Below.refl _ _
      go_region_held3 (fun w' => (Box w' ga sa Aa na ca ∧ w'.cell? ⟨ga, 0, none⟩ = some (.bool sa) ∧ w'.cell? ⟨ga, 1, none⟩ = some (.slice Aa na ca)) ∧ (Box w' gb sb Ab nb cb ∧ w'.cell? ⟨gb, 0, none⟩ = some (.bool sb) ∧ w'.cell? ⟨gb, 1, none⟩ = some (.slice Ab nb cb)) ∧ (Box w' gc sc Ac nc cc ∧ w'.cell? ⟨gc, 0, none⟩ = some (.bool sc) ∧ w'.cell? ⟨gc, 1, none⟩ = some (.slice Ac nc cc)) ∧ (Box w' q (decide (PP < 0)) A2 m2 c2 ∧ w'.cell? ⟨q, 0, none⟩ = some (.bool (decide (PP < 0))) ∧ w'.cell? ⟨q, 1, none⟩ = some (.slice A2 m2 c2)) ∧ (Box w' qy (decide (PP < 0)) A3 m3 c3 ∧ w'.cell? ⟨qy, 0, none⟩ = some (.bool (decide (PP < 0))) ∧ w'.cell? ⟨qy, 1, none⟩ = some (.slice A3 m3 c3)))
        (first
          | exact ⟨held0 (w := wc.drew) b_a7, held0 (w := wc.drew) b_b7, held0 (w := wc.drew) b_c7, held0 (w := wc.drew) b_x7, held0 (w := wc.drew) b_y7⟩
          | with_reducible exact keep50 (by assumption) hS0)
        (first
          | (go_at_call 50; (fail_if_success (have hq := z1)); refine (rsameZ _ PP PP A2 m2 c2 ?_ A3 m3 c3 ?_ (decide_eq_true rfl)).mono ?_; exact (Lm.drew l_x7); exact (Lm.drew l_y7); rintro e x1 ⟨rfl, e1⟩; have z1 : True := trivial; have hc := bel_undrew e1; have y1 : Below wc.heap.size wc x1 := (by exact (bel_next (y0) hc)); have La_1 := (by exact (Lm.bel (l_a7) hc) : Lm x1 Aa na ca xa); have Lb_1 := (by exact (Lm.bel (l_b7) hc) : Lm x1 Ab nb cb xb); have Lc_1 := (by exact (Lm.bel (l_c7) hc) : Lm x1 Ac nc cc xc); have Lx_1 := (by exact (Lm.bel (l_x7) hc) : Lm x1 A2 m2 c2 (lim PP.natAbs)); have Ly_1 := (by exact (Lm.bel (l_y7) hc) : Lm x1 A3 m3 c3 (lim PP.natAbs)))
          | (go_at_call 57; have hq := z1; (fail_if_success (have hq := z2)); refine (wadd_g _ X Y sa Aa na ca xa ?_ HX.out sb Ab nb cb xb ?_ HY.out ?_ ?_ ?_ HSS.out).mono ?_; exact (La_1); exact (Lb_1); exact (t_S7.out.bel (y1)); omega; omega; rintro e x2 ⟨A15, m15, c15, rfl, h15, hm15, e2⟩; have z2 : True := trivial; have y2 : Below wc.heap.size wc x2 := (by exact (bel_next (y1) e2)); have La_2 := (by exact (Lm.bel (La_1) e2) : Lm x2 Aa na ca xa); have Lb_2 := (by exact (Lm.bel (Lb_1) e2) : Lm x2 Ab nb cb xb); have Lc_2 := (by exact (Lm.bel (Lc_1) e2) : Lm x2 Ac nc cc xc); have Lx_2 := (by exact (Lm.bel (Lx_1) e2) : Lm x2 A2 m2 c2 (lim PP.natAbs)); have Ly_2 := (by exact (Lm.bel (Ly_1) e2) : Lm x2 A3 m3 c3 (lim PP.natAbs)))
          | (go_at_call 59; have hq := z2; (fail_if_success (have hq := z3)); refine (wsub_g _ SS Y _ A15 m15 c15 _ ?_ (sgn_lim SS) sb Ab nb cb xb ?_ HY.out ?_ ?_ ?_ HSX.out).mono ?_; exact (h15); exact (Lb_2); exact (t_S7.out.bel (y2)); omega; omega; rintro e x3 ⟨A16, m16, c16, rfl, h16, hm16, e3⟩; have z3 : True := trivial; have y3 : Below wc.heap.size wc x3 := (by exact (bel_next (y2) e3)); have La_3 := (by exact (Lm.bel (La_2) e3) : Lm x3 Aa na ca xa); have Lb_3 := (by exact (Lm.bel (Lb_2) e3) : Lm x3 Ab nb cb xb); have Lc_3 := (by exact (Lm.bel (Lc_2) e3) : Lm x3 Ac nc cc xc); have Lx_3 := (by exact (Lm.bel (Lx_2) e3) : Lm x3 A2 m2 c2 (lim PP.natAbs)); have Ly_3 := (by exact (Lm.bel (Ly_2) e3) : Lm x3 A3 m3 c3 (lim PP.natAbs)); have Lr_s_3 := (by exact (Lm.bel (h15) e3) : Lm x3 A15 m15 c15 (lim SS.natAbs)))
          | (go_at_call 51; have hq := z3; (fail_if_success (have hq := z4)); refine (wnorm_g _ X sa Aa na ca xa ?_ HX.out ).mono ?_; exact (La_3); rintro e x4 ⟨A17, m17, c17, rfl, h17, hm17, e4⟩; have z4 : True := trivial; have y4 : Below wc.heap.size wc x4 := (by exact (bel_next (y3) e4)); have La_4 := (by exact (Lm.bel (La_3) e4) : Lm x4 Aa na ca xa); have Lb_4 := (by exact (Lm.bel (Lb_3) e4) : Lm x4 Ab nb cb xb); have Lc_4 := (by exact (Lm.bel (Lc_3) e4) : Lm x4 Ac nc cc xc); have Lx_4 := (by exact (Lm.bel (Lx_3) e4) : Lm x4 A2 m2 c2 (lim PP.natAbs)); have Ly_4 := (by exact (Lm.bel (Ly_3) e4) : Lm x4 A3 m3 c3 (lim PP.natAbs)); have Lr_s_4 := (by exact (Lm.bel (Lr_s_3) e4) : Lm x4 A15 m15 c15 (lim SS.natAbs)); have Lr_x1_4 := (by exact (Lm.bel (h16) e4) : Lm x4 A16 m16 c16 (lim X.natAbs)))
          | (go_at_call 50; have hq := z4; (fail_if_success (have hq := z5)); refine (rsameZ _ X X A16 m16 c16 ?_ A17 m17 c17 ?_ (decide_eq_true rfl)).mono ?_; exact (Lr_x1_4); exact (h17); rintro e x5 ⟨rfl, e5⟩; have z5 : True := trivial; have y5 : Below wc.heap.size wc x5 := (by exact (bel_next (y4) e5)); have La_5 := (by exact (Lm.bel (La_4) e5) : Lm x5 Aa na ca xa); have Lb_5 := (by exact (Lm.bel (Lb_4) e5) : Lm x5 Ab nb cb xb); have Lc_5 := (by exact (Lm.bel (Lc_4) e5) : Lm x5 Ac nc cc xc); have Lx_5 := (by exact (Lm.bel (Lx_4) e5) : Lm x5 A2 m2 c2 (lim PP.natAbs)); have Ly_5 := (by exact (Lm.bel (Ly_4) e5) : Lm x5 A3 m3 c3 (lim PP.natAbs)))
          | (go_at_call 57; have hq := z5; (fail_if_success (have hq := z6)); refine (wadd_g _ X Y sa Aa na ca xa ?_ HX.out sb Ab nb cb xb ?_ HY.out ?_ ?_ ?_ HSS.out).mono ?_; exact (La_5); exact (Lb_5); exact (t_S7.out.bel (y5)); omega; omega; rintro e x6 ⟨A19, m19, c19, rfl, h19, hm19, e6⟩; have z6 : True := trivial; have y6 : Below wc.heap.size wc x6 := (by exact (bel_next (y5) e6)); have La_6 := (by exact (Lm.bel (La_5) e6) : Lm x6 Aa na ca xa); have Lb_6 := (by exact (Lm.bel (Lb_5) e6) : Lm x6 Ab nb cb xb); have Lc_6 := (by exact (Lm.bel (Lc_5) e6) : Lm x6 Ac nc cc xc); have Lx_6 := (by exact (Lm.bel (Lx_5) e6) : Lm x6 A2 m2 c2 (lim PP.natAbs)); have Ly_6 := (by exact (Lm.bel (Ly_5) e6) : Lm x6 A3 m3 c3 (lim PP.natAbs)))
          | (go_at_call 57; have hq := z6; (fail_if_success (have hq := z7)); refine (wadd_g _ Y X sb Ab nb cb xb ?_ HY.out sa Aa na ca xa ?_ HX.out ?_ ?_ ?_ HS2.out).mono ?_; exact (Lb_6); exact (La_6); exact (t_S7.out.bel (y6)); omega; omega; rintro e x7 ⟨A20, m20, c20, rfl, h20, hm20, e7⟩; have z7 : True := trivial; have y7 : Below wc.heap.size wc x7 := (by exact (bel_next (y6) e7)); have La_7 := (by exact (Lm.bel (La_6) e7) : Lm x7 Aa na ca xa); have Lb_7 := (by exact (Lm.bel (Lb_6) e7) : Lm x7 Ab nb cb xb); have Lc_7 := (by exact (Lm.bel (Lc_6) e7) : Lm x7 Ac nc cc xc); have Lx_7 := (by exact (Lm.bel (Lx_6) e7) : Lm x7 A2 m2 c2 (lim PP.natAbs)); have Ly_7 := (by exact (Lm.bel (Ly_6) e7) : Lm x7 A3 m3 c3 (lim PP.natAbs)); have Lr_s1_7 := (by exact (Lm.bel (h19) e7) : Lm x7 A19 m19 c19 (lim SS.natAbs)))
          | (go_at_call 50; have hq := z7; (fail_if_success (have hq := z8)); refine (rsameZ _ SS SS A19 m19 c19 ?_ A20 m20 c20 ?_ (decide_eq_true rfl)).mono ?_; exact (Lr_s1_7); exact (h20); rintro e x8 ⟨rfl, e8⟩; have z8 : True := trivial; have y8 : Below wc.heap.size wc x8 := (by exact (bel_next (y7) e8)); have La_8 := (by exact (Lm.bel (La_7) e8) : Lm x8 Aa na ca xa); have Lb_8 := (by exact (Lm.bel (Lb_7) e8) : Lm x8 Ab nb cb xb); have Lc_8 := (by exact (Lm.bel (Lc_7) e8) : Lm x8 Ac nc cc xc); have Lx_8 := (by exact (Lm.bel (Lx_7) e8) : Lm x8 A2 m2 c2 (lim PP.natAbs)); have Ly_8 := (by exact (Lm.bel (Ly_7) e8) : Lm x8 A3 m3 c3 (lim PP.natAbs)))
          | (go_at_call 61; have hq := z8; (fail_if_success (have hq := z9)); refine (wmul_g _ X Y sa Aa na ca xa ?_ HX.out sb Ab nb cb xb ?_ HY.out ?_ ?_ ?_ HAB.out).mono ?_; exact (La_8); exact (Lb_8); exact (t_P7.out.bel (y8)); omega; omega; rintro e x9 ⟨A22, m22, c22, rfl, h22, hm22, e9⟩; have z9 : True := trivial; have y9 : Below wc.heap.size wc x9 := (by exact (bel_next (y8) e9)); have La_9 := (by exact (Lm.bel (La_8) e9) : Lm x9 Aa na ca xa); have Lb_9 := (by exact (Lm.bel (Lb_8) e9) : Lm x9 Ab nb cb xb); have Lc_9 := (by exact (Lm.bel (Lc_8) e9) : Lm x9 Ac nc cc xc); have Lx_9 := (by exact (Lm.bel (Lx_8) e9) : Lm x9 A2 m2 c2 (lim PP.natAbs)); have Ly_9 := (by exact (Lm.bel (Ly_8) e9) : Lm x9 A3 m3 c3 (lim PP.natAbs)))
          | (go_at_call 53; have hq := z9; (fail_if_success (have hq := z10)); refine (wsign_g _ AB _ A22 m22 c22 _ ?_ (sgn_lim AB) Hπ.out).mono ?_; exact (h22); rintro e x10 ⟨rfl, e10⟩; have z10 : True := trivial; have y10 : Below wc.heap.size wc x10 := (by exact (bel_next (y9) e10)); have La_10 := (by exact (Lm.bel (La_9) e10) : Lm x10 Aa na ca xa); have Lb_10 := (by exact (Lm.bel (Lb_9) e10) : Lm x10 Ab nb cb xb); have Lc_10 := (by exact (Lm.bel (Lc_9) e10) : Lm x10 Ac nc cc xc); have Lx_10 := (by exact (Lm.bel (Lx_9) e10) : Lm x10 A2 m2 c2 (lim PP.natAbs)); have Ly_10 := (by exact (Lm.bel (Ly_9) e10) : Lm x10 A3 m3 c3 (lim PP.natAbs)))
          | (go_at_call 53; have hq := z10; (fail_if_success (have hq := z11)); refine (wsign_g _ X sa Aa na ca xa ?_ HX.out Hσ.out).mono ?_; exact (La_10); rintro e x11 ⟨rfl, e11⟩; have z11 : True := trivial; have y11 : Below wc.heap.size wc x11 := (by exact (bel_next (y10) e11)); have La_11 := (by exact (Lm.bel (La_10) e11) : Lm x11 Aa na ca xa); have Lb_11 := (by exact (Lm.bel (Lb_10) e11) : Lm x11 Ab nb cb xb); have Lc_11 := (by exact (Lm.bel (Lc_10) e11) : Lm x11 Ac nc cc xc); have Lx_11 := (by exact (Lm.bel (Lx_10) e11) : Lm x11 A2 m2 c2 (lim PP.natAbs)); have Ly_11 := (by exact (Lm.bel (Ly_10) e11) : Lm x11 A3 m3 c3 (lim PP.natAbs)))
          | (go_at_call 53; have hq := z11; (fail_if_success (have hq := z12)); refine (wsign_g _ Y sb Ab nb cb xb ?_ HY.out Hτ.out).mono ?_; exact (Lb_11); rintro e x12 ⟨rfl, e12⟩; have z12 : True := trivial; have y12 : Below wc.heap.size wc x12 := (by exact (bel_next (y11) e12)); have La_12 := (by exact (Lm.bel (La_11) e12) : Lm x12 Aa na ca xa); have Lb_12 := (by exact (Lm.bel (Lb_11) e12) : Lm x12 Ab nb cb xb); have Lc_12 := (by exact (Lm.bel (Lc_11) e12) : Lm x12 Ac nc cc xc); have Lx_12 := (by exact (Lm.bel (Lx_11) e12) : Lm x12 A2 m2 c2 (lim PP.natAbs)); have Ly_12 := (by exact (Lm.bel (Ly_11) e12) : Lm x12 A3 m3 c3 (lim PP.natAbs)))
          | (go_at_call 55; have hq := z12; (fail_if_success (have hq := z13)); refine (wcmp_g _ X Y sa Aa na ca xa ?_ HX.out sb Ab nb cb xb ?_ HY.out Hρ.out).mono ?_; exact (La_12); exact (Lb_12); rintro e x13 ⟨rfl, e13⟩; have z13 : True := trivial; have y13 : Below wc.heap.size wc x13 := (by exact (bel_next (y12) e13)); have La_13 := (by exact (Lm.bel (La_12) e13) : Lm x13 Aa na ca xa); have Lb_13 := (by exact (Lm.bel (Lb_12) e13) : Lm x13 Ab nb cb xb); have Lc_13 := (by exact (Lm.bel (Lc_12) e13) : Lm x13 Ac nc cc xc); have Lx_13 := (by exact (Lm.bel (Lx_12) e13) : Lm x13 A2 m2 c2 (lim PP.natAbs)); have Ly_13 := (by exact (Lm.bel (Ly_12) e13) : Lm x13 A3 m3 c3 (lim PP.natAbs)))
          | (go_at_call 55; have hq := z13; (fail_if_success (have hq := z14)); refine (wcmp_g _ Y X sb Ab nb cb xb ?_ HY.out sa Aa na ca xa ?_ HX.out Hν.out).mono ?_; exact (Lb_13); exact (La_13); rintro e x14 ⟨rfl, e14⟩; have z14 : True := trivial; have y14 : Below wc.heap.size wc x14 := (by exact (bel_next (y13) e14)); have La_14 := (by exact (Lm.bel (La_13) e14) : Lm x14 Aa na ca xa); have Lb_14 := (by exact (Lm.bel (Lb_13) e14) : Lm x14 Ab nb cb xb); have Lc_14 := (by exact (Lm.bel (Lc_13) e14) : Lm x14 Ac nc cc xc); have Lx_14 := (by exact (Lm.bel (Lx_13) e14) : Lm x14 A2 m2 c2 (lim PP.natAbs)); have Ly_14 := (by exact (Lm.bel (Ly_13) e14) : Lm x14 A3 m3 c3 (lim PP.natAbs)))
          | (go_at_call 55; have hq := z14; (fail_if_success (have hq := z15)); refine (wcmp_g _ X Y sa Aa na ca xa ?_ HX.out sb Ab nb cb xb ?_ HY.out Hρ.out).mono ?_; exact (La_14); exact (Lb_14); rintro e x15 ⟨rfl, e15⟩; have z15 : True := trivial; have y15 : Below wc.heap.size wc x15 := (by exact (bel_next (y14) e15)); have La_15 := (by exact (Lm.bel (La_14) e15) : Lm x15 Aa na ca xa); have Lb_15 := (by exact (Lm.bel (Lb_14) e15) : Lm x15 Ab nb cb xb); have Lc_15 := (by exact (Lm.bel (Lc_14) e15) : Lm x15 Ac nc cc xc); have Lx_15 := (by exact (Lm.bel (Lx_14) e15) : Lm x15 A2 m2 c2 (lim PP.natAbs)); have Ly_15 := (by exact (Lm.bel (Ly_14) e15) : Lm x15 A3 m3 c3 (lim PP.natAbs)))
          | (go_at_call 59; have hq := z15; (fail_if_success (have hq := z16)); refine (wsub_g _ X Y sa Aa na ca xa ?_ HX.out sb Ab nb cb xb ?_ HY.out ?_ ?_ ?_ HDD.out).mono ?_; exact (La_15); exact (Lb_15); exact (t_S7.out.bel (y15)); omega; omega; rintro e x16 ⟨A29, m29, c29, rfl, h29, hm29, e16⟩; have z16 : True := trivial; have y16 : Below wc.heap.size wc x16 := (by exact (bel_next (y15) e16)); have La_16 := (by exact (Lm.bel (La_15) e16) : Lm x16 Aa na ca xa); have Lb_16 := (by exact (Lm.bel (Lb_15) e16) : Lm x16 Ab nb cb xb); have Lc_16 := (by exact (Lm.bel (Lc_15) e16) : Lm x16 Ac nc cc xc); have Lx_16 := (by exact (Lm.bel (Lx_15) e16) : Lm x16 A2 m2 c2 (lim PP.natAbs)); have Ly_16 := (by exact (Lm.bel (Ly_15) e16) : Lm x16 A3 m3 c3 (lim PP.natAbs)))
          | (go_at_call 53; have hq := z16; (fail_if_success (have hq := z17)); refine (wsign_g _ DD _ A29 m29 c29 _ ?_ (sgn_lim DD) HDR.out).mono ?_; exact (h29); rintro e x17 ⟨rfl, e17⟩; have z17 : True := trivial; have y17 : Below wc.heap.size wc x17 := (by exact (bel_next (y16) e17)); have La_17 := (by exact (Lm.bel (La_16) e17) : Lm x17 Aa na ca xa); have Lb_17 := (by exact (Lm.bel (Lb_16) e17) : Lm x17 Ab nb cb xb); have Lc_17 := (by exact (Lm.bel (Lc_16) e17) : Lm x17 Ac nc cc xc); have Lx_17 := (by exact (Lm.bel (Lx_16) e17) : Lm x17 A2 m2 c2 (lim PP.natAbs)); have Ly_17 := (by exact (Lm.bel (Ly_16) e17) : Lm x17 A3 m3 c3 (lim PP.natAbs)))
          | (go_at_call 63; have hq := z17; (fail_if_success (have hq := z18)); refine (wneg_g _ X sa Aa na ca xa ?_ HX.out HNX.out).mono ?_; exact (La_17); rintro e x18 ⟨A31, m31, c31, rfl, h31, hm31, e18⟩; have z18 : True := trivial; have y18 : Below wc.heap.size wc x18 := (by exact (bel_next (y17) e18)); have La_18 := (by exact (Lm.bel (La_17) e18) : Lm x18 Aa na ca xa); have Lb_18 := (by exact (Lm.bel (Lb_17) e18) : Lm x18 Ab nb cb xb); have Lc_18 := (by exact (Lm.bel (Lc_17) e18) : Lm x18 Ac nc cc xc); have Lx_18 := (by exact (Lm.bel (Lx_17) e18) : Lm x18 A2 m2 c2 (lim PP.natAbs)); have Ly_18 := (by exact (Lm.bel (Ly_17) e18) : Lm x18 A3 m3 c3 (lim PP.natAbs)))
          | (go_at_call 63; have hq := z18; (fail_if_success (have hq := z19)); refine (wneg_g _ NX _ A31 m31 c31 _ ?_ (sgn_lim NX) HNN.out).mono ?_; exact (h31); rintro e x19 ⟨A32, m32, c32, rfl, h32, hm32, e19⟩; have z19 : True := trivial; have y19 : Below wc.heap.size wc x19 := (by exact (bel_next (y18) e19)); have La_19 := (by exact (Lm.bel (La_18) e19) : Lm x19 Aa na ca xa); have Lb_19 := (by exact (Lm.bel (Lb_18) e19) : Lm x19 Ab nb cb xb); have Lc_19 := (by exact (Lm.bel (Lc_18) e19) : Lm x19 Ac nc cc xc); have Lx_19 := (by exact (Lm.bel (Lx_18) e19) : Lm x19 A2 m2 c2 (lim PP.natAbs)); have Ly_19 := (by exact (Lm.bel (Ly_18) e19) : Lm x19 A3 m3 c3 (lim PP.natAbs)); have Lr_n2_19 := (by exact (Lm.bel (h31) e19) : Lm x19 A31 m31 c31 (lim NX.natAbs)))
          | (go_at_call 51; have hq := z19; (fail_if_success (have hq := z20)); refine (wnorm_g _ X sa Aa na ca xa ?_ HX.out ).mono ?_; exact (La_19); rintro e x20 ⟨A33, m33, c33, rfl, h33, hm33, e20⟩; have z20 : True := trivial; have y20 : Below wc.heap.size wc x20 := (by exact (bel_next (y19) e20)); have La_20 := (by exact (Lm.bel (La_19) e20) : Lm x20 Aa na ca xa); have Lb_20 := (by exact (Lm.bel (Lb_19) e20) : Lm x20 Ab nb cb xb); have Lc_20 := (by exact (Lm.bel (Lc_19) e20) : Lm x20 Ac nc cc xc); have Lx_20 := (by exact (Lm.bel (Lx_19) e20) : Lm x20 A2 m2 c2 (lim PP.natAbs)); have Ly_20 := (by exact (Lm.bel (Ly_19) e20) : Lm x20 A3 m3 c3 (lim PP.natAbs)); have Lr_n2_20 := (by exact (Lm.bel (Lr_n2_19) e20) : Lm x20 A31 m31 c31 (lim NX.natAbs)); have Lr_n3_20 := (by exact (Lm.bel (h32) e20) : Lm x20 A32 m32 c32 (lim X.natAbs)))
          | (go_at_call 50; have hq := z20; (fail_if_success (have hq := z21)); refine (rsameZ _ X X A32 m32 c32 ?_ A33 m33 c33 ?_ (decide_eq_true rfl)).mono ?_; exact (Lr_n3_20); exact (h33); rintro e x21 ⟨rfl, e21⟩; have z21 : True := trivial; have y21 : Below wc.heap.size wc x21 := (by exact (bel_next (y20) e21)); have La_21 := (by exact (Lm.bel (La_20) e21) : Lm x21 Aa na ca xa); have Lb_21 := (by exact (Lm.bel (Lb_20) e21) : Lm x21 Ab nb cb xb); have Lc_21 := (by exact (Lm.bel (Lc_20) e21) : Lm x21 Ac nc cc xc); have Lx_21 := (by exact (Lm.bel (Lx_20) e21) : Lm x21 A2 m2 c2 (lim PP.natAbs)); have Ly_21 := (by exact (Lm.bel (Ly_20) e21) : Lm x21 A3 m3 c3 (lim PP.natAbs)))
          | (go_at_call 48; have hq := z21; (fail_if_success (have hq := z22)); refine (wis_lim _ PP A2 m2 c2 ?_).mono ?_; exact (Lx_21); rintro e x22 ⟨rfl, e22⟩; have z22 : True := trivial; have y22 : Below wc.heap.size wc x22 := (by exact (bel_next (y21) e22)); have La_22 := (by exact (Lm.bel (La_21) e22) : Lm x22 Aa na ca xa); have Lb_22 := (by exact (Lm.bel (Lb_21) e22) : Lm x22 Ab nb cb xb); have Lc_22 := (by exact (Lm.bel (Lc_21) e22) : Lm x22 Ac nc cc xc); have Lx_22 := (by exact (Lm.bel (Lx_21) e22) : Lm x22 A2 m2 c2 (lim PP.natAbs)); have Ly_22 := (by exact (Lm.bel (Ly_21) e22) : Lm x22 A3 m3 c3 (lim PP.natAbs))))
      all_goals go_wp2
      all_goals go_ret
      all_goals exact ⟨rfl, bel7.trans (y22.mono bel7.size)⟩
end Go.Proofs.YtopkndkicdgafaaDoor
