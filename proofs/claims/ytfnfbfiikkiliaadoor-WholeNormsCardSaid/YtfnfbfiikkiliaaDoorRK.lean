/- The first call of the laws of layer 2. -/
import Derived.Test.YtfnfbfiikkiliaaDoorRl
import Derived.Deep.RegionHeld3
import Derived.Deep.DeepCutAuto
namespace Go.Proofs.YtfnfbfiikkiliaaDoor
open Go.RowKit

/-- what a law's walk of layer 2 needs of the memory. -/
structure TabsW (w : World) : Prop where
  tab : Tab w
  sums : SumsT w
  products : ProductsT w
  farthest : FarthestT w
theorem TabsW.bel {w w' : World} (h : TabsW w) (hb : Below w.heap.size w w') : TabsW w' := ⟨h.tab.bel hb, h.sums.bel hb, h.products.bel hb, h.farthest.bel hb⟩
set_option maxRecDepth 100000 in
set_option maxHeartbeats 40000000 in
theorem known2_any (w : World) (hT : Tab w) (hP : ProductsT w) (hF : FarthestT w) : Calls Tryd.prog 11 #[] w fun e w' => e = .returned (.bool true) ∧ Below w.heap.size w w' := by
  obtain ⟨Z1, hZ1⟩ : ∃ Z : Int, Z = -7 := ⟨_, rfl⟩
  obtain ⟨Z2, hZ2⟩ : ∃ Z : Int, Z = 2 := ⟨_, rfl⟩
  obtain ⟨Q, hQ⟩ : ∃ Z : Int, Z = -4 := ⟨_, rfl⟩
  obtain ⟨R, hR⟩ : ∃ Z : Int, Z = 1 := ⟨_, rfl⟩
  obtain ⟨Z0, hZ0⟩ : ∃ Z : Int, Z = 0 := ⟨_, rfl⟩
  obtain ⟨Z5, hZ5⟩ : ∃ Z : Int, Z1 * 2 ^ heldN 70 = Z := ⟨_, rfl⟩
  have HOF : Hid (∀ w, Calls Tryd.prog 36 #[.int .i64 (-7)] w (TellsI w Z1 2)) := (fun w => wof_g w (-7) (by decide) hZ1.symm : ∀ w, Calls Tryd.prog 36 #[.int .i64 (-7)] w (TellsI w Z1 2))
  have HOF2 : Hid (∀ w, Calls Tryd.prog 36 #[.int .i64 2] w (TellsI w Z2 2)) := (fun w => wof_g w 2 (by decide) hZ2.symm : ∀ w, Calls Tryd.prog 36 #[.int .i64 2] w (TellsI w Z2 2))
  have HRQ : Hid (∀ w, Calls Tryd.prog 39 #[.int .i64 (-4)] w (TellsI w Q 2)) := (fun w => rof_g w (-4) (by decide) hQ.symm : ∀ w, Calls Tryd.prog 39 #[.int .i64 (-4)] w (TellsI w Q 2))
  have HRR : Hid (∀ w, Calls Tryd.prog 39 #[.int .i64 1] w (TellsI w R 2)) := (fun w => rof_g w 1 (by decide) hR.symm : ∀ w, Calls Tryd.prog 39 #[.int .i64 1] w (TellsI w R 2))
  have HY : Hid (decide (Z2 ≠ 0) = true) := (by rw [hZ2]; rfl : decide (Z2 ≠ 0) = true)
  have HQ : Hid (dq Z1 Z2 = Q ∧ dr Z1 Z2 = R) := (by rw [hZ1, hZ2, hQ, hR]; decide : dq Z1 Z2 = Q ∧ dr Z1 Z2 = R)
  have HN : Hid (sgn false (val []) = Z0 ∧ decide (Z0 ≠ 0) = false ∧ dq Z1 Z0 = Z0 ∧ dr Z1 Z0 = Z0) := (by rw [hZ0]; exact ⟨rfl, rfl, rfl, rfl⟩ : sgn false (val []) = Z0 ∧ decide (Z0 ≠ 0) = false ∧ dq Z1 Z0 = Z0 ∧ dr Z1 Z0 = Z0)
  have HS1 : Hid ((if fits Z1 = true then Z1 else 0) = -7 ∧ fits Z1 = true) := (by rw [hZ1]; decide : (if fits Z1 = true then Z1 else 0) = -7 ∧ fits Z1 = true)
  have h70 : heldN 70 = 70 := by decide
  have HS5 : Hid ((if fits Z5 = true then Z5 else 0) = 0 ∧ fits Z5 = false) := (by rw [← hZ5, hZ1, h70]; decide : (if fits Z5 = true then Z5 else 0) = 0 ∧ fits Z5 = false)
  have HSG : Hid (sg Z1 = -1) := (by rw [hZ1]; decide : sg Z1 = -1)
  have HCM : Hid (sg (Z1 - Q) = -1) := (by rw [hZ1, hQ]; decide : sg (Z1 - Q) = -1)
  have h1 : heldN 1 = 1 := by decide
  have HSH : Hid (Z1 / 2 ^ heldN 1 = Q) := (by rw [hZ1, hQ, h1]; decide : Z1 / 2 ^ heldN 1 = Q)
  have HZ5 := Lib.hid hZ5
  have HT := Lib.hid hT
  have HP := Lib.hid hP
  have HF := Lib.hid hF
  clear hZ1 hZ2 hQ hR hZ0 hZ5 hT hP hF h70 h1
  go_enter Tryd.func11, Tryd.ntmps11
  go_wp2_with fail
  refine (HOF.out _).mono ?_
  rintro e v2 ⟨A3, m3, c3, rfl, h3, hm3, hb3⟩
  go_upto_region 2 with (fail)
  obtain ⟨ga, hga⟩ : ∃ g, g = v2.heap.size := ⟨_, rfl⟩
  obtain ⟨w3, hw3⟩ : ∃ v, v = v2.alloc (.cells #[.bool (decide (Z1 < 0)), .slice A3 m3 c3] 24) := ⟨_, rfl⟩
  have kb3 : Below v2.heap.size v2 w3 := by rw [hw3]; exact bel_alloc _ _
  have b3 : Box w3 ga (decide (Z1 < 0)) A3 m3 c3 := by rw [hw3, hga]; exact Box.new _ _ _ _ _
  rw [← hw3, ← hga]
  have hgl : v2.heap.size = ga := hga.symm
  have hglt : ga < w3.heap.size := b3.lt
  have HGA := Lib.hid hgl
  clear hw3 hga hgl
  have l3 := h3.bel kb3
  have bel3 : Below w.heap.size w w3 := hb3.trans (kb3.mono hb3.size)
  have HT3 := Lib.hid (HP.out.bel bel3)
  go_cut [2, 3, 4] (fun s2 s3 s4 wx => s4 = .bool true ∧ Laid2 w3 Q R s2 s3 wx)
  case first =>
    clear HOF HRQ HRR HN HS1 HS5 HSG HCM HSH HZ5 HT HP HF h3 hb3 kb3 HGA bel3
    go_region_held3 (fun w' => Box w' ga (decide (Z1 < 0)) A3 m3 c3 ∧ w'.cell? ⟨ga, 0, none⟩ = some (.bool (decide (Z1 < 0))) ∧ w'.cell? ⟨ga, 1, none⟩ = some (.slice A3 m3 c3))
      (first
        | exact held0 (w := w3.drew) b3
        | with_reducible exact held0 (bdrew (by assumption))
        | with_reducible exact held0 (bdrew (Box.alloc (by assumption) _))
        | with_reducible exact held0 (bdrew (Box.alloc (Box.alloc (by assumption) _) _))
        | with_reducible exact held0 (Box.alloc (by assumption) _)
        | with_reducible exact held0 (Box.alloc (Box.alloc (by assumption) _) _)
        | with_reducible exact held0 (bxp (by assumption) (by omega))
        | with_reducible exact held0 (Box.alloc (bxp (by assumption) (by omega)) _)
        | with_reducible exact held0 (bxp (bxp (by assumption) (by omega)) (by omega))
        | with_reducible exact held0 (by assumption))
      (first
        | (go_at_call 36; refine (HOF2.out _).mono ?_; rintro e w5 ⟨A5, m5, c5, rfl, h5, hm5, hb_w5⟩; have hc_w5 := bel_undrew hb_w5; have q_w5 : Below w3.heap.size w3 w5 := (by first | with_reducible exact hc_w5 | with_reducible exact bel_a1 hc_w5 | with_reducible exact bel_a2 hc_w5); have k_w5 := q_w5; have s_w5 := q_w5.size; (first | (with_reducible have tab : Two w5 w3.heap.size ∧ Two w5 (w3.heap.size + 1) := zn1 hc_w5; have ta_w5 := tab.1; have tb_w5 := tab.2; clear tab) | (with_reducible have ta_w5 : Two w5 w3.heap.size := zn0 hc_w5) | skip); have b5 := b3.bel k_w5)
        | (go_at_call 13; refine (wdiv_g _ Z1 Z2 _ _ _ _ _ ?_ (sgn_lim Z1) _ _ _ _ _ ?_ (sgn_lim Z2) ?_ ?_ ?_ HY.out HQ.out.1 HQ.out.2).mono ?_; (first | with_reducible exact l3.bel k_w5 | with_reducible exact (l3.bel k_w5).al _ | with_reducible exact ((l3.bel k_w5).al _).al _); (first | with_reducible exact h5 | with_reducible exact h5.al _ | with_reducible exact (h5.al _).al _); (first | with_reducible exact HT3.out.bel k_w5 | with_reducible exact (HT3.out.bel k_w5).al _ | with_reducible exact ((HT3.out.bel k_w5).al _).al _); omega; omega; rintro e w6 ⟨A6, m6, c6, A7, m7, c7, rfl, h6, h7, hm6, hm7, hb_w6⟩; have hc_w6 := hb_w6; have q_w6 : Below w5.heap.size w5 w6 := (by first | with_reducible exact hc_w6 | with_reducible exact bel_a1 hc_w6 | with_reducible exact bel_a2 hc_w6); have k_w6 := bel_next k_w5 q_w6; have s_w6 := q_w6.size; (first | (with_reducible have tab : Two w6 w5.heap.size ∧ Two w6 (w5.heap.size + 1) := zn1 hc_w6; have ta_w6 := tab.1; have tb_w6 := tab.2; clear tab) | (with_reducible have ta_w6 : Two w6 w5.heap.size := zn0 hc_w6) | skip); (try with_reducible have tc_w6_w3 : Two w6 w3.heap.size := Two.bel (by assumption) q_w6); (try with_reducible have td_w6_w3 : Two w6 (w3.heap.size + 1) := Two.bel (by assumption) q_w6); (try (have na : w3.heap.size < w5.heap.size := Two.lt (by with_reducible assumption); have nb := Nat.ne_of_lt na; have nc := nb.symm)); (try (have rt : Two w6 w3.heap.size := (by with_reducible assumption); have rr := rt.room.2; have rl := rt.lt; clear rt)); (try (have rt : Two w6 (w3.heap.size + 1) := (by with_reducible assumption); have rr := rt.room.2; have rl := rt.lt; clear rt)); (try (have rt : Two w6 w5.heap.size := (by with_reducible assumption); have rr := rt.room.2; have rl := rt.lt; clear rt)); (try (have rt : Two w6 (w5.heap.size + 1) := (by with_reducible assumption); have rr := rt.room.2; have rl := rt.lt; clear rt)); have b6 := b5.bel q_w6; have l6 := l3.bel k_w6))
    all_goals (go_wp2_with fail; go_meet)
    all_goals refine ⟨rfl, ?_⟩
    all_goals (first | with_reducible exact laidNN k_w6 h6 (by omega) h7 (by omega) | with_reducible exact laidNNx k_w6 h6 (by omega) h7 (by omega) | with_reducible exact laidON k_w6 h6 (by omega) h7 (by omega) (by with_reducible assumption) (by omega) | with_reducible exact laidNO k_w6 h6 (by omega) h7 (by omega) (by with_reducible assumption) (by omega) | with_reducible exact laidOO k_w6 h6 (by omega) h7 (by omega) (by with_reducible assumption) (by with_reducible assumption) (by omega) (by omega) (by omega))
  case rest =>
    obtain ⟨rfl, q, r, rfl, rfl, ⟨A6, m6, c6, bq1, l_q1, hm6⟩, ⟨A7, m7, c7, br1, l_r1, hm7⟩, hq, hr, hbx⟩ := hcut
    have HMA : Hid (m3 ≤ 2) := (hm3 : m3 ≤ 2)
    have b_a1 := b3.bel hbx
    have l_a1 := l3.bel hbx
    have b_q1 := bq1
    have b_r1 := br1
    have bel1 := bel3.trans (hbx.mono bel3.size)
    have t_T1 := Lib.hid (HT.out.bel bel1)
    have t_P1 := Lib.hid (HP.out.bel bel1)
    have t_F1 := Lib.hid (HF.out.bel bel1)
    have hw0 : w.heap.size ≤ w3.heap.size := bel3.size
    have hga0 : w.heap.size ≤ ga := by have h1 := HGA.out; have h2 := hb3.size; omega
    have HG := Lib.hid (And.intro hq (And.intro hr (And.intro hw0 hga0)))
    clear hbx bq1 br1 l3 b3 h3 hb3 kb3 HT HP HF HT3 HGA hglt hm3 hq hr hw0 hga0
    have c_a0_1 := b_a1.c0
    have c_a1_1 := b_a1.c1
    have c_q0_1 := b_q1.c0
    have c_q1_1 := b_q1.c1
    have c_r0_1 := b_r1.c0
    have c_r1_1 := b_r1.c1
    go_wp2_with fail
    have cc := Lib.hid (wdiv_g wc Z1 Z0 _ A3 m3 c3 _ l_a1 (sgn_lim Z1) false none 0 0 [] (Lm.nil _) HN.out.1 t_P1.out (by have := HMA.out; omega) (by omega) HN.out.2.1 HN.out.2.2.1 HN.out.2.2.2)
    refine cc.out.mono ?_
    clear cc
    rintro e v2 ⟨A8, m8, c8, A9, m9, c9, rfl, h8, h9, hm8, hm9, kb2⟩
    have b_a2 := b_a1.bel kb2
    have b_q2 := b_q1.bel kb2
    have b_r2 := b_r1.bel kb2
    have l_a2 := l_a1.bel kb2
    have l_q2 := l_q1.bel kb2
    have l_r2 := l_r1.bel kb2
    have t_T2 := Lib.hid (t_T1.out.bel kb2)
    have t_P2 := Lib.hid (t_P1.out.bel kb2)
    have t_F2 := Lib.hid (t_F1.out.bel kb2)
    have bel2 := bel1.trans (kb2.mono bel1.size)
    have c_a0_2 := b_a2.c0
    have c_a1_2 := b_a2.c1
    have c_q0_2 := b_q2.c0
    have c_q1_2 := b_q2.c1
    have c_r0_2 := b_r2.c0
    have c_r1_2 := b_r2.c1
    clear kb2 b_a1 c_a0_1 c_a1_1 b_q1 c_q0_1 c_q1_1 b_r1 c_r0_1 c_r1_1 l_a1 l_q1 l_r1 t_T1 t_P1 t_F1 bel1
    have cc0 := ((b_a2.alloc (.cells #[.bool (decide (Z0 < 0)), .slice A8 m8 c8] 24)).alloc (.cells #[.bool (decide (Z0 < 0)), .slice A9 m9 c9] 24)).c0
    have cc1 := ((b_a2.alloc (.cells #[.bool (decide (Z0 < 0)), .slice A8 m8 c8] 24)).alloc (.cells #[.bool (decide (Z0 < 0)), .slice A9 m9 c9] 24)).c1
    go_wp2_with fail
    obtain ⟨wd, hwd⟩ : ∃ v, v = (v2.alloc (.cells #[.bool (decide (Z0 < 0)), .slice A8 m8 c8] 24)).alloc (.cells #[.bool (decide (Z0 < 0)), .slice A9 m9 c9] 24) := ⟨_, rfl⟩
    rw [← hwd]
    have hbd : Below v2.heap.size v2 wd := by rw [hwd]; exact bel_alloc2 _ _ _
    clear hwd h8 h9 hm8 hm9 cc0 cc1
    have b_a3 := b_a2.bel hbd
    have b_q3 := b_q2.bel hbd
    have b_r3 := b_r2.bel hbd
    have l_a3 := l_a2.bel hbd
    have l_q3 := l_q2.bel hbd
    have l_r3 := l_r2.bel hbd
    have t_T3 := Lib.hid (t_T2.out.bel hbd)
    have t_P3 := Lib.hid (t_P2.out.bel hbd)
    have t_F3 := Lib.hid (t_F2.out.bel hbd)
    have bel3 := bel2.trans (hbd.mono bel2.size)
    have c_a0_3 := b_a3.c0
    have c_a1_3 := b_a3.c1
    have c_q0_3 := b_q3.c0
    have c_q1_3 := b_q3.c1
    have c_r0_3 := b_r3.c0
    have c_r1_3 := b_r3.c1
    clear hbd b_a2 c_a0_2 c_a1_2 b_q2 c_q0_2 c_q1_2 b_r2 c_r0_2 c_r1_2 l_a2 l_q2 l_r2 t_T2 t_P2 t_F2 bel2
    have cc := Lib.hid (wsmall_g wd Z1 _ A3 m3 c3 _ l_a3 (sgn_lim Z1) t_F3.out HS1.out.1 HS1.out.2)
    refine cc.out.mono ?_
    clear cc
    rintro e v4 ⟨rfl, kb4⟩
    have b_a4 := b_a3.bel kb4
    have b_q4 := b_q3.bel kb4
    have b_r4 := b_r3.bel kb4
    have l_a4 := l_a3.bel kb4
    have l_q4 := l_q3.bel kb4
    have l_r4 := l_r3.bel kb4
    have t_T4 := Lib.hid (t_T3.out.bel kb4)
    have t_P4 := Lib.hid (t_P3.out.bel kb4)
    have t_F4 := Lib.hid (t_F3.out.bel kb4)
    have bel4 := bel3.trans (kb4.mono bel3.size)
    have c_a0_4 := b_a4.c0
    have c_a1_4 := b_a4.c1
    have c_q0_4 := b_q4.c0
    have c_q1_4 := b_q4.c1
    have c_r0_4 := b_r4.c0
    have c_r1_4 := b_r4.c1
    clear kb4 b_a3 c_a0_3 c_a1_3 b_q3 c_q0_3 c_q1_3 b_r3 c_r0_3 c_r1_3 l_a3 l_q3 l_r3 t_T3 t_P3 t_F3 bel3
    go_wp2_with fail
    have cc := Lib.hid (wshl_g v4 Z1 70 _ A3 m3 c3 _ l_a4 (sgn_lim Z1) (by have := HMA.out; omega) HZ5.out)
    refine cc.out.mono ?_
    clear cc
    rintro e v5 ⟨A10, m10, c10, rfl, h10, hm10, kb5⟩
    have b_a5 := b_a4.bel kb5
    have b_q5 := b_q4.bel kb5
    have b_r5 := b_r4.bel kb5
    have l_a5 := l_a4.bel kb5
    have l_q5 := l_q4.bel kb5
    have l_r5 := l_r4.bel kb5
    have t_T5 := Lib.hid (t_T4.out.bel kb5)
    have t_P5 := Lib.hid (t_P4.out.bel kb5)
    have t_F5 := Lib.hid (t_F4.out.bel kb5)
    have bel5 := bel4.trans (kb5.mono bel4.size)
    have c_a0_5 := b_a5.c0
    have c_a1_5 := b_a5.c1
    have c_q0_5 := b_q5.c0
    have c_q1_5 := b_q5.c1
    have c_r0_5 := b_r5.c0
    have c_r1_5 := b_r5.c1
    clear kb5 b_a4 c_a0_4 c_a1_4 b_q4 c_q0_4 c_q1_4 b_r4 c_r0_4 c_r1_4 l_a4 l_q4 l_r4 t_T4 t_P4 t_F4 bel4
    go_wp2_with fail
    have cc := Lib.hid (wsmall_g v5 Z5 _ A10 m10 c10 _ h10 (sgn_lim Z5) t_F5.out HS5.out.1 HS5.out.2)
    refine cc.out.mono ?_
    clear cc
    rintro e v6 ⟨rfl, kb6⟩
    have b_a6 := b_a5.bel kb6
    have b_q6 := b_q5.bel kb6
    have b_r6 := b_r5.bel kb6
    have l_a6 := l_a5.bel kb6
    have l_q6 := l_q5.bel kb6
    have l_r6 := l_r5.bel kb6
    have l_s6 := h10.bel kb6
    have t_T6 := Lib.hid (t_T5.out.bel kb6)
    have t_P6 := Lib.hid (t_P5.out.bel kb6)
    have t_F6 := Lib.hid (t_F5.out.bel kb6)
    have bel6 := bel5.trans (kb6.mono bel5.size)
    have c_a0_6 := b_a6.c0
    have c_a1_6 := b_a6.c1
    have c_q0_6 := b_q6.c0
    have c_q1_6 := b_q6.c1
    have c_r0_6 := b_r6.c0
    have c_r1_6 := b_r6.c1
    clear kb6 b_a5 c_a0_5 c_a1_5 b_q5 c_q0_5 c_q1_5 b_r5 c_r0_5 c_r1_5 l_a5 l_q5 l_r5 h10 t_T5 t_P5 t_F5 bel5
    clear l_s6
    go_wp2_with fail
    have hS0 := And.intro (held0 b_a6) ( And.intro (held0 b_q6) (held0 b_r6))
    go_region_held3 (fun w' => (Box w' ga (decide (Z1 < 0)) A3 m3 c3 ∧ w'.cell? ⟨ga, 0, none⟩ = some (.bool (decide (Z1 < 0))) ∧ w'.cell? ⟨ga, 1, none⟩ = some (.slice A3 m3 c3)) ∧ (Box w' q (decide (Q < 0)) A6 m6 c6 ∧ w'.cell? ⟨q, 0, none⟩ = some (.bool (decide (Q < 0))) ∧ w'.cell? ⟨q, 1, none⟩ = some (.slice A6 m6 c6)) ∧ (Box w' r (decide (R < 0)) A7 m7 c7 ∧ w'.cell? ⟨r, 0, none⟩ = some (.bool (decide (R < 0))) ∧ w'.cell? ⟨r, 1, none⟩ = some (.slice A7 m7 c7)))
      (first
        | exact ⟨held0 (w := v6.drew) b_a6, held0 (w := v6.drew) b_q6, held0 (w := v6.drew) b_r6⟩
        | exact keep30 (by assumption) hS0)
      (first
        | (go_at_call 39; (fail_if_success (have hx := h11)); refine (HRQ.out _).mono ?_; rintro e x1 ⟨A11, m11, c11, rfl, h11, hm11, kx1⟩; have y1 := bel_undrew kx1)
        | (go_at_call 17; go_at_call_of 17 (Value.slice A11 m11 c11); refine (rsameZ _ Q Q A6 m6 c6 ?_ A11 m11 c11 ?_ (decide_eq_true rfl)).mono ?_; exact l_q6.bel y1; exact h11; rintro e x2 ⟨rfl, kx2⟩; have y2 := bel_next y1 kx2)
        | (go_at_call 39; refine (HRR.out _).mono ?_; rintro e x3 ⟨A12, m12, c12, rfl, h12, hm12, kx3⟩; have y3 := bel_next y2 kx3)
        | (go_at_call 17; go_at_call_of 17 (Value.slice A12 m12 c12); refine (rsameZ _ R R A7 m7 c7 ?_ A12 m12 c12 ?_ (decide_eq_true rfl)).mono ?_; exact l_r6.bel y3; exact h12; rintro e x4 ⟨rfl, kx4⟩; have y4 := bel_next y3 kx4)
        | (go_at_call 20; refine (wsign_g _ Z1 _ A3 m3 c3 _ ?_ (sgn_lim Z1) HSG.out).mono ?_; exact l_a6.bel y4; rintro e x5 ⟨rfl, kx5⟩; have y5 := bel_next y4 kx5)
        | (go_at_call 15; go_at_call_of 15 (Value.slice A3 m3 c3); refine (wis_lim _ Z1 A3 m3 c3 ?_).mono ?_; exact l_a6.bel y5; rintro e x6 ⟨rfl, kx6⟩; have y6 := bel_next y5 kx6)
        | (go_at_call 15; refine (wis_negzero _).mono ?_; rintro e x7 ⟨rfl, kx7⟩; have y7 := bel_next y6 kx7)
        | (go_at_call 22; refine (wcmp_g _ Z1 Q _ A3 m3 c3 _ ?_ (sgn_lim Z1) _ A6 m6 c6 _ ?_ (sgn_lim Q) HCM.out).mono ?_; exact l_a6.bel y7; exact l_q6.bel y7; rintro e x8 ⟨rfl, kx8⟩; have y8 := bel_next y7 kx8)
        | (go_at_call 34; refine (wshr_g _ Z1 1 _ A3 m3 c3 _ ?_ (sgn_lim Z1) ?_ ?_ HSH.out).mono ?_; exact l_a6.bel y8; (have := HMA.out; omega); exact t_T6.out.bel y8; rintro e x9 ⟨A13, m13, c13, rfl, h13, hm13, kx9⟩; have y9 := bel_next y8 kx9)
        | (go_at_call 17; go_at_call_of 17 (Value.slice A13 m13 c13); refine (rsameZ _ Q Q A13 m13 c13 ?_ A6 m6 c6 ?_ (decide_eq_true rfl)).mono ?_; exact h13; exact l_q6.bel y9; rintro e x10 ⟨rfl, kx10⟩; have y10 := bel_next y9 kx10))
    go_wp2
    go_ret
    exact ⟨rfl, bel6.trans (y10.mono bel6.size)⟩
end Go.Proofs.YtfnfbfiikkiliaaDoor
