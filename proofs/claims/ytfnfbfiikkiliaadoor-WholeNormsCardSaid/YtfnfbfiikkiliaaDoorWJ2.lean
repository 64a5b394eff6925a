/- Contracts of package whole: Div, by the signs. -/
import Derived.Test.YtfnfbfiikkiliaaDoorWb
import Derived.Deep.RegionHeld3
namespace Go.Proofs.YtfnfbfiikkiliaaDoor
open Go.RowKit

set_option maxHeartbeats 4000000 in
theorem wdiv_zp (w : World) (sa : Bool) (Aa : Option Addr) (na ca : Nat) (xa : List Nat) (La : Lm w Aa na ca xa) (sb : Bool) (Ab : Option Addr) (nb cb : Nat) (xb : List Nat) (Lb : Lm w Ab nb cb xb) (hs : sg (sgn sa (val xa)) = 0) (ht : sg (sgn sb (val xb)) = 1) (hT : ProductsT w) (hna : na ≤ 1000000000) (hnb : nb ≤ 1000000000) :
    Calls Tryd.prog 13 #[.agg #[.bool sa, .slice Aa na ca], .agg #[.bool sb, .slice Ab nb cb]] w (TellsD w (sgn sa (val xa)) (sgn sb (val xb)) (na + 2) (max na nb) true) := by
  have hgl2 : 0 < w.heap.size := World.block_lt_of_cell? w _ (hT 5 (by omega))
  have hu := And.intro hna hnb
  clear hu
  have hY : sgn sb (val xb) ≠ 0 := fun e => by rw [e] at ht; exact absurd ht (by decide)
  have hb0 : val xb ≠ 0 := fun e => hY ((sgn_eq_zero _ _).2 e)
  have hq : dq (sgn sa (val xa)) (sgn sb (val xb)) = ((val xa / val xb : Nat) : Int) := by
    unfold dq
    rw [if_neg hY, hs, ht, if_neg (by decide), sgn_natAbs, sgn_natAbs]
  have hrr : dr (sgn sa (val xa)) (sgn sb (val xb)) = 1 * ((val xa % val xb : Nat) : Int) := by
    unfold dr
    rw [if_neg hY, hs, ht, sgn_natAbs, sgn_natAbs, if_neg (fun c => absurd c.1 (by decide))]
  have ha0 : val xa = 0 := by
    rcases sg_cases (sgn sa (val xa)) with ⟨h, e⟩ | ⟨h, e⟩ | ⟨h, e⟩
    · rw [e] at hs; exact absurd hs (by decide)
    · exact (sgn_eq_zero _ _).1 h
    · rw [e] at hs; exact absurd hs (by decide)
  have hq0 : val xa / val xb = 0 := by rw [ha0, Nat.zero_div]
  obtain ⟨Q, hQ, hQn, hQs⟩ : ∃ Q, dq (sgn sa (val xa)) (sgn sb (val xb)) = Q ∧ Q.natAbs = val xa / val xb ∧ (Q ≠ 0 → (0 < (0 : Int) ↔ Q < 0)) := ⟨_, rfl, qs_zero hq hq0⟩
  obtain ⟨R, hR, hRn, hRs⟩ : ∃ R, dr (sgn sa (val xa)) (sgn sb (val xb)) = R ∧ R.natAbs = val xa % val xb ∧ (R ≠ 0 → (1 < (0 : Int) ↔ R < 0)) := ⟨_, rfl, rs_any hrr (by decide)⟩
  have HQ := Lib.hid (And.intro hQ (And.intro hQn hQs))
  have HR := Lib.hid (And.intro hR (And.intro hRn hRs))
  have Hσ := Lib.hid hs
  have Hτ := Lib.hid ht
  have HT := Lib.hid hT
  have HB0 := Lib.hid hb0
  clear hs ht hT hQ hQn hQs hR hRn hRs hq hrr hY hb0 ha0 hq0
  have ew0 : IntKind.i64.wrap (0 : Int) = 0 := rfl
  have ew1 : IntKind.i64.wrap (1 : Int) = 1 := rfl
  have ew2 : IntKind.i64.wrap (2 : Int) = 2 := rfl
  have es : IntKind.i64.wrap ((0 : Int) + 1) = 1 := rfl
  have et : IntKind.i64.wrap ((1 : Int) + 1) = 2 := rfl
  go_enter Tryd.func13, Tryd.ntmps13
  go_wp2_with fail
  obtain ⟨ga, hga⟩ : ∃ g, g = w.heap.size := ⟨_, rfl⟩
  obtain ⟨gb, hgb⟩ : ∃ g, g = w.heap.size + 1 := ⟨_, rfl⟩
  obtain ⟨r0, hr0⟩ : ∃ g, g = w.heap.size + 2 := ⟨_, rfl⟩
  obtain ⟨r1, hr1⟩ : ∃ g, g = w.heap.size + 3 := ⟨_, rfl⟩
  obtain ⟨w1, hw1⟩ : ∃ v, v = ((((w.alloc (.cells #[.bool sa, .slice Aa na ca] 24)).alloc (.cells #[.bool sb, .slice Ab nb cb] 24)).alloc (.cells #[.bool false, .slice none 0 0] 24)).alloc (.cells #[.bool false, .slice none 0 0] 24)) := ⟨_, rfl⟩
  have bel1 : Below w.heap.size w w1 := by rw [hw1]; exact bel_alloc4 _ _ _ _ _
  have b_a1 : Box w1 ga sa Aa na ca := by rw [hw1, hga]; exact ((((Box.new _ _ _ _ _).alloc _).alloc _).alloc _)
  have b_b1 : Box w1 gb sb Ab nb cb := by rw [hw1, hgb]; exact (((Box.at1 _ _ _ _ _ _).alloc _).alloc _)
  have t_r01 : Two w1 r0 := by rw [hw1, hr0]; exact Box.two ((Box.at2 _ _ _ _ _ _ _).alloc _)
  have t_r11 : Two w1 r1 := by rw [hw1, hr1]; exact Box.two (Box.at3 _ _ _ _ _ _ _ _)
  rw [← hw1, ← hr1, ← hr0, ← hgb, ← hga]
  have hgs : w.heap.size ≤ ga ∧ w.heap.size ≤ gb ∧ w.heap.size ≤ r0 ∧ w.heap.size ≤ r1 ∧ ga ≠ gb ∧ ga ≠ r0 ∧ ga ≠ r1 ∧ gb ≠ ga ∧ gb ≠ r0 ∧ gb ≠ r1 ∧ r0 ≠ ga ∧ r0 ≠ gb ∧ r0 ≠ r1 ∧ r1 ≠ ga ∧ r1 ≠ gb ∧ r1 ≠ r0 := by omega
  have HG := Lib.hid hgs
  clear hw1 hgs hga hgb hr0 hr1
  have l_a1 := La.bel bel1
  have l_b1 := Lb.bel bel1
  have t_T1 := Lib.hid (HT.out.bel bel1)
  have c_a0_1 := b_a1.c0
  have c_a1_1 := b_a1.c1
  have c_b0_1 := b_b1.c0
  have c_b1_1 := b_b1.c1
  have f_r01 := t_r01.room.2
  have f_r11 := t_r11.room.2
  have cc := Lib.hid (div_yes w1 Aa na ca xa Ab nb cb xb l_a1 l_b1 (by omega) HB0.out)
  refine cc.out.mono ?_
  clear cc
  rintro e v2 ⟨A3, m3, c3, A4, m4, c4, rfl, h3, h4, hm3, hm4, kb2⟩
  have b_a2 := b_a1.bel kb2
  have b_b2 := b_b1.bel kb2
  have t_r02 := t_r01.bel kb2
  have t_r12 := t_r11.bel kb2
  have l_a2 := l_a1.bel kb2
  have l_b2 := l_b1.bel kb2
  have t_T2 := Lib.hid (t_T1.out.bel kb2)
  have bel2 := bel1.trans (kb2.mono bel1.size)
  have c_a0_2 := b_a2.c0
  have c_a1_2 := b_a2.c1
  have c_b0_2 := b_b2.c0
  have c_b1_2 := b_b2.c1
  have f_r02 := t_r02.room.2
  have f_r12 := t_r12.room.2
  clear kb2 b_a1 c_a0_1 c_a1_1 b_b1 c_b0_1 c_b1_1 t_r01 f_r01 t_r11 f_r11 l_a1 l_b1 t_T1 bel1
  go_wp2_with fail
  have hcell := t_T2.out 5 (by omega)
  rw [show productsT.getD 5 0 = 0 from rfl] at hcell
  go_region_held3 (fun w' => w'.cell? ⟨0, 5, none⟩ = some (.int .i64 0) ∧ (Box w' ga sa Aa na ca ∧ w'.cell? ⟨ga, 0, none⟩ = some (.bool sa) ∧ w'.cell? ⟨ga, 1, none⟩ = some (.slice Aa na ca)) ∧ (Box w' gb sb Ab nb cb ∧ w'.cell? ⟨gb, 0, none⟩ = some (.bool sb) ∧ w'.cell? ⟨gb, 1, none⟩ = some (.slice Ab nb cb)) ∧ (Two w' r0 ∧ w'.cell? ⟨r0, 0, none⟩ = some (lies w' r0 0) ∧ w'.cell? ⟨r0, 1, none⟩ = some (lies w' r0 1) ∧ w'.frozen? ⟨r0, 0, none⟩ = false ∧ w'.frozen? ⟨r0, 1, none⟩ = false) ∧ (Two w' r1 ∧ w'.cell? ⟨r1, 0, none⟩ = some (lies w' r1 0) ∧ w'.cell? ⟨r1, 1, none⟩ = some (lies w' r1 1) ∧ w'.frozen? ⟨r1, 0, none⟩ = false ∧ w'.frozen? ⟨r1, 1, none⟩ = false))
    (first
      | exact ⟨hcell, held0 (w := v2.drew) b_a2, held0 (w := v2.drew) b_b2, Two.room (w := v2.drew) t_r02, Two.room (w := v2.drew) t_r12⟩
      | exact keepc (by assumption) (by assumption) (fun h => keep22 (by assumption) h))
    (first
      | (go_at_call 20; go_at_call_of 20 (Value.slice Aa na ca); refine (wsign_at _ sa Aa na ca xa ?_ Hσ.out).mono ?_; exact l_a2.drew; rintro e w5 ⟨rfl, hb5⟩)
      | (go_at_call 20; go_at_call_of 20 (Value.slice Ab nb cb); refine (wsign_at _ sb Ab nb cb xb ?_ Hτ.out).mono ?_; exact l_b2.drew.bel hb5; rintro e w6 ⟨rfl, hb6⟩))
  clear hcell
  have hbx := bel_next (bel_undrew hb5) hb6
  have b_a3 := b_a2.bel hbx
  have b_b3 := b_b2.bel hbx
  have t_r03 := t_r02.bel hbx
  have t_r13 := t_r12.bel hbx
  have l_a3 := l_a2.bel hbx
  have l_b3 := l_b2.bel hbx
  have l_q3 := h3.bel hbx
  have l_r3 := h4.bel hbx
  have t_T3 := Lib.hid (t_T2.out.bel hbx)
  have bel3 := bel2.trans (hbx.mono bel2.size)
  have c_a0_3 := b_a3.c0
  have c_a1_3 := b_a3.c1
  have c_b0_3 := b_b3.c0
  have c_b1_3 := b_b3.c1
  have f_r03 := t_r03.room.2
  have f_r13 := t_r13.room.2
  clear hbx b_a2 c_a0_2 c_a1_2 b_b2 c_b0_2 c_b1_2 t_r02 f_r02 t_r12 f_r12 l_a2 l_b2 h3 h4 t_T2 bel2
  clear hb5 hb6
  go_wp2_with fail
  rw [← HQ.out.2.1] at l_q3
  rw [← HR.out.2.1] at l_r3
  go_region_held3 (fun w' => (Box w' ga sa Aa na ca ∧ w'.cell? ⟨ga, 0, none⟩ = some (.bool sa) ∧ w'.cell? ⟨ga, 1, none⟩ = some (.slice Aa na ca)) ∧ (Box w' gb sb Ab nb cb ∧ w'.cell? ⟨gb, 0, none⟩ = some (.bool sb) ∧ w'.cell? ⟨gb, 1, none⟩ = some (.slice Ab nb cb)) ∧ (Two w' r0 ∧ w'.cell? ⟨r0, 0, none⟩ = some (lies w' r0 0) ∧ w'.cell? ⟨r0, 1, none⟩ = some (lies w' r0 1) ∧ w'.frozen? ⟨r0, 0, none⟩ = false ∧ w'.frozen? ⟨r0, 1, none⟩ = false) ∧ (Two w' r1 ∧ w'.cell? ⟨r1, 0, none⟩ = some (lies w' r1 0) ∧ w'.cell? ⟨r1, 1, none⟩ = some (lies w' r1 1) ∧ w'.frozen? ⟨r1, 0, none⟩ = false ∧ w'.frozen? ⟨r1, 1, none⟩ = false))
    (first
      | exact ⟨held0 (w := w6.drew) b_a3, held0 (w := w6.drew) b_b3, Two.room (w := w6.drew) t_r03, Two.room (w := w6.drew) t_r13⟩
      | exact keep22 (by assumption) (by assumption)
      | exact keep22s0 HG.out.2.2.2.2.2.1 HG.out.2.2.2.2.2.2.2.2.1 HG.out.2.2.2.2.2.2.2.2.2.2.2.2.2.2.2 (by assumption) rfl
      | exact keep22s1 HG.out.2.2.2.2.2.2.1 HG.out.2.2.2.2.2.2.2.2.2.1 HG.out.2.2.2.2.2.2.2.2.2.2.2.2.1 (by assumption) rfl)
    (first
      | (go_at_call 51; go_at_call_of 51 (Value.slice A3 m3 c3); refine (signed_z _ Q _ _ _ _ (na + 2) ?_ ?_ HQ.out.2.2).mono ?_; exact l_q3.drew; omega; rintro e w9 ⟨A9, m9, c9, rfl, h9, hm9, hb9⟩)
      | (go_at_call 20; refine (wsign_at _ sb Ab nb cb xb ?_ Hτ.out).mono ?_; exact l_b3.drew.bel hb9; rintro e w10 ⟨rfl, hb10⟩)
      | (go_at_call 51; go_at_call_of 51 (Value.slice A4 m4 c4); refine (signed_z _ R _ _ _ _ (max na nb) ?_ ?_ HR.out.2.2).mono ?_; exact (l_r3.drew.bel hb9).bel hb10; omega; rintro e w11 ⟨A11, m11, c11, rfl, h11, hm11, hb11⟩))
  have h9' := (h9.bel hb10).bel hb11
  have hbx := bel_next (bel_next (bel_undrew hb9) hb10) hb11
  have b_a4 := b_a3.bel hbx
  have b_b4 := b_b3.bel hbx
  have t_r04 := t_r03.bel hbx
  have t_r14 := t_r13.bel hbx
  have l_a4 := l_a3.bel hbx
  have l_b4 := l_b3.bel hbx
  have l_q4 := l_q3.bel hbx
  have l_r4 := l_r3.bel hbx
  have t_T4 := Lib.hid (t_T3.out.bel hbx)
  have bel4 := bel3.trans (hbx.mono bel3.size)
  have c_a0_4 := b_a4.c0
  have c_a1_4 := b_a4.c1
  have c_b0_4 := b_b4.c0
  have c_b1_4 := b_b4.c1
  have f_r04 := t_r04.room.2
  have f_r14 := t_r14.room.2
  clear hbx b_a3 c_a0_3 c_a1_3 b_b3 c_b0_3 c_b1_3 t_r03 f_r03 t_r13 f_r13 l_a3 l_b3 l_q3 l_r3 t_T3 bel3
  clear hb9 hb10 hb11
  have hn01 : r0 ≠ r1 := HG.out.2.2.2.2.2.2.2.2.2.2.2.2.1
  have hn10 : r1 ≠ r0 := HG.out.2.2.2.2.2.2.2.2.2.2.2.2.2.2.2
  go_wp2
  have hx0 := t_r04.put (decide (Q < 0)) A9 m9 c9
  have hy := (t_r14.far (p := ⟨r0, 0, none⟩) HG.out.2.2.2.2.2.2.2.2.2.2.2.2.2.2.2 (.bool (decide (Q < 0)))).far (p := ⟨r0, 1, none⟩) HG.out.2.2.2.2.2.2.2.2.2.2.2.2.2.2.2 (.slice A9 m9 c9)
  have hx := (hx0.far (p := ⟨r1, 0, none⟩) HG.out.2.2.2.2.2.2.2.2.2.2.2.2.1 (.bool (decide (R < 0)))).far (p := ⟨r1, 1, none⟩) HG.out.2.2.2.2.2.2.2.2.2.2.2.2.1 (.slice A11 m11 c11)
  have hx1 := hy.put (decide (R < 0)) A11 m11 c11
  have hl1 := (h9'.put t_r04 (.bool (decide (Q < 0))) (.slice A9 m9 c9)).put hy (.bool (decide (R < 0))) (.slice A11 m11 c11)
  have hl2 := (h11.put t_r04 (.bool (decide (Q < 0))) (.slice A9 m9 c9)).put hy (.bool (decide (R < 0))) (.slice A11 m11 c11)
  have hbl := bel_put (bel_put bel4 (g := r0) HG.out.2.2.1 (.bool (decide (Q < 0))) (.slice A9 m9 c9)) (g := r1) HG.out.2.2.2.1 (.bool (decide (R < 0))) (.slice A11 m11 c11)
  generalize (((w11.setCell ⟨r0, 0, none⟩ (.bool (decide (Q < 0)))).setCell ⟨r0, 1, none⟩ (.slice A9 m9 c9)).setCell ⟨r1, 0, none⟩ (.bool (decide (R < 0)))).setCell ⟨r1, 1, none⟩ (.slice A11 m11 c11) = wz at *
  refine bodyPost_ret (v := .tuple #[.agg #[.bool (decide (Q < 0)), .slice A9 m9 c9], .agg #[.bool (decide (R < 0)), .slice A11 m11 c11], .bool true]) (by simp [results, Tryd.results13, go_sem, hx.c0, hx.c1, hx1.c0, hx1.c1]) rfl ?_
  unfold TellsD
  rw [HQ.out.1, HR.out.1]
  exact ⟨_, _, _, _, _, _, rfl, hl1, hl2, hm9, hm11, hbl⟩
set_option maxHeartbeats 4000000 in
theorem wdiv_zm (w : World) (sa : Bool) (Aa : Option Addr) (na ca : Nat) (xa : List Nat) (La : Lm w Aa na ca xa) (sb : Bool) (Ab : Option Addr) (nb cb : Nat) (xb : List Nat) (Lb : Lm w Ab nb cb xb) (hs : sg (sgn sa (val xa)) = 0) (ht : sg (sgn sb (val xb)) = (-1)) (hT : ProductsT w) (hna : na ≤ 1000000000) (hnb : nb ≤ 1000000000) :
    Calls Tryd.prog 13 #[.agg #[.bool sa, .slice Aa na ca], .agg #[.bool sb, .slice Ab nb cb]] w (TellsD w (sgn sa (val xa)) (sgn sb (val xb)) (na + 2) (max na nb) true) := by
  have hgl2 : 0 < w.heap.size := World.block_lt_of_cell? w _ (hT 3 (by omega))
  have hu := And.intro hna hnb
  clear hu
  have hY : sgn sb (val xb) ≠ 0 := fun e => by rw [e] at ht; exact absurd ht (by decide)
  have hb0 : val xb ≠ 0 := fun e => hY ((sgn_eq_zero _ _).2 e)
  have hq : dq (sgn sa (val xa)) (sgn sb (val xb)) = ((val xa / val xb : Nat) : Int) := by
    unfold dq
    rw [if_neg hY, hs, ht, if_neg (by decide), sgn_natAbs, sgn_natAbs]
  have hrr : dr (sgn sa (val xa)) (sgn sb (val xb)) = (-1) * ((val xa % val xb : Nat) : Int) := by
    unfold dr
    rw [if_neg hY, hs, ht, sgn_natAbs, sgn_natAbs, if_neg (fun c => absurd c.1 (by decide))]
  have ha0 : val xa = 0 := by
    rcases sg_cases (sgn sa (val xa)) with ⟨h, e⟩ | ⟨h, e⟩ | ⟨h, e⟩
    · rw [e] at hs; exact absurd hs (by decide)
    · exact (sgn_eq_zero _ _).1 h
    · rw [e] at hs; exact absurd hs (by decide)
  have hq0 : val xa / val xb = 0 := by rw [ha0, Nat.zero_div]
  obtain ⟨Q, hQ, hQn, hQs⟩ : ∃ Q, dq (sgn sa (val xa)) (sgn sb (val xb)) = Q ∧ Q.natAbs = val xa / val xb ∧ (Q ≠ 0 → (0 < (0 : Int) ↔ Q < 0)) := ⟨_, rfl, qs_zero hq hq0⟩
  obtain ⟨R, hR, hRn, hRs⟩ : ∃ R, dr (sgn sa (val xa)) (sgn sb (val xb)) = R ∧ R.natAbs = val xa % val xb ∧ (R ≠ 0 → ((-1) < (0 : Int) ↔ R < 0)) := ⟨_, rfl, rs_any hrr (by decide)⟩
  have HQ := Lib.hid (And.intro hQ (And.intro hQn hQs))
  have HR := Lib.hid (And.intro hR (And.intro hRn hRs))
  have Hσ := Lib.hid hs
  have Hτ := Lib.hid ht
  have HT := Lib.hid hT
  have HB0 := Lib.hid hb0
  clear hs ht hT hQ hQn hQs hR hRn hRs hq hrr hY hb0 ha0 hq0
  have ew0 : IntKind.i64.wrap (0 : Int) = 0 := rfl
  have ew1 : IntKind.i64.wrap (1 : Int) = 1 := rfl
  have ew2 : IntKind.i64.wrap (2 : Int) = 2 := rfl
  have es : IntKind.i64.wrap ((0 : Int) + 1) = 1 := rfl
  have et : IntKind.i64.wrap (((-1) : Int) + 1) = 0 := rfl
  go_enter Tryd.func13, Tryd.ntmps13
  go_wp2_with fail
  obtain ⟨ga, hga⟩ : ∃ g, g = w.heap.size := ⟨_, rfl⟩
  obtain ⟨gb, hgb⟩ : ∃ g, g = w.heap.size + 1 := ⟨_, rfl⟩
  obtain ⟨r0, hr0⟩ : ∃ g, g = w.heap.size + 2 := ⟨_, rfl⟩
  obtain ⟨r1, hr1⟩ : ∃ g, g = w.heap.size + 3 := ⟨_, rfl⟩
  obtain ⟨w1, hw1⟩ : ∃ v, v = ((((w.alloc (.cells #[.bool sa, .slice Aa na ca] 24)).alloc (.cells #[.bool sb, .slice Ab nb cb] 24)).alloc (.cells #[.bool false, .slice none 0 0] 24)).alloc (.cells #[.bool false, .slice none 0 0] 24)) := ⟨_, rfl⟩
  have bel1 : Below w.heap.size w w1 := by rw [hw1]; exact bel_alloc4 _ _ _ _ _
  have b_a1 : Box w1 ga sa Aa na ca := by rw [hw1, hga]; exact ((((Box.new _ _ _ _ _).alloc _).alloc _).alloc _)
  have b_b1 : Box w1 gb sb Ab nb cb := by rw [hw1, hgb]; exact (((Box.at1 _ _ _ _ _ _).alloc _).alloc _)
  have t_r01 : Two w1 r0 := by rw [hw1, hr0]; exact Box.two ((Box.at2 _ _ _ _ _ _ _).alloc _)
  have t_r11 : Two w1 r1 := by rw [hw1, hr1]; exact Box.two (Box.at3 _ _ _ _ _ _ _ _)
  rw [← hw1, ← hr1, ← hr0, ← hgb, ← hga]
  have hgs : w.heap.size ≤ ga ∧ w.heap.size ≤ gb ∧ w.heap.size ≤ r0 ∧ w.heap.size ≤ r1 ∧ ga ≠ gb ∧ ga ≠ r0 ∧ ga ≠ r1 ∧ gb ≠ ga ∧ gb ≠ r0 ∧ gb ≠ r1 ∧ r0 ≠ ga ∧ r0 ≠ gb ∧ r0 ≠ r1 ∧ r1 ≠ ga ∧ r1 ≠ gb ∧ r1 ≠ r0 := by omega
  have HG := Lib.hid hgs
  clear hw1 hgs hga hgb hr0 hr1
  have l_a1 := La.bel bel1
  have l_b1 := Lb.bel bel1
  have t_T1 := Lib.hid (HT.out.bel bel1)
  have c_a0_1 := b_a1.c0
  have c_a1_1 := b_a1.c1
  have c_b0_1 := b_b1.c0
  have c_b1_1 := b_b1.c1
  have f_r01 := t_r01.room.2
  have f_r11 := t_r11.room.2
  have cc := Lib.hid (div_yes w1 Aa na ca xa Ab nb cb xb l_a1 l_b1 (by omega) HB0.out)
  refine cc.out.mono ?_
  clear cc
  rintro e v2 ⟨A3, m3, c3, A4, m4, c4, rfl, h3, h4, hm3, hm4, kb2⟩
  have b_a2 := b_a1.bel kb2
  have b_b2 := b_b1.bel kb2
  have t_r02 := t_r01.bel kb2
  have t_r12 := t_r11.bel kb2
  have l_a2 := l_a1.bel kb2
  have l_b2 := l_b1.bel kb2
  have t_T2 := Lib.hid (t_T1.out.bel kb2)
  have bel2 := bel1.trans (kb2.mono bel1.size)
  have c_a0_2 := b_a2.c0
  have c_a1_2 := b_a2.c1
  have c_b0_2 := b_b2.c0
  have c_b1_2 := b_b2.c1
  have f_r02 := t_r02.room.2
  have f_r12 := t_r12.room.2
  clear kb2 b_a1 c_a0_1 c_a1_1 b_b1 c_b0_1 c_b1_1 t_r01 f_r01 t_r11 f_r11 l_a1 l_b1 t_T1 bel1
  go_wp2_with fail
  have hcell := t_T2.out 3 (by omega)
  rw [show productsT.getD 3 0 = 0 from rfl] at hcell
  go_region_held3 (fun w' => w'.cell? ⟨0, 3, none⟩ = some (.int .i64 0) ∧ (Box w' ga sa Aa na ca ∧ w'.cell? ⟨ga, 0, none⟩ = some (.bool sa) ∧ w'.cell? ⟨ga, 1, none⟩ = some (.slice Aa na ca)) ∧ (Box w' gb sb Ab nb cb ∧ w'.cell? ⟨gb, 0, none⟩ = some (.bool sb) ∧ w'.cell? ⟨gb, 1, none⟩ = some (.slice Ab nb cb)) ∧ (Two w' r0 ∧ w'.cell? ⟨r0, 0, none⟩ = some (lies w' r0 0) ∧ w'.cell? ⟨r0, 1, none⟩ = some (lies w' r0 1) ∧ w'.frozen? ⟨r0, 0, none⟩ = false ∧ w'.frozen? ⟨r0, 1, none⟩ = false) ∧ (Two w' r1 ∧ w'.cell? ⟨r1, 0, none⟩ = some (lies w' r1 0) ∧ w'.cell? ⟨r1, 1, none⟩ = some (lies w' r1 1) ∧ w'.frozen? ⟨r1, 0, none⟩ = false ∧ w'.frozen? ⟨r1, 1, none⟩ = false))
    (first
      | exact ⟨hcell, held0 (w := v2.drew) b_a2, held0 (w := v2.drew) b_b2, Two.room (w := v2.drew) t_r02, Two.room (w := v2.drew) t_r12⟩
      | exact keepc (by assumption) (by assumption) (fun h => keep22 (by assumption) h))
    (first
      | (go_at_call 20; go_at_call_of 20 (Value.slice Aa na ca); refine (wsign_at _ sa Aa na ca xa ?_ Hσ.out).mono ?_; exact l_a2.drew; rintro e w5 ⟨rfl, hb5⟩)
      | (go_at_call 20; go_at_call_of 20 (Value.slice Ab nb cb); refine (wsign_at _ sb Ab nb cb xb ?_ Hτ.out).mono ?_; exact l_b2.drew.bel hb5; rintro e w6 ⟨rfl, hb6⟩))
  clear hcell
  have hbx := bel_next (bel_undrew hb5) hb6
  have b_a3 := b_a2.bel hbx
  have b_b3 := b_b2.bel hbx
  have t_r03 := t_r02.bel hbx
  have t_r13 := t_r12.bel hbx
  have l_a3 := l_a2.bel hbx
  have l_b3 := l_b2.bel hbx
  have l_q3 := h3.bel hbx
  have l_r3 := h4.bel hbx
  have t_T3 := Lib.hid (t_T2.out.bel hbx)
  have bel3 := bel2.trans (hbx.mono bel2.size)
  have c_a0_3 := b_a3.c0
  have c_a1_3 := b_a3.c1
  have c_b0_3 := b_b3.c0
  have c_b1_3 := b_b3.c1
  have f_r03 := t_r03.room.2
  have f_r13 := t_r13.room.2
  clear hbx b_a2 c_a0_2 c_a1_2 b_b2 c_b0_2 c_b1_2 t_r02 f_r02 t_r12 f_r12 l_a2 l_b2 h3 h4 t_T2 bel2
  clear hb5 hb6
  go_wp2_with fail
  rw [← HQ.out.2.1] at l_q3
  rw [← HR.out.2.1] at l_r3
  go_region_held3 (fun w' => (Box w' ga sa Aa na ca ∧ w'.cell? ⟨ga, 0, none⟩ = some (.bool sa) ∧ w'.cell? ⟨ga, 1, none⟩ = some (.slice Aa na ca)) ∧ (Box w' gb sb Ab nb cb ∧ w'.cell? ⟨gb, 0, none⟩ = some (.bool sb) ∧ w'.cell? ⟨gb, 1, none⟩ = some (.slice Ab nb cb)) ∧ (Two w' r0 ∧ w'.cell? ⟨r0, 0, none⟩ = some (lies w' r0 0) ∧ w'.cell? ⟨r0, 1, none⟩ = some (lies w' r0 1) ∧ w'.frozen? ⟨r0, 0, none⟩ = false ∧ w'.frozen? ⟨r0, 1, none⟩ = false) ∧ (Two w' r1 ∧ w'.cell? ⟨r1, 0, none⟩ = some (lies w' r1 0) ∧ w'.cell? ⟨r1, 1, none⟩ = some (lies w' r1 1) ∧ w'.frozen? ⟨r1, 0, none⟩ = false ∧ w'.frozen? ⟨r1, 1, none⟩ = false))
    (first
      | exact ⟨held0 (w := w6.drew) b_a3, held0 (w := w6.drew) b_b3, Two.room (w := w6.drew) t_r03, Two.room (w := w6.drew) t_r13⟩
      | exact keep22 (by assumption) (by assumption)
      | exact keep22s0 HG.out.2.2.2.2.2.1 HG.out.2.2.2.2.2.2.2.2.1 HG.out.2.2.2.2.2.2.2.2.2.2.2.2.2.2.2 (by assumption) rfl
      | exact keep22s1 HG.out.2.2.2.2.2.2.1 HG.out.2.2.2.2.2.2.2.2.2.1 HG.out.2.2.2.2.2.2.2.2.2.2.2.2.1 (by assumption) rfl)
    (first
      | (go_at_call 51; go_at_call_of 51 (Value.slice A3 m3 c3); refine (signed_z _ Q _ _ _ _ (na + 2) ?_ ?_ HQ.out.2.2).mono ?_; exact l_q3.drew; omega; rintro e w9 ⟨A9, m9, c9, rfl, h9, hm9, hb9⟩)
      | (go_at_call 20; refine (wsign_at _ sb Ab nb cb xb ?_ Hτ.out).mono ?_; exact l_b3.drew.bel hb9; rintro e w10 ⟨rfl, hb10⟩)
      | (go_at_call 51; go_at_call_of 51 (Value.slice A4 m4 c4); refine (signed_z _ R _ _ _ _ (max na nb) ?_ ?_ HR.out.2.2).mono ?_; exact (l_r3.drew.bel hb9).bel hb10; omega; rintro e w11 ⟨A11, m11, c11, rfl, h11, hm11, hb11⟩))
  have h9' := (h9.bel hb10).bel hb11
  have hbx := bel_next (bel_next (bel_undrew hb9) hb10) hb11
  have b_a4 := b_a3.bel hbx
  have b_b4 := b_b3.bel hbx
  have t_r04 := t_r03.bel hbx
  have t_r14 := t_r13.bel hbx
  have l_a4 := l_a3.bel hbx
  have l_b4 := l_b3.bel hbx
  have l_q4 := l_q3.bel hbx
  have l_r4 := l_r3.bel hbx
  have t_T4 := Lib.hid (t_T3.out.bel hbx)
  have bel4 := bel3.trans (hbx.mono bel3.size)
  have c_a0_4 := b_a4.c0
  have c_a1_4 := b_a4.c1
  have c_b0_4 := b_b4.c0
  have c_b1_4 := b_b4.c1
  have f_r04 := t_r04.room.2
  have f_r14 := t_r14.room.2
  clear hbx b_a3 c_a0_3 c_a1_3 b_b3 c_b0_3 c_b1_3 t_r03 f_r03 t_r13 f_r13 l_a3 l_b3 l_q3 l_r3 t_T3 bel3
  clear hb9 hb10 hb11
  have hn01 : r0 ≠ r1 := HG.out.2.2.2.2.2.2.2.2.2.2.2.2.1
  have hn10 : r1 ≠ r0 := HG.out.2.2.2.2.2.2.2.2.2.2.2.2.2.2.2
  go_wp2
  have hx0 := t_r04.put (decide (Q < 0)) A9 m9 c9
  have hy := (t_r14.far (p := ⟨r0, 0, none⟩) HG.out.2.2.2.2.2.2.2.2.2.2.2.2.2.2.2 (.bool (decide (Q < 0)))).far (p := ⟨r0, 1, none⟩) HG.out.2.2.2.2.2.2.2.2.2.2.2.2.2.2.2 (.slice A9 m9 c9)
  have hx := (hx0.far (p := ⟨r1, 0, none⟩) HG.out.2.2.2.2.2.2.2.2.2.2.2.2.1 (.bool (decide (R < 0)))).far (p := ⟨r1, 1, none⟩) HG.out.2.2.2.2.2.2.2.2.2.2.2.2.1 (.slice A11 m11 c11)
  have hx1 := hy.put (decide (R < 0)) A11 m11 c11
  have hl1 := (h9'.put t_r04 (.bool (decide (Q < 0))) (.slice A9 m9 c9)).put hy (.bool (decide (R < 0))) (.slice A11 m11 c11)
  have hl2 := (h11.put t_r04 (.bool (decide (Q < 0))) (.slice A9 m9 c9)).put hy (.bool (decide (R < 0))) (.slice A11 m11 c11)
  have hbl := bel_put (bel_put bel4 (g := r0) HG.out.2.2.1 (.bool (decide (Q < 0))) (.slice A9 m9 c9)) (g := r1) HG.out.2.2.2.1 (.bool (decide (R < 0))) (.slice A11 m11 c11)
  generalize (((w11.setCell ⟨r0, 0, none⟩ (.bool (decide (Q < 0)))).setCell ⟨r0, 1, none⟩ (.slice A9 m9 c9)).setCell ⟨r1, 0, none⟩ (.bool (decide (R < 0)))).setCell ⟨r1, 1, none⟩ (.slice A11 m11 c11) = wz at *
  refine bodyPost_ret (v := .tuple #[.agg #[.bool (decide (Q < 0)), .slice A9 m9 c9], .agg #[.bool (decide (R < 0)), .slice A11 m11 c11], .bool true]) (by simp [results, Tryd.results13, go_sem, hx.c0, hx.c1, hx1.c0, hx1.c1]) rfl ?_
  unfold TellsD
  rw [HQ.out.1, HR.out.1]
  exact ⟨_, _, _, _, _, _, rfl, hl1, hl2, hm9, hm11, hbl⟩
end Go.Proofs.YtfnfbfiikkiliaaDoor
