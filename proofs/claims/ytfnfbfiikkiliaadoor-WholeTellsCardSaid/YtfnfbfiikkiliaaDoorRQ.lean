/- Contracts of the document's own numbers with a sign: SubInt, CmpInt. -/
import Derived.Test.YtfnfbfiikkiliaaDoorRO
import Derived.Deep.RegionHeld3
namespace Go.Proofs.YtfnfbfiikkiliaaDoor
open Go.RowKit

set_option maxHeartbeats 4000000 in
theorem rsubI_g (w : World) (X Y : Int) (sa : Bool) (Aa : Option Addr) (na ca : Nat) (xa : List Nat) (La : Lm w Aa na ca xa) (ha : sgn sa (val xa) = X) (sb : Bool) (Ab : Option Addr) (nb cb : Nat) (xb : List Nat) (Lb : Lm w Ab nb cb xb) (hb : sgn sb (val xb) = Y) (hna : na ≤ 100000) (hnb : nb ≤ 100000) {Z : Int} (hZ : X - Y = Z) :
    Calls Tryd.prog 27 #[.agg #[.bool sa, .slice Aa na ca], .agg #[.bool sb, .slice Ab nb cb]] w (TellsI w Z 3000000) := by
  obtain ⟨N, hN⟩ : ∃ V0 : Int, -Y = V0 := ⟨_, rfl⟩
  have HX := Lib.hid ha
  have HY := Lib.hid hb
  have HN := Lib.hid hN
  have HZ : Hid (X + N = Z) := (by omega : X + N = Z)
  clear ha hb hZ hN
  go_enter Tryd.func27, Tryd.ntmps27
  go_wp2_with fail
  obtain ⟨ga, hga⟩ : ∃ g, g = w.heap.size := ⟨_, rfl⟩
  obtain ⟨gb, hgb⟩ : ∃ g, g = w.heap.size + 1 := ⟨_, rfl⟩
  obtain ⟨r0, hr0⟩ : ∃ g, g = w.heap.size + 2 := ⟨_, rfl⟩
  obtain ⟨w1, hw1⟩ : ∃ v, v = (((w.alloc (.cells #[.bool sa, .slice Aa na ca] 24)).alloc (.cells #[.bool sb, .slice Ab nb cb] 24)).alloc (.cells #[.bool false, .slice none 0 0] 24)) := ⟨_, rfl⟩
  have bel1 : Below w.heap.size w w1 := by rw [hw1]; exact bel_alloc3 _ _ _ _
  have b_a1 : Box w1 ga sa Aa na ca := by rw [hw1, hga]; exact (((Box.new _ _ _ _ _).alloc _).alloc _)
  have b_b1 : Box w1 gb sb Ab nb cb := by rw [hw1, hgb]; exact ((Box.at1 _ _ _ _ _ _).alloc _)
  have t_r01 : Two w1 r0 := by rw [hw1, hr0]; exact Box.two (Box.at2 _ _ _ _ _ _ _)
  rw [← hw1, ← hr0, ← hgb, ← hga]
  have hgs : w.heap.size ≤ ga ∧ w.heap.size ≤ gb ∧ w.heap.size ≤ r0 ∧ ga ≠ gb ∧ ga ≠ r0 ∧ gb ≠ ga ∧ gb ≠ r0 ∧ r0 ≠ ga ∧ r0 ≠ gb := by omega
  have HG := Lib.hid hgs
  clear hw1 hgs hga hgb hr0
  have l_a1 := La.bel bel1
  have l_b1 := Lb.bel bel1
  have c_a0_1 := b_a1.c0
  have c_a1_1 := b_a1.c1
  have c_b0_1 := b_b1.c0
  have c_b1_1 := b_b1.c1
  have f_r01 := t_r01.room.2
  go_region_held3 (fun w' => (Box w' ga sa Aa na ca ∧ w'.cell? ⟨ga, 0, none⟩ = some (.bool sa) ∧ w'.cell? ⟨ga, 1, none⟩ = some (.slice Aa na ca)) ∧ (Box w' gb sb Ab nb cb ∧ w'.cell? ⟨gb, 0, none⟩ = some (.bool sb) ∧ w'.cell? ⟨gb, 1, none⟩ = some (.slice Ab nb cb)) ∧ (Two w' r0 ∧ w'.cell? ⟨r0, 0, none⟩ = some (lies w' r0 0) ∧ w'.cell? ⟨r0, 1, none⟩ = some (lies w' r0 1) ∧ w'.frozen? ⟨r0, 0, none⟩ = false ∧ w'.frozen? ⟨r0, 1, none⟩ = false))
    (first
      | exact ⟨held0 (w := w1.drew) b_a1, held0 (w := w1.drew) b_b1, Two.room (w := w1.drew) t_r01⟩
      | exact keep21 (by assumption) (by assumption)
      | exact keep21s0 HG.out.2.2.2.2.1 HG.out.2.2.2.2.2.2.1 (by assumption) rfl)
    (first
      | (go_at_call 31; refine (rneg_g _ Y sb Ab nb cb xb ?_ HY.out HN.out).mono ?_; exact l_b1.drew; rintro e w5 ⟨A5, m5, c5, rfl, h5, hm5, hb5⟩)
      | (go_at_call 25; refine (raddI_g _ X N sa Aa na ca xa ?_ HX.out _ A5 m5 c5 _ ?_ (sgn_lim N) hna ?_ HZ.out).mono ?_; exact l_a1.drew.bel hb5; exact h5; omega; rintro e w6 ⟨A6, m6, c6, rfl, h6, hm6, hb6⟩))
  have hbx := bel_next (bel_undrew hb5) hb6
  have b_a2 := b_a1.bel hbx
  have b_b2 := b_b1.bel hbx
  have t_r02 := t_r01.bel hbx
  have l_a2 := l_a1.bel hbx
  have l_b2 := l_b1.bel hbx
  have bel2 := bel1.trans (hbx.mono bel1.size)
  have c_a0_2 := b_a2.c0
  have c_a1_2 := b_a2.c1
  have c_b0_2 := b_b2.c0
  have c_b1_2 := b_b2.c1
  have f_r02 := t_r02.room.2
  clear hbx b_a1 c_a0_1 c_a1_1 b_b1 c_b0_1 c_b1_1 t_r01 f_r01 l_a1 l_b1 bel1
  clear hb5 hb6
  go_wp2
  have hx := t_r02.put (decide (Z < 0)) A6 m6 c6
  have hl := h6.put t_r02 (.bool (decide (Z < 0))) (.slice A6 m6 c6)
  have hbl := bel_put bel2 (g := r0) HG.out.2.2.1 (.bool (decide (Z < 0))) (.slice A6 m6 c6)
  generalize (w6.setCell ⟨r0, 0, none⟩ (.bool (decide (Z < 0)))).setCell ⟨r0, 1, none⟩ (.slice A6 m6 c6) = wz at *
  refine bodyPost_ret (v := .agg #[.bool (decide (Z < 0)), .slice A6 m6 c6]) (by simp [results, Tryd.results27, go_sem, hx.c0, hx.c1]) rfl ?_
  exact ⟨_, _, _, rfl, hl, hm6, hbl⟩
set_option maxHeartbeats 4000000 in
theorem rcmpI_g (w : World) (X Y : Int) (sa : Bool) (Aa : Option Addr) (na ca : Nat) (xa : List Nat) (La : Lm w Aa na ca xa) (ha : sgn sa (val xa) = X) (sb : Bool) (Ab : Option Addr) (nb cb : Nat) (xb : List Nat) (Lb : Lm w Ab nb cb xb) (hb : sgn sb (val xb) = Y) (hna : na ≤ 100000) (hnb : nb ≤ 100000) {ρ : Int} (hZ : sg (X - Y) = ρ) :
    Calls Tryd.prog 23 #[.agg #[.bool sa, .slice Aa na ca], .agg #[.bool sb, .slice Ab nb cb]] w fun e w' => e = .returned (.int .i64 ρ) ∧ Below w.heap.size w w' := by
  obtain ⟨D, hD⟩ : ∃ V0 : Int, X - Y = V0 := ⟨_, rfl⟩
  rw [hD] at hZ
  have HX := Lib.hid ha
  have HY := Lib.hid hb
  have HD := Lib.hid hD
  have HZ := Lib.hid hZ
  clear ha hb hZ hD
  go_enter Tryd.func23, Tryd.ntmps23
  go_wp2_with fail
  obtain ⟨ga, hga⟩ : ∃ g, g = w.heap.size := ⟨_, rfl⟩
  obtain ⟨gb, hgb⟩ : ∃ g, g = w.heap.size + 1 := ⟨_, rfl⟩
  obtain ⟨w1, hw1⟩ : ∃ v, v = ((w.alloc (.cells #[.bool sa, .slice Aa na ca] 24)).alloc (.cells #[.bool sb, .slice Ab nb cb] 24)) := ⟨_, rfl⟩
  have bel1 : Below w.heap.size w w1 := by rw [hw1]; exact bel_alloc2 _ _ _
  have b_a1 : Box w1 ga sa Aa na ca := by rw [hw1, hga]; exact ((Box.new _ _ _ _ _).alloc _)
  have b_b1 : Box w1 gb sb Ab nb cb := by rw [hw1, hgb]; exact (Box.at1 _ _ _ _ _ _)
  rw [← hw1, ← hgb, ← hga]
  have hgs : w.heap.size ≤ ga ∧ w.heap.size ≤ gb ∧ ga ≠ gb ∧ gb ≠ ga := by omega
  have HG := Lib.hid hgs
  clear hw1 hgs hga hgb
  have l_a1 := La.bel bel1
  have l_b1 := Lb.bel bel1
  have c_a0_1 := b_a1.c0
  have c_a1_1 := b_a1.c1
  have c_b0_1 := b_b1.c0
  have c_b1_1 := b_b1.c1
  have cc := Lib.hid (rsubI_g w1 X Y sa Aa na ca xa l_a1 HX.out sb Ab nb cb xb l_b1 HY.out hna hnb HD.out)
  refine cc.out.mono ?_
  clear cc
  rintro e v2 ⟨A5, m5, c5, rfl, h5, hm5, kb2⟩
  have b_a2 := b_a1.bel kb2
  have b_b2 := b_b1.bel kb2
  have l_a2 := l_a1.bel kb2
  have l_b2 := l_b1.bel kb2
  have bel2 := bel1.trans (kb2.mono bel1.size)
  have c_a0_2 := b_a2.c0
  have c_a1_2 := b_a2.c1
  have c_b0_2 := b_b2.c0
  have c_b1_2 := b_b2.c1
  clear kb2 b_a1 c_a0_1 c_a1_1 b_b1 c_b0_1 c_b1_1 l_a1 l_b1 bel1
  go_wp2_with fail
  have cc := Lib.hid (rsign_g v2 D _ A5 m5 c5 _ h5 (sgn_lim D) HZ.out)
  refine cc.out.mono ?_
  clear cc
  rintro e v3 ⟨rfl, kb3⟩
  have b_a3 := b_a2.bel kb3
  have b_b3 := b_b2.bel kb3
  have l_a3 := l_a2.bel kb3
  have l_b3 := l_b2.bel kb3
  have l_d3 := h5.bel kb3
  have bel3 := bel2.trans (kb3.mono bel2.size)
  have c_a0_3 := b_a3.c0
  have c_a1_3 := b_a3.c1
  have c_b0_3 := b_b3.c0
  have c_b1_3 := b_b3.c1
  clear kb3 b_a2 c_a0_2 c_a1_2 b_b2 c_b0_2 c_b1_2 l_a2 l_b2 h5 bel2
  go_wp2
  go_ret
  exact ⟨rfl, bel3⟩
end Go.Proofs.YtfnfbfiikkiliaaDoor
