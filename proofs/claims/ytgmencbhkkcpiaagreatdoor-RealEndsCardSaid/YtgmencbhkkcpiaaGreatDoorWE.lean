/- Contracts of package whole: Mul. -/
import Derived.Test.YtgmencbhkkcpiaaGreatDoorWa
import Derived.Test.YtgmencbhkkcpiaaGreatDoorLa
import Derived.Deep.RegionHeld3
namespace Go.Proofs.YtgmencbhkkcpiaaGreatDoor
open Go.RowKit

theorem keepc {w w' : World} {p : Addr} {v : Value} {R R' : Prop} (hb : Below w.heap.size w w') (h : w.cell? p = some v ∧ R) (k : R → R') : w'.cell? p = some v ∧ R' :=
  ⟨(hb.cell (p := p) (World.block_lt_of_cell? w _ h.1)).trans h.1, k h.2⟩
theorem keepcs {w w' : World} {p : Addr} {r : Nat} {u u' v : Value} {R R' : Prop} (hne : p.block ≠ r) (h : w.cell? p = some v ∧ R) (hw : w' = (w.setCell ⟨r, 0, none⟩ u).setCell ⟨r, 1, none⟩ u') (k : R → R') : w'.cell? p = some v ∧ R' := by
  refine ⟨?_, k h.2⟩
  rw [hw, World.cell?_of_block (w := w.setCell ⟨r, 0, none⟩ u) (Below.heap_setCell _ _ _ _ hne), World.cell?_of_block (w := w) (Below.heap_setCell _ _ _ _ hne)]
  exact h.1
set_option maxHeartbeats 2000000 in
theorem wmul_mm (w : World) (sa : Bool) (Aa : Option Addr) (na ca : Nat) (xa : List Nat) (La : Lm w Aa na ca xa) (sb : Bool) (Ab : Option Addr) (nb cb : Nat) (xb : List Nat) (Lb : Lm w Ab nb cb xb) (hs : sg (sgn sa (val xa)) = (-1)) (ht : sg (sgn sb (val xb)) = (-1)) (hT : ProductsT w) (hna : na ≤ 1000000000) (hnb : nb ≤ 1000000000) :
    Calls Tryz.prog 51 #[.agg #[.bool sa, .slice Aa na ca], .agg #[.bool sb, .slice Ab nb cb]] w (TellsI w (sgn sa (val xa) * sgn sb (val xb)) (na + nb)) := by
  have hsg := sg_mul (sgn sa (val xa)) (sgn sb (val xb))
  rw [hs, ht] at hsg
  have hgl := World.block_lt_of_cell? w _ (hT 0 (by omega))
  have hgl2 : 2 < w.heap.size := hgl
  obtain ⟨Z, hZ, hZn, hZs⟩ : ∃ Z, sgn sa (val xa) * sgn sb (val xb) = Z ∧ Z.natAbs = val xa * val xb ∧ (Z ≠ 0 → (1 < (0 : Int) ↔ Z < 0)) := ⟨_, rfl, by rw [Int.natAbs_mul, sgn_natAbs, sgn_natAbs], fun _ => by have h := sg_sign (sgn sa (val xa) * sgn sb (val xb)); rw [hsg] at h; rw [← h]; decide⟩
  rw [hZ]
  have HZ := Lib.hid (And.intro hZn hZs)
  clear hZ hZn hZs hsg hgl
  have Hσ := Lib.hid hs
  have Hτ := Lib.hid ht
  have HT := Lib.hid hT
  clear hs ht hT
  go_enter Tryz.func51, Tryz.ntmps51
  go_wp2_with fail
  obtain ⟨ga, hga⟩ : ∃ g, g = w.heap.size := ⟨_, rfl⟩
  obtain ⟨gb, hgb⟩ : ∃ g, g = w.heap.size + 1 := ⟨_, rfl⟩
  obtain ⟨r0, hr0⟩ : ∃ g, g = w.heap.size + 2 := ⟨_, rfl⟩
  obtain ⟨w1, hw1⟩ : ∃ v, v = (((w.alloc (.cells #[.bool sa, .slice Aa na ca] 24)).alloc (.cells #[.bool sb, .slice Ab nb cb] 24)).alloc (.cells #[.bool false, .slice none 0 0] 24)) := ⟨_, rfl⟩
  have bel1 : Below w.heap.size w w1 := by rw [hw1]; exact bel_alloc3 _ _ _ _
  have b_a1 : Box w1 ga sa Aa na ca := by rw [hw1, hga]; exact (((Box.new _ _ _ _ _).alloc _).alloc _)
  have b_b1 : Box w1 gb sb Ab nb cb := by rw [hw1, hgb]; exact ((Box.at1 _ _ _ _ _ _).alloc _)
  have t_r01 : Two w1 r0 := by rw [hw1, hr0]; exact Box.two (Box.at2 _ _ _ _ _ _ _)
  rw [← hw1, ← hr0, ← hgb, ← hga]
  have hgs : w.heap.size ≤ ga ∧ w.heap.size ≤ gb ∧ w.heap.size ≤ r0 ∧ ga ≠ gb ∧ ga ≠ r0 ∧ gb ≠ ga ∧ gb ≠ r0 ∧ r0 ≠ ga ∧ r0 ≠ gb := by omega
  have HG := Lib.hid hgs
  clear hw1 hgs hga hgb hr0
  have l_a1 := La.bel bel1
  have l_b1 := Lb.bel bel1
  have c_a0_1 := b_a1.c0
  have c_a1_1 := b_a1.c1
  have c_b0_1 := b_b1.c0
  have c_b1_1 := b_b1.c1
  have f_r01 := t_r01.room.2
  have hcell := (HT.out.bel bel1) 0 (by omega)
  rw [show productsT.getD 0 0 = 1 from rfl] at hcell
  have ew0 : IntKind.i64.wrap (0 : Int) = 0 := rfl
  have ew1 : IntKind.i64.wrap (1 : Int) = 1 := rfl
  have ew2 : IntKind.i64.wrap (2 : Int) = 2 := rfl
  have es : IntKind.i64.wrap (((-1) : Int) + 1) = 0 := rfl
  have et : IntKind.i64.wrap (((-1) : Int) + 1) = 0 := rfl
  have hgr : 2 ≠ r0 := by have := HG.out.2.2.1; omega
  clear hgl2
  go_region_held3 (fun w' => w'.cell? ⟨2, 0, none⟩ = some (.int .i64 1) ∧ (Box w' ga sa Aa na ca ∧ w'.cell? ⟨ga, 0, none⟩ = some (.bool sa) ∧ w'.cell? ⟨ga, 1, none⟩ = some (.slice Aa na ca)) ∧ (Box w' gb sb Ab nb cb ∧ w'.cell? ⟨gb, 0, none⟩ = some (.bool sb) ∧ w'.cell? ⟨gb, 1, none⟩ = some (.slice Ab nb cb)) ∧ (Two w' r0 ∧ w'.cell? ⟨r0, 0, none⟩ = some (lies w' r0 0) ∧ w'.cell? ⟨r0, 1, none⟩ = some (lies w' r0 1) ∧ w'.frozen? ⟨r0, 0, none⟩ = false ∧ w'.frozen? ⟨r0, 1, none⟩ = false))
    (first
      | exact ⟨hcell, held0 (w := w1.drew) b_a1, held0 (w := w1.drew) b_b1, Two.room (w := w1.drew) t_r01⟩
      | exact keepc (by assumption) (by assumption) (fun h => keep21 (by assumption) h)
      | exact keepcs hgr (by assumption) rfl (fun h => keep21s0 HG.out.2.2.2.2.1 HG.out.2.2.2.2.2.2.1 h rfl))
    (first
      | (go_at_call 71; go_at_call_of 71 (Value.slice Aa na ca); refine (wsign_at _ sa Aa na ca xa ?_ Hσ.out).mono ?_; exact l_a1.drew; rintro e w2 ⟨rfl, hb2⟩)
      | (go_at_call 71; go_at_call_of 71 (Value.slice Ab nb cb); refine (wsign_at _ sb Ab nb cb xb ?_ Hτ.out).mono ?_; exact l_b1.drew.bel hb2; rintro e w3 ⟨rfl, hb3⟩)
      | (go_at_call 75; refine (mul_any _ Aa na ca xa Ab nb cb xb ?_ ?_ ?_ ?_).mono ?_; exact (l_a1.drew.bel hb2).bel hb3; exact (l_b1.drew.bel hb2).bel hb3; omega; omega; rintro e w4 ⟨A4, m4, c4, rfl, h4, hm4, hb4⟩)
      | (go_at_call 74; refine (signed_z _ Z _ _ _ _ _ ?_ hm4 ?_).mono ?_; (rw [HZ.out.1]; exact h4); exact HZ.out.2; rintro e w5 ⟨A5, m5, c5, rfl, h5, hm5, hb5⟩))
  have hbx := bel_next (bel_next (bel_next (bel_undrew hb2) hb3) hb4) hb5
  have b_a2 := b_a1.bel hbx
  have b_b2 := b_b1.bel hbx
  have t_r02 := t_r01.bel hbx
  have l_a2 := l_a1.bel hbx
  have l_b2 := l_b1.bel hbx
  have bel2 := bel1.trans (hbx.mono bel1.size)
  have c_a0_2 := b_a2.c0
  have c_a1_2 := b_a2.c1
  have c_b0_2 := b_b2.c0
  have c_b1_2 := b_b2.c1
  have f_r02 := t_r02.room.2
  clear hbx b_a1 c_a0_1 c_a1_1 b_b1 c_b0_1 c_b1_1 t_r01 f_r01 l_a1 l_b1 bel1
  clear hb2 hb3 hb4 hb5
  go_wp2
  have hx := t_r02.put (decide (Z < 0)) A5 m5 c5
  have hl := h5.put t_r02 (.bool (decide (Z < 0))) (.slice A5 m5 c5)
  have hbl := bel_put bel2 (g := r0) HG.out.2.2.1 (.bool (decide (Z < 0))) (.slice A5 m5 c5)
  generalize (w5.setCell ⟨r0, 0, none⟩ (.bool (decide (Z < 0)))).setCell ⟨r0, 1, none⟩ (.slice A5 m5 c5) = wz at *
  refine bodyPost_ret (v := .agg #[.bool (decide (Z < 0)), .slice A5 m5 c5]) (by simp [results, Tryz.results51, go_sem, hx.c0, hx.c1]) rfl ?_
  exact ⟨_, _, _, rfl, hl, hm5, hbl⟩
set_option maxHeartbeats 2000000 in
theorem wmul_mz (w : World) (sa : Bool) (Aa : Option Addr) (na ca : Nat) (xa : List Nat) (La : Lm w Aa na ca xa) (sb : Bool) (Ab : Option Addr) (nb cb : Nat) (xb : List Nat) (Lb : Lm w Ab nb cb xb) (hs : sg (sgn sa (val xa)) = (-1)) (ht : sg (sgn sb (val xb)) = 0) (hT : ProductsT w) (hna : na ≤ 1000000000) (hnb : nb ≤ 1000000000) :
    Calls Tryz.prog 51 #[.agg #[.bool sa, .slice Aa na ca], .agg #[.bool sb, .slice Ab nb cb]] w (TellsI w (sgn sa (val xa) * sgn sb (val xb)) (na + nb)) := by
  have hsg := sg_mul (sgn sa (val xa)) (sgn sb (val xb))
  rw [hs, ht] at hsg
  have hgl := World.block_lt_of_cell? w _ (hT 1 (by omega))
  have hgl2 : 2 < w.heap.size := hgl
  obtain ⟨Z, hZ, hZn, hZs⟩ : ∃ Z, sgn sa (val xa) * sgn sb (val xb) = Z ∧ Z.natAbs = val xa * val xb ∧ (Z ≠ 0 → (0 < (0 : Int) ↔ Z < 0)) := ⟨_, rfl, by rw [Int.natAbs_mul, sgn_natAbs, sgn_natAbs], fun _ => by have h := sg_sign (sgn sa (val xa) * sgn sb (val xb)); rw [hsg] at h; rw [← h]; decide⟩
  rw [hZ]
  have HZ := Lib.hid (And.intro hZn hZs)
  clear hZ hZn hZs hsg hgl
  have Hσ := Lib.hid hs
  have Hτ := Lib.hid ht
  have HT := Lib.hid hT
  clear hs ht hT
  go_enter Tryz.func51, Tryz.ntmps51
  go_wp2_with fail
  obtain ⟨ga, hga⟩ : ∃ g, g = w.heap.size := ⟨_, rfl⟩
  obtain ⟨gb, hgb⟩ : ∃ g, g = w.heap.size + 1 := ⟨_, rfl⟩
  obtain ⟨r0, hr0⟩ : ∃ g, g = w.heap.size + 2 := ⟨_, rfl⟩
  obtain ⟨w1, hw1⟩ : ∃ v, v = (((w.alloc (.cells #[.bool sa, .slice Aa na ca] 24)).alloc (.cells #[.bool sb, .slice Ab nb cb] 24)).alloc (.cells #[.bool false, .slice none 0 0] 24)) := ⟨_, rfl⟩
  have bel1 : Below w.heap.size w w1 := by rw [hw1]; exact bel_alloc3 _ _ _ _
  have b_a1 : Box w1 ga sa Aa na ca := by rw [hw1, hga]; exact (((Box.new _ _ _ _ _).alloc _).alloc _)
  have b_b1 : Box w1 gb sb Ab nb cb := by rw [hw1, hgb]; exact ((Box.at1 _ _ _ _ _ _).alloc _)
  have t_r01 : Two w1 r0 := by rw [hw1, hr0]; exact Box.two (Box.at2 _ _ _ _ _ _ _)
  rw [← hw1, ← hr0, ← hgb, ← hga]
  have hgs : w.heap.size ≤ ga ∧ w.heap.size ≤ gb ∧ w.heap.size ≤ r0 ∧ ga ≠ gb ∧ ga ≠ r0 ∧ gb ≠ ga ∧ gb ≠ r0 ∧ r0 ≠ ga ∧ r0 ≠ gb := by omega
  have HG := Lib.hid hgs
  clear hw1 hgs hga hgb hr0
  have l_a1 := La.bel bel1
  have l_b1 := Lb.bel bel1
  have c_a0_1 := b_a1.c0
  have c_a1_1 := b_a1.c1
  have c_b0_1 := b_b1.c0
  have c_b1_1 := b_b1.c1
  have f_r01 := t_r01.room.2
  have hcell := (HT.out.bel bel1) 1 (by omega)
  rw [show productsT.getD 1 0 = 0 from rfl] at hcell
  have ew0 : IntKind.i64.wrap (0 : Int) = 0 := rfl
  have ew1 : IntKind.i64.wrap (1 : Int) = 1 := rfl
  have ew2 : IntKind.i64.wrap (2 : Int) = 2 := rfl
  have es : IntKind.i64.wrap (((-1) : Int) + 1) = 0 := rfl
  have et : IntKind.i64.wrap ((0 : Int) + 1) = 1 := rfl
  have hgr : 2 ≠ r0 := by have := HG.out.2.2.1; omega
  clear hgl2
  go_region_held3 (fun w' => w'.cell? ⟨2, 1, none⟩ = some (.int .i64 0) ∧ (Box w' ga sa Aa na ca ∧ w'.cell? ⟨ga, 0, none⟩ = some (.bool sa) ∧ w'.cell? ⟨ga, 1, none⟩ = some (.slice Aa na ca)) ∧ (Box w' gb sb Ab nb cb ∧ w'.cell? ⟨gb, 0, none⟩ = some (.bool sb) ∧ w'.cell? ⟨gb, 1, none⟩ = some (.slice Ab nb cb)) ∧ (Two w' r0 ∧ w'.cell? ⟨r0, 0, none⟩ = some (lies w' r0 0) ∧ w'.cell? ⟨r0, 1, none⟩ = some (lies w' r0 1) ∧ w'.frozen? ⟨r0, 0, none⟩ = false ∧ w'.frozen? ⟨r0, 1, none⟩ = false))
    (first
      | exact ⟨hcell, held0 (w := w1.drew) b_a1, held0 (w := w1.drew) b_b1, Two.room (w := w1.drew) t_r01⟩
      | exact keepc (by assumption) (by assumption) (fun h => keep21 (by assumption) h)
      | exact keepcs hgr (by assumption) rfl (fun h => keep21s0 HG.out.2.2.2.2.1 HG.out.2.2.2.2.2.2.1 h rfl))
    (first
      | (go_at_call 71; go_at_call_of 71 (Value.slice Aa na ca); refine (wsign_at _ sa Aa na ca xa ?_ Hσ.out).mono ?_; exact l_a1.drew; rintro e w2 ⟨rfl, hb2⟩)
      | (go_at_call 71; go_at_call_of 71 (Value.slice Ab nb cb); refine (wsign_at _ sb Ab nb cb xb ?_ Hτ.out).mono ?_; exact l_b1.drew.bel hb2; rintro e w3 ⟨rfl, hb3⟩)
      | (go_at_call 75; refine (mul_any _ Aa na ca xa Ab nb cb xb ?_ ?_ ?_ ?_).mono ?_; exact (l_a1.drew.bel hb2).bel hb3; exact (l_b1.drew.bel hb2).bel hb3; omega; omega; rintro e w4 ⟨A4, m4, c4, rfl, h4, hm4, hb4⟩)
      | (go_at_call 74; refine (signed_z _ Z _ _ _ _ _ ?_ hm4 ?_).mono ?_; (rw [HZ.out.1]; exact h4); exact HZ.out.2; rintro e w5 ⟨A5, m5, c5, rfl, h5, hm5, hb5⟩))
  have hbx := bel_next (bel_next (bel_next (bel_undrew hb2) hb3) hb4) hb5
  have b_a2 := b_a1.bel hbx
  have b_b2 := b_b1.bel hbx
  have t_r02 := t_r01.bel hbx
  have l_a2 := l_a1.bel hbx
  have l_b2 := l_b1.bel hbx
  have bel2 := bel1.trans (hbx.mono bel1.size)
  have c_a0_2 := b_a2.c0
  have c_a1_2 := b_a2.c1
  have c_b0_2 := b_b2.c0
  have c_b1_2 := b_b2.c1
  have f_r02 := t_r02.room.2
  clear hbx b_a1 c_a0_1 c_a1_1 b_b1 c_b0_1 c_b1_1 t_r01 f_r01 l_a1 l_b1 bel1
  clear hb2 hb3 hb4 hb5
  go_wp2
  have hx := t_r02.put (decide (Z < 0)) A5 m5 c5
  have hl := h5.put t_r02 (.bool (decide (Z < 0))) (.slice A5 m5 c5)
  have hbl := bel_put bel2 (g := r0) HG.out.2.2.1 (.bool (decide (Z < 0))) (.slice A5 m5 c5)
  generalize (w5.setCell ⟨r0, 0, none⟩ (.bool (decide (Z < 0)))).setCell ⟨r0, 1, none⟩ (.slice A5 m5 c5) = wz at *
  refine bodyPost_ret (v := .agg #[.bool (decide (Z < 0)), .slice A5 m5 c5]) (by simp [results, Tryz.results51, go_sem, hx.c0, hx.c1]) rfl ?_
  exact ⟨_, _, _, rfl, hl, hm5, hbl⟩
set_option maxHeartbeats 2000000 in
theorem wmul_mp (w : World) (sa : Bool) (Aa : Option Addr) (na ca : Nat) (xa : List Nat) (La : Lm w Aa na ca xa) (sb : Bool) (Ab : Option Addr) (nb cb : Nat) (xb : List Nat) (Lb : Lm w Ab nb cb xb) (hs : sg (sgn sa (val xa)) = (-1)) (ht : sg (sgn sb (val xb)) = 1) (hT : ProductsT w) (hna : na ≤ 1000000000) (hnb : nb ≤ 1000000000) :
    Calls Tryz.prog 51 #[.agg #[.bool sa, .slice Aa na ca], .agg #[.bool sb, .slice Ab nb cb]] w (TellsI w (sgn sa (val xa) * sgn sb (val xb)) (na + nb)) := by
  have hsg := sg_mul (sgn sa (val xa)) (sgn sb (val xb))
  rw [hs, ht] at hsg
  have hgl := World.block_lt_of_cell? w _ (hT 2 (by omega))
  have hgl2 : 2 < w.heap.size := hgl
  obtain ⟨Z, hZ, hZn, hZs⟩ : ∃ Z, sgn sa (val xa) * sgn sb (val xb) = Z ∧ Z.natAbs = val xa * val xb ∧ (Z ≠ 0 → ((-1) < (0 : Int) ↔ Z < 0)) := ⟨_, rfl, by rw [Int.natAbs_mul, sgn_natAbs, sgn_natAbs], fun _ => by have h := sg_sign (sgn sa (val xa) * sgn sb (val xb)); rw [hsg] at h; rw [← h]; decide⟩
  rw [hZ]
  have HZ := Lib.hid (And.intro hZn hZs)
  clear hZ hZn hZs hsg hgl
  have Hσ := Lib.hid hs
  have Hτ := Lib.hid ht
  have HT := Lib.hid hT
  clear hs ht hT
  go_enter Tryz.func51, Tryz.ntmps51
  go_wp2_with fail
  obtain ⟨ga, hga⟩ : ∃ g, g = w.heap.size := ⟨_, rfl⟩
  obtain ⟨gb, hgb⟩ : ∃ g, g = w.heap.size + 1 := ⟨_, rfl⟩
  obtain ⟨r0, hr0⟩ : ∃ g, g = w.heap.size + 2 := ⟨_, rfl⟩
  obtain ⟨w1, hw1⟩ : ∃ v, v = (((w.alloc (.cells #[.bool sa, .slice Aa na ca] 24)).alloc (.cells #[.bool sb, .slice Ab nb cb] 24)).alloc (.cells #[.bool false, .slice none 0 0] 24)) := ⟨_, rfl⟩
  have bel1 : Below w.heap.size w w1 := by rw [hw1]; exact bel_alloc3 _ _ _ _
  have b_a1 : Box w1 ga sa Aa na ca := by rw [hw1, hga]; exact (((Box.new _ _ _ _ _).alloc _).alloc _)
  have b_b1 : Box w1 gb sb Ab nb cb := by rw [hw1, hgb]; exact ((Box.at1 _ _ _ _ _ _).alloc _)
  have t_r01 : Two w1 r0 := by rw [hw1, hr0]; exact Box.two (Box.at2 _ _ _ _ _ _ _)
  rw [← hw1, ← hr0, ← hgb, ← hga]
  have hgs : w.heap.size ≤ ga ∧ w.heap.size ≤ gb ∧ w.heap.size ≤ r0 ∧ ga ≠ gb ∧ ga ≠ r0 ∧ gb ≠ ga ∧ gb ≠ r0 ∧ r0 ≠ ga ∧ r0 ≠ gb := by omega
  have HG := Lib.hid hgs
  clear hw1 hgs hga hgb hr0
  have l_a1 := La.bel bel1
  have l_b1 := Lb.bel bel1
  have c_a0_1 := b_a1.c0
  have c_a1_1 := b_a1.c1
  have c_b0_1 := b_b1.c0
  have c_b1_1 := b_b1.c1
  have f_r01 := t_r01.room.2
  have hcell := (HT.out.bel bel1) 2 (by omega)
  rw [show productsT.getD 2 0 = (-1) from rfl] at hcell
  have ew0 : IntKind.i64.wrap (0 : Int) = 0 := rfl
  have ew1 : IntKind.i64.wrap (1 : Int) = 1 := rfl
  have ew2 : IntKind.i64.wrap (2 : Int) = 2 := rfl
  have es : IntKind.i64.wrap (((-1) : Int) + 1) = 0 := rfl
  have et : IntKind.i64.wrap ((1 : Int) + 1) = 2 := rfl
  have hgr : 2 ≠ r0 := by have := HG.out.2.2.1; omega
  clear hgl2
  go_region_held3 (fun w' => w'.cell? ⟨2, 2, none⟩ = some (.int .i64 (-1)) ∧ (Box w' ga sa Aa na ca ∧ w'.cell? ⟨ga, 0, none⟩ = some (.bool sa) ∧ w'.cell? ⟨ga, 1, none⟩ = some (.slice Aa na ca)) ∧ (Box w' gb sb Ab nb cb ∧ w'.cell? ⟨gb, 0, none⟩ = some (.bool sb) ∧ w'.cell? ⟨gb, 1, none⟩ = some (.slice Ab nb cb)) ∧ (Two w' r0 ∧ w'.cell? ⟨r0, 0, none⟩ = some (lies w' r0 0) ∧ w'.cell? ⟨r0, 1, none⟩ = some (lies w' r0 1) ∧ w'.frozen? ⟨r0, 0, none⟩ = false ∧ w'.frozen? ⟨r0, 1, none⟩ = false))
    (first
      | exact ⟨hcell, held0 (w := w1.drew) b_a1, held0 (w := w1.drew) b_b1, Two.room (w := w1.drew) t_r01⟩
      | exact keepc (by assumption) (by assumption) (fun h => keep21 (by assumption) h)
      | exact keepcs hgr (by assumption) rfl (fun h => keep21s0 HG.out.2.2.2.2.1 HG.out.2.2.2.2.2.2.1 h rfl))
    (first
      | (go_at_call 71; go_at_call_of 71 (Value.slice Aa na ca); refine (wsign_at _ sa Aa na ca xa ?_ Hσ.out).mono ?_; exact l_a1.drew; rintro e w2 ⟨rfl, hb2⟩)
      | (go_at_call 71; go_at_call_of 71 (Value.slice Ab nb cb); refine (wsign_at _ sb Ab nb cb xb ?_ Hτ.out).mono ?_; exact l_b1.drew.bel hb2; rintro e w3 ⟨rfl, hb3⟩)
      | (go_at_call 75; refine (mul_any _ Aa na ca xa Ab nb cb xb ?_ ?_ ?_ ?_).mono ?_; exact (l_a1.drew.bel hb2).bel hb3; exact (l_b1.drew.bel hb2).bel hb3; omega; omega; rintro e w4 ⟨A4, m4, c4, rfl, h4, hm4, hb4⟩)
      | (go_at_call 74; refine (signed_z _ Z _ _ _ _ _ ?_ hm4 ?_).mono ?_; (rw [HZ.out.1]; exact h4); exact HZ.out.2; rintro e w5 ⟨A5, m5, c5, rfl, h5, hm5, hb5⟩))
  have hbx := bel_next (bel_next (bel_next (bel_undrew hb2) hb3) hb4) hb5
  have b_a2 := b_a1.bel hbx
  have b_b2 := b_b1.bel hbx
  have t_r02 := t_r01.bel hbx
  have l_a2 := l_a1.bel hbx
  have l_b2 := l_b1.bel hbx
  have bel2 := bel1.trans (hbx.mono bel1.size)
  have c_a0_2 := b_a2.c0
  have c_a1_2 := b_a2.c1
  have c_b0_2 := b_b2.c0
  have c_b1_2 := b_b2.c1
  have f_r02 := t_r02.room.2
  clear hbx b_a1 c_a0_1 c_a1_1 b_b1 c_b0_1 c_b1_1 t_r01 f_r01 l_a1 l_b1 bel1
  clear hb2 hb3 hb4 hb5
  go_wp2
  have hx := t_r02.put (decide (Z < 0)) A5 m5 c5
  have hl := h5.put t_r02 (.bool (decide (Z < 0))) (.slice A5 m5 c5)
  have hbl := bel_put bel2 (g := r0) HG.out.2.2.1 (.bool (decide (Z < 0))) (.slice A5 m5 c5)
  generalize (w5.setCell ⟨r0, 0, none⟩ (.bool (decide (Z < 0)))).setCell ⟨r0, 1, none⟩ (.slice A5 m5 c5) = wz at *
  refine bodyPost_ret (v := .agg #[.bool (decide (Z < 0)), .slice A5 m5 c5]) (by simp [results, Tryz.results51, go_sem, hx.c0, hx.c1]) rfl ?_
  exact ⟨_, _, _, rfl, hl, hm5, hbl⟩
set_option maxHeartbeats 2000000 in
theorem wmul_zm (w : World) (sa : Bool) (Aa : Option Addr) (na ca : Nat) (xa : List Nat) (La : Lm w Aa na ca xa) (sb : Bool) (Ab : Option Addr) (nb cb : Nat) (xb : List Nat) (Lb : Lm w Ab nb cb xb) (hs : sg (sgn sa (val xa)) = 0) (ht : sg (sgn sb (val xb)) = (-1)) (hT : ProductsT w) (hna : na ≤ 1000000000) (hnb : nb ≤ 1000000000) :
    Calls Tryz.prog 51 #[.agg #[.bool sa, .slice Aa na ca], .agg #[.bool sb, .slice Ab nb cb]] w (TellsI w (sgn sa (val xa) * sgn sb (val xb)) (na + nb)) := by
  have hsg := sg_mul (sgn sa (val xa)) (sgn sb (val xb))
  rw [hs, ht] at hsg
  have hgl := World.block_lt_of_cell? w _ (hT 3 (by omega))
  have hgl2 : 2 < w.heap.size := hgl
  obtain ⟨Z, hZ, hZn, hZs⟩ : ∃ Z, sgn sa (val xa) * sgn sb (val xb) = Z ∧ Z.natAbs = val xa * val xb ∧ (Z ≠ 0 → (0 < (0 : Int) ↔ Z < 0)) := ⟨_, rfl, by rw [Int.natAbs_mul, sgn_natAbs, sgn_natAbs], fun _ => by have h := sg_sign (sgn sa (val xa) * sgn sb (val xb)); rw [hsg] at h; rw [← h]; decide⟩
  rw [hZ]
  have HZ := Lib.hid (And.intro hZn hZs)
  clear hZ hZn hZs hsg hgl
  have Hσ := Lib.hid hs
  have Hτ := Lib.hid ht
  have HT := Lib.hid hT
  clear hs ht hT
  go_enter Tryz.func51, Tryz.ntmps51
  go_wp2_with fail
  obtain ⟨ga, hga⟩ : ∃ g, g = w.heap.size := ⟨_, rfl⟩
  obtain ⟨gb, hgb⟩ : ∃ g, g = w.heap.size + 1 := ⟨_, rfl⟩
  obtain ⟨r0, hr0⟩ : ∃ g, g = w.heap.size + 2 := ⟨_, rfl⟩
  obtain ⟨w1, hw1⟩ : ∃ v, v = (((w.alloc (.cells #[.bool sa, .slice Aa na ca] 24)).alloc (.cells #[.bool sb, .slice Ab nb cb] 24)).alloc (.cells #[.bool false, .slice none 0 0] 24)) := ⟨_, rfl⟩
  have bel1 : Below w.heap.size w w1 := by rw [hw1]; exact bel_alloc3 _ _ _ _
  have b_a1 : Box w1 ga sa Aa na ca := by rw [hw1, hga]; exact (((Box.new _ _ _ _ _).alloc _).alloc _)
  have b_b1 : Box w1 gb sb Ab nb cb := by rw [hw1, hgb]; exact ((Box.at1 _ _ _ _ _ _).alloc _)
  have t_r01 : Two w1 r0 := by rw [hw1, hr0]; exact Box.two (Box.at2 _ _ _ _ _ _ _)
  rw [← hw1, ← hr0, ← hgb, ← hga]
  have hgs : w.heap.size ≤ ga ∧ w.heap.size ≤ gb ∧ w.heap.size ≤ r0 ∧ ga ≠ gb ∧ ga ≠ r0 ∧ gb ≠ ga ∧ gb ≠ r0 ∧ r0 ≠ ga ∧ r0 ≠ gb := by omega
  have HG := Lib.hid hgs
  clear hw1 hgs hga hgb hr0
  have l_a1 := La.bel bel1
  have l_b1 := Lb.bel bel1
  have c_a0_1 := b_a1.c0
  have c_a1_1 := b_a1.c1
  have c_b0_1 := b_b1.c0
  have c_b1_1 := b_b1.c1
  have f_r01 := t_r01.room.2
  have hcell := (HT.out.bel bel1) 3 (by omega)
  rw [show productsT.getD 3 0 = 0 from rfl] at hcell
  have ew0 : IntKind.i64.wrap (0 : Int) = 0 := rfl
  have ew1 : IntKind.i64.wrap (1 : Int) = 1 := rfl
  have ew2 : IntKind.i64.wrap (2 : Int) = 2 := rfl
  have es : IntKind.i64.wrap ((0 : Int) + 1) = 1 := rfl
  have et : IntKind.i64.wrap (((-1) : Int) + 1) = 0 := rfl
  have hgr : 2 ≠ r0 := by have := HG.out.2.2.1; omega
  clear hgl2
  go_region_held3 (fun w' => w'.cell? ⟨2, 3, none⟩ = some (.int .i64 0) ∧ (Box w' ga sa Aa na ca ∧ w'.cell? ⟨ga, 0, none⟩ = some (.bool sa) ∧ w'.cell? ⟨ga, 1, none⟩ = some (.slice Aa na ca)) ∧ (Box w' gb sb Ab nb cb ∧ w'.cell? ⟨gb, 0, none⟩ = some (.bool sb) ∧ w'.cell? ⟨gb, 1, none⟩ = some (.slice Ab nb cb)) ∧ (Two w' r0 ∧ w'.cell? ⟨r0, 0, none⟩ = some (lies w' r0 0) ∧ w'.cell? ⟨r0, 1, none⟩ = some (lies w' r0 1) ∧ w'.frozen? ⟨r0, 0, none⟩ = false ∧ w'.frozen? ⟨r0, 1, none⟩ = false))
    (first
      | exact ⟨hcell, held0 (w := w1.drew) b_a1, held0 (w := w1.drew) b_b1, Two.room (w := w1.drew) t_r01⟩
      | exact keepc (by assumption) (by assumption) (fun h => keep21 (by assumption) h)
      | exact keepcs hgr (by assumption) rfl (fun h => keep21s0 HG.out.2.2.2.2.1 HG.out.2.2.2.2.2.2.1 h rfl))
    (first
      | (go_at_call 71; go_at_call_of 71 (Value.slice Aa na ca); refine (wsign_at _ sa Aa na ca xa ?_ Hσ.out).mono ?_; exact l_a1.drew; rintro e w2 ⟨rfl, hb2⟩)
      | (go_at_call 71; go_at_call_of 71 (Value.slice Ab nb cb); refine (wsign_at _ sb Ab nb cb xb ?_ Hτ.out).mono ?_; exact l_b1.drew.bel hb2; rintro e w3 ⟨rfl, hb3⟩)
      | (go_at_call 75; refine (mul_any _ Aa na ca xa Ab nb cb xb ?_ ?_ ?_ ?_).mono ?_; exact (l_a1.drew.bel hb2).bel hb3; exact (l_b1.drew.bel hb2).bel hb3; omega; omega; rintro e w4 ⟨A4, m4, c4, rfl, h4, hm4, hb4⟩)
      | (go_at_call 74; refine (signed_z _ Z _ _ _ _ _ ?_ hm4 ?_).mono ?_; (rw [HZ.out.1]; exact h4); exact HZ.out.2; rintro e w5 ⟨A5, m5, c5, rfl, h5, hm5, hb5⟩))
  have hbx := bel_next (bel_next (bel_next (bel_undrew hb2) hb3) hb4) hb5
  have b_a2 := b_a1.bel hbx
  have b_b2 := b_b1.bel hbx
  have t_r02 := t_r01.bel hbx
  have l_a2 := l_a1.bel hbx
  have l_b2 := l_b1.bel hbx
  have bel2 := bel1.trans (hbx.mono bel1.size)
  have c_a0_2 := b_a2.c0
  have c_a1_2 := b_a2.c1
  have c_b0_2 := b_b2.c0
  have c_b1_2 := b_b2.c1
  have f_r02 := t_r02.room.2
  clear hbx b_a1 c_a0_1 c_a1_1 b_b1 c_b0_1 c_b1_1 t_r01 f_r01 l_a1 l_b1 bel1
  clear hb2 hb3 hb4 hb5
  go_wp2
  have hx := t_r02.put (decide (Z < 0)) A5 m5 c5
  have hl := h5.put t_r02 (.bool (decide (Z < 0))) (.slice A5 m5 c5)
  have hbl := bel_put bel2 (g := r0) HG.out.2.2.1 (.bool (decide (Z < 0))) (.slice A5 m5 c5)
  generalize (w5.setCell ⟨r0, 0, none⟩ (.bool (decide (Z < 0)))).setCell ⟨r0, 1, none⟩ (.slice A5 m5 c5) = wz at *
  refine bodyPost_ret (v := .agg #[.bool (decide (Z < 0)), .slice A5 m5 c5]) (by simp [results, Tryz.results51, go_sem, hx.c0, hx.c1]) rfl ?_
  exact ⟨_, _, _, rfl, hl, hm5, hbl⟩
set_option maxHeartbeats 2000000 in
theorem wmul_zz (w : World) (sa : Bool) (Aa : Option Addr) (na ca : Nat) (xa : List Nat) (La : Lm w Aa na ca xa) (sb : Bool) (Ab : Option Addr) (nb cb : Nat) (xb : List Nat) (Lb : Lm w Ab nb cb xb) (hs : sg (sgn sa (val xa)) = 0) (ht : sg (sgn sb (val xb)) = 0) (hT : ProductsT w) (hna : na ≤ 1000000000) (hnb : nb ≤ 1000000000) :
    Calls Tryz.prog 51 #[.agg #[.bool sa, .slice Aa na ca], .agg #[.bool sb, .slice Ab nb cb]] w (TellsI w (sgn sa (val xa) * sgn sb (val xb)) (na + nb)) := by
  have hsg := sg_mul (sgn sa (val xa)) (sgn sb (val xb))
  rw [hs, ht] at hsg
  have hgl := World.block_lt_of_cell? w _ (hT 4 (by omega))
  have hgl2 : 2 < w.heap.size := hgl
  obtain ⟨Z, hZ, hZn, hZs⟩ : ∃ Z, sgn sa (val xa) * sgn sb (val xb) = Z ∧ Z.natAbs = val xa * val xb ∧ (Z ≠ 0 → (0 < (0 : Int) ↔ Z < 0)) := ⟨_, rfl, by rw [Int.natAbs_mul, sgn_natAbs, sgn_natAbs], fun _ => by have h := sg_sign (sgn sa (val xa) * sgn sb (val xb)); rw [hsg] at h; rw [← h]; decide⟩
  rw [hZ]
  have HZ := Lib.hid (And.intro hZn hZs)
  clear hZ hZn hZs hsg hgl
  have Hσ := Lib.hid hs
  have Hτ := Lib.hid ht
  have HT := Lib.hid hT
  clear hs ht hT
  go_enter Tryz.func51, Tryz.ntmps51
  go_wp2_with fail
  obtain ⟨ga, hga⟩ : ∃ g, g = w.heap.size := ⟨_, rfl⟩
  obtain ⟨gb, hgb⟩ : ∃ g, g = w.heap.size + 1 := ⟨_, rfl⟩
  obtain ⟨r0, hr0⟩ : ∃ g, g = w.heap.size + 2 := ⟨_, rfl⟩
  obtain ⟨w1, hw1⟩ : ∃ v, v = (((w.alloc (.cells #[.bool sa, .slice Aa na ca] 24)).alloc (.cells #[.bool sb, .slice Ab nb cb] 24)).alloc (.cells #[.bool false, .slice none 0 0] 24)) := ⟨_, rfl⟩
  have bel1 : Below w.heap.size w w1 := by rw [hw1]; exact bel_alloc3 _ _ _ _
  have b_a1 : Box w1 ga sa Aa na ca := by rw [hw1, hga]; exact (((Box.new _ _ _ _ _).alloc _).alloc _)
  have b_b1 : Box w1 gb sb Ab nb cb := by rw [hw1, hgb]; exact ((Box.at1 _ _ _ _ _ _).alloc _)
  have t_r01 : Two w1 r0 := by rw [hw1, hr0]; exact Box.two (Box.at2 _ _ _ _ _ _ _)
  rw [← hw1, ← hr0, ← hgb, ← hga]
  have hgs : w.heap.size ≤ ga ∧ w.heap.size ≤ gb ∧ w.heap.size ≤ r0 ∧ ga ≠ gb ∧ ga ≠ r0 ∧ gb ≠ ga ∧ gb ≠ r0 ∧ r0 ≠ ga ∧ r0 ≠ gb := by omega
  have HG := Lib.hid hgs
  clear hw1 hgs hga hgb hr0
  have l_a1 := La.bel bel1
  have l_b1 := Lb.bel bel1
  have c_a0_1 := b_a1.c0
  have c_a1_1 := b_a1.c1
  have c_b0_1 := b_b1.c0
  have c_b1_1 := b_b1.c1
  have f_r01 := t_r01.room.2
  have hcell := (HT.out.bel bel1) 4 (by omega)
  rw [show productsT.getD 4 0 = 0 from rfl] at hcell
  have ew0 : IntKind.i64.wrap (0 : Int) = 0 := rfl
  have ew1 : IntKind.i64.wrap (1 : Int) = 1 := rfl
  have ew2 : IntKind.i64.wrap (2 : Int) = 2 := rfl
  have es : IntKind.i64.wrap ((0 : Int) + 1) = 1 := rfl
  have et : IntKind.i64.wrap ((0 : Int) + 1) = 1 := rfl
  have hgr : 2 ≠ r0 := by have := HG.out.2.2.1; omega
  clear hgl2
  go_region_held3 (fun w' => w'.cell? ⟨2, 4, none⟩ = some (.int .i64 0) ∧ (Box w' ga sa Aa na ca ∧ w'.cell? ⟨ga, 0, none⟩ = some (.bool sa) ∧ w'.cell? ⟨ga, 1, none⟩ = some (.slice Aa na ca)) ∧ (Box w' gb sb Ab nb cb ∧ w'.cell? ⟨gb, 0, none⟩ = some (.bool sb) ∧ w'.cell? ⟨gb, 1, none⟩ = some (.slice Ab nb cb)) ∧ (Two w' r0 ∧ w'.cell? ⟨r0, 0, none⟩ = some (lies w' r0 0) ∧ w'.cell? ⟨r0, 1, none⟩ = some (lies w' r0 1) ∧ w'.frozen? ⟨r0, 0, none⟩ = false ∧ w'.frozen? ⟨r0, 1, none⟩ = false))
    (first
      | exact ⟨hcell, held0 (w := w1.drew) b_a1, held0 (w := w1.drew) b_b1, Two.room (w := w1.drew) t_r01⟩
      | exact keepc (by assumption) (by assumption) (fun h => keep21 (by assumption) h)
      | exact keepcs hgr (by assumption) rfl (fun h => keep21s0 HG.out.2.2.2.2.1 HG.out.2.2.2.2.2.2.1 h rfl))
    (first
      | (go_at_call 71; go_at_call_of 71 (Value.slice Aa na ca); refine (wsign_at _ sa Aa na ca xa ?_ Hσ.out).mono ?_; exact l_a1.drew; rintro e w2 ⟨rfl, hb2⟩)
      | (go_at_call 71; go_at_call_of 71 (Value.slice Ab nb cb); refine (wsign_at _ sb Ab nb cb xb ?_ Hτ.out).mono ?_; exact l_b1.drew.bel hb2; rintro e w3 ⟨rfl, hb3⟩)
      | (go_at_call 75; refine (mul_any _ Aa na ca xa Ab nb cb xb ?_ ?_ ?_ ?_).mono ?_; exact (l_a1.drew.bel hb2).bel hb3; exact (l_b1.drew.bel hb2).bel hb3; omega; omega; rintro e w4 ⟨A4, m4, c4, rfl, h4, hm4, hb4⟩)
      | (go_at_call 74; refine (signed_z _ Z _ _ _ _ _ ?_ hm4 ?_).mono ?_; (rw [HZ.out.1]; exact h4); exact HZ.out.2; rintro e w5 ⟨A5, m5, c5, rfl, h5, hm5, hb5⟩))
  have hbx := bel_next (bel_next (bel_next (bel_undrew hb2) hb3) hb4) hb5
  have b_a2 := b_a1.bel hbx
  have b_b2 := b_b1.bel hbx
  have t_r02 := t_r01.bel hbx
  have l_a2 := l_a1.bel hbx
  have l_b2 := l_b1.bel hbx
  have bel2 := bel1.trans (hbx.mono bel1.size)
  have c_a0_2 := b_a2.c0
  have c_a1_2 := b_a2.c1
  have c_b0_2 := b_b2.c0
  have c_b1_2 := b_b2.c1
  have f_r02 := t_r02.room.2
  clear hbx b_a1 c_a0_1 c_a1_1 b_b1 c_b0_1 c_b1_1 t_r01 f_r01 l_a1 l_b1 bel1
  clear hb2 hb3 hb4 hb5
  go_wp2
  have hx := t_r02.put (decide (Z < 0)) A5 m5 c5
  have hl := h5.put t_r02 (.bool (decide (Z < 0))) (.slice A5 m5 c5)
  have hbl := bel_put bel2 (g := r0) HG.out.2.2.1 (.bool (decide (Z < 0))) (.slice A5 m5 c5)
  generalize (w5.setCell ⟨r0, 0, none⟩ (.bool (decide (Z < 0)))).setCell ⟨r0, 1, none⟩ (.slice A5 m5 c5) = wz at *
  refine bodyPost_ret (v := .agg #[.bool (decide (Z < 0)), .slice A5 m5 c5]) (by simp [results, Tryz.results51, go_sem, hx.c0, hx.c1]) rfl ?_
  exact ⟨_, _, _, rfl, hl, hm5, hbl⟩
set_option maxHeartbeats 2000000 in
theorem wmul_zp (w : World) (sa : Bool) (Aa : Option Addr) (na ca : Nat) (xa : List Nat) (La : Lm w Aa na ca xa) (sb : Bool) (Ab : Option Addr) (nb cb : Nat) (xb : List Nat) (Lb : Lm w Ab nb cb xb) (hs : sg (sgn sa (val xa)) = 0) (ht : sg (sgn sb (val xb)) = 1) (hT : ProductsT w) (hna : na ≤ 1000000000) (hnb : nb ≤ 1000000000) :
    Calls Tryz.prog 51 #[.agg #[.bool sa, .slice Aa na ca], .agg #[.bool sb, .slice Ab nb cb]] w (TellsI w (sgn sa (val xa) * sgn sb (val xb)) (na + nb)) := by
  have hsg := sg_mul (sgn sa (val xa)) (sgn sb (val xb))
  rw [hs, ht] at hsg
  have hgl := World.block_lt_of_cell? w _ (hT 5 (by omega))
  have hgl2 : 2 < w.heap.size := hgl
  obtain ⟨Z, hZ, hZn, hZs⟩ : ∃ Z, sgn sa (val xa) * sgn sb (val xb) = Z ∧ Z.natAbs = val xa * val xb ∧ (Z ≠ 0 → (0 < (0 : Int) ↔ Z < 0)) := ⟨_, rfl, by rw [Int.natAbs_mul, sgn_natAbs, sgn_natAbs], fun _ => by have h := sg_sign (sgn sa (val xa) * sgn sb (val xb)); rw [hsg] at h; rw [← h]; decide⟩
  rw [hZ]
  have HZ := Lib.hid (And.intro hZn hZs)
  clear hZ hZn hZs hsg hgl
  have Hσ := Lib.hid hs
  have Hτ := Lib.hid ht
  have HT := Lib.hid hT
  clear hs ht hT
  go_enter Tryz.func51, Tryz.ntmps51
  go_wp2_with fail
  obtain ⟨ga, hga⟩ : ∃ g, g = w.heap.size := ⟨_, rfl⟩
  obtain ⟨gb, hgb⟩ : ∃ g, g = w.heap.size + 1 := ⟨_, rfl⟩
  obtain ⟨r0, hr0⟩ : ∃ g, g = w.heap.size + 2 := ⟨_, rfl⟩
  obtain ⟨w1, hw1⟩ : ∃ v, v = (((w.alloc (.cells #[.bool sa, .slice Aa na ca] 24)).alloc (.cells #[.bool sb, .slice Ab nb cb] 24)).alloc (.cells #[.bool false, .slice none 0 0] 24)) := ⟨_, rfl⟩
  have bel1 : Below w.heap.size w w1 := by rw [hw1]; exact bel_alloc3 _ _ _ _
  have b_a1 : Box w1 ga sa Aa na ca := by rw [hw1, hga]; exact (((Box.new _ _ _ _ _).alloc _).alloc _)
  have b_b1 : Box w1 gb sb Ab nb cb := by rw [hw1, hgb]; exact ((Box.at1 _ _ _ _ _ _).alloc _)
  have t_r01 : Two w1 r0 := by rw [hw1, hr0]; exact Box.two (Box.at2 _ _ _ _ _ _ _)
  rw [← hw1, ← hr0, ← hgb, ← hga]
  have hgs : w.heap.size ≤ ga ∧ w.heap.size ≤ gb ∧ w.heap.size ≤ r0 ∧ ga ≠ gb ∧ ga ≠ r0 ∧ gb ≠ ga ∧ gb ≠ r0 ∧ r0 ≠ ga ∧ r0 ≠ gb := by omega
  have HG := Lib.hid hgs
  clear hw1 hgs hga hgb hr0
  have l_a1 := La.bel bel1
  have l_b1 := Lb.bel bel1
  have c_a0_1 := b_a1.c0
  have c_a1_1 := b_a1.c1
  have c_b0_1 := b_b1.c0
  have c_b1_1 := b_b1.c1
  have f_r01 := t_r01.room.2
  have hcell := (HT.out.bel bel1) 5 (by omega)
  rw [show productsT.getD 5 0 = 0 from rfl] at hcell
  have ew0 : IntKind.i64.wrap (0 : Int) = 0 := rfl
  have ew1 : IntKind.i64.wrap (1 : Int) = 1 := rfl
  have ew2 : IntKind.i64.wrap (2 : Int) = 2 := rfl
  have es : IntKind.i64.wrap ((0 : Int) + 1) = 1 := rfl
  have et : IntKind.i64.wrap ((1 : Int) + 1) = 2 := rfl
  have hgr : 2 ≠ r0 := by have := HG.out.2.2.1; omega
  clear hgl2
  go_region_held3 (fun w' => w'.cell? ⟨2, 5, none⟩ = some (.int .i64 0) ∧ (Box w' ga sa Aa na ca ∧ w'.cell? ⟨ga, 0, none⟩ = some (.bool sa) ∧ w'.cell? ⟨ga, 1, none⟩ = some (.slice Aa na ca)) ∧ (Box w' gb sb Ab nb cb ∧ w'.cell? ⟨gb, 0, none⟩ = some (.bool sb) ∧ w'.cell? ⟨gb, 1, none⟩ = some (.slice Ab nb cb)) ∧ (Two w' r0 ∧ w'.cell? ⟨r0, 0, none⟩ = some (lies w' r0 0) ∧ w'.cell? ⟨r0, 1, none⟩ = some (lies w' r0 1) ∧ w'.frozen? ⟨r0, 0, none⟩ = false ∧ w'.frozen? ⟨r0, 1, none⟩ = false))
    (first
      | exact ⟨hcell, held0 (w := w1.drew) b_a1, held0 (w := w1.drew) b_b1, Two.room (w := w1.drew) t_r01⟩
      | exact keepc (by assumption) (by assumption) (fun h => keep21 (by assumption) h)
      | exact keepcs hgr (by assumption) rfl (fun h => keep21s0 HG.out.2.2.2.2.1 HG.out.2.2.2.2.2.2.1 h rfl))
    (first
      | (go_at_call 71; go_at_call_of 71 (Value.slice Aa na ca); refine (wsign_at _ sa Aa na ca xa ?_ Hσ.out).mono ?_; exact l_a1.drew; rintro e w2 ⟨rfl, hb2⟩)
      | (go_at_call 71; go_at_call_of 71 (Value.slice Ab nb cb); refine (wsign_at _ sb Ab nb cb xb ?_ Hτ.out).mono ?_; exact l_b1.drew.bel hb2; rintro e w3 ⟨rfl, hb3⟩)
      | (go_at_call 75; refine (mul_any _ Aa na ca xa Ab nb cb xb ?_ ?_ ?_ ?_).mono ?_; exact (l_a1.drew.bel hb2).bel hb3; exact (l_b1.drew.bel hb2).bel hb3; omega; omega; rintro e w4 ⟨A4, m4, c4, rfl, h4, hm4, hb4⟩)
      | (go_at_call 74; refine (signed_z _ Z _ _ _ _ _ ?_ hm4 ?_).mono ?_; (rw [HZ.out.1]; exact h4); exact HZ.out.2; rintro e w5 ⟨A5, m5, c5, rfl, h5, hm5, hb5⟩))
  have hbx := bel_next (bel_next (bel_next (bel_undrew hb2) hb3) hb4) hb5
  have b_a2 := b_a1.bel hbx
  have b_b2 := b_b1.bel hbx
  have t_r02 := t_r01.bel hbx
  have l_a2 := l_a1.bel hbx
  have l_b2 := l_b1.bel hbx
  have bel2 := bel1.trans (hbx.mono bel1.size)
  have c_a0_2 := b_a2.c0
  have c_a1_2 := b_a2.c1
  have c_b0_2 := b_b2.c0
  have c_b1_2 := b_b2.c1
  have f_r02 := t_r02.room.2
  clear hbx b_a1 c_a0_1 c_a1_1 b_b1 c_b0_1 c_b1_1 t_r01 f_r01 l_a1 l_b1 bel1
  clear hb2 hb3 hb4 hb5
  go_wp2
  have hx := t_r02.put (decide (Z < 0)) A5 m5 c5
  have hl := h5.put t_r02 (.bool (decide (Z < 0))) (.slice A5 m5 c5)
  have hbl := bel_put bel2 (g := r0) HG.out.2.2.1 (.bool (decide (Z < 0))) (.slice A5 m5 c5)
  generalize (w5.setCell ⟨r0, 0, none⟩ (.bool (decide (Z < 0)))).setCell ⟨r0, 1, none⟩ (.slice A5 m5 c5) = wz at *
  refine bodyPost_ret (v := .agg #[.bool (decide (Z < 0)), .slice A5 m5 c5]) (by simp [results, Tryz.results51, go_sem, hx.c0, hx.c1]) rfl ?_
  exact ⟨_, _, _, rfl, hl, hm5, hbl⟩
set_option maxHeartbeats 2000000 in
theorem wmul_pm (w : World) (sa : Bool) (Aa : Option Addr) (na ca : Nat) (xa : List Nat) (La : Lm w Aa na ca xa) (sb : Bool) (Ab : Option Addr) (nb cb : Nat) (xb : List Nat) (Lb : Lm w Ab nb cb xb) (hs : sg (sgn sa (val xa)) = 1) (ht : sg (sgn sb (val xb)) = (-1)) (hT : ProductsT w) (hna : na ≤ 1000000000) (hnb : nb ≤ 1000000000) :
    Calls Tryz.prog 51 #[.agg #[.bool sa, .slice Aa na ca], .agg #[.bool sb, .slice Ab nb cb]] w (TellsI w (sgn sa (val xa) * sgn sb (val xb)) (na + nb)) := by
  have hsg := sg_mul (sgn sa (val xa)) (sgn sb (val xb))
  rw [hs, ht] at hsg
  have hgl := World.block_lt_of_cell? w _ (hT 6 (by omega))
  have hgl2 : 2 < w.heap.size := hgl
  obtain ⟨Z, hZ, hZn, hZs⟩ : ∃ Z, sgn sa (val xa) * sgn sb (val xb) = Z ∧ Z.natAbs = val xa * val xb ∧ (Z ≠ 0 → ((-1) < (0 : Int) ↔ Z < 0)) := ⟨_, rfl, by rw [Int.natAbs_mul, sgn_natAbs, sgn_natAbs], fun _ => by have h := sg_sign (sgn sa (val xa) * sgn sb (val xb)); rw [hsg] at h; rw [← h]; decide⟩
  rw [hZ]
  have HZ := Lib.hid (And.intro hZn hZs)
  clear hZ hZn hZs hsg hgl
  have Hσ := Lib.hid hs
  have Hτ := Lib.hid ht
  have HT := Lib.hid hT
  clear hs ht hT
  go_enter Tryz.func51, Tryz.ntmps51
  go_wp2_with fail
  obtain ⟨ga, hga⟩ : ∃ g, g = w.heap.size := ⟨_, rfl⟩
  obtain ⟨gb, hgb⟩ : ∃ g, g = w.heap.size + 1 := ⟨_, rfl⟩
  obtain ⟨r0, hr0⟩ : ∃ g, g = w.heap.size + 2 := ⟨_, rfl⟩
  obtain ⟨w1, hw1⟩ : ∃ v, v = (((w.alloc (.cells #[.bool sa, .slice Aa na ca] 24)).alloc (.cells #[.bool sb, .slice Ab nb cb] 24)).alloc (.cells #[.bool false, .slice none 0 0] 24)) := ⟨_, rfl⟩
  have bel1 : Below w.heap.size w w1 := by rw [hw1]; exact bel_alloc3 _ _ _ _
  have b_a1 : Box w1 ga sa Aa na ca := by rw [hw1, hga]; exact (((Box.new _ _ _ _ _).alloc _).alloc _)
  have b_b1 : Box w1 gb sb Ab nb cb := by rw [hw1, hgb]; exact ((Box.at1 _ _ _ _ _ _).alloc _)
  have t_r01 : Two w1 r0 := by rw [hw1, hr0]; exact Box.two (Box.at2 _ _ _ _ _ _ _)
  rw [← hw1, ← hr0, ← hgb, ← hga]
  have hgs : w.heap.size ≤ ga ∧ w.heap.size ≤ gb ∧ w.heap.size ≤ r0 ∧ ga ≠ gb ∧ ga ≠ r0 ∧ gb ≠ ga ∧ gb ≠ r0 ∧ r0 ≠ ga ∧ r0 ≠ gb := by omega
  have HG := Lib.hid hgs
  clear hw1 hgs hga hgb hr0
  have l_a1 := La.bel bel1
  have l_b1 := Lb.bel bel1
  have c_a0_1 := b_a1.c0
  have c_a1_1 := b_a1.c1
  have c_b0_1 := b_b1.c0
  have c_b1_1 := b_b1.c1
  have f_r01 := t_r01.room.2
  have hcell := (HT.out.bel bel1) 6 (by omega)
  rw [show productsT.getD 6 0 = (-1) from rfl] at hcell
  have ew0 : IntKind.i64.wrap (0 : Int) = 0 := rfl
  have ew1 : IntKind.i64.wrap (1 : Int) = 1 := rfl
  have ew2 : IntKind.i64.wrap (2 : Int) = 2 := rfl
  have es : IntKind.i64.wrap ((1 : Int) + 1) = 2 := rfl
  have et : IntKind.i64.wrap (((-1) : Int) + 1) = 0 := rfl
  have hgr : 2 ≠ r0 := by have := HG.out.2.2.1; omega
  clear hgl2
  go_region_held3 (fun w' => w'.cell? ⟨2, 6, none⟩ = some (.int .i64 (-1)) ∧ (Box w' ga sa Aa na ca ∧ w'.cell? ⟨ga, 0, none⟩ = some (.bool sa) ∧ w'.cell? ⟨ga, 1, none⟩ = some (.slice Aa na ca)) ∧ (Box w' gb sb Ab nb cb ∧ w'.cell? ⟨gb, 0, none⟩ = some (.bool sb) ∧ w'.cell? ⟨gb, 1, none⟩ = some (.slice Ab nb cb)) ∧ (Two w' r0 ∧ w'.cell? ⟨r0, 0, none⟩ = some (lies w' r0 0) ∧ w'.cell? ⟨r0, 1, none⟩ = some (lies w' r0 1) ∧ w'.frozen? ⟨r0, 0, none⟩ = false ∧ w'.frozen? ⟨r0, 1, none⟩ = false))
    (first
      | exact ⟨hcell, held0 (w := w1.drew) b_a1, held0 (w := w1.drew) b_b1, Two.room (w := w1.drew) t_r01⟩
      | exact keepc (by assumption) (by assumption) (fun h => keep21 (by assumption) h)
      | exact keepcs hgr (by assumption) rfl (fun h => keep21s0 HG.out.2.2.2.2.1 HG.out.2.2.2.2.2.2.1 h rfl))
    (first
      | (go_at_call 71; go_at_call_of 71 (Value.slice Aa na ca); refine (wsign_at _ sa Aa na ca xa ?_ Hσ.out).mono ?_; exact l_a1.drew; rintro e w2 ⟨rfl, hb2⟩)
      | (go_at_call 71; go_at_call_of 71 (Value.slice Ab nb cb); refine (wsign_at _ sb Ab nb cb xb ?_ Hτ.out).mono ?_; exact l_b1.drew.bel hb2; rintro e w3 ⟨rfl, hb3⟩)
      | (go_at_call 75; refine (mul_any _ Aa na ca xa Ab nb cb xb ?_ ?_ ?_ ?_).mono ?_; exact (l_a1.drew.bel hb2).bel hb3; exact (l_b1.drew.bel hb2).bel hb3; omega; omega; rintro e w4 ⟨A4, m4, c4, rfl, h4, hm4, hb4⟩)
      | (go_at_call 74; refine (signed_z _ Z _ _ _ _ _ ?_ hm4 ?_).mono ?_; (rw [HZ.out.1]; exact h4); exact HZ.out.2; rintro e w5 ⟨A5, m5, c5, rfl, h5, hm5, hb5⟩))
  have hbx := bel_next (bel_next (bel_next (bel_undrew hb2) hb3) hb4) hb5
  have b_a2 := b_a1.bel hbx
  have b_b2 := b_b1.bel hbx
  have t_r02 := t_r01.bel hbx
  have l_a2 := l_a1.bel hbx
  have l_b2 := l_b1.bel hbx
  have bel2 := bel1.trans (hbx.mono bel1.size)
  have c_a0_2 := b_a2.c0
  have c_a1_2 := b_a2.c1
  have c_b0_2 := b_b2.c0
  have c_b1_2 := b_b2.c1
  have f_r02 := t_r02.room.2
  clear hbx b_a1 c_a0_1 c_a1_1 b_b1 c_b0_1 c_b1_1 t_r01 f_r01 l_a1 l_b1 bel1
  clear hb2 hb3 hb4 hb5
  go_wp2
  have hx := t_r02.put (decide (Z < 0)) A5 m5 c5
  have hl := h5.put t_r02 (.bool (decide (Z < 0))) (.slice A5 m5 c5)
  have hbl := bel_put bel2 (g := r0) HG.out.2.2.1 (.bool (decide (Z < 0))) (.slice A5 m5 c5)
  generalize (w5.setCell ⟨r0, 0, none⟩ (.bool (decide (Z < 0)))).setCell ⟨r0, 1, none⟩ (.slice A5 m5 c5) = wz at *
  refine bodyPost_ret (v := .agg #[.bool (decide (Z < 0)), .slice A5 m5 c5]) (by simp [results, Tryz.results51, go_sem, hx.c0, hx.c1]) rfl ?_
  exact ⟨_, _, _, rfl, hl, hm5, hbl⟩
set_option maxHeartbeats 2000000 in
theorem wmul_pz (w : World) (sa : Bool) (Aa : Option Addr) (na ca : Nat) (xa : List Nat) (La : Lm w Aa na ca xa) (sb : Bool) (Ab : Option Addr) (nb cb : Nat) (xb : List Nat) (Lb : Lm w Ab nb cb xb) (hs : sg (sgn sa (val xa)) = 1) (ht : sg (sgn sb (val xb)) = 0) (hT : ProductsT w) (hna : na ≤ 1000000000) (hnb : nb ≤ 1000000000) :
    Calls Tryz.prog 51 #[.agg #[.bool sa, .slice Aa na ca], .agg #[.bool sb, .slice Ab nb cb]] w (TellsI w (sgn sa (val xa) * sgn sb (val xb)) (na + nb)) := by
  have hsg := sg_mul (sgn sa (val xa)) (sgn sb (val xb))
  rw [hs, ht] at hsg
  have hgl := World.block_lt_of_cell? w _ (hT 7 (by omega))
  have hgl2 : 2 < w.heap.size := hgl
  obtain ⟨Z, hZ, hZn, hZs⟩ : ∃ Z, sgn sa (val xa) * sgn sb (val xb) = Z ∧ Z.natAbs = val xa * val xb ∧ (Z ≠ 0 → (0 < (0 : Int) ↔ Z < 0)) := ⟨_, rfl, by rw [Int.natAbs_mul, sgn_natAbs, sgn_natAbs], fun _ => by have h := sg_sign (sgn sa (val xa) * sgn sb (val xb)); rw [hsg] at h; rw [← h]; decide⟩
  rw [hZ]
  have HZ := Lib.hid (And.intro hZn hZs)
  clear hZ hZn hZs hsg hgl
  have Hσ := Lib.hid hs
  have Hτ := Lib.hid ht
  have HT := Lib.hid hT
  clear hs ht hT
  go_enter Tryz.func51, Tryz.ntmps51
  go_wp2_with fail
  obtain ⟨ga, hga⟩ : ∃ g, g = w.heap.size := ⟨_, rfl⟩
  obtain ⟨gb, hgb⟩ : ∃ g, g = w.heap.size + 1 := ⟨_, rfl⟩
  obtain ⟨r0, hr0⟩ : ∃ g, g = w.heap.size + 2 := ⟨_, rfl⟩
  obtain ⟨w1, hw1⟩ : ∃ v, v = (((w.alloc (.cells #[.bool sa, .slice Aa na ca] 24)).alloc (.cells #[.bool sb, .slice Ab nb cb] 24)).alloc (.cells #[.bool false, .slice none 0 0] 24)) := ⟨_, rfl⟩
  have bel1 : Below w.heap.size w w1 := by rw [hw1]; exact bel_alloc3 _ _ _ _
  have b_a1 : Box w1 ga sa Aa na ca := by rw [hw1, hga]; exact (((Box.new _ _ _ _ _).alloc _).alloc _)
  have b_b1 : Box w1 gb sb Ab nb cb := by rw [hw1, hgb]; exact ((Box.at1 _ _ _ _ _ _).alloc _)
  have t_r01 : Two w1 r0 := by rw [hw1, hr0]; exact Box.two (Box.at2 _ _ _ _ _ _ _)
  rw [← hw1, ← hr0, ← hgb, ← hga]
  have hgs : w.heap.size ≤ ga ∧ w.heap.size ≤ gb ∧ w.heap.size ≤ r0 ∧ ga ≠ gb ∧ ga ≠ r0 ∧ gb ≠ ga ∧ gb ≠ r0 ∧ r0 ≠ ga ∧ r0 ≠ gb := by omega
  have HG := Lib.hid hgs
  clear hw1 hgs hga hgb hr0
  have l_a1 := La.bel bel1
  have l_b1 := Lb.bel bel1
  have c_a0_1 := b_a1.c0
  have c_a1_1 := b_a1.c1
  have c_b0_1 := b_b1.c0
  have c_b1_1 := b_b1.c1
  have f_r01 := t_r01.room.2
  have hcell := (HT.out.bel bel1) 7 (by omega)
  rw [show productsT.getD 7 0 = 0 from rfl] at hcell
  have ew0 : IntKind.i64.wrap (0 : Int) = 0 := rfl
  have ew1 : IntKind.i64.wrap (1 : Int) = 1 := rfl
  have ew2 : IntKind.i64.wrap (2 : Int) = 2 := rfl
  have es : IntKind.i64.wrap ((1 : Int) + 1) = 2 := rfl
  have et : IntKind.i64.wrap ((0 : Int) + 1) = 1 := rfl
  have hgr : 2 ≠ r0 := by have := HG.out.2.2.1; omega
  clear hgl2
  go_region_held3 (fun w' => w'.cell? ⟨2, 7, none⟩ = some (.int .i64 0) ∧ (Box w' ga sa Aa na ca ∧ w'.cell? ⟨ga, 0, none⟩ = some (.bool sa) ∧ w'.cell? ⟨ga, 1, none⟩ = some (.slice Aa na ca)) ∧ (Box w' gb sb Ab nb cb ∧ w'.cell? ⟨gb, 0, none⟩ = some (.bool sb) ∧ w'.cell? ⟨gb, 1, none⟩ = some (.slice Ab nb cb)) ∧ (Two w' r0 ∧ w'.cell? ⟨r0, 0, none⟩ = some (lies w' r0 0) ∧ w'.cell? ⟨r0, 1, none⟩ = some (lies w' r0 1) ∧ w'.frozen? ⟨r0, 0, none⟩ = false ∧ w'.frozen? ⟨r0, 1, none⟩ = false))
    (first
      | exact ⟨hcell, held0 (w := w1.drew) b_a1, held0 (w := w1.drew) b_b1, Two.room (w := w1.drew) t_r01⟩
      | exact keepc (by assumption) (by assumption) (fun h => keep21 (by assumption) h)
      | exact keepcs hgr (by assumption) rfl (fun h => keep21s0 HG.out.2.2.2.2.1 HG.out.2.2.2.2.2.2.1 h rfl))
    (first
      | (go_at_call 71; go_at_call_of 71 (Value.slice Aa na ca); refine (wsign_at _ sa Aa na ca xa ?_ Hσ.out).mono ?_; exact l_a1.drew; rintro e w2 ⟨rfl, hb2⟩)
      | (go_at_call 71; go_at_call_of 71 (Value.slice Ab nb cb); refine (wsign_at _ sb Ab nb cb xb ?_ Hτ.out).mono ?_; exact l_b1.drew.bel hb2; rintro e w3 ⟨rfl, hb3⟩)
      | (go_at_call 75; refine (mul_any _ Aa na ca xa Ab nb cb xb ?_ ?_ ?_ ?_).mono ?_; exact (l_a1.drew.bel hb2).bel hb3; exact (l_b1.drew.bel hb2).bel hb3; omega; omega; rintro e w4 ⟨A4, m4, c4, rfl, h4, hm4, hb4⟩)
      | (go_at_call 74; refine (signed_z _ Z _ _ _ _ _ ?_ hm4 ?_).mono ?_; (rw [HZ.out.1]; exact h4); exact HZ.out.2; rintro e w5 ⟨A5, m5, c5, rfl, h5, hm5, hb5⟩))
  have hbx := bel_next (bel_next (bel_next (bel_undrew hb2) hb3) hb4) hb5
  have b_a2 := b_a1.bel hbx
  have b_b2 := b_b1.bel hbx
  have t_r02 := t_r01.bel hbx
  have l_a2 := l_a1.bel hbx
  have l_b2 := l_b1.bel hbx
  have bel2 := bel1.trans (hbx.mono bel1.size)
  have c_a0_2 := b_a2.c0
  have c_a1_2 := b_a2.c1
  have c_b0_2 := b_b2.c0
  have c_b1_2 := b_b2.c1
  have f_r02 := t_r02.room.2
  clear hbx b_a1 c_a0_1 c_a1_1 b_b1 c_b0_1 c_b1_1 t_r01 f_r01 l_a1 l_b1 bel1
  clear hb2 hb3 hb4 hb5
  go_wp2
  have hx := t_r02.put (decide (Z < 0)) A5 m5 c5
  have hl := h5.put t_r02 (.bool (decide (Z < 0))) (.slice A5 m5 c5)
  have hbl := bel_put bel2 (g := r0) HG.out.2.2.1 (.bool (decide (Z < 0))) (.slice A5 m5 c5)
  generalize (w5.setCell ⟨r0, 0, none⟩ (.bool (decide (Z < 0)))).setCell ⟨r0, 1, none⟩ (.slice A5 m5 c5) = wz at *
  refine bodyPost_ret (v := .agg #[.bool (decide (Z < 0)), .slice A5 m5 c5]) (by simp [results, Tryz.results51, go_sem, hx.c0, hx.c1]) rfl ?_
  exact ⟨_, _, _, rfl, hl, hm5, hbl⟩
set_option maxHeartbeats 2000000 in
theorem wmul_pp (w : World) (sa : Bool) (Aa : Option Addr) (na ca : Nat) (xa : List Nat) (La : Lm w Aa na ca xa) (sb : Bool) (Ab : Option Addr) (nb cb : Nat) (xb : List Nat) (Lb : Lm w Ab nb cb xb) (hs : sg (sgn sa (val xa)) = 1) (ht : sg (sgn sb (val xb)) = 1) (hT : ProductsT w) (hna : na ≤ 1000000000) (hnb : nb ≤ 1000000000) :
    Calls Tryz.prog 51 #[.agg #[.bool sa, .slice Aa na ca], .agg #[.bool sb, .slice Ab nb cb]] w (TellsI w (sgn sa (val xa) * sgn sb (val xb)) (na + nb)) := by
  have hsg := sg_mul (sgn sa (val xa)) (sgn sb (val xb))
  rw [hs, ht] at hsg
  have hgl := World.block_lt_of_cell? w _ (hT 8 (by omega))
  have hgl2 : 2 < w.heap.size := hgl
  obtain ⟨Z, hZ, hZn, hZs⟩ : ∃ Z, sgn sa (val xa) * sgn sb (val xb) = Z ∧ Z.natAbs = val xa * val xb ∧ (Z ≠ 0 → (1 < (0 : Int) ↔ Z < 0)) := ⟨_, rfl, by rw [Int.natAbs_mul, sgn_natAbs, sgn_natAbs], fun _ => by have h := sg_sign (sgn sa (val xa) * sgn sb (val xb)); rw [hsg] at h; rw [← h]; decide⟩
  rw [hZ]
  have HZ := Lib.hid (And.intro hZn hZs)
  clear hZ hZn hZs hsg hgl
  have Hσ := Lib.hid hs
  have Hτ := Lib.hid ht
  have HT := Lib.hid hT
  clear hs ht hT
  go_enter Tryz.func51, Tryz.ntmps51
  go_wp2_with fail
  obtain ⟨ga, hga⟩ : ∃ g, g = w.heap.size := ⟨_, rfl⟩
  obtain ⟨gb, hgb⟩ : ∃ g, g = w.heap.size + 1 := ⟨_, rfl⟩
  obtain ⟨r0, hr0⟩ : ∃ g, g = w.heap.size + 2 := ⟨_, rfl⟩
  obtain ⟨w1, hw1⟩ : ∃ v, v = (((w.alloc (.cells #[.bool sa, .slice Aa na ca] 24)).alloc (.cells #[.bool sb, .slice Ab nb cb] 24)).alloc (.cells #[.bool false, .slice none 0 0] 24)) := ⟨_, rfl⟩
  have bel1 : Below w.heap.size w w1 := by rw [hw1]; exact bel_alloc3 _ _ _ _
  have b_a1 : Box w1 ga sa Aa na ca := by rw [hw1, hga]; exact (((Box.new _ _ _ _ _).alloc _).alloc _)
  have b_b1 : Box w1 gb sb Ab nb cb := by rw [hw1, hgb]; exact ((Box.at1 _ _ _ _ _ _).alloc _)
  have t_r01 : Two w1 r0 := by rw [hw1, hr0]; exact Box.two (Box.at2 _ _ _ _ _ _ _)
  rw [← hw1, ← hr0, ← hgb, ← hga]
  have hgs : w.heap.size ≤ ga ∧ w.heap.size ≤ gb ∧ w.heap.size ≤ r0 ∧ ga ≠ gb ∧ ga ≠ r0 ∧ gb ≠ ga ∧ gb ≠ r0 ∧ r0 ≠ ga ∧ r0 ≠ gb := by omega
  have HG := Lib.hid hgs
  clear hw1 hgs hga hgb hr0
  have l_a1 := La.bel bel1
  have l_b1 := Lb.bel bel1
  have c_a0_1 := b_a1.c0
  have c_a1_1 := b_a1.c1
  have c_b0_1 := b_b1.c0
  have c_b1_1 := b_b1.c1
  have f_r01 := t_r01.room.2
  have hcell := (HT.out.bel bel1) 8 (by omega)
  rw [show productsT.getD 8 0 = 1 from rfl] at hcell
  have ew0 : IntKind.i64.wrap (0 : Int) = 0 := rfl
  have ew1 : IntKind.i64.wrap (1 : Int) = 1 := rfl
  have ew2 : IntKind.i64.wrap (2 : Int) = 2 := rfl
  have es : IntKind.i64.wrap ((1 : Int) + 1) = 2 := rfl
  have et : IntKind.i64.wrap ((1 : Int) + 1) = 2 := rfl
  have hgr : 2 ≠ r0 := by have := HG.out.2.2.1; omega
  clear hgl2
  go_region_held3 (fun w' => w'.cell? ⟨2, 8, none⟩ = some (.int .i64 1) ∧ (Box w' ga sa Aa na ca ∧ w'.cell? ⟨ga, 0, none⟩ = some (.bool sa) ∧ w'.cell? ⟨ga, 1, none⟩ = some (.slice Aa na ca)) ∧ (Box w' gb sb Ab nb cb ∧ w'.cell? ⟨gb, 0, none⟩ = some (.bool sb) ∧ w'.cell? ⟨gb, 1, none⟩ = some (.slice Ab nb cb)) ∧ (Two w' r0 ∧ w'.cell? ⟨r0, 0, none⟩ = some (lies w' r0 0) ∧ w'.cell? ⟨r0, 1, none⟩ = some (lies w' r0 1) ∧ w'.frozen? ⟨r0, 0, none⟩ = false ∧ w'.frozen? ⟨r0, 1, none⟩ = false))
    (first
      | exact ⟨hcell, held0 (w := w1.drew) b_a1, held0 (w := w1.drew) b_b1, Two.room (w := w1.drew) t_r01⟩
      | exact keepc (by assumption) (by assumption) (fun h => keep21 (by assumption) h)
      | exact keepcs hgr (by assumption) rfl (fun h => keep21s0 HG.out.2.2.2.2.1 HG.out.2.2.2.2.2.2.1 h rfl))
    (first
      | (go_at_call 71; go_at_call_of 71 (Value.slice Aa na ca); refine (wsign_at _ sa Aa na ca xa ?_ Hσ.out).mono ?_; exact l_a1.drew; rintro e w2 ⟨rfl, hb2⟩)
      | (go_at_call 71; go_at_call_of 71 (Value.slice Ab nb cb); refine (wsign_at _ sb Ab nb cb xb ?_ Hτ.out).mono ?_; exact l_b1.drew.bel hb2; rintro e w3 ⟨rfl, hb3⟩)
      | (go_at_call 75; refine (mul_any _ Aa na ca xa Ab nb cb xb ?_ ?_ ?_ ?_).mono ?_; exact (l_a1.drew.bel hb2).bel hb3; exact (l_b1.drew.bel hb2).bel hb3; omega; omega; rintro e w4 ⟨A4, m4, c4, rfl, h4, hm4, hb4⟩)
      | (go_at_call 74; refine (signed_z _ Z _ _ _ _ _ ?_ hm4 ?_).mono ?_; (rw [HZ.out.1]; exact h4); exact HZ.out.2; rintro e w5 ⟨A5, m5, c5, rfl, h5, hm5, hb5⟩))
  have hbx := bel_next (bel_next (bel_next (bel_undrew hb2) hb3) hb4) hb5
  have b_a2 := b_a1.bel hbx
  have b_b2 := b_b1.bel hbx
  have t_r02 := t_r01.bel hbx
  have l_a2 := l_a1.bel hbx
  have l_b2 := l_b1.bel hbx
  have bel2 := bel1.trans (hbx.mono bel1.size)
  have c_a0_2 := b_a2.c0
  have c_a1_2 := b_a2.c1
  have c_b0_2 := b_b2.c0
  have c_b1_2 := b_b2.c1
  have f_r02 := t_r02.room.2
  clear hbx b_a1 c_a0_1 c_a1_1 b_b1 c_b0_1 c_b1_1 t_r01 f_r01 l_a1 l_b1 bel1
  clear hb2 hb3 hb4 hb5
  go_wp2
  have hx := t_r02.put (decide (Z < 0)) A5 m5 c5
  have hl := h5.put t_r02 (.bool (decide (Z < 0))) (.slice A5 m5 c5)
  have hbl := bel_put bel2 (g := r0) HG.out.2.2.1 (.bool (decide (Z < 0))) (.slice A5 m5 c5)
  generalize (w5.setCell ⟨r0, 0, none⟩ (.bool (decide (Z < 0)))).setCell ⟨r0, 1, none⟩ (.slice A5 m5 c5) = wz at *
  refine bodyPost_ret (v := .agg #[.bool (decide (Z < 0)), .slice A5 m5 c5]) (by simp [results, Tryz.results51, go_sem, hx.c0, hx.c1]) rfl ?_
  exact ⟨_, _, _, rfl, hl, hm5, hbl⟩
theorem wmul_any (w : World) (sa : Bool) (Aa : Option Addr) (na ca : Nat) (xa : List Nat) (La : Lm w Aa na ca xa) (sb : Bool) (Ab : Option Addr) (nb cb : Nat) (xb : List Nat) (Lb : Lm w Ab nb cb xb) (hT : ProductsT w) (hna : na ≤ 1000000000) (hnb : nb ≤ 1000000000) :
    Calls Tryz.prog 51 #[.agg #[.bool sa, .slice Aa na ca], .agg #[.bool sb, .slice Ab nb cb]] w (TellsI w (sgn sa (val xa) * sgn sb (val xb)) (na + nb)) := by
  rcases sg_cases (sgn sa (val xa)) with ⟨_, e⟩ | ⟨_, e⟩ | ⟨_, e⟩ <;> rcases sg_cases (sgn sb (val xb)) with ⟨_, e'⟩ | ⟨_, e'⟩ | ⟨_, e'⟩
  · exact wmul_mm w sa Aa na ca xa La sb Ab nb cb xb Lb e e' hT hna hnb
  · exact wmul_mz w sa Aa na ca xa La sb Ab nb cb xb Lb e e' hT hna hnb
  · exact wmul_mp w sa Aa na ca xa La sb Ab nb cb xb Lb e e' hT hna hnb
  · exact wmul_zm w sa Aa na ca xa La sb Ab nb cb xb Lb e e' hT hna hnb
  · exact wmul_zz w sa Aa na ca xa La sb Ab nb cb xb Lb e e' hT hna hnb
  · exact wmul_zp w sa Aa na ca xa La sb Ab nb cb xb Lb e e' hT hna hnb
  · exact wmul_pm w sa Aa na ca xa La sb Ab nb cb xb Lb e e' hT hna hnb
  · exact wmul_pz w sa Aa na ca xa La sb Ab nb cb xb Lb e e' hT hna hnb
  · exact wmul_pp w sa Aa na ca xa La sb Ab nb cb xb Lb e e' hT hna hnb
end Go.Proofs.YtgmencbhkkcpiaaGreatDoor
