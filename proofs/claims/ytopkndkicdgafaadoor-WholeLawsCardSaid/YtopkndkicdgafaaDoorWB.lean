/- Contracts of package whole: Norm, Neg. -/
import Derived.Test.YtopkndkicdgafaaDoorWR
import Derived.Deep.RegionHeld3
namespace Go.Proofs.YtopkndkicdgafaaDoor
open Go.RowKit

set_option maxHeartbeats 1000000 in
theorem wnorm_any (w : World) (sa : Bool) (Aa : Option Addr) (na ca : Nat) (xa : List Nat) (La : Lm w Aa na ca xa) :
    Calls Tryd.prog 51 #[.agg #[.bool sa, .slice Aa na ca]] w (TellsI w (sgn sa (val xa)) na) := by
  obtain ⟨σ, hσ, hσr⟩ : ∃ σ, sg (sgn sa (val xa)) = σ ∧ (-1 ≤ σ ∧ σ ≤ 1) := ⟨_, rfl, sg_range _⟩
  have Hσ := Lib.hid hσ
  clear hσ
  
  obtain ⟨Z, hZ, hZn⟩ : ∃ Z, sgn sa (val xa) = Z ∧ Z.natAbs = val xa := ⟨_, rfl, by rw [sgn_natAbs]⟩
  rw [hZ]
  have HZ := Lib.hid (And.intro hZ hZn)
  clear hZ hZn
  go_enter Tryd.func51, Tryd.ntmps51
  go_wp2_with fail
  obtain ⟨ga, hga⟩ : ∃ g, g = w.heap.size := ⟨_, rfl⟩
  obtain ⟨r0, hr0⟩ : ∃ g, g = w.heap.size + 1 := ⟨_, rfl⟩
  obtain ⟨w1, hw1⟩ : ∃ v, v = ((w.alloc (.cells #[.bool sa, .slice Aa na ca] 43)).alloc (.cells #[.bool false, .slice none 0 0] 43)) := ⟨_, rfl⟩
  have bel1 : Below w.heap.size w w1 := by rw [hw1]; exact bel_alloc2 _ _ _
  have b_a1 : Box w1 ga sa Aa na ca := by rw [hw1, hga]; exact ((Box.new _ _ _ _ _).alloc _)
  have t_r01 : Two w1 r0 := by rw [hw1, hr0]; exact Box.two (Box.at1 _ _ _ _ _ _)
  rw [← hw1, ← hr0, ← hga]
  have hgs : w.heap.size ≤ ga ∧ w.heap.size ≤ r0 ∧ ga ≠ r0 ∧ r0 ≠ ga := by omega
  have HG := Lib.hid hgs
  clear hw1 hgs hga hr0
  have l_a1 := La.bel bel1
  have c_a0_1 := b_a1.c0
  have c_a1_1 := b_a1.c1
  have f_r01 := t_r01.room.2
  go_region_held3 (fun w' => (Box w' ga sa Aa na ca ∧ w'.cell? ⟨ga, 0, none⟩ = some (.bool sa) ∧ w'.cell? ⟨ga, 1, none⟩ = some (.slice Aa na ca)) ∧ (Two w' r0 ∧ w'.cell? ⟨r0, 0, none⟩ = some (lies w' r0 0) ∧ w'.cell? ⟨r0, 1, none⟩ = some (lies w' r0 1) ∧ w'.frozen? ⟨r0, 0, none⟩ = false ∧ w'.frozen? ⟨r0, 1, none⟩ = false))
    (first
      | exact ⟨held0 (w := w1.drew) b_a1, Two.room (w := w1.drew) t_r01⟩
      | exact keep11 (by assumption) (by assumption)
      | exact keep11s0 HG.out.2.2.1 (by assumption) rfl)
    (first
      | (go_at_call 53; refine (wsign_at _ sa Aa na ca xa ?_ Hσ.out).mono ?_; exact l_a1.drew; rintro e w2 ⟨rfl, hb2⟩)
      | (go_at_call 26; refine (trim_any _ Aa na ca xa ?_).mono ?_; exact l_a1.drew.bel hb2; rintro e w3 ⟨A3, m3, c3, rfl, h3, hm3, hb3⟩)
      | (go_at_call 90; refine (signed_z _ Z _ _ _ _ _ ?_ hm3 ?_).mono ?_; (rw [HZ.out.2]; exact h3); exact (fun h0 => (by rw [← Hσ.out, ← HZ.out.1]; exact sg_sign _)); rintro e w4 ⟨A4, m4, c4, rfl, h4, hm4, hb4⟩))
  have h4' := h4
  have hbx := bel_next (bel_next (bel_undrew hb2) hb3) hb4
  have b_a2 := b_a1.bel hbx
  have t_r02 := t_r01.bel hbx
  have l_a2 := l_a1.bel hbx
  have bel2 := bel1.trans (hbx.mono bel1.size)
  have c_a0_2 := b_a2.c0
  have c_a1_2 := b_a2.c1
  have f_r02 := t_r02.room.2
  clear hbx b_a1 c_a0_1 c_a1_1 t_r01 f_r01 l_a1 bel1
  clear hb2 hb3 hb4
  go_wp2
  have hx := t_r02.put (decide (Z < 0)) A4 m4 c4
  have hl := h4'.put t_r02 (.bool (decide (Z < 0))) (.slice A4 m4 c4)
  have hbl := bel_put bel2 (g := r0) HG.out.2.1 (.bool (decide (Z < 0))) (.slice A4 m4 c4)
  generalize (w4.setCell ⟨r0, 0, none⟩ (.bool (decide (Z < 0)))).setCell ⟨r0, 1, none⟩ (.slice A4 m4 c4) = wz at *
  refine bodyPost_ret (v := .agg #[.bool (decide (Z < 0)), .slice A4 m4 c4]) (by simp [results, Tryd.results51, go_sem, hx.c0, hx.c1]) rfl ?_
  exact ⟨_, _, _, rfl, hl, hm4, hbl⟩
set_option maxHeartbeats 1000000 in
theorem wneg_any (w : World) (sa : Bool) (Aa : Option Addr) (na ca : Nat) (xa : List Nat) (La : Lm w Aa na ca xa) :
    Calls Tryd.prog 63 #[.agg #[.bool sa, .slice Aa na ca]] w (TellsI w (-(sgn sa (val xa))) na) := by
  obtain ⟨σ, hσ, hσr⟩ : ∃ σ, sg (sgn sa (val xa)) = σ ∧ (-1 ≤ σ ∧ σ ≤ 1) := ⟨_, rfl, sg_range _⟩
  have Hσ := Lib.hid hσ
  clear hσ
  have eν : IntKind.i64.wrap (-σ) = -σ := wrap_pm (by omega)
  obtain ⟨Z, hZ, hZn⟩ : ∃ Z, -(sgn sa (val xa)) = Z ∧ Z.natAbs = val xa := ⟨_, rfl, by rw [Int.natAbs_neg, sgn_natAbs]⟩
  rw [hZ]
  have HZ := Lib.hid (And.intro hZ hZn)
  clear hZ hZn
  go_enter Tryd.func63, Tryd.ntmps63
  go_wp2_with fail
  obtain ⟨ga, hga⟩ : ∃ g, g = w.heap.size := ⟨_, rfl⟩
  obtain ⟨r0, hr0⟩ : ∃ g, g = w.heap.size + 1 := ⟨_, rfl⟩
  obtain ⟨w1, hw1⟩ : ∃ v, v = ((w.alloc (.cells #[.bool sa, .slice Aa na ca] 43)).alloc (.cells #[.bool false, .slice none 0 0] 43)) := ⟨_, rfl⟩
  have bel1 : Below w.heap.size w w1 := by rw [hw1]; exact bel_alloc2 _ _ _
  have b_a1 : Box w1 ga sa Aa na ca := by rw [hw1, hga]; exact ((Box.new _ _ _ _ _).alloc _)
  have t_r01 : Two w1 r0 := by rw [hw1, hr0]; exact Box.two (Box.at1 _ _ _ _ _ _)
  rw [← hw1, ← hr0, ← hga]
  have hgs : w.heap.size ≤ ga ∧ w.heap.size ≤ r0 ∧ ga ≠ r0 ∧ r0 ≠ ga := by omega
  have HG := Lib.hid hgs
  clear hw1 hgs hga hr0
  have l_a1 := La.bel bel1
  have c_a0_1 := b_a1.c0
  have c_a1_1 := b_a1.c1
  have f_r01 := t_r01.room.2
  go_region_held3 (fun w' => (Box w' ga sa Aa na ca ∧ w'.cell? ⟨ga, 0, none⟩ = some (.bool sa) ∧ w'.cell? ⟨ga, 1, none⟩ = some (.slice Aa na ca)) ∧ (Two w' r0 ∧ w'.cell? ⟨r0, 0, none⟩ = some (lies w' r0 0) ∧ w'.cell? ⟨r0, 1, none⟩ = some (lies w' r0 1) ∧ w'.frozen? ⟨r0, 0, none⟩ = false ∧ w'.frozen? ⟨r0, 1, none⟩ = false))
    (first
      | exact ⟨held0 (w := w1.drew) b_a1, Two.room (w := w1.drew) t_r01⟩
      | exact keep11 (by assumption) (by assumption)
      | exact keep11s0 HG.out.2.2.1 (by assumption) rfl)
    (first
      | (go_at_call 53; refine (wsign_at _ sa Aa na ca xa ?_ Hσ.out).mono ?_; exact l_a1.drew; rintro e w2 ⟨rfl, hb2⟩)
      | (go_at_call 26; refine (trim_any _ Aa na ca xa ?_).mono ?_; exact l_a1.drew.bel hb2; rintro e w3 ⟨A3, m3, c3, rfl, h3, hm3, hb3⟩)
      | (go_at_call 90; refine (signed_z _ Z _ _ _ _ _ ?_ hm3 ?_).mono ?_; (rw [HZ.out.2]; exact h3); exact (fun h0 => (by have h1 := sg_cases (sgn sa (val xa)); have h2 := HZ.out.1; rw [Hσ.out] at h1; omega)); rintro e w4 ⟨A4, m4, c4, rfl, h4, hm4, hb4⟩))
  have h4' := h4
  have hbx := bel_next (bel_next (bel_undrew hb2) hb3) hb4
  have b_a2 := b_a1.bel hbx
  have t_r02 := t_r01.bel hbx
  have l_a2 := l_a1.bel hbx
  have bel2 := bel1.trans (hbx.mono bel1.size)
  have c_a0_2 := b_a2.c0
  have c_a1_2 := b_a2.c1
  have f_r02 := t_r02.room.2
  clear hbx b_a1 c_a0_1 c_a1_1 t_r01 f_r01 l_a1 bel1
  clear hb2 hb3 hb4
  go_wp2
  have hx := t_r02.put (decide (Z < 0)) A4 m4 c4
  have hl := h4'.put t_r02 (.bool (decide (Z < 0))) (.slice A4 m4 c4)
  have hbl := bel_put bel2 (g := r0) HG.out.2.1 (.bool (decide (Z < 0))) (.slice A4 m4 c4)
  generalize (w4.setCell ⟨r0, 0, none⟩ (.bool (decide (Z < 0)))).setCell ⟨r0, 1, none⟩ (.slice A4 m4 c4) = wz at *
  refine bodyPost_ret (v := .agg #[.bool (decide (Z < 0)), .slice A4 m4 c4]) (by simp [results, Tryd.results63, go_sem, hx.c0, hx.c1]) rfl ?_
  exact ⟨_, _, _, rfl, hl, hm4, hbl⟩
end Go.Proofs.YtopkndkicdgafaaDoor
