/- Contracts of package whole: Add, Sub, Shl. -/
import Derived.Test.YtopkndkicdgafaaDoorWC
import Derived.Test.YtopkndkicdgafaaDoorWB
import Derived.Deep.RegionHeld3
namespace Go.Proofs.YtopkndkicdgafaaDoor
open Go.RowKit

set_option maxHeartbeats 2000000 in
theorem wadd_any (w : World) (sa : Bool) (Aa : Option Addr) (na ca : Nat) (xa : List Nat) (La : Lm w Aa na ca xa) (sb : Bool) (Ab : Option Addr) (nb cb : Nat) (xb : List Nat) (Lb : Lm w Ab nb cb xb) (hT : SumsT w) (hna : na ≤ 1000000000) (hnb : nb ≤ 1000000000) :
    Calls Tryd.prog 57 #[.agg #[.bool sa, .slice Aa na ca], .agg #[.bool sb, .slice Ab nb cb]] w (TellsI w (sgn sa (val xa) + sgn sb (val xb)) (max na nb + 1)) := by
  obtain ⟨σ, hσ, hσr⟩ : ∃ σ, sg (sgn sa (val xa)) = σ ∧ (-1 ≤ σ ∧ σ ≤ 1) := ⟨_, rfl, sg_range _⟩
  have Hσ := Lib.hid hσ
  clear hσ
  obtain ⟨τ, hτ, hτr⟩ : ∃ σ, sg (sgn sb (val xb)) = σ ∧ (-1 ≤ σ ∧ σ ≤ 1) := ⟨_, rfl, sg_range _⟩
  have Hτ := Lib.hid hτ
  clear hτ
  obtain ⟨Z, hZ⟩ : ∃ Z, sgn sa (val xa) + sgn sb (val xb) = Z := ⟨_, rfl⟩
  rw [hZ]
  have HZ := Lib.hid hZ
  clear hZ
  have HT := Lib.hid hT
  clear hT
  go_enter Tryd.func57, Tryd.ntmps57
  go_wp2_with fail
  obtain ⟨ga, hga⟩ : ∃ g, g = w.heap.size := ⟨_, rfl⟩
  obtain ⟨gb, hgb⟩ : ∃ g, g = w.heap.size + 1 := ⟨_, rfl⟩
  obtain ⟨r0, hr0⟩ : ∃ g, g = w.heap.size + 2 := ⟨_, rfl⟩
  obtain ⟨w1, hw1⟩ : ∃ v, v = (((w.alloc (.cells #[.bool sa, .slice Aa na ca] 43)).alloc (.cells #[.bool sb, .slice Ab nb cb] 43)).alloc (.cells #[.bool false, .slice none 0 0] 43)) := ⟨_, rfl⟩
  have bel1 : Below w.heap.size w w1 := by rw [hw1]; exact bel_alloc3 _ _ _ _
  have b_a1 : Box w1 ga sa Aa na ca := by rw [hw1, hga]; exact (((Box.new _ _ _ _ _).alloc _).alloc _)
  have b_b1 : Box w1 gb sb Ab nb cb := by rw [hw1, hgb]; exact ((Box.at1 _ _ _ _ _ _).alloc _)
  have t_r01 : Two w1 r0 := by rw [hw1, hr0]; exact Box.two (Box.at2 _ _ _ _ _ _ _)
  rw [← hw1, ← hr0, ← hgb, ← hga]
  have hgs : w.heap.size ≤ ga ∧ w.heap.size ≤ gb ∧ w.heap.size ≤ r0 ∧ ga ≠ gb ∧ ga ≠ r0 ∧ gb ≠ ga ∧ gb ≠ r0 ∧ r0 ≠ ga ∧ r0 ≠ gb := by omega
  have HG := Lib.hid hgs
  clear hw1 hgs hga hgb hr0
  have l_a1 := La.bel bel1
  have l_b1 := Lb.bel bel1
  have c_a0_1 := b_a1.c0
  have c_a1_1 := b_a1.c1
  have c_b0_1 := b_b1.c0
  have c_b1_1 := b_b1.c1
  have f_r01 := t_r01.room.2
  have HT1 := Lib.hid (HT.out.bel bel1)
  go_region_held3 (fun w' => (Box w' ga sa Aa na ca ∧ w'.cell? ⟨ga, 0, none⟩ = some (.bool sa) ∧ w'.cell? ⟨ga, 1, none⟩ = some (.slice Aa na ca)) ∧ (Box w' gb sb Ab nb cb ∧ w'.cell? ⟨gb, 0, none⟩ = some (.bool sb) ∧ w'.cell? ⟨gb, 1, none⟩ = some (.slice Ab nb cb)) ∧ (Two w' r0 ∧ w'.cell? ⟨r0, 0, none⟩ = some (lies w' r0 0) ∧ w'.cell? ⟨r0, 1, none⟩ = some (lies w' r0 1) ∧ w'.frozen? ⟨r0, 0, none⟩ = false ∧ w'.frozen? ⟨r0, 1, none⟩ = false))
    (first
      | exact ⟨held0 (w := w1.drew) b_a1, held0 (w := w1.drew) b_b1, Two.room (w := w1.drew) t_r01⟩
      | exact keep21 (by assumption) (by assumption)
      | exact keep21s0 HG.out.2.2.2.2.1 HG.out.2.2.2.2.2.2.1 (by assumption) rfl)
    (first
      | (go_at_call 53; go_at_call_of 53 (Value.slice Aa na ca); refine (wsign_at _ sa Aa na ca xa ?_ Hσ.out).mono ?_; exact l_a1.drew; rintro e w2 ⟨rfl, hb2⟩)
      | (go_at_call 53; go_at_call_of 53 (Value.slice Ab nb cb); refine (wsign_at _ sb Ab nb cb xb ?_ Hτ.out).mono ?_; exact l_b1.drew.bel hb2; rintro e w3 ⟨rfl, hb3⟩)
      | (go_at_call 91; refine (sum_any _ (sgn sa (val xa)) (sgn sb (val xb)) Aa na ca xa ?_ Ab nb cb xb ?_ ?_ ?_ Hσ.out Hτ.out ?_ hna hnb).mono ?_; exact (l_a1.drew.bel hb2).bel hb3; exact (l_b1.drew.bel hb2).bel hb3; exact sgn_natAbs _ _; exact sgn_natAbs _ _; exact HT1.out.bel (bel_next (bel_undrew hb2) hb3); (rw [HZ.out]); rintro e w4 ⟨A4, m4, c4, rfl, h4, hm4, hb4⟩))
  have hbx := bel_next (bel_next (bel_undrew hb2) hb3) hb4
  have b_a2 := b_a1.bel hbx
  have b_b2 := b_b1.bel hbx
  have t_r02 := t_r01.bel hbx
  have l_a2 := l_a1.bel hbx
  have l_b2 := l_b1.bel hbx
  have bel2 := bel1.trans (hbx.mono bel1.size)
  have c_a0_2 := b_a2.c0
  have c_a1_2 := b_a2.c1
  have c_b0_2 := b_b2.c0
  have c_b1_2 := b_b2.c1
  have f_r02 := t_r02.room.2
  clear hbx b_a1 c_a0_1 c_a1_1 b_b1 c_b0_1 c_b1_1 t_r01 f_r01 l_a1 l_b1 bel1
  clear hb2 hb3 hb4
  go_wp2
  have hx := t_r02.put (decide (Z < 0)) A4 m4 c4
  have hl := h4.put t_r02 (.bool (decide (Z < 0))) (.slice A4 m4 c4)
  have hbl := bel_put bel2 (g := r0) HG.out.2.2.1 (.bool (decide (Z < 0))) (.slice A4 m4 c4)
  generalize (w4.setCell ⟨r0, 0, none⟩ (.bool (decide (Z < 0)))).setCell ⟨r0, 1, none⟩ (.slice A4 m4 c4) = wz at *
  refine bodyPost_ret (v := .agg #[.bool (decide (Z < 0)), .slice A4 m4 c4]) (by simp [results, Tryd.results57, go_sem, hx.c0, hx.c1]) rfl ?_
  exact ⟨_, _, _, rfl, hl, hm4, hbl⟩
set_option maxHeartbeats 2000000 in
theorem wsub_any (w : World) (sa : Bool) (Aa : Option Addr) (na ca : Nat) (xa : List Nat) (La : Lm w Aa na ca xa) (sb : Bool) (Ab : Option Addr) (nb cb : Nat) (xb : List Nat) (Lb : Lm w Ab nb cb xb) (hT : SumsT w) (hna : na ≤ 1000000000) (hnb : nb ≤ 1000000000) :
    Calls Tryd.prog 59 #[.agg #[.bool sa, .slice Aa na ca], .agg #[.bool sb, .slice Ab nb cb]] w (TellsI w (sgn sa (val xa) - sgn sb (val xb)) (max na nb + 1)) := by
  obtain ⟨σ, hσ, hσr⟩ : ∃ σ, sg (sgn sa (val xa)) = σ ∧ (-1 ≤ σ ∧ σ ≤ 1) := ⟨_, rfl, sg_range _⟩
  have Hσ := Lib.hid hσ
  clear hσ
  obtain ⟨τ, hτ, hτr⟩ : ∃ σ, sg (sgn sb (val xb)) = σ ∧ (-1 ≤ σ ∧ σ ≤ 1) := ⟨_, rfl, sg_range _⟩
  have Hτ := Lib.hid hτ
  clear hτ
  obtain ⟨ν, hν, eν⟩ : ∃ ν, ν = -τ ∧ IntKind.i64.wrap (-τ) = ν := ⟨_, rfl, wrap_pm (by omega)⟩
  have Hν : Hid (sg (-(sgn sb (val xb))) = ν) := (by rw [sg_neg_, Hτ.out, hν] : sg (-(sgn sb (val xb))) = ν)
  clear hν
  obtain ⟨Z, hZ⟩ : ∃ Z, sgn sa (val xa) - sgn sb (val xb) = Z := ⟨_, rfl⟩
  rw [hZ]
  have HZ := Lib.hid hZ
  clear hZ
  have HT := Lib.hid hT
  clear hT
  go_enter Tryd.func59, Tryd.ntmps59
  go_wp2_with fail
  obtain ⟨ga, hga⟩ : ∃ g, g = w.heap.size := ⟨_, rfl⟩
  obtain ⟨gb, hgb⟩ : ∃ g, g = w.heap.size + 1 := ⟨_, rfl⟩
  obtain ⟨r0, hr0⟩ : ∃ g, g = w.heap.size + 2 := ⟨_, rfl⟩
  obtain ⟨w1, hw1⟩ : ∃ v, v = (((w.alloc (.cells #[.bool sa, .slice Aa na ca] 43)).alloc (.cells #[.bool sb, .slice Ab nb cb] 43)).alloc (.cells #[.bool false, .slice none 0 0] 43)) := ⟨_, rfl⟩
  have bel1 : Below w.heap.size w w1 := by rw [hw1]; exact bel_alloc3 _ _ _ _
  have b_a1 : Box w1 ga sa Aa na ca := by rw [hw1, hga]; exact (((Box.new _ _ _ _ _).alloc _).alloc _)
  have b_b1 : Box w1 gb sb Ab nb cb := by rw [hw1, hgb]; exact ((Box.at1 _ _ _ _ _ _).alloc _)
  have t_r01 : Two w1 r0 := by rw [hw1, hr0]; exact Box.two (Box.at2 _ _ _ _ _ _ _)
  rw [← hw1, ← hr0, ← hgb, ← hga]
  have hgs : w.heap.size ≤ ga ∧ w.heap.size ≤ gb ∧ w.heap.size ≤ r0 ∧ ga ≠ gb ∧ ga ≠ r0 ∧ gb ≠ ga ∧ gb ≠ r0 ∧ r0 ≠ ga ∧ r0 ≠ gb := by omega
  have HG := Lib.hid hgs
  clear hw1 hgs hga hgb hr0
  have l_a1 := La.bel bel1
  have l_b1 := Lb.bel bel1
  have c_a0_1 := b_a1.c0
  have c_a1_1 := b_a1.c1
  have c_b0_1 := b_b1.c0
  have c_b1_1 := b_b1.c1
  have f_r01 := t_r01.room.2
  have HT1 := Lib.hid (HT.out.bel bel1)
  go_region_held3 (fun w' => (Box w' ga sa Aa na ca ∧ w'.cell? ⟨ga, 0, none⟩ = some (.bool sa) ∧ w'.cell? ⟨ga, 1, none⟩ = some (.slice Aa na ca)) ∧ (Box w' gb sb Ab nb cb ∧ w'.cell? ⟨gb, 0, none⟩ = some (.bool sb) ∧ w'.cell? ⟨gb, 1, none⟩ = some (.slice Ab nb cb)) ∧ (Two w' r0 ∧ w'.cell? ⟨r0, 0, none⟩ = some (lies w' r0 0) ∧ w'.cell? ⟨r0, 1, none⟩ = some (lies w' r0 1) ∧ w'.frozen? ⟨r0, 0, none⟩ = false ∧ w'.frozen? ⟨r0, 1, none⟩ = false))
    (first
      | exact ⟨held0 (w := w1.drew) b_a1, held0 (w := w1.drew) b_b1, Two.room (w := w1.drew) t_r01⟩
      | exact keep21 (by assumption) (by assumption)
      | exact keep21s0 HG.out.2.2.2.2.1 HG.out.2.2.2.2.2.2.1 (by assumption) rfl)
    (first
      | (go_at_call 53; go_at_call_of 53 (Value.slice Aa na ca); refine (wsign_at _ sa Aa na ca xa ?_ Hσ.out).mono ?_; exact l_a1.drew; rintro e w2 ⟨rfl, hb2⟩)
      | (go_at_call 53; go_at_call_of 53 (Value.slice Ab nb cb); refine (wsign_at _ sb Ab nb cb xb ?_ Hτ.out).mono ?_; exact l_b1.drew.bel hb2; rintro e w3 ⟨rfl, hb3⟩)
      | (go_at_call 91; refine (sum_any _ (sgn sa (val xa)) (-(sgn sb (val xb))) Aa na ca xa ?_ Ab nb cb xb ?_ ?_ ?_ Hσ.out Hν.out ?_ hna hnb).mono ?_; exact (l_a1.drew.bel hb2).bel hb3; exact (l_b1.drew.bel hb2).bel hb3; exact sgn_natAbs _ _; (rw [Int.natAbs_neg]; exact sgn_natAbs _ _); exact HT1.out.bel (bel_next (bel_undrew hb2) hb3); (rw [← Int.sub_eq_add_neg, HZ.out]); rintro e w4 ⟨A4, m4, c4, rfl, h4, hm4, hb4⟩))
  have hbx := bel_next (bel_next (bel_undrew hb2) hb3) hb4
  have b_a2 := b_a1.bel hbx
  have b_b2 := b_b1.bel hbx
  have t_r02 := t_r01.bel hbx
  have l_a2 := l_a1.bel hbx
  have l_b2 := l_b1.bel hbx
  have bel2 := bel1.trans (hbx.mono bel1.size)
  have c_a0_2 := b_a2.c0
  have c_a1_2 := b_a2.c1
  have c_b0_2 := b_b2.c0
  have c_b1_2 := b_b2.c1
  have f_r02 := t_r02.room.2
  clear hbx b_a1 c_a0_1 c_a1_1 b_b1 c_b0_1 c_b1_1 t_r01 f_r01 l_a1 l_b1 bel1
  clear hb2 hb3 hb4
  go_wp2
  have hx := t_r02.put (decide (Z < 0)) A4 m4 c4
  have hl := h4.put t_r02 (.bool (decide (Z < 0))) (.slice A4 m4 c4)
  have hbl := bel_put bel2 (g := r0) HG.out.2.2.1 (.bool (decide (Z < 0))) (.slice A4 m4 c4)
  generalize (w4.setCell ⟨r0, 0, none⟩ (.bool (decide (Z < 0)))).setCell ⟨r0, 1, none⟩ (.slice A4 m4 c4) = wz at *
  refine bodyPost_ret (v := .agg #[.bool (decide (Z < 0)), .slice A4 m4 c4]) (by simp [results, Tryd.results59, go_sem, hx.c0, hx.c1]) rfl ?_
  exact ⟨_, _, _, rfl, hl, hm4, hbl⟩
theorem sgn_mul_pow (s : Bool) (N p : Nat) : (sgn s N * 2 ^ p).natAbs = N * 2 ^ p ∧ (sgn s N * 2 ^ p ≠ 0 → (sg (sgn s N) < 0 ↔ sgn s N * 2 ^ p < 0)) := by
  have hp : (0 : Int) < 2 ^ p := Int.pow_pos (by decide)
  refine ⟨by rw [Int.natAbs_mul, sgn_natAbs, Int.natAbs_pow]; rfl, fun _ => ?_⟩
  rw [sg_sign]
  constructor
  · intro h; exact Int.mul_neg_of_neg_of_pos h hp
  · intro h; exact Int.not_le.1 fun h2 => absurd (Int.mul_nonneg h2 (Int.le_of_lt hp)) (by omega)
set_option maxHeartbeats 2000000 in
theorem wshl_any (w : World) (sa : Bool) (Aa : Option Addr) (na ca : Nat) (xa : List Nat) (La : Lm w Aa na ca xa) (k : Int) (hna : na ≤ 1000000000) :
    Calls Tryd.prog 70 #[.agg #[.bool sa, .slice Aa na ca], .int .i64 k] w (TellsI w (sgn sa (val xa) * 2 ^ heldN k) (na + heldN k / 32 + 1)) := by
  obtain ⟨σ, hσ, hσr⟩ : ∃ σ, sg (sgn sa (val xa)) = σ ∧ (-1 ≤ σ ∧ σ ≤ 1) := ⟨_, rfl, sg_range _⟩
  have Hσ := Lib.hid hσ
  clear hσ
  have hf := sgn_mul_pow sa (val xa) (heldN k)
  rw [Hσ.out] at hf
  obtain ⟨Z, hZ⟩ : ∃ Z, sgn sa (val xa) * 2 ^ heldN k = Z := ⟨_, rfl⟩
  rw [hZ] at hf
  rw [hZ]
  have HZ := Lib.hid hf
  clear hZ hf
  go_enter Tryd.func70, Tryd.ntmps70
  go_wp2_with fail
  obtain ⟨ga, hga⟩ : ∃ g, g = w.heap.size := ⟨_, rfl⟩
  obtain ⟨r0, hr0⟩ : ∃ g, g = w.heap.size + 1 := ⟨_, rfl⟩
  obtain ⟨w1, hw1⟩ : ∃ v, v = ((w.alloc (.cells #[.bool sa, .slice Aa na ca] 43)).alloc (.cells #[.bool false, .slice none 0 0] 43)) := ⟨_, rfl⟩
  have bel1 : Below w.heap.size w w1 := by rw [hw1]; exact bel_alloc2 _ _ _
  have b_a1 : Box w1 ga sa Aa na ca := by rw [hw1, hga]; exact ((Box.new _ _ _ _ _).alloc _)
  have t_r01 : Two w1 r0 := by rw [hw1, hr0]; exact Box.two (Box.at1 _ _ _ _ _ _)
  rw [← hw1, ← hr0, ← hga]
  have hgs : w.heap.size ≤ ga ∧ w.heap.size ≤ r0 ∧ ga ≠ r0 ∧ r0 ≠ ga := by omega
  have HG := Lib.hid hgs
  clear hw1 hgs hga hr0
  have l_a1 := La.bel bel1
  have c_a0_1 := b_a1.c0
  have c_a1_1 := b_a1.c1
  have f_r01 := t_r01.room.2
  go_region_held3 (fun w' => (Box w' ga sa Aa na ca ∧ w'.cell? ⟨ga, 0, none⟩ = some (.bool sa) ∧ w'.cell? ⟨ga, 1, none⟩ = some (.slice Aa na ca)) ∧ (Two w' r0 ∧ w'.cell? ⟨r0, 0, none⟩ = some (lies w' r0 0) ∧ w'.cell? ⟨r0, 1, none⟩ = some (lies w' r0 1) ∧ w'.frozen? ⟨r0, 0, none⟩ = false ∧ w'.frozen? ⟨r0, 1, none⟩ = false))
    (first
      | exact ⟨held0 (w := w1.drew) b_a1, Two.room (w := w1.drew) t_r01⟩
      | exact keep11 (by assumption) (by assumption)
      | exact keep11s0 HG.out.2.2.1 (by assumption) rfl)
    (first
      | (go_at_call 53; refine (wsign_at _ sa Aa na ca xa ?_ Hσ.out).mono ?_; exact l_a1.drew; rintro e w2 ⟨rfl, hb2⟩)
      | (go_at_call 33; refine (shl_any _ Aa na ca xa k ?_ ?_).mono ?_; exact l_a1.drew.bel hb2; omega; rintro e w3 ⟨A3, m3, c3, rfl, h3, hm3, hb3⟩)
      | (go_at_call 90; refine (signed_z _ Z _ _ _ _ _ ?_ hm3 ?_).mono ?_; (rw [HZ.out.1]; exact h3); exact HZ.out.2; rintro e w4 ⟨A4, m4, c4, rfl, h4, hm4, hb4⟩))
  have hbx := bel_next (bel_next (bel_undrew hb2) hb3) hb4
  have b_a2 := b_a1.bel hbx
  have t_r02 := t_r01.bel hbx
  have l_a2 := l_a1.bel hbx
  have bel2 := bel1.trans (hbx.mono bel1.size)
  have c_a0_2 := b_a2.c0
  have c_a1_2 := b_a2.c1
  have f_r02 := t_r02.room.2
  clear hbx b_a1 c_a0_1 c_a1_1 t_r01 f_r01 l_a1 bel1
  clear hb2 hb3 hb4
  go_wp2
  have hx := t_r02.put (decide (Z < 0)) A4 m4 c4
  have hl := h4.put t_r02 (.bool (decide (Z < 0))) (.slice A4 m4 c4)
  have hbl := bel_put bel2 (g := r0) HG.out.2.1 (.bool (decide (Z < 0))) (.slice A4 m4 c4)
  generalize (w4.setCell ⟨r0, 0, none⟩ (.bool (decide (Z < 0)))).setCell ⟨r0, 1, none⟩ (.slice A4 m4 c4) = wz at *
  refine bodyPost_ret (v := .agg #[.bool (decide (Z < 0)), .slice A4 m4 c4]) (by simp [results, Tryd.results70, go_sem, hx.c0, hx.c1]) rfl ?_
  exact ⟨_, _, _, rfl, hl, hm4, hbl⟩
end Go.Proofs.YtopkndkicdgafaaDoor
