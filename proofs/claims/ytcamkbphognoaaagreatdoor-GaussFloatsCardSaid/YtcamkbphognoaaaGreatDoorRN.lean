/- Contracts of the document's own numbers with a sign: Sign, Neg. -/
import Derived.Test.YtcamkbphognoaaaGreatDoorRM
import Derived.Test.YtcamkbphognoaaaGreatDoorRg
import Derived.Deep.RegionHeld3
namespace Go.Proofs.YtcamkbphognoaaaGreatDoor
open Go.RowKit

set_option maxHeartbeats 1000000 in
theorem rsign_p (w : World) (Aa : Option Addr) (na ca : Nat) (xa : List Nat) (La : Lm w Aa na ca xa) (h0 : 0 < val xa) :
    Calls Tryz.prog 82 #[.agg #[.bool false, .slice Aa na ca]] w fun e w' => e = .returned (.int .i64 1) ∧ Below w.heap.size w w' := by
  have H0 := Lib.hid h0
  clear h0
  go_enter Tryz.func82, Tryz.ntmps82
  go_wp2_with fail
  obtain ⟨ga, hga⟩ : ∃ g, g = w.heap.size := ⟨_, rfl⟩
  obtain ⟨w1, hw1⟩ : ∃ v, v = (w.alloc (.cells #[.bool false, .slice Aa na ca] 24)) := ⟨_, rfl⟩
  have bel1 : Below w.heap.size w w1 := by rw [hw1]; exact bel_alloc _ _
  have b_a1 : Box w1 ga false Aa na ca := by rw [hw1, hga]; exact (Box.new _ _ _ _ _)
  rw [← hw1, ← hga]
  have hgs : w.heap.size ≤ ga := by omega
  have HG := Lib.hid hgs
  clear hw1 hgs hga
  have l_a1 := La.bel bel1
  have c_a0_1 := b_a1.c0
  have c_a1_1 := b_a1.c1
  have cc := Lib.hid (rnorm_any w1 false Aa na ca xa l_a1)
  refine cc.out.mono ?_
  clear cc
  rintro e v2 ⟨A3, m3, c3, rfl, h3, hm3, kb2⟩
  have b_a2 := b_a1.bel kb2
  have l_a2 := l_a1.bel kb2
  have bel2 := bel1.trans (kb2.mono bel1.size)
  have c_a0_2 := b_a2.c0
  have c_a1_2 := b_a2.c1
  clear kb2 b_a1 c_a0_1 c_a1_1 l_a1 bel1
  rw [sgn_natAbs] at h3
  have hlen := len_pos' h3 (Nat.ne_of_gt H0.out)
  have hle : ((m3 : Int) == 0) = false := by rw [beq_eq_false_iff_ne]; omega
  have hd : decide (sgn false (val xa) < 0) = false := by rw [sgn_false]; exact decide_eq_false (by omega)
  go_wp2
  go_ret
  exact ⟨rfl, bel_next bel2 (bel_alloc _ _)⟩
set_option maxHeartbeats 1000000 in
theorem rsign_z (w : World) (sa : Bool) (Aa : Option Addr) (na ca : Nat) (xa : List Nat) (La : Lm w Aa na ca xa) (h0 : val xa = 0) :
    Calls Tryz.prog 82 #[.agg #[.bool sa, .slice Aa na ca]] w fun e w' => e = .returned (.int .i64 0) ∧ Below w.heap.size w w' := by
  have H0 := Lib.hid h0
  clear h0
  go_enter Tryz.func82, Tryz.ntmps82
  go_wp2_with fail
  obtain ⟨ga, hga⟩ : ∃ g, g = w.heap.size := ⟨_, rfl⟩
  obtain ⟨w1, hw1⟩ : ∃ v, v = (w.alloc (.cells #[.bool sa, .slice Aa na ca] 24)) := ⟨_, rfl⟩
  have bel1 : Below w.heap.size w w1 := by rw [hw1]; exact bel_alloc _ _
  have b_a1 : Box w1 ga sa Aa na ca := by rw [hw1, hga]; exact (Box.new _ _ _ _ _)
  rw [← hw1, ← hga]
  have hgs : w.heap.size ≤ ga := by omega
  have HG := Lib.hid hgs
  clear hw1 hgs hga
  have l_a1 := La.bel bel1
  have c_a0_1 := b_a1.c0
  have c_a1_1 := b_a1.c1
  have cc := Lib.hid (rnorm_any w1 sa Aa na ca xa l_a1)
  refine cc.out.mono ?_
  clear cc
  rintro e v2 ⟨A3, m3, c3, rfl, h3, hm3, kb2⟩
  have b_a2 := b_a1.bel kb2
  have l_a2 := l_a1.bel kb2
  have bel2 := bel1.trans (kb2.mono bel1.size)
  have c_a0_2 := b_a2.c0
  have c_a1_2 := b_a2.c1
  clear kb2 b_a1 c_a0_1 c_a1_1 l_a1 bel1
  rw [sgn_natAbs] at h3
  have hlen := len_none' h3 H0.out
  have hle : (m3 : Int) = 0 := by omega
  go_wp2
  go_ret
  exact ⟨rfl, bel_next bel2 (bel_alloc _ _)⟩
set_option maxHeartbeats 1000000 in
theorem rsign_n (w : World) (Aa : Option Addr) (na ca : Nat) (xa : List Nat) (La : Lm w Aa na ca xa) (h0 : 0 < val xa) :
    Calls Tryz.prog 82 #[.agg #[.bool true, .slice Aa na ca]] w fun e w' => e = .returned (.int .i64 (-1)) ∧ Below w.heap.size w w' := by
  have H0 := Lib.hid h0
  clear h0
  go_enter Tryz.func82, Tryz.ntmps82
  go_wp2_with fail
  obtain ⟨ga, hga⟩ : ∃ g, g = w.heap.size := ⟨_, rfl⟩
  obtain ⟨w1, hw1⟩ : ∃ v, v = (w.alloc (.cells #[.bool true, .slice Aa na ca] 24)) := ⟨_, rfl⟩
  have bel1 : Below w.heap.size w w1 := by rw [hw1]; exact bel_alloc _ _
  have b_a1 : Box w1 ga true Aa na ca := by rw [hw1, hga]; exact (Box.new _ _ _ _ _)
  rw [← hw1, ← hga]
  have hgs : w.heap.size ≤ ga := by omega
  have HG := Lib.hid hgs
  clear hw1 hgs hga
  have l_a1 := La.bel bel1
  have c_a0_1 := b_a1.c0
  have c_a1_1 := b_a1.c1
  have cc := Lib.hid (rnorm_any w1 true Aa na ca xa l_a1)
  refine cc.out.mono ?_
  clear cc
  rintro e v2 ⟨A3, m3, c3, rfl, h3, hm3, kb2⟩
  have b_a2 := b_a1.bel kb2
  have l_a2 := l_a1.bel kb2
  have bel2 := bel1.trans (kb2.mono bel1.size)
  have c_a0_2 := b_a2.c0
  have c_a1_2 := b_a2.c1
  clear kb2 b_a1 c_a0_1 c_a1_1 l_a1 bel1
  rw [sgn_natAbs] at h3
  have hlen := len_pos' h3 (Nat.ne_of_gt H0.out)
  have hle : ((m3 : Int) == 0) = false := by rw [beq_eq_false_iff_ne]; omega
  have hd : decide (sgn true (val xa) < 0) = true := by rw [sgn_true]; exact decide_eq_true (by have := H0.out; omega)
  go_wp2
  go_ret
  exact ⟨rfl, bel_next bel2 (bel_alloc _ _)⟩
theorem rsign_g (w : World) (X : Int) (sa : Bool) (Aa : Option Addr) (na ca : Nat) (xa : List Nat) (La : Lm w Aa na ca xa) (ha : sgn sa (val xa) = X) {ρ : Int} (hZ : sg X = ρ) :
    Calls Tryz.prog 82 #[.agg #[.bool sa, .slice Aa na ca]] w fun e w' => e = .returned (.int .i64 ρ) ∧ Below w.heap.size w w' := by
  subst ha; subst hZ
  by_cases h0 : val xa = 0
  · rw [h0, sgn_zero, sg_zero rfl]; exact rsign_z w sa Aa na ca xa La h0
  · cases sa
    · rw [sgn_false, sg_pos (by omega)]; exact rsign_p w Aa na ca xa La (by omega)
    · rw [sgn_true, sg_neg (by omega)]; exact rsign_n w Aa na ca xa La (by omega)
set_option maxHeartbeats 1000000 in
theorem rneg_f (w : World) (Aa : Option Addr) (na ca : Nat) (xa : List Nat) (La : Lm w Aa na ca xa) {Z : Int} (hZ : sgn true (val xa) = Z) :
    Calls Tryz.prog 103 #[.agg #[.bool false, .slice Aa na ca]] w (TellsI w Z na) := by
  have HZ := Lib.hid hZ
  clear hZ
  go_enter Tryz.func103, Tryz.ntmps103
  go_wp2_with fail
  obtain ⟨ga, hga⟩ : ∃ g, g = w.heap.size := ⟨_, rfl⟩
  obtain ⟨r0, hr0⟩ : ∃ g, g = w.heap.size + 1 := ⟨_, rfl⟩
  obtain ⟨w1, hw1⟩ : ∃ v, v = ((w.alloc (.cells #[.bool false, .slice Aa na ca] 24)).alloc (.cells #[.bool false, .slice none 0 0] 24)) := ⟨_, rfl⟩
  have bel1 : Below w.heap.size w w1 := by rw [hw1]; exact bel_alloc2 _ _ _
  have b_a1 : Box w1 ga false Aa na ca := by rw [hw1, hga]; exact ((Box.new _ _ _ _ _).alloc _)
  have t_r01 : Two w1 r0 := by rw [hw1, hr0]; exact Box.two (Box.at1 _ _ _ _ _ _)
  rw [← hw1, ← hr0, ← hga]
  have hgs : w.heap.size ≤ ga ∧ w.heap.size ≤ r0 ∧ ga ≠ r0 ∧ r0 ≠ ga := by omega
  have HG := Lib.hid hgs
  clear hw1 hgs hga hr0
  have l_a1 := La.bel bel1
  have c_a0_1 := b_a1.c0
  have c_a1_1 := b_a1.c1
  have f_r01 := t_r01.room.2
  have cc := Lib.hid (rnorm_any w1 true Aa na ca xa l_a1)
  refine cc.out.mono ?_
  clear cc
  rw [HZ.out]
  rintro e v2 ⟨A3, m3, c3, rfl, h3, hm3, kb2⟩
  have b_a2 := b_a1.bel kb2
  have t_r02 := t_r01.bel kb2
  have l_a2 := l_a1.bel kb2
  have bel2 := bel1.trans (kb2.mono bel1.size)
  have c_a0_2 := b_a2.c0
  have c_a1_2 := b_a2.c1
  have f_r02 := t_r02.room.2
  clear kb2 b_a1 c_a0_1 c_a1_1 t_r01 f_r01 l_a1 bel1
  go_wp2
  have hx := t_r02.put (decide (Z < 0)) A3 m3 c3
  have hl := h3.put t_r02 (.bool (decide (Z < 0))) (.slice A3 m3 c3)
  have hbl := bel_put bel2 (g := r0) HG.out.2.1 (.bool (decide (Z < 0))) (.slice A3 m3 c3)
  generalize (v2.setCell ⟨r0, 0, none⟩ (.bool (decide (Z < 0)))).setCell ⟨r0, 1, none⟩ (.slice A3 m3 c3) = wz at *
  refine bodyPost_ret (v := .agg #[.bool (decide (Z < 0)), .slice A3 m3 c3]) (by simp [results, Tryz.results103, go_sem, hx.c0, hx.c1]) rfl ?_
  exact ⟨_, _, _, rfl, hl, hm3, hbl⟩
set_option maxHeartbeats 1000000 in
theorem rneg_t (w : World) (Aa : Option Addr) (na ca : Nat) (xa : List Nat) (La : Lm w Aa na ca xa) {Z : Int} (hZ : sgn false (val xa) = Z) :
    Calls Tryz.prog 103 #[.agg #[.bool true, .slice Aa na ca]] w (TellsI w Z na) := by
  have HZ := Lib.hid hZ
  clear hZ
  go_enter Tryz.func103, Tryz.ntmps103
  go_wp2_with fail
  obtain ⟨ga, hga⟩ : ∃ g, g = w.heap.size := ⟨_, rfl⟩
  obtain ⟨r0, hr0⟩ : ∃ g, g = w.heap.size + 1 := ⟨_, rfl⟩
  obtain ⟨w1, hw1⟩ : ∃ v, v = ((w.alloc (.cells #[.bool true, .slice Aa na ca] 24)).alloc (.cells #[.bool false, .slice none 0 0] 24)) := ⟨_, rfl⟩
  have bel1 : Below w.heap.size w w1 := by rw [hw1]; exact bel_alloc2 _ _ _
  have b_a1 : Box w1 ga true Aa na ca := by rw [hw1, hga]; exact ((Box.new _ _ _ _ _).alloc _)
  have t_r01 : Two w1 r0 := by rw [hw1, hr0]; exact Box.two (Box.at1 _ _ _ _ _ _)
  rw [← hw1, ← hr0, ← hga]
  have hgs : w.heap.size ≤ ga ∧ w.heap.size ≤ r0 ∧ ga ≠ r0 ∧ r0 ≠ ga := by omega
  have HG := Lib.hid hgs
  clear hw1 hgs hga hr0
  have l_a1 := La.bel bel1
  have c_a0_1 := b_a1.c0
  have c_a1_1 := b_a1.c1
  have f_r01 := t_r01.room.2
  have cc := Lib.hid (rnorm_any w1 false Aa na ca xa l_a1)
  refine cc.out.mono ?_
  clear cc
  rw [HZ.out]
  rintro e v2 ⟨A3, m3, c3, rfl, h3, hm3, kb2⟩
  have b_a2 := b_a1.bel kb2
  have t_r02 := t_r01.bel kb2
  have l_a2 := l_a1.bel kb2
  have bel2 := bel1.trans (kb2.mono bel1.size)
  have c_a0_2 := b_a2.c0
  have c_a1_2 := b_a2.c1
  have f_r02 := t_r02.room.2
  clear kb2 b_a1 c_a0_1 c_a1_1 t_r01 f_r01 l_a1 bel1
  go_wp2
  have hx := t_r02.put (decide (Z < 0)) A3 m3 c3
  have hl := h3.put t_r02 (.bool (decide (Z < 0))) (.slice A3 m3 c3)
  have hbl := bel_put bel2 (g := r0) HG.out.2.1 (.bool (decide (Z < 0))) (.slice A3 m3 c3)
  generalize (v2.setCell ⟨r0, 0, none⟩ (.bool (decide (Z < 0)))).setCell ⟨r0, 1, none⟩ (.slice A3 m3 c3) = wz at *
  refine bodyPost_ret (v := .agg #[.bool (decide (Z < 0)), .slice A3 m3 c3]) (by simp [results, Tryz.results103, go_sem, hx.c0, hx.c1]) rfl ?_
  exact ⟨_, _, _, rfl, hl, hm3, hbl⟩
theorem rneg_g (w : World) (X : Int) (sa : Bool) (Aa : Option Addr) (na ca : Nat) (xa : List Nat) (La : Lm w Aa na ca xa) (ha : sgn sa (val xa) = X) {Z : Int} (hZ : -X = Z) :
    Calls Tryz.prog 103 #[.agg #[.bool sa, .slice Aa na ca]] w (TellsI w Z na) := by
  subst ha; subst hZ
  cases sa
  · exact rneg_f w Aa na ca xa La rfl
  · exact rneg_t w Aa na ca xa La (by rw [sgn_true, sgn_false, Int.neg_neg])
end Go.Proofs.YtcamkbphognoaaaGreatDoor
