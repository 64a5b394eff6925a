/- Contracts of the document's own numbers with a sign: Sign, Neg. -/
import Derived.Test.YtgmencbhkkcpiaaGreatDoorRM
import Derived.Test.YtgmencbhkkcpiaaGreatDoorRg
import Derived.Deep.RegionHeld3
namespace Go.Proofs.YtgmencbhkkcpiaaGreatDoor
open Go.RowKit

set_option maxHeartbeats 1000000 in
theorem rsign_p (w : World) (Aa : Option Addr) (na ca : Nat) (xa : List Nat) (La : Lm w Aa na ca xa) (h0 : 0 < val xa) :
    Calls Tryz.prog 67 #[.agg #[.bool false, .slice Aa na ca]] w fun e w' => e = .returned (.int .i64 1) ∧ Below w.heap.size w w' := by
  have H0 := Lib.hid h0
  clear h0
  go_enter Tryz.func67, Tryz.ntmps67
  go_wp2_with fail
  obtain ⟨ga, hga⟩ : ∃ g, g = w.heap.size := ⟨_, rfl⟩
  obtain ⟨w1, hw1⟩ : ∃ v, v = (w.alloc (.cells #[.bool false, .slice Aa na ca] 24)) := ⟨_, rfl⟩
  have bel1 : Below w.heap.size w w1 := by rw [hw1]; exact bel_alloc _ _
  have b_a1 : Box w1 ga false Aa na ca := by rw [hw1, hga]; exact (Box.new _ _ _ _ _)
  rw [← hw1, ← hga]
  have hgs : w.heap.size ≤ ga := by omega
  have HG := Lib.hid hgs
  clear hw1 hgs hga
  have l_a1 := La.bel bel1
  have c_a0_1 := b_a1.c0
  have c_a1_1 := b_a1.c1
  have cc := Lib.hid (rnorm_any w1 false Aa na ca xa l_a1)
  refine cc.out.mono ?_
  clear cc
  rintro e v2 ⟨A3, m3, c3, rfl, h3, hm3, kb2⟩
  have b_a2 := b_a1.bel kb2
  have l_a2 := l_a1.bel kb2
  have bel2 := bel1.trans (kb2.mono bel1.size)
  have c_a0_2 := b_a2.c0
  have c_a1_2 := b_a2.c1
  clear kb2 b_a1 c_a0_1 c_a1_1 l_a1 bel1
  rw [sgn_natAbs] at h3
  have hlen := len_pos' h3 (Nat.ne_of_gt H0.out)
  have hle : ((m3 : Int) == 0) = false := by rw [beq_eq_false_iff_ne]; omega
  have hd : decide (sgn false (val xa) < 0) = false := by rw [sgn_false]; exact decide_eq_false (by omega)
  go_wp2
  go_ret
  exact ⟨rfl, bel_next bel2 (bel_alloc _ _)⟩
set_option maxHeartbeats 1000000 in
theorem rsign_z (w : World) (sa : Bool) (Aa : Option Addr) (na ca : Nat) (xa : List Nat) (La : Lm w Aa na ca xa) (h0 : val xa = 0) :
    Calls Tryz.prog 67 #[.agg #[.bool sa, .slice Aa na ca]] w fun e w' => e = .returned (.int .i64 0) ∧ Below w.heap.size w w' := by
  have H0 := Lib.hid h0
  clear h0
  go_enter Tryz.func67, Tryz.ntmps67
  go_wp2_with fail
  obtain ⟨ga, hga⟩ : ∃ g, g = w.heap.size := ⟨_, rfl⟩
  obtain ⟨w1, hw1⟩ : ∃ v, v = (w.alloc (.cells #[.bool sa, .slice Aa na ca] 24)) := ⟨_, rfl⟩
  have bel1 : Below w.heap.size w w1 := by rw [hw1]; exact bel_alloc _ _
  have b_a1 : Box w1 ga sa Aa na ca := by rw [hw1, hga]; exact (Box.new _ _ _ _ _)
  rw [← hw1, ← hga]
  have hgs : w.heap.size ≤ ga := by omega
  have HG := Lib.hid hgs
  clear hw1 hgs hga
  have l_a1 := La.bel bel1
  have c_a0_1 := b_a1.c0
  have c_a1_1 := b_a1.c1
  have cc := Lib.hid (rnorm_any w1 sa Aa na ca xa l_a1)
  refine cc.out.mono ?_
  clear cc
  rintro e v2 ⟨A3, m3, c3, rfl, h3, hm3, kb2⟩
  have b_a2 := b_a1.bel kb2
  have l_a2 := l_a1.bel kb2
  have bel2 := bel1.trans (kb2.mono bel1.size)
  have c_a0_2 := b_a2.c0
  have c_a1_2 := b_a2.c1
  clear kb2 b_a1 c_a0_1 c_a1_1 l_a1 bel1
  rw [sgn_natAbs] at h3
  have hlen := len_none' h3 H0.out
  have hle : (m3 : Int) = 0 := by omega
  go_wp2
  go_ret
  exact ⟨rfl, bel_next bel2 (bel_alloc _ _)⟩
set_option maxHeartbeats 1000000 in
theorem rsign_n (w : World) (Aa : Option Addr) (na ca : Nat) (xa : List Nat) (La : Lm w Aa na ca xa) (h0 : 0 < val xa) :
    Calls Tryz.prog 67 #[.agg #[.bool true, .slice Aa na ca]] w fun e w' => e = .returned (.int .i64 (-1)) ∧ Below w.heap.size w w' := by
  have H0 := Lib.hid h0
  clear h0
  go_enter Tryz.func67, Tryz.ntmps67
  go_wp2_with fail
  obtain ⟨ga, hga⟩ : ∃ g, g = w.heap.size := ⟨_, rfl⟩
  obtain ⟨w1, hw1⟩ : ∃ v, v = (w.alloc (.cells #[.bool true, .slice Aa na ca] 24)) := ⟨_, rfl⟩
  have bel1 : Below w.heap.size w w1 := by rw [hw1]; exact bel_alloc _ _
  have b_a1 : Box w1 ga true Aa na ca := by rw [hw1, hga]; exact (Box.new _ _ _ _ _)
  rw [← hw1, ← hga]
  have hgs : w.heap.size ≤ ga := by omega
  have HG := Lib.hid hgs
  clear hw1 hgs hga
  have l_a1 := La.bel bel1
  have c_a0_1 := b_a1.c0
  have c_a1_1 := b_a1.c1
  have cc := Lib.hid (rnorm_any w1 true Aa na ca xa l_a1)
  refine cc.out.mono ?_
  clear cc
  rintro e v2 ⟨A3, m3, c3, rfl, h3, hm3, kb2⟩
  have b_a2 := b_a1.bel kb2
  have l_a2 := l_a1.bel kb2
  have bel2 := bel1.trans (kb2.mono bel1.size)
  have c_a0_2 := b_a2.c0
  have c_a1_2 := b_a2.c1
  clear kb2 b_a1 c_a0_1 c_a1_1 l_a1 bel1
  rw [sgn_natAbs] at h3
  have hlen := len_pos' h3 (Nat.ne_of_gt H0.out)
  have hle : ((m3 : Int) == 0) = false := by rw [beq_eq_false_iff_ne]; omega
  have hd : decide (sgn true (val xa) < 0) = true := by rw [sgn_true]; exact decide_eq_true (by have := H0.out; omega)
  go_wp2
  go_ret
  exact ⟨rfl, bel_next bel2 (bel_alloc _ _)⟩
theorem rsign_g (w : World) (X : Int) (sa : Bool) (Aa : Option Addr) (na ca : Nat) (xa : List Nat) (La : Lm w Aa na ca xa) (ha : sgn sa (val xa) = X) {ρ : Int} (hZ : sg X = ρ) :
    Calls Tryz.prog 67 #[.agg #[.bool sa, .slice Aa na ca]] w fun e w' => e = .returned (.int .i64 ρ) ∧ Below w.heap.size w w' := by
  subst ha; subst hZ
  by_cases h0 : val xa = 0
  · rw [h0, sgn_zero, sg_zero rfl]; exact rsign_z w sa Aa na ca xa La h0
  · cases sa
    · rw [sgn_false, sg_pos (by omega)]; exact rsign_p w Aa na ca xa La (by omega)
    · rw [sgn_true, sg_neg (by omega)]; exact rsign_n w Aa na ca xa La (by omega)
end Go.Proofs.YtgmencbhkkcpiaaGreatDoor
