/- Contracts of the document's own numbers with a sign: IsInt. -/
import Derived.Test.YtglmnhjkmdpefaaDoorRl
import Derived.Deep.RegionHeld3
import Derived.BigQuiet
import Derived.Deep.QuietTactic
namespace Go.Proofs.YtglmnhjkmdpefaaDoor
open Go.RowKit

theorem is_lenI {xs : List Nat} {n : Nat} (hx : Ok xs) (hl : xs.length = n) : (((ln (val xs) : Nat) : Int) == (n : Int)) = decide (lim (val xs) = xs) := by
  subst hl
  rw [Bool.eq_iff_iff, beq_iff_eq, decide_eq_true_iff]
  constructor
  · intro h
    rw [lim_val_take hx, List.take_of_length_le (by omega)]
  · intro h
    show ((lim (val xs)).length : Int) = _
    rw [h]
set_option maxHeartbeats 2000000 in
theorem risI_fy (w : World) (Aa : Option Addr) (na ca : Nat) (xa : List Nat) (La : Lm w Aa na ca xa) (hc : ln (val xa) = na) :
    Calls Tryd.prog 62 #[.agg #[.bool false, .slice Aa na ca]] w fun e w' => e = .returned (.bool true) ∧ Below w.heap.size w w' := by
  obtain ⟨m, hm⟩ : ∃ m, ln (val xa) = m := ⟨_, rfl⟩
  rw [hm] at hc
  subst hc
  have HM := Lib.hid hm
  clear hm
  go_enter Tryd.func62, Tryd.ntmps62
  go_wp2_with fail
  obtain ⟨ga, hga⟩ : ∃ g, g = w.heap.size := ⟨_, rfl⟩
  obtain ⟨w1, hw1⟩ : ∃ v, v = (w.alloc (.cells #[.bool false, .slice Aa m ca] 24)) := ⟨_, rfl⟩
  have bel1 : Below w.heap.size w w1 := by rw [hw1]; exact bel_alloc _ _
  have b_a1 : Box w1 ga false Aa m ca := by rw [hw1, hga]; exact (Box.new _ _ _ _ _)
  rw [← hw1, ← hga]
  have hgs : w.heap.size ≤ ga := by omega
  have HG := Lib.hid hgs
  clear hw1 hgs hga
  have l_a1 := La.bel bel1
  have c_a0_1 := b_a1.c0
  have c_a1_1 := b_a1.c1
  have ht := Lib.hid (fun nq => rtrim_any (w1.drewN nq) Aa m ca xa (l_a1.drewN nq))
  rw [HM.out] at ht
  go_quiet ((go_at_call 82; exact q_same (ht.out _)))
  go_wp2
  go_ret
  exact ⟨rfl, below_drewN bel1 _⟩
set_option maxHeartbeats 2000000 in
theorem risI_fn (w : World) (Aa : Option Addr) (na ca : Nat) (xa : List Nat) (La : Lm w Aa na ca xa) (hc : ln (val xa) ≠ na) :
    Calls Tryd.prog 62 #[.agg #[.bool false, .slice Aa na ca]] w fun e w' => e = .returned (.bool false) ∧ Below w.heap.size w w' := by
  obtain ⟨m, hm⟩ : ∃ m, ln (val xa) = m := ⟨_, rfl⟩
  rw [hm] at hc
  have he : ((m : Int) == (na : Int)) = false := by rw [beq_eq_false_iff_ne]; omega
  have HM := Lib.hid hm
  clear hm hc
  go_enter Tryd.func62, Tryd.ntmps62
  go_wp2_with fail
  obtain ⟨ga, hga⟩ : ∃ g, g = w.heap.size := ⟨_, rfl⟩
  obtain ⟨w1, hw1⟩ : ∃ v, v = (w.alloc (.cells #[.bool false, .slice Aa na ca] 24)) := ⟨_, rfl⟩
  have bel1 : Below w.heap.size w w1 := by rw [hw1]; exact bel_alloc _ _
  have b_a1 : Box w1 ga false Aa na ca := by rw [hw1, hga]; exact (Box.new _ _ _ _ _)
  rw [← hw1, ← hga]
  have hgs : w.heap.size ≤ ga := by omega
  have HG := Lib.hid hgs
  clear hw1 hgs hga
  have l_a1 := La.bel bel1
  have c_a0_1 := b_a1.c0
  have c_a1_1 := b_a1.c1
  have ht := Lib.hid (fun nq => rtrim_any (w1.drewN nq) Aa na ca xa (l_a1.drewN nq))
  rw [HM.out] at ht
  go_quiet ((go_at_call 82; exact q_same (ht.out _)))
  go_wp2
  go_ret
  exact ⟨rfl, below_drewN bel1 _⟩
set_option maxHeartbeats 2000000 in
theorem risI_typ (w : World) (Aa : Option Addr) (na ca : Nat) (xa : List Nat) (La : Lm w Aa na ca xa) (hc : ln (val xa) = na) (hz : 0 < na) :
    Calls Tryd.prog 62 #[.agg #[.bool true, .slice Aa na ca]] w fun e w' => e = .returned (.bool true) ∧ Below w.heap.size w w' := by
  obtain ⟨m, hm⟩ : ∃ m, ln (val xa) = m := ⟨_, rfl⟩
  rw [hm] at hc
  subst hc
  have HP : Hid (0 < m) := (by omega : 0 < m)
  have HM := Lib.hid hm
  clear hm hz
  go_enter Tryd.func62, Tryd.ntmps62
  go_wp2_with fail
  obtain ⟨ga, hga⟩ : ∃ g, g = w.heap.size := ⟨_, rfl⟩
  obtain ⟨w1, hw1⟩ : ∃ v, v = (w.alloc (.cells #[.bool true, .slice Aa m ca] 24)) := ⟨_, rfl⟩
  have bel1 : Below w.heap.size w w1 := by rw [hw1]; exact bel_alloc _ _
  have b_a1 : Box w1 ga true Aa m ca := by rw [hw1, hga]; exact (Box.new _ _ _ _ _)
  rw [← hw1, ← hga]
  have hgs : w.heap.size ≤ ga := by omega
  have HG := Lib.hid hgs
  clear hw1 hgs hga
  have l_a1 := La.bel bel1
  have c_a0_1 := b_a1.c0
  have c_a1_1 := b_a1.c1
  have ht := Lib.hid (fun nq => rtrim_any (w1.drewN nq) Aa m ca xa (l_a1.drewN nq))
  rw [HM.out] at ht
  go_quiet ((go_at_call 82; exact q_same (ht.out _)))
  go_wp2
  go_ret
  exact ⟨ret_bool (decide_eq_true HP.out), below_drewN bel1 _⟩
set_option maxHeartbeats 2000000 in
theorem risI_tyz (w : World) (Aa : Option Addr) (na ca : Nat) (xa : List Nat) (La : Lm w Aa na ca xa) (hc : ln (val xa) = na) (hz : na = 0) :
    Calls Tryd.prog 62 #[.agg #[.bool true, .slice Aa na ca]] w fun e w' => e = .returned (.bool false) ∧ Below w.heap.size w w' := by
  obtain ⟨m, hm⟩ : ∃ m, ln (val xa) = m := ⟨_, rfl⟩
  rw [hm] at hc
  subst hc
  have HP : Hid (¬ 0 < m) := (by omega : ¬ 0 < m)
  have HM := Lib.hid hm
  clear hm hz
  go_enter Tryd.func62, Tryd.ntmps62
  go_wp2_with fail
  obtain ⟨ga, hga⟩ : ∃ g, g = w.heap.size := ⟨_, rfl⟩
  obtain ⟨w1, hw1⟩ : ∃ v, v = (w.alloc (.cells #[.bool true, .slice Aa m ca] 24)) := ⟨_, rfl⟩
  have bel1 : Below w.heap.size w w1 := by rw [hw1]; exact bel_alloc _ _
  have b_a1 : Box w1 ga true Aa m ca := by rw [hw1, hga]; exact (Box.new _ _ _ _ _)
  rw [← hw1, ← hga]
  have hgs : w.heap.size ≤ ga := by omega
  have HG := Lib.hid hgs
  clear hw1 hgs hga
  have l_a1 := La.bel bel1
  have c_a0_1 := b_a1.c0
  have c_a1_1 := b_a1.c1
  have ht := Lib.hid (fun nq => rtrim_any (w1.drewN nq) Aa m ca xa (l_a1.drewN nq))
  rw [HM.out] at ht
  go_quiet ((go_at_call 82; exact q_same (ht.out _)))
  go_wp2
  go_ret
  exact ⟨ret_bool (decide_eq_false HP.out), below_drewN bel1 _⟩
set_option maxHeartbeats 2000000 in
theorem risI_tn (w : World) (Aa : Option Addr) (na ca : Nat) (xa : List Nat) (La : Lm w Aa na ca xa) (hc : ln (val xa) ≠ na) :
    Calls Tryd.prog 62 #[.agg #[.bool true, .slice Aa na ca]] w fun e w' => e = .returned (.bool false) ∧ Below w.heap.size w w' := by
  obtain ⟨m, hm⟩ : ∃ m, ln (val xa) = m := ⟨_, rfl⟩
  rw [hm] at hc
  have he : ((m : Int) == (na : Int)) = false := by rw [beq_eq_false_iff_ne]; omega
  have HM := Lib.hid hm
  clear hm hc
  go_enter Tryd.func62, Tryd.ntmps62
  go_wp2_with fail
  obtain ⟨ga, hga⟩ : ∃ g, g = w.heap.size := ⟨_, rfl⟩
  obtain ⟨w1, hw1⟩ : ∃ v, v = (w.alloc (.cells #[.bool true, .slice Aa na ca] 24)) := ⟨_, rfl⟩
  have bel1 : Below w.heap.size w w1 := by rw [hw1]; exact bel_alloc _ _
  have b_a1 : Box w1 ga true Aa na ca := by rw [hw1, hga]; exact (Box.new _ _ _ _ _)
  rw [← hw1, ← hga]
  have hgs : w.heap.size ≤ ga := by omega
  have HG := Lib.hid hgs
  clear hw1 hgs hga
  have l_a1 := La.bel bel1
  have c_a0_1 := b_a1.c0
  have c_a1_1 := b_a1.c1
  have ht := Lib.hid (fun nq => rtrim_any (w1.drewN nq) Aa na ca xa (l_a1.drewN nq))
  rw [HM.out] at ht
  go_quiet ((go_at_call 82; exact q_same (ht.out _)))
  go_wp2
  go_ret
  exact ⟨rfl, below_drewN bel1 _⟩
theorem risI_any (w : World) (sa : Bool) (Aa : Option Addr) (na ca : Nat) (xa : List Nat) (La : Lm w Aa na ca xa) {t : Bool} (ht : (decide (lim (val xa) = xa) && !(sa && decide (na = 0))) = t) :
    Calls Tryd.prog 62 #[.agg #[.bool sa, .slice Aa na ca]] w fun e w' => e = .returned (.bool t) ∧ Below w.heap.size w w' := by
  subst ht
  rw [← is_lenI La.ok La.len]
  by_cases hc : ln (val xa) = na
  · rw [show (((ln (val xa) : Nat) : Int) == (na : Int)) = true from by rw [beq_iff_eq]; omega, Bool.true_and]
    cases sa
    · exact risI_fy w Aa na ca xa La hc
    · by_cases hz : na = 0
      · rw [decide_eq_true hz]; exact risI_tyz w Aa na ca xa La hc hz
      · rw [decide_eq_false hz]; exact risI_typ w Aa na ca xa La hc (by omega)
  · rw [show (((ln (val xa) : Nat) : Int) == (na : Int)) = false from by rw [beq_eq_false_iff_ne]; omega, Bool.false_and]
    cases sa
    · exact risI_fn w Aa na ca xa La hc
    · exact risI_tn w Aa na ca xa La hc
end Go.Proofs.YtglmnhjkmdpefaaDoor
