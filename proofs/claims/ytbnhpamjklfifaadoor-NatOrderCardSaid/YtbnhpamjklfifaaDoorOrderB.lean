/- NatOrder: the whole walk. -/
import Derived.Test.YtbnhpamjklfifaaDoorOrderA
import Derived.Test.YtbnhpamjklfifaaDoorArg
namespace Go.Proofs.YtbnhpamjklfifaaDoor
open Go.RowKit

set_option maxHeartbeats 1000000 in
theorem order_long0 (w : World) (A0 : Option Addr) (n0 c0 : Nat) (A1 : Option Addr) (n1 c1 : Nat) (A2 : Option Addr) (n2 c2 : Nat) (k : Int) (hT : Tab w) (hl : ¬ n0 ≤ 24) :
    Calls Tryd.prog 8 #[.slice A0 n0 c0, .slice A1 n1 c1, .slice A2 n2 c2, .int .u8 k] w fun e w' => e = .returned (.bool true) ∧ Below w.heap.size w w' := by
  have hkn := Lib.hid (known_any w hT)
  clear hT
  go_enter Tryd.func8, Tryd.ntmps8
  go_wp2_with fail
  refine hkn.out.mono ?_
  clear hkn
  rintro e w1 ⟨rfl, hb⟩
  go_wp2_with (go_at_call 11; refine (few_any _ _ _ _).mono ?_; rintro e w' ⟨rfl, rfl⟩)
  go_ret
  exact ⟨rfl, hb⟩
set_option maxHeartbeats 1000000 in
theorem order_long1 (w : World) (A0 : Option Addr) (n0 c0 : Nat) (A1 : Option Addr) (n1 c1 : Nat) (A2 : Option Addr) (n2 c2 : Nat) (k : Int) (hT : Tab w) (f0 : n0 ≤ 24) (hl : ¬ n1 ≤ 24) :
    Calls Tryd.prog 8 #[.slice A0 n0 c0, .slice A1 n1 c1, .slice A2 n2 c2, .int .u8 k] w fun e w' => e = .returned (.bool true) ∧ Below w.heap.size w w' := by
  have hkn := Lib.hid (known_any w hT)
  clear hT
  go_enter Tryd.func8, Tryd.ntmps8
  go_wp2_with fail
  refine hkn.out.mono ?_
  clear hkn
  rintro e w1 ⟨rfl, hb⟩
  go_wp2_with (go_at_call 11; refine (few_any _ _ _ _).mono ?_; rintro e w' ⟨rfl, rfl⟩)
  go_ret
  exact ⟨rfl, hb⟩
set_option maxHeartbeats 1000000 in
theorem order_long2 (w : World) (A0 : Option Addr) (n0 c0 : Nat) (A1 : Option Addr) (n1 c1 : Nat) (A2 : Option Addr) (n2 c2 : Nat) (k : Int) (hT : Tab w) (f0 : n0 ≤ 24) (f1 : n1 ≤ 24) (hl : ¬ n2 ≤ 24) :
    Calls Tryd.prog 8 #[.slice A0 n0 c0, .slice A1 n1 c1, .slice A2 n2 c2, .int .u8 k] w fun e w' => e = .returned (.bool true) ∧ Below w.heap.size w w' := by
  have hkn := Lib.hid (known_any w hT)
  clear hT
  go_enter Tryd.func8, Tryd.ntmps8
  go_wp2_with fail
  refine hkn.out.mono ?_
  clear hkn
  rintro e w1 ⟨rfl, hb⟩
  go_wp2_with (go_at_call 11; refine (few_any _ _ _ _).mono ?_; rintro e w' ⟨rfl, rfl⟩)
  go_ret
  exact ⟨rfl, hb⟩
theorem order_top (w : World) (A0 : Option Addr) (n0 c0 : Nat) (x0 : List Nat) (h0 : Arg w A0 n0 c0 x0) (A1 : Option Addr) (n1 c1 : Nat) (x1 : List Nat) (h1 : Arg w A1 n1 c1 x1) (A2 : Option Addr) (n2 c2 : Nat) (x2 : List Nat) (h2 : Arg w A2 n2 c2 x2) (k : Int) (hk : (Lit.int .u8 k).wf = true) (hT : Tab w) :
    Calls Tryd.prog 8 #[.slice A0 n0 c0, .slice A1 n1 c1, .slice A2 n2 c2, .int .u8 k] w fun e w' => e = .returned (.bool true) ∧ Below w.heap.size w w' := by
  have hb := bounds_u8 hk
  obtain ⟨k, rfl⟩ := Int.eq_ofNat_of_zero_le hb.1
  by_cases f0 : n0 ≤ 24
  case neg => exact order_long0 w _ _ _ _ _ _ _ _ _ _ hT f0
  by_cases f1 : n1 ≤ 24
  case neg => exact order_long1 w _ _ _ _ _ _ _ _ _ _ hT f0 f1
  by_cases f2 : n2 ≤ 24
  case neg => exact order_long2 w _ _ _ _ _ _ _ _ _ _ hT f0 f1 f2
  rcases (by have := cmpN_range (val x0) (val x1); omega : cmpN (val x0) (val x1) = -1 ∨ cmpN (val x0) (val x1) = 0 ∨ cmpN (val x0) (val x1) = 1) with hx | hx | hx
  · by_cases hy : cmpN (val x1) (val x2) = -1
    · exact order_lt_eq w _ _ _ _ _ _ _ _ _ _ _ _ k (h0.lm (by omega)) (h1.lm (by omega)) (h2.lm (by omega)) (by omega) hT f0 f1 f2 hx hy
    · exact order_lt_ne w _ _ _ _ _ _ _ _ _ _ _ _ k (h0.lm (by omega)) (h1.lm (by omega)) (h2.lm (by omega)) (by omega) hT f0 f1 f2 hx _ rfl (by rw [bne_iff_ne]; omega)
  · by_cases hy : cmpN (val x1) (val x2) = 0
    · exact order_eq_eq w _ _ _ _ _ _ _ _ _ _ _ _ k (h0.lm (by omega)) (h1.lm (by omega)) (h2.lm (by omega)) (by omega) hT f0 f1 f2 hx hy
    · exact order_eq_ne w _ _ _ _ _ _ _ _ _ _ _ _ k (h0.lm (by omega)) (h1.lm (by omega)) (h2.lm (by omega)) (by omega) hT f0 f1 f2 hx _ rfl (by rw [bne_iff_ne]; omega)
  · by_cases hy : cmpN (val x1) (val x2) = 1
    · exact order_gt_eq w _ _ _ _ _ _ _ _ _ _ _ _ k (h0.lm (by omega)) (h1.lm (by omega)) (h2.lm (by omega)) (by omega) hT f0 f1 f2 hx hy
    · exact order_gt_ne w _ _ _ _ _ _ _ _ _ _ _ _ k (h0.lm (by omega)) (h1.lm (by omega)) (h2.lm (by omega)) (by omega) hT f0 f1 f2 hx _ rfl (by rw [bne_iff_ne]; omega)
end Go.Proofs.YtbnhpamjklfifaaDoor
