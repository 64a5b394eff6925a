/- WholeShifts: whole. -/
import Derived.Test.YtfnfbfiikkiliaaDoorWShiftsW
import Derived.Deep.RegionHeld3
namespace Go.Proofs.YtfnfbfiikkiliaaDoor
open Go.RowKit

set_option maxRecDepth 100000 in
set_option maxHeartbeats 4000000 in
theorem wshifts_long0 (w : World) (sa : Bool) (Aa : Option Addr) (na ca : Nat) (n v : Int) (hT : Tab w) (hP : ProductsT w) (hF : FarthestT w) (hl : ¬ na ≤ 24) :
    Calls Tryd.prog 4 #[.agg #[.bool sa, .slice Aa na ca], .int .i64 n, .int .i64 v] w fun e w' => e = .returned (.bool true) ∧ Below w.heap.size w w' := by
  have da := Lib.hid (decide_eq_false (show ¬ (na : Int) ≤ 24 by omega))
  have HTT := Lib.hid hT
  have HTP := Lib.hid hP
  have HTF := Lib.hid hF
  clear hT hP hF
  go_enter Tryd.func4, Tryd.ntmps4
  go_wp2_with fail
  obtain ⟨ga, hga⟩ : ∃ g, g = w.heap.size := ⟨_, rfl⟩
  obtain ⟨w1, hw1⟩ : ∃ v, v = (w.alloc (.cells #[.bool sa, .slice Aa na ca] 24)) := ⟨_, rfl⟩
  have bel1 : Below w.heap.size w w1 := by rw [hw1]; exact bel_alloc _ _
  have b_a1 : Box w1 ga sa Aa na ca := by rw [hw1, hga]; exact (Box.new _ _ _ _ _)
  rw [← hw1, ← hga]
  have hgs : w.heap.size ≤ ga := by omega
  have HG := Lib.hid hgs
  clear hw1 hgs hga
  have t_T1 := Lib.hid (HTT.out.bel bel1)
  have t_P1 := Lib.hid (HTP.out.bel bel1)
  have t_F1 := Lib.hid (HTF.out.bel bel1)
  have c_a0_1 := b_a1.c0
  have c_a1_1 := b_a1.c1
  have cc := Lib.hid (known2_any w1 t_T1.out t_P1.out t_F1.out)
  refine cc.out.mono ?_
  clear cc
  rintro e v2 ⟨rfl, kb2⟩
  have b_a2 := b_a1.bel kb2
  have t_T2 := Lib.hid (t_T1.out.bel kb2)
  have t_P2 := Lib.hid (t_P1.out.bel kb2)
  have t_F2 := Lib.hid (t_F1.out.bel kb2)
  have bel2 := bel1.trans (kb2.mono bel1.size)
  have c_a0_2 := b_a2.c0
  have c_a1_2 := b_a2.c1
  clear kb2 b_a1 c_a0_1 c_a1_1 t_T1 t_P1 t_F1 bel1
  go_wp2_with fail
  have cc := Lib.hid (few2_any v2 sa Aa na ca da.out)
  refine cc.out.mono ?_
  clear cc
  rintro e v3 ⟨rfl, kb3⟩
  have b_a3 := b_a2.bel kb3
  have t_T3 := Lib.hid (t_T2.out.bel kb3)
  have t_P3 := Lib.hid (t_P2.out.bel kb3)
  have t_F3 := Lib.hid (t_F2.out.bel kb3)
  have bel3 := bel2.trans (kb3.mono bel2.size)
  have c_a0_3 := b_a3.c0
  have c_a1_3 := b_a3.c1
  clear kb3 b_a2 c_a0_2 c_a1_2 t_T2 t_P2 t_F2 bel2
  go_wp2
  go_ret
  exact ⟨rfl, bel3⟩
theorem wshifts_top (w : World) (sa : Bool) (Aa : Option Addr) (na ca : Nat) (xa : List Nat) (ha : Arg w Aa na ca xa) (n : Int) (_ : (Lit.int .i64 n).wf = true) (v : Int) (wv : (Lit.int .i64 v).wf = true) (hT : Tab w) (hP : ProductsT w) (hF : FarthestT w) :
    Calls Tryd.prog 4 #[.agg #[.bool sa, .slice Aa na ca], .int .i64 n, .int .i64 v] w fun e w' => e = .returned (.bool true) ∧ Below w.heap.size w w' := by
  have hv := bounds_i64 wv
  by_cases fa : na ≤ 24
  case neg => exact wshifts_long0 w _ _ _ _ n v hT hP hF fa
  have La := ha.lm (by omega)
  by_cases h1 : n ≤ 1500
  · exact wshifts_few0 w _ _ _ _ _ La fa n v hv h1 hT hP hF
  · by_cases h2 : n ≤ 100000
    · exact wshifts_mid w _ _ _ _ fa n v ⟨by omega, h2⟩ hT hP hF
    · exact wshifts_few1 w _ _ _ _ _ La fa n v hv (by omega) hT hP hF
end Go.Proofs.YtfnfbfiikkiliaaDoor
