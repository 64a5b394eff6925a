/- WholeLaws: whole. -/
import Derived.Test.YtopkndkicdgafaaDoorLawsW
import Derived.Deep.RegionHeld3
namespace Go.Proofs.YtopkndkicdgafaaDoor
open Go.RowKit

set_option maxRecDepth 100000 in
set_option maxHeartbeats 4000000 in
theorem laws_long0 (w : World) (sa : Bool) (Aa : Option Addr) (na ca : Nat) (sb : Bool) (Ab : Option Addr) (nb cb : Nat) (sc : Bool) (Ac : Option Addr) (nc cc : Nat) (hT : Tab w) (hP : ProductsT w) (hF : FarthestT w) (hl : ¬ na ≤ 24) :
    Calls Tryd.prog 12 #[.agg #[.bool sa, .slice Aa na ca], .agg #[.bool sb, .slice Ab nb cb], .agg #[.bool sc, .slice Ac nc cc]] w fun e w' => e = .returned (.bool true) ∧ Below w.heap.size w w' := by
  have da := Lib.hid (decide_eq_false (show ¬ (na : Int) ≤ 24 by omega))
  have HTT := Lib.hid hT
  have HTP := Lib.hid hP
  have HTF := Lib.hid hF
  clear hT hP hF
  go_enter Tryd.func12, Tryd.ntmps12
  go_wp2_with fail
  obtain ⟨ga, hga⟩ : ∃ g, g = w.heap.size := ⟨_, rfl⟩
  obtain ⟨gb, hgb⟩ : ∃ g, g = w.heap.size + 1 := ⟨_, rfl⟩
  obtain ⟨gc, hgc⟩ : ∃ g, g = w.heap.size + 2 := ⟨_, rfl⟩
  obtain ⟨w1, hw1⟩ : ∃ v, v = (((w.alloc (.cells #[.bool sa, .slice Aa na ca] 43)).alloc (.cells #[.bool sb, .slice Ab nb cb] 43)).alloc (.cells #[.bool sc, .slice Ac nc cc] 43)) := ⟨_, rfl⟩
  have bel1 : Below w.heap.size w w1 := by rw [hw1]; exact bel_alloc3 _ _ _ _
  have b_a1 : Box w1 ga sa Aa na ca := by rw [hw1, hga]; exact (((Box.new _ _ _ _ _).alloc _).alloc _)
  have b_b1 : Box w1 gb sb Ab nb cb := by rw [hw1, hgb]; exact ((Box.at1 _ _ _ _ _ _).alloc _)
  have b_c1 : Box w1 gc sc Ac nc cc := by rw [hw1, hgc]; exact (Box.at2 _ _ _ _ _ _ _)
  rw [← hw1, ← hgc, ← hgb, ← hga]
  have hgs : w.heap.size ≤ ga ∧ w.heap.size ≤ gb ∧ w.heap.size ≤ gc ∧ ga ≠ gb ∧ ga ≠ gc ∧ gb ≠ ga ∧ gb ≠ gc ∧ gc ≠ ga ∧ gc ≠ gb := by omega
  have HG := Lib.hid hgs
  clear hw1 hgs hga hgb hgc
  have t_T1 := Lib.hid (HTT.out.bel bel1)
  have t_P1 := Lib.hid (HTP.out.bel bel1)
  have t_F1 := Lib.hid (HTF.out.bel bel1)
  have c_a0_1 := b_a1.c0
  have c_a1_1 := b_a1.c1
  have c_b0_1 := b_b1.c0
  have c_b1_1 := b_b1.c1
  have c_c0_1 := b_c1.c0
  have c_c1_1 := b_c1.c1
  have cc := Lib.hid (known2_any w1 t_T1.out t_P1.out t_F1.out)
  refine cc.out.mono ?_
  clear cc
  rintro e v2 ⟨rfl, kb2⟩
  have b_a2 := b_a1.bel kb2
  have b_b2 := b_b1.bel kb2
  have b_c2 := b_c1.bel kb2
  have t_T2 := Lib.hid (t_T1.out.bel kb2)
  have t_P2 := Lib.hid (t_P1.out.bel kb2)
  have t_F2 := Lib.hid (t_F1.out.bel kb2)
  have bel2 := bel1.trans (kb2.mono bel1.size)
  have c_a0_2 := b_a2.c0
  have c_a1_2 := b_a2.c1
  have c_b0_2 := b_b2.c0
  have c_b1_2 := b_b2.c1
  have c_c0_2 := b_c2.c0
  have c_c1_2 := b_c2.c1
  clear kb2 b_a1 c_a0_1 c_a1_1 b_b1 c_b0_1 c_b1_1 b_c1 c_c0_1 c_c1_1 t_T1 t_P1 t_F1 bel1
  go_wp2_with fail
  have cc := Lib.hid (few2_any v2 sa Aa na ca da.out)
  refine cc.out.mono ?_
  clear cc
  rintro e v3 ⟨rfl, kb3⟩
  have b_a3 := b_a2.bel kb3
  have b_b3 := b_b2.bel kb3
  have b_c3 := b_c2.bel kb3
  have t_T3 := Lib.hid (t_T2.out.bel kb3)
  have t_P3 := Lib.hid (t_P2.out.bel kb3)
  have t_F3 := Lib.hid (t_F2.out.bel kb3)
  have bel3 := bel2.trans (kb3.mono bel2.size)
  have c_a0_3 := b_a3.c0
  have c_a1_3 := b_a3.c1
  have c_b0_3 := b_b3.c0
  have c_b1_3 := b_b3.c1
  have c_c0_3 := b_c3.c0
  have c_c1_3 := b_c3.c1
  clear kb3 b_a2 c_a0_2 c_a1_2 b_b2 c_b0_2 c_b1_2 b_c2 c_c0_2 c_c1_2 t_T2 t_P2 t_F2 bel2
  go_wp2
  go_ret
  exact ⟨rfl, bel3⟩
set_option maxRecDepth 100000 in
set_option maxHeartbeats 4000000 in
theorem laws_long1 (w : World) (sa : Bool) (Aa : Option Addr) (na ca : Nat) (sb : Bool) (Ab : Option Addr) (nb cb : Nat) (sc : Bool) (Ac : Option Addr) (nc cc : Nat) (hT : Tab w) (hP : ProductsT w) (hF : FarthestT w) (fa : na ≤ 24) (hl : ¬ nb ≤ 24) :
    Calls Tryd.prog 12 #[.agg #[.bool sa, .slice Aa na ca], .agg #[.bool sb, .slice Ab nb cb], .agg #[.bool sc, .slice Ac nc cc]] w fun e w' => e = .returned (.bool true) ∧ Below w.heap.size w w' := by
  have da := Lib.hid (decide_eq_true (show (na : Int) ≤ 24 by omega))
  have db := Lib.hid (decide_eq_false (show ¬ (nb : Int) ≤ 24 by omega))
  have HTT := Lib.hid hT
  have HTP := Lib.hid hP
  have HTF := Lib.hid hF
  clear hT hP hF
  go_enter Tryd.func12, Tryd.ntmps12
  go_wp2_with fail
  obtain ⟨ga, hga⟩ : ∃ g, g = w.heap.size := ⟨_, rfl⟩
  obtain ⟨gb, hgb⟩ : ∃ g, g = w.heap.size + 1 := ⟨_, rfl⟩
  obtain ⟨gc, hgc⟩ : ∃ g, g = w.heap.size + 2 := ⟨_, rfl⟩
  obtain ⟨w1, hw1⟩ : ∃ v, v = (((w.alloc (.cells #[.bool sa, .slice Aa na ca] 43)).alloc (.cells #[.bool sb, .slice Ab nb cb] 43)).alloc (.cells #[.bool sc, .slice Ac nc cc] 43)) := ⟨_, rfl⟩
  have bel1 : Below w.heap.size w w1 := by rw [hw1]; exact bel_alloc3 _ _ _ _
  have b_a1 : Box w1 ga sa Aa na ca := by rw [hw1, hga]; exact (((Box.new _ _ _ _ _).alloc _).alloc _)
  have b_b1 : Box w1 gb sb Ab nb cb := by rw [hw1, hgb]; exact ((Box.at1 _ _ _ _ _ _).alloc _)
  have b_c1 : Box w1 gc sc Ac nc cc := by rw [hw1, hgc]; exact (Box.at2 _ _ _ _ _ _ _)
  rw [← hw1, ← hgc, ← hgb, ← hga]
  have hgs : w.heap.size ≤ ga ∧ w.heap.size ≤ gb ∧ w.heap.size ≤ gc ∧ ga ≠ gb ∧ ga ≠ gc ∧ gb ≠ ga ∧ gb ≠ gc ∧ gc ≠ ga ∧ gc ≠ gb := by omega
  have HG := Lib.hid hgs
  clear hw1 hgs hga hgb hgc
  have t_T1 := Lib.hid (HTT.out.bel bel1)
  have t_P1 := Lib.hid (HTP.out.bel bel1)
  have t_F1 := Lib.hid (HTF.out.bel bel1)
  have c_a0_1 := b_a1.c0
  have c_a1_1 := b_a1.c1
  have c_b0_1 := b_b1.c0
  have c_b1_1 := b_b1.c1
  have c_c0_1 := b_c1.c0
  have c_c1_1 := b_c1.c1
  have cc := Lib.hid (known2_any w1 t_T1.out t_P1.out t_F1.out)
  refine cc.out.mono ?_
  clear cc
  rintro e v2 ⟨rfl, kb2⟩
  have b_a2 := b_a1.bel kb2
  have b_b2 := b_b1.bel kb2
  have b_c2 := b_c1.bel kb2
  have t_T2 := Lib.hid (t_T1.out.bel kb2)
  have t_P2 := Lib.hid (t_P1.out.bel kb2)
  have t_F2 := Lib.hid (t_F1.out.bel kb2)
  have bel2 := bel1.trans (kb2.mono bel1.size)
  have c_a0_2 := b_a2.c0
  have c_a1_2 := b_a2.c1
  have c_b0_2 := b_b2.c0
  have c_b1_2 := b_b2.c1
  have c_c0_2 := b_c2.c0
  have c_c1_2 := b_c2.c1
  clear kb2 b_a1 c_a0_1 c_a1_1 b_b1 c_b0_1 c_b1_1 b_c1 c_c0_1 c_c1_1 t_T1 t_P1 t_F1 bel1
  go_wp2_with fail
  have cc := Lib.hid (few2_any v2 sa Aa na ca da.out)
  refine cc.out.mono ?_
  clear cc
  rintro e v3 ⟨rfl, kb3⟩
  have b_a3 := b_a2.bel kb3
  have b_b3 := b_b2.bel kb3
  have b_c3 := b_c2.bel kb3
  have t_T3 := Lib.hid (t_T2.out.bel kb3)
  have t_P3 := Lib.hid (t_P2.out.bel kb3)
  have t_F3 := Lib.hid (t_F2.out.bel kb3)
  have bel3 := bel2.trans (kb3.mono bel2.size)
  have c_a0_3 := b_a3.c0
  have c_a1_3 := b_a3.c1
  have c_b0_3 := b_b3.c0
  have c_b1_3 := b_b3.c1
  have c_c0_3 := b_c3.c0
  have c_c1_3 := b_c3.c1
  clear kb3 b_a2 c_a0_2 c_a1_2 b_b2 c_b0_2 c_b1_2 b_c2 c_c0_2 c_c1_2 t_T2 t_P2 t_F2 bel2
  go_wp2_with fail
  have cc := Lib.hid (few2_any v3 sb Ab nb cb db.out)
  refine cc.out.mono ?_
  clear cc
  rintro e v4 ⟨rfl, kb4⟩
  have b_a4 := b_a3.bel kb4
  have b_b4 := b_b3.bel kb4
  have b_c4 := b_c3.bel kb4
  have t_T4 := Lib.hid (t_T3.out.bel kb4)
  have t_P4 := Lib.hid (t_P3.out.bel kb4)
  have t_F4 := Lib.hid (t_F3.out.bel kb4)
  have bel4 := bel3.trans (kb4.mono bel3.size)
  have c_a0_4 := b_a4.c0
  have c_a1_4 := b_a4.c1
  have c_b0_4 := b_b4.c0
  have c_b1_4 := b_b4.c1
  have c_c0_4 := b_c4.c0
  have c_c1_4 := b_c4.c1
  clear kb4 b_a3 c_a0_3 c_a1_3 b_b3 c_b0_3 c_b1_3 b_c3 c_c0_3 c_c1_3 t_T3 t_P3 t_F3 bel3
  go_wp2
  go_ret
  exact ⟨rfl, bel4⟩
set_option maxRecDepth 100000 in
set_option maxHeartbeats 4000000 in
theorem laws_long2 (w : World) (sa : Bool) (Aa : Option Addr) (na ca : Nat) (sb : Bool) (Ab : Option Addr) (nb cb : Nat) (sc : Bool) (Ac : Option Addr) (nc cc : Nat) (hT : Tab w) (hP : ProductsT w) (hF : FarthestT w) (fa : na ≤ 24) (fb : nb ≤ 24) (hl : ¬ nc ≤ 24) :
    Calls Tryd.prog 12 #[.agg #[.bool sa, .slice Aa na ca], .agg #[.bool sb, .slice Ab nb cb], .agg #[.bool sc, .slice Ac nc cc]] w fun e w' => e = .returned (.bool true) ∧ Below w.heap.size w w' := by
  have da := Lib.hid (decide_eq_true (show (na : Int) ≤ 24 by omega))
  have db := Lib.hid (decide_eq_true (show (nb : Int) ≤ 24 by omega))
  have dc := Lib.hid (decide_eq_false (show ¬ (nc : Int) ≤ 24 by omega))
  have HTT := Lib.hid hT
  have HTP := Lib.hid hP
  have HTF := Lib.hid hF
  clear hT hP hF
  go_enter Tryd.func12, Tryd.ntmps12
  go_wp2_with fail
  obtain ⟨ga, hga⟩ : ∃ g, g = w.heap.size := ⟨_, rfl⟩
  obtain ⟨gb, hgb⟩ : ∃ g, g = w.heap.size + 1 := ⟨_, rfl⟩
  obtain ⟨gc, hgc⟩ : ∃ g, g = w.heap.size + 2 := ⟨_, rfl⟩
  obtain ⟨w1, hw1⟩ : ∃ v, v = (((w.alloc (.cells #[.bool sa, .slice Aa na ca] 43)).alloc (.cells #[.bool sb, .slice Ab nb cb] 43)).alloc (.cells #[.bool sc, .slice Ac nc cc] 43)) := ⟨_, rfl⟩
  have bel1 : Below w.heap.size w w1 := by rw [hw1]; exact bel_alloc3 _ _ _ _
  have b_a1 : Box w1 ga sa Aa na ca := by rw [hw1, hga]; exact (((Box.new _ _ _ _ _).alloc _).alloc _)
  have b_b1 : Box w1 gb sb Ab nb cb := by rw [hw1, hgb]; exact ((Box.at1 _ _ _ _ _ _).alloc _)
  have b_c1 : Box w1 gc sc Ac nc cc := by rw [hw1, hgc]; exact (Box.at2 _ _ _ _ _ _ _)
  rw [← hw1, ← hgc, ← hgb, ← hga]
  have hgs : w.heap.size ≤ ga ∧ w.heap.size ≤ gb ∧ w.heap.size ≤ gc ∧ ga ≠ gb ∧ ga ≠ gc ∧ gb ≠ ga ∧ gb ≠ gc ∧ gc ≠ ga ∧ gc ≠ gb := by omega
  have HG := Lib.hid hgs
  clear hw1 hgs hga hgb hgc
  have t_T1 := Lib.hid (HTT.out.bel bel1)
  have t_P1 := Lib.hid (HTP.out.bel bel1)
  have t_F1 := Lib.hid (HTF.out.bel bel1)
  have c_a0_1 := b_a1.c0
  have c_a1_1 := b_a1.c1
  have c_b0_1 := b_b1.c0
  have c_b1_1 := b_b1.c1
  have c_c0_1 := b_c1.c0
  have c_c1_1 := b_c1.c1
  have cc := Lib.hid (known2_any w1 t_T1.out t_P1.out t_F1.out)
  refine cc.out.mono ?_
  clear cc
  rintro e v2 ⟨rfl, kb2⟩
  have b_a2 := b_a1.bel kb2
  have b_b2 := b_b1.bel kb2
  have b_c2 := b_c1.bel kb2
  have t_T2 := Lib.hid (t_T1.out.bel kb2)
  have t_P2 := Lib.hid (t_P1.out.bel kb2)
  have t_F2 := Lib.hid (t_F1.out.bel kb2)
  have bel2 := bel1.trans (kb2.mono bel1.size)
  have c_a0_2 := b_a2.c0
  have c_a1_2 := b_a2.c1
  have c_b0_2 := b_b2.c0
  have c_b1_2 := b_b2.c1
  have c_c0_2 := b_c2.c0
  have c_c1_2 := b_c2.c1
  clear kb2 b_a1 c_a0_1 c_a1_1 b_b1 c_b0_1 c_b1_1 b_c1 c_c0_1 c_c1_1 t_T1 t_P1 t_F1 bel1
  go_wp2_with fail
  have cc := Lib.hid (few2_any v2 sa Aa na ca da.out)
  refine cc.out.mono ?_
  clear cc
  rintro e v3 ⟨rfl, kb3⟩
  have b_a3 := b_a2.bel kb3
  have b_b3 := b_b2.bel kb3
  have b_c3 := b_c2.bel kb3
  have t_T3 := Lib.hid (t_T2.out.bel kb3)
  have t_P3 := Lib.hid (t_P2.out.bel kb3)
  have t_F3 := Lib.hid (t_F2.out.bel kb3)
  have bel3 := bel2.trans (kb3.mono bel2.size)
  have c_a0_3 := b_a3.c0
  have c_a1_3 := b_a3.c1
  have c_b0_3 := b_b3.c0
  have c_b1_3 := b_b3.c1
  have c_c0_3 := b_c3.c0
  have c_c1_3 := b_c3.c1
  clear kb3 b_a2 c_a0_2 c_a1_2 b_b2 c_b0_2 c_b1_2 b_c2 c_c0_2 c_c1_2 t_T2 t_P2 t_F2 bel2
  go_wp2_with fail
  have cc := Lib.hid (few2_any v3 sb Ab nb cb db.out)
  refine cc.out.mono ?_
  clear cc
  rintro e v4 ⟨rfl, kb4⟩
  have b_a4 := b_a3.bel kb4
  have b_b4 := b_b3.bel kb4
  have b_c4 := b_c3.bel kb4
  have t_T4 := Lib.hid (t_T3.out.bel kb4)
  have t_P4 := Lib.hid (t_P3.out.bel kb4)
  have t_F4 := Lib.hid (t_F3.out.bel kb4)
  have bel4 := bel3.trans (kb4.mono bel3.size)
  have c_a0_4 := b_a4.c0
  have c_a1_4 := b_a4.c1
  have c_b0_4 := b_b4.c0
  have c_b1_4 := b_b4.c1
  have c_c0_4 := b_c4.c0
  have c_c1_4 := b_c4.c1
  clear kb4 b_a3 c_a0_3 c_a1_3 b_b3 c_b0_3 c_b1_3 b_c3 c_c0_3 c_c1_3 t_T3 t_P3 t_F3 bel3
  go_wp2_with fail
  have cc := Lib.hid (few2_any v4 sc Ac nc cc dc.out)
  refine cc.out.mono ?_
  clear cc
  rintro e v5 ⟨rfl, kb5⟩
  have b_a5 := b_a4.bel kb5
  have b_b5 := b_b4.bel kb5
  have b_c5 := b_c4.bel kb5
  have t_T5 := Lib.hid (t_T4.out.bel kb5)
  have t_P5 := Lib.hid (t_P4.out.bel kb5)
  have t_F5 := Lib.hid (t_F4.out.bel kb5)
  have bel5 := bel4.trans (kb5.mono bel4.size)
  have c_a0_5 := b_a5.c0
  have c_a1_5 := b_a5.c1
  have c_b0_5 := b_b5.c0
  have c_b1_5 := b_b5.c1
  have c_c0_5 := b_c5.c0
  have c_c1_5 := b_c5.c1
  clear kb5 b_a4 c_a0_4 c_a1_4 b_b4 c_b0_4 c_b1_4 b_c4 c_c0_4 c_c1_4 t_T4 t_P4 t_F4 bel4
  go_wp2
  go_ret
  exact ⟨rfl, bel5⟩
theorem laws_top (w : World) (sa : Bool) (Aa : Option Addr) (na ca : Nat) (xa : List Nat) (ha : Arg w Aa na ca xa) (sb : Bool) (Ab : Option Addr) (nb cb : Nat) (xb : List Nat) (hb : Arg w Ab nb cb xb) (sc : Bool) (Ac : Option Addr) (nc cc : Nat) (xc : List Nat) (hc : Arg w Ac nc cc xc) (hT : Tab w) (hS : SumsT w) (hP : ProductsT w) (hF : FarthestT w) :
    Calls Tryd.prog 12 #[.agg #[.bool sa, .slice Aa na ca], .agg #[.bool sb, .slice Ab nb cb], .agg #[.bool sc, .slice Ac nc cc]] w fun e w' => e = .returned (.bool true) ∧ Below w.heap.size w w' := by
  by_cases fa : na ≤ 24
  case neg => exact laws_long0 w _ _ _ _ _ _ _ _ _ _ _ _ hT hP hF  fa
  by_cases fb : nb ≤ 24
  case neg => exact laws_long1 w _ _ _ _ _ _ _ _ _ _ _ _ hT hP hF fa fb
  by_cases fc : nc ≤ 24
  case neg => exact laws_long2 w _ _ _ _ _ _ _ _ _ _ _ _ hT hP hF fa fb fc
  exact laws_few w _ _ _ _ _ (ha.lm (by omega)) fa _ _ _ _ _ (hb.lm (by omega)) fb _ _ _ _ _ (hc.lm (by omega)) fc hT hS hP hF
end Go.Proofs.YtopkndkicdgafaaDoor
