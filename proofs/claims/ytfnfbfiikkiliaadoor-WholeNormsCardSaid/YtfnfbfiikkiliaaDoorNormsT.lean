/- WholeNorms: whole. -/
import Derived.Test.YtfnfbfiikkiliaaDoorNormsW
import Derived.Deep.RegionHeld3
namespace Go.Proofs.YtfnfbfiikkiliaaDoor
open Go.RowKit

set_option maxRecDepth 100000 in
set_option maxHeartbeats 4000000 in
theorem norms_long0 (w : World) (sa : Bool) (Aa : Option Addr) (na ca : Nat) (sb : Bool) (Ab : Option Addr) (nb cb : Nat) (k : Nat) (hT : Tab w) (hP : ProductsT w) (hF : FarthestT w) (hl : ¬ na ≤ 24) :
    Calls Tryd.prog 6 #[.agg #[.bool sa, .slice Aa na ca], .agg #[.bool sb, .slice Ab nb cb], .int .u8 (k : Nat)] w fun e w' => e = .returned (.bool true) ∧ Below w.heap.size w w' := by
  have da := Lib.hid (decide_eq_false (show ¬ (na : Int) ≤ 24 by omega))
  have HTT := Lib.hid hT
  have HTP := Lib.hid hP
  have HTF := Lib.hid hF
  clear hT hP hF
  go_enter Tryd.func6, Tryd.ntmps6
  go_wp2_with fail
  obtain ⟨ga, hga⟩ : ∃ g, g = w.heap.size := ⟨_, rfl⟩
  obtain ⟨gb, hgb⟩ : ∃ g, g = w.heap.size + 1 := ⟨_, rfl⟩
  obtain ⟨w1, hw1⟩ : ∃ v, v = ((w.alloc (.cells #[.bool sa, .slice Aa na ca] 24)).alloc (.cells #[.bool sb, .slice Ab nb cb] 24)) := ⟨_, rfl⟩
  have bel1 : Below w.heap.size w w1 := by rw [hw1]; exact bel_alloc2 _ _ _
  have b_a1 : Box w1 ga sa Aa na ca := by rw [hw1, hga]; exact ((Box.new _ _ _ _ _).alloc _)
  have b_b1 : Box w1 gb sb Ab nb cb := by rw [hw1, hgb]; exact (Box.at1 _ _ _ _ _ _)
  rw [← hw1, ← hgb, ← hga]
  have hgs : w.heap.size ≤ ga ∧ w.heap.size ≤ gb ∧ ga ≠ gb ∧ gb ≠ ga := by omega
  have HG := Lib.hid hgs
  clear hw1 hgs hga hgb
  have t_T1 := Lib.hid (HTT.out.bel bel1)
  have t_P1 := Lib.hid (HTP.out.bel bel1)
  have t_F1 := Lib.hid (HTF.out.bel bel1)
  have c_a0_1 := b_a1.c0
  have c_a1_1 := b_a1.c1
  have c_b0_1 := b_b1.c0
  have c_b1_1 := b_b1.c1
  have cc := Lib.hid (known2_any w1 t_T1.out t_P1.out t_F1.out)
  refine cc.out.mono ?_
  clear cc
  rintro e v2 ⟨rfl, kb2⟩
  have b_a2 := b_a1.bel kb2
  have b_b2 := b_b1.bel kb2
  have t_T2 := Lib.hid (t_T1.out.bel kb2)
  have t_P2 := Lib.hid (t_P1.out.bel kb2)
  have t_F2 := Lib.hid (t_F1.out.bel kb2)
  have bel2 := bel1.trans (kb2.mono bel1.size)
  have c_a0_2 := b_a2.c0
  have c_a1_2 := b_a2.c1
  have c_b0_2 := b_b2.c0
  have c_b1_2 := b_b2.c1
  clear kb2 b_a1 c_a0_1 c_a1_1 b_b1 c_b0_1 c_b1_1 t_T1 t_P1 t_F1 bel1
  go_wp2_with fail
  have cc := Lib.hid (few2_any v2 sa Aa na ca da.out)
  refine cc.out.mono ?_
  clear cc
  rintro e v3 ⟨rfl, kb3⟩
  have b_a3 := b_a2.bel kb3
  have b_b3 := b_b2.bel kb3
  have t_T3 := Lib.hid (t_T2.out.bel kb3)
  have t_P3 := Lib.hid (t_P2.out.bel kb3)
  have t_F3 := Lib.hid (t_F2.out.bel kb3)
  have bel3 := bel2.trans (kb3.mono bel2.size)
  have c_a0_3 := b_a3.c0
  have c_a1_3 := b_a3.c1
  have c_b0_3 := b_b3.c0
  have c_b1_3 := b_b3.c1
  clear kb3 b_a2 c_a0_2 c_a1_2 b_b2 c_b0_2 c_b1_2 t_T2 t_P2 t_F2 bel2
  go_wp2
  go_ret
  exact ⟨rfl, bel3⟩
set_option maxRecDepth 100000 in
set_option maxHeartbeats 4000000 in
theorem norms_long1 (w : World) (sa : Bool) (Aa : Option Addr) (na ca : Nat) (sb : Bool) (Ab : Option Addr) (nb cb : Nat) (k : Nat) (hT : Tab w) (hP : ProductsT w) (hF : FarthestT w) (fa : na ≤ 24) (hl : ¬ nb ≤ 24) :
    Calls Tryd.prog 6 #[.agg #[.bool sa, .slice Aa na ca], .agg #[.bool sb, .slice Ab nb cb], .int .u8 (k : Nat)] w fun e w' => e = .returned (.bool true) ∧ Below w.heap.size w w' := by
  have da := Lib.hid (decide_eq_true (show (na : Int) ≤ 24 by omega))
  have db := Lib.hid (decide_eq_false (show ¬ (nb : Int) ≤ 24 by omega))
  have HTT := Lib.hid hT
  have HTP := Lib.hid hP
  have HTF := Lib.hid hF
  clear hT hP hF
  go_enter Tryd.func6, Tryd.ntmps6
  go_wp2_with fail
  obtain ⟨ga, hga⟩ : ∃ g, g = w.heap.size := ⟨_, rfl⟩
  obtain ⟨gb, hgb⟩ : ∃ g, g = w.heap.size + 1 := ⟨_, rfl⟩
  obtain ⟨w1, hw1⟩ : ∃ v, v = ((w.alloc (.cells #[.bool sa, .slice Aa na ca] 24)).alloc (.cells #[.bool sb, .slice Ab nb cb] 24)) := ⟨_, rfl⟩
  have bel1 : Below w.heap.size w w1 := by rw [hw1]; exact bel_alloc2 _ _ _
  have b_a1 : Box w1 ga sa Aa na ca := by rw [hw1, hga]; exact ((Box.new _ _ _ _ _).alloc _)
  have b_b1 : Box w1 gb sb Ab nb cb := by rw [hw1, hgb]; exact (Box.at1 _ _ _ _ _ _)
  rw [← hw1, ← hgb, ← hga]
  have hgs : w.heap.size ≤ ga ∧ w.heap.size ≤ gb ∧ ga ≠ gb ∧ gb ≠ ga := by omega
  have HG := Lib.hid hgs
  clear hw1 hgs hga hgb
  have t_T1 := Lib.hid (HTT.out.bel bel1)
  have t_P1 := Lib.hid (HTP.out.bel bel1)
  have t_F1 := Lib.hid (HTF.out.bel bel1)
  have c_a0_1 := b_a1.c0
  have c_a1_1 := b_a1.c1
  have c_b0_1 := b_b1.c0
  have c_b1_1 := b_b1.c1
  have cc := Lib.hid (known2_any w1 t_T1.out t_P1.out t_F1.out)
  refine cc.out.mono ?_
  clear cc
  rintro e v2 ⟨rfl, kb2⟩
  have b_a2 := b_a1.bel kb2
  have b_b2 := b_b1.bel kb2
  have t_T2 := Lib.hid (t_T1.out.bel kb2)
  have t_P2 := Lib.hid (t_P1.out.bel kb2)
  have t_F2 := Lib.hid (t_F1.out.bel kb2)
  have bel2 := bel1.trans (kb2.mono bel1.size)
  have c_a0_2 := b_a2.c0
  have c_a1_2 := b_a2.c1
  have c_b0_2 := b_b2.c0
  have c_b1_2 := b_b2.c1
  clear kb2 b_a1 c_a0_1 c_a1_1 b_b1 c_b0_1 c_b1_1 t_T1 t_P1 t_F1 bel1
  go_wp2_with fail
  have cc := Lib.hid (few2_any v2 sa Aa na ca da.out)
  refine cc.out.mono ?_
  clear cc
  rintro e v3 ⟨rfl, kb3⟩
  have b_a3 := b_a2.bel kb3
  have b_b3 := b_b2.bel kb3
  have t_T3 := Lib.hid (t_T2.out.bel kb3)
  have t_P3 := Lib.hid (t_P2.out.bel kb3)
  have t_F3 := Lib.hid (t_F2.out.bel kb3)
  have bel3 := bel2.trans (kb3.mono bel2.size)
  have c_a0_3 := b_a3.c0
  have c_a1_3 := b_a3.c1
  have c_b0_3 := b_b3.c0
  have c_b1_3 := b_b3.c1
  clear kb3 b_a2 c_a0_2 c_a1_2 b_b2 c_b0_2 c_b1_2 t_T2 t_P2 t_F2 bel2
  go_wp2_with fail
  have cc := Lib.hid (few2_any v3 sb Ab nb cb db.out)
  refine cc.out.mono ?_
  clear cc
  rintro e v4 ⟨rfl, kb4⟩
  have b_a4 := b_a3.bel kb4
  have b_b4 := b_b3.bel kb4
  have t_T4 := Lib.hid (t_T3.out.bel kb4)
  have t_P4 := Lib.hid (t_P3.out.bel kb4)
  have t_F4 := Lib.hid (t_F3.out.bel kb4)
  have bel4 := bel3.trans (kb4.mono bel3.size)
  have c_a0_4 := b_a4.c0
  have c_a1_4 := b_a4.c1
  have c_b0_4 := b_b4.c0
  have c_b1_4 := b_b4.c1
  clear kb4 b_a3 c_a0_3 c_a1_3 b_b3 c_b0_3 c_b1_3 t_T3 t_P3 t_F3 bel3
  go_wp2
  go_ret
  exact ⟨rfl, bel4⟩
theorem norms_top (w : World) (sa : Bool) (Aa : Option Addr) (na ca : Nat) (xa : List Nat) (ha : Arg w Aa na ca xa) (sb : Bool) (Ab : Option Addr) (nb cb : Nat) (xb : List Nat) (hb : Arg w Ab nb cb xb) (n : Int) (wn : (Lit.int .u8 n).wf = true) (hT : Tab w) (hS : SumsT w) (hP : ProductsT w) (hF : FarthestT w) :
    Calls Tryd.prog 6 #[.agg #[.bool sa, .slice Aa na ca], .agg #[.bool sb, .slice Ab nb cb], .int .u8 n] w fun e w' => e = .returned (.bool true) ∧ Below w.heap.size w w' := by
  have hn := bounds_u8 wn
  obtain ⟨k, hk, rfl⟩ : ∃ k : Nat, k ≤ 255 ∧ n = (k : Int) := ⟨n.toNat, by omega, by omega⟩
  by_cases fa : na ≤ 24
  case neg => exact norms_long0 w _ _ _ _ _ _ _ _ k hT hP hF  fa
  by_cases fb : nb ≤ 24
  case neg => exact norms_long1 w _ _ _ _ _ _ _ _ k hT hP hF fa fb
  have La := ha.lm (by omega)
  have Lb := hb.lm (by omega)
  by_cases h0 : k % 4 = 0
  · exact norms_few0 w _ _ _ _ _ La fa _ _ _ _ _ Lb fb k hk h0 hT hS hP hF
  · exact norms_few1 w _ _ _ _ _ La fa _ _ _ _ _ Lb fb k hk h0 hT hS hP hF
end Go.Proofs.YtfnfbfiikkiliaaDoor
