/- NatShifts: the walk. -/
import Derived.Test.YtbnhpamjklfifaaDoorOrderW
import Derived.Test.YtbnhpamjklfifaaDoorLawWords
import Derived.Test.YtbnhpamjklfifaaDoorArg
import Derived.Test.YtbnhpamjklfifaaDoorRefD
import Derived.Test.YtbnhpamjklfifaaDoorRefE
import Derived.Test.YtbnhpamjklfifaaDoorRefG
namespace Go.Proofs.YtbnhpamjklfifaaDoor
open Go.RowKit

set_option maxHeartbeats 4000000 in
theorem shifts_small (w : World) (Aa : Option Addr) (na ca : Nat) (xa : List Nat) (La : Lm w Aa na ca xa) (fa : na ≤ 24) (k : Int) (hk : k ≤ 2000) (hT : Tab w) :
    Calls Tryd.prog 4 #[.slice Aa na ca, .int .i64 k] w fun e w' => e = .returned (.bool true) ∧ Below w.heap.size w w' := by
  have hkn := Lib.hid (known_any w hT)
  go_enter Tryd.func4, Tryd.ntmps4
  go_wp2_with fail
  refine hkn.out.mono ?_
  clear hkn
  rintro e w1 ⟨rfl, hb⟩
  have a1 := La.bel hb
  have hT1 := Lib.hid (hT.bel hb)
  clear La hT
  go_wp2_with (go_at_call 11; refine (few_any _ _ _ _).mono ?_; rintro e w' ⟨rfl, rfl⟩)
  go_wp2_with fail
  have cc := Lib.hid (shl_any w1 _ _ _ _ k a1 (by omega))
  refine cc.out.mono ?_
  clear cc
  rintro e v2 ⟨S1, m1, d1, rfl, s1, hm1, hb2⟩
  have a_2 := a1.bel hb2
  have HT_2 := Lib.hid (hT1.out.bel hb2)
  have B_2 := hb.trans (hb2.mono hb.size)
  clear hb2 a1 hT1 hb
  go_wp2_with fail
  have cc := Lib.hid (rshl_any v2 _ _ _ _ k a_2 (by omega))
  refine cc.out.mono ?_
  clear cc
  rintro e v3 ⟨S2, m2, d2, rfl, s2, hm2, hb3⟩
  have a_3 := a_2.bel hb3
  have s1_3 := s1.bel hb3
  have HT_3 := Lib.hid (HT_2.out.bel hb3)
  have B_3 := B_2.trans (hb3.mono B_2.size)
  clear hb3 a_2 s1 HT_2 B_2
  go_wp2_with fail
  have cc := Lib.hid (same_bel v3 _ _ _ _ _ _ _ _ s1_3 s2)
  refine cc.out.mono ?_
  clear cc
  rw [dec_same rfl]
  rintro e v4 ⟨rfl, hb4⟩
  have a_4 := a_3.bel hb4
  have s1_4 := s1_3.bel hb4
  have s2_4 := s2.bel hb4
  have HT_4 := Lib.hid (HT_3.out.bel hb4)
  have B_4 := B_3.trans (hb4.mono B_3.size)
  clear hb4 a_3 s1_3 s2 HT_3 B_3
  clear s1_4
  clear s2_4
  go_wp2_with fail
  have cc := Lib.hid (shr_any v4 _ _ _ _ k a_4 (by omega))
  refine cc.out.mono ?_
  clear cc
  rintro e v5 ⟨S3, m3, d3, rfl, s3, hm3, hb5⟩
  have a_5 := a_4.bel hb5
  have HT_5 := Lib.hid (HT_4.out.bel hb5)
  have B_5 := B_4.trans (hb5.mono B_4.size)
  clear hb5 a_4 HT_4 B_4
  go_wp2_with fail
  have cc := Lib.hid (rshr_any v5 _ _ _ _ k a_5 (by omega))
  refine cc.out.mono ?_
  clear cc
  rintro e v6 ⟨S4, m4, d4, rfl, s4, hm4, hb6⟩
  have a_6 := a_5.bel hb6
  have s3_6 := s3.bel hb6
  have HT_6 := Lib.hid (HT_5.out.bel hb6)
  have B_6 := B_5.trans (hb6.mono B_5.size)
  clear hb6 a_5 s3 HT_5 B_5
  go_wp2_with fail
  have cc := Lib.hid (same_bel v6 _ _ _ _ _ _ _ _ s3_6 s4)
  refine cc.out.mono ?_
  clear cc
  rw [dec_same rfl]
  rintro e v7 ⟨rfl, hb7⟩
  have a_7 := a_6.bel hb7
  have s3_7 := s3_6.bel hb7
  have s4_7 := s4.bel hb7
  have HT_7 := Lib.hid (HT_6.out.bel hb7)
  have B_7 := B_6.trans (hb7.mono B_6.size)
  clear hb7 a_6 s3_6 s4 HT_6 B_6
  clear s3_7
  clear s4_7
  go_wp2_with fail
  have cc := Lib.hid (bits_any v7 _ _ _ _ a_7)
  refine cc.out.mono ?_
  clear cc
  rintro e w' ⟨rfl, rfl⟩
  go_wp2_with fail
  have cc := Lib.hid (rbits_any v7 _ _ _ _ a_7)
  refine cc.out.mono ?_
  clear cc
  rintro e w' ⟨rfl, rfl⟩
  go_wp2_with fail
  have cc := Lib.hid (low_any v7 _ _ _ _ a_7 HT_7.out)
  refine cc.out.mono ?_
  clear cc
  rintro e w' ⟨rfl, rfl⟩
  go_wp2_with fail
  have cc := Lib.hid (rlow_any v7 _ _ _ _ a_7)
  refine cc.out.mono ?_
  clear cc
  rintro e w' ⟨rfl, rfl⟩
  go_wp2_with fail
  have cc := Lib.hid (root_any v7 _ _ _ _ a_7 (by omega))
  refine cc.out.mono ?_
  clear cc
  rintro e v8 ⟨S5, m5, d5, rfl, s5, hm5, hb8⟩
  have a_8 := a_7.bel hb8
  have HT_8 := Lib.hid (HT_7.out.bel hb8)
  have B_8 := B_7.trans (hb8.mono B_7.size)
  clear hb8 a_7 HT_7 B_7
  go_wp2_with fail
  have cc := Lib.hid (rroot_any v8 _ _ _ _ a_8 (by omega))
  refine cc.out.mono ?_
  clear cc
  rintro e v9 ⟨S6, m6, d6, rfl, s6, hm6, hb9⟩
  have a_9 := a_8.bel hb9
  have s5_9 := s5.bel hb9
  have HT_9 := Lib.hid (HT_8.out.bel hb9)
  have B_9 := B_8.trans (hb9.mono B_8.size)
  clear hb9 a_8 s5 HT_8 B_8
  go_wp2_with fail
  have cc := Lib.hid (same_bel v9 _ _ _ _ _ _ _ _ s5_9 s6)
  refine cc.out.mono ?_
  clear cc
  rw [dec_same rfl]
  rintro e v10 ⟨rfl, hb10⟩
  have a_10 := a_9.bel hb10
  have s5_10 := s5_9.bel hb10
  have s6_10 := s6.bel hb10
  have HT_10 := Lib.hid (HT_9.out.bel hb10)
  have B_10 := B_9.trans (hb10.mono B_9.size)
  clear hb10 a_9 s5_9 s6 HT_9 B_9
  go_wp2
  go_ret
  exact ⟨rfl, B_10⟩
set_option maxHeartbeats 4000000 in
theorem shifts_big (w : World) (Aa : Option Addr) (na ca : Nat) (xa : List Nat) (La : Lm w Aa na ca xa) (fa : na ≤ 24) (k : Int) (hk : 100000 < k) (hT : Tab w) :
    Calls Tryd.prog 4 #[.slice Aa na ca, .int .i64 k] w fun e w' => e = .returned (.bool true) ∧ Below w.heap.size w w' := by
  have hkn := Lib.hid (known_any w hT)
  go_enter Tryd.func4, Tryd.ntmps4
  go_wp2_with fail
  refine hkn.out.mono ?_
  clear hkn
  rintro e w1 ⟨rfl, hb⟩
  have a1 := La.bel hb
  have hT1 := Lib.hid (hT.bel hb)
  clear La hT
  go_wp2_with (go_at_call 11; refine (few_any _ _ _ _).mono ?_; rintro e w' ⟨rfl, rfl⟩)
  go_wp2_with fail
  have cc := Lib.hid (shl_any w1 _ _ _ _ k a1 (by omega))
  refine cc.out.mono ?_
  clear cc
  rintro e v2 ⟨S1, m1, d1, rfl, s1, hm1, hb2⟩
  have a_2 := a1.bel hb2
  have HT_2 := Lib.hid (hT1.out.bel hb2)
  have B_2 := hb.trans (hb2.mono hb.size)
  clear hb2 a1 hT1 hb
  go_wp2_with fail
  have cc := Lib.hid (rshl_any v2 _ _ _ _ k a_2 (by omega))
  refine cc.out.mono ?_
  clear cc
  rintro e v3 ⟨S2, m2, d2, rfl, s2, hm2, hb3⟩
  have a_3 := a_2.bel hb3
  have s1_3 := s1.bel hb3
  have HT_3 := Lib.hid (HT_2.out.bel hb3)
  have B_3 := B_2.trans (hb3.mono B_2.size)
  clear hb3 a_2 s1 HT_2 B_2
  go_wp2_with fail
  have cc := Lib.hid (same_bel v3 _ _ _ _ _ _ _ _ s1_3 s2)
  refine cc.out.mono ?_
  clear cc
  rw [dec_same rfl]
  rintro e v4 ⟨rfl, hb4⟩
  have a_4 := a_3.bel hb4
  have s1_4 := s1_3.bel hb4
  have s2_4 := s2.bel hb4
  have HT_4 := Lib.hid (HT_3.out.bel hb4)
  have B_4 := B_3.trans (hb4.mono B_3.size)
  clear hb4 a_3 s1_3 s2 HT_3 B_3
  clear s1_4
  clear s2_4
  go_wp2_with fail
  have cc := Lib.hid (shr_any v4 _ _ _ _ k a_4 (by omega))
  refine cc.out.mono ?_
  clear cc
  rintro e v5 ⟨S3, m3, d3, rfl, s3, hm3, hb5⟩
  have a_5 := a_4.bel hb5
  have HT_5 := Lib.hid (HT_4.out.bel hb5)
  have B_5 := B_4.trans (hb5.mono B_4.size)
  clear hb5 a_4 HT_4 B_4
  go_wp2_with fail
  have cc := Lib.hid (rshr_any v5 _ _ _ _ k a_5 (by omega))
  refine cc.out.mono ?_
  clear cc
  rintro e v6 ⟨S4, m4, d4, rfl, s4, hm4, hb6⟩
  have a_6 := a_5.bel hb6
  have s3_6 := s3.bel hb6
  have HT_6 := Lib.hid (HT_5.out.bel hb6)
  have B_6 := B_5.trans (hb6.mono B_5.size)
  clear hb6 a_5 s3 HT_5 B_5
  go_wp2_with fail
  have cc := Lib.hid (same_bel v6 _ _ _ _ _ _ _ _ s3_6 s4)
  refine cc.out.mono ?_
  clear cc
  rw [dec_same rfl]
  rintro e v7 ⟨rfl, hb7⟩
  have a_7 := a_6.bel hb7
  have s3_7 := s3_6.bel hb7
  have s4_7 := s4.bel hb7
  have HT_7 := Lib.hid (HT_6.out.bel hb7)
  have B_7 := B_6.trans (hb7.mono B_6.size)
  clear hb7 a_6 s3_6 s4 HT_6 B_6
  clear s3_7
  clear s4_7
  go_wp2_with fail
  have cc := Lib.hid (bits_any v7 _ _ _ _ a_7)
  refine cc.out.mono ?_
  clear cc
  rintro e w' ⟨rfl, rfl⟩
  go_wp2_with fail
  have cc := Lib.hid (rbits_any v7 _ _ _ _ a_7)
  refine cc.out.mono ?_
  clear cc
  rintro e w' ⟨rfl, rfl⟩
  go_wp2_with fail
  have cc := Lib.hid (low_any v7 _ _ _ _ a_7 HT_7.out)
  refine cc.out.mono ?_
  clear cc
  rintro e w' ⟨rfl, rfl⟩
  go_wp2_with fail
  have cc := Lib.hid (rlow_any v7 _ _ _ _ a_7)
  refine cc.out.mono ?_
  clear cc
  rintro e w' ⟨rfl, rfl⟩
  go_wp2_with fail
  have cc := Lib.hid (root_any v7 _ _ _ _ a_7 (by omega))
  refine cc.out.mono ?_
  clear cc
  rintro e v8 ⟨S5, m5, d5, rfl, s5, hm5, hb8⟩
  have a_8 := a_7.bel hb8
  have HT_8 := Lib.hid (HT_7.out.bel hb8)
  have B_8 := B_7.trans (hb8.mono B_7.size)
  clear hb8 a_7 HT_7 B_7
  go_wp2_with fail
  have cc := Lib.hid (rroot_any v8 _ _ _ _ a_8 (by omega))
  refine cc.out.mono ?_
  clear cc
  rintro e v9 ⟨S6, m6, d6, rfl, s6, hm6, hb9⟩
  have a_9 := a_8.bel hb9
  have s5_9 := s5.bel hb9
  have HT_9 := Lib.hid (HT_8.out.bel hb9)
  have B_9 := B_8.trans (hb9.mono B_8.size)
  clear hb9 a_8 s5 HT_8 B_8
  go_wp2_with fail
  have cc := Lib.hid (same_bel v9 _ _ _ _ _ _ _ _ s5_9 s6)
  refine cc.out.mono ?_
  clear cc
  rw [dec_same rfl]
  rintro e v10 ⟨rfl, hb10⟩
  have a_10 := a_9.bel hb10
  have s5_10 := s5_9.bel hb10
  have s6_10 := s6.bel hb10
  have HT_10 := Lib.hid (HT_9.out.bel hb10)
  have B_10 := B_9.trans (hb10.mono B_9.size)
  clear hb10 a_9 s5_9 s6 HT_9 B_9
  go_wp2
  go_ret
  exact ⟨rfl, B_10⟩
set_option maxHeartbeats 4000000 in
theorem shifts_skip (w : World) (Aa : Option Addr) (na ca : Nat) (xa : List Nat) (La : Lm w Aa na ca xa) (fa : na ≤ 24) (k : Int) (hk : 2000 < k) (hk2 : k ≤ 100000) (hT : Tab w) :
    Calls Tryd.prog 4 #[.slice Aa na ca, .int .i64 k] w fun e w' => e = .returned (.bool true) ∧ Below w.heap.size w w' := by
  have hkn := Lib.hid (known_any w hT)
  go_enter Tryd.func4, Tryd.ntmps4
  go_wp2_with fail
  refine hkn.out.mono ?_
  clear hkn
  rintro e w1 ⟨rfl, hb⟩
  have a1 := La.bel hb
  have hT1 := Lib.hid (hT.bel hb)
  clear La hT
  go_wp2_with (go_at_call 11; refine (few_any _ _ _ _).mono ?_; rintro e w' ⟨rfl, rfl⟩)
  go_wp2
  go_ret
  exact ⟨rfl, hb⟩
set_option maxHeartbeats 1000000 in
theorem shifts_long0 (w : World) (A0 : Option Addr) (n0 c0 : Nat) (k : Int) (hT : Tab w) (hl : ¬ n0 ≤ 24) :
    Calls Tryd.prog 4 #[.slice A0 n0 c0, .int .i64 k] w fun e w' => e = .returned (.bool true) ∧ Below w.heap.size w w' := by
  have hkn := Lib.hid (known_any w hT)
  clear hT
  go_enter Tryd.func4, Tryd.ntmps4
  go_wp2_with fail
  refine hkn.out.mono ?_
  clear hkn
  rintro e w1 ⟨rfl, hb⟩
  go_wp2_with (go_at_call 11; refine (few_any _ _ _ _).mono ?_; rintro e w' ⟨rfl, rfl⟩)
  go_ret
  exact ⟨rfl, hb⟩
theorem shifts_top (w : World) (A0 : Option Addr) (n0 c0 : Nat) (x0 : List Nat) (h0 : Arg w A0 n0 c0 x0) (k : Int) (_hk : (Lit.int .i64 k).wf = true) (hT : Tab w) :
    Calls Tryd.prog 4 #[.slice A0 n0 c0, .int .i64 k] w fun e w' => e = .returned (.bool true) ∧ Below w.heap.size w w' := by
  by_cases f0 : n0 ≤ 24
  case neg => exact shifts_long0 w _ _ _ _ hT f0
  by_cases h1 : k ≤ 2000
  · exact shifts_small w _ _ _ _ (h0.lm (by omega)) f0 k h1 hT
  by_cases h2 : k ≤ 100000
  · exact shifts_skip w _ _ _ _ (h0.lm (by omega)) f0 k (by omega) h2 hT
  · exact shifts_big w _ _ _ _ (h0.lm (by omega)) f0 k (by omega) hT
end Go.Proofs.YtbnhpamjklfifaaDoor
