/- Contracts of the document's own numbers with a sign: Small. -/
import Derived.Test.YtfnfbfiikkiliaaDoorRO
import Derived.Deep.RegionHeld3
import Derived.BigQuiet
import Derived.Deep.QuietTactic
namespace Go.Proofs.YtfnfbfiikkiliaaDoor
open Go.RowKit

set_option maxHeartbeats 4000000 in
theorem rsmall_big (w : World) (X : Int) (sa : Bool) (Aa : Option Addr) (na ca : Nat) (xa : List Nat) (La : Lm w Aa na ca xa) (ha : sgn sa (val xa) = X) (hc : 18446744073709551616 ≤ X.natAbs) :
    Calls Tryd.prog 33 #[.agg #[.bool sa, .slice Aa na ca]] w fun e w' => e = .returned (.tuple #[.int .i64 0, .bool false]) ∧ Below w.heap.size w w' := by
  have HX := Lib.hid ha
  have HC := Lib.hid hc
  clear ha hc
  go_enter Tryd.func33, Tryd.ntmps33
  go_wp2_with fail
  obtain ⟨ga, hga⟩ : ∃ g, g = w.heap.size := ⟨_, rfl⟩
  obtain ⟨w1, hw1⟩ : ∃ v, v = (w.alloc (.cells #[.bool sa, .slice Aa na ca] 24)) := ⟨_, rfl⟩
  have bel1 : Below w.heap.size w w1 := by rw [hw1]; exact bel_alloc _ _
  have b_a1 : Box w1 ga sa Aa na ca := by rw [hw1, hga]; exact (Box.new _ _ _ _ _)
  rw [← hw1, ← hga]
  have hgs : w.heap.size ≤ ga := by omega
  have HG := Lib.hid hgs
  clear hw1 hgs hga
  have l_a1 := La.bel bel1
  have c_a0_1 := b_a1.c0
  have c_a1_1 := b_a1.c1
  have cc := Lib.hid (rnorm_g w1 X sa Aa na ca xa l_a1 HX.out)
  refine cc.out.mono ?_
  clear cc
  rintro e v2 ⟨A3, m3, c3, rfl, h3, hm3, kb2⟩
  have b_a2 := b_a1.bel kb2
  have l_a2 := l_a1.bel kb2
  have bel2 := bel1.trans (kb2.mono bel1.size)
  have c_a0_2 := b_a2.c0
  have c_a1_2 := b_a2.c1
  clear kb2 b_a1 c_a0_1 c_a1_1 l_a1 bel1
  have hlm : ln X.natAbs = m3 := h3.len
  obtain ⟨gn, hgn⟩ : ∃ g, g = v2.heap.size := ⟨_, rfl⟩
  obtain ⟨wdn, hwd⟩ : ∃ v, v = v2.alloc (.cells #[.bool (decide (X < 0)), .slice A3 m3 c3] 24) := ⟨_, rfl⟩
  have b1 : Box wdn gn (decide (X < 0)) A3 m3 c3 := by rw [hwd, hgn]; exact Box.new _ _ _ _ _
  have d10 := b1.c0
  have d11 := b1.c1
  rw [hwd, hgn] at d10 d11
  have hbd : Below v2.heap.size v2 wdn := by rw [hwd]; exact bel_alloc _ _
  have ka0 := (b_a2.alloc (.cells #[.bool (decide (X < 0)), .slice A3 m3 c3] 24)).c0
  have ka1 := (b_a2.alloc (.cells #[.bool (decide (X < 0)), .slice A3 m3 c3] 24)).c1
  go_wp2_with fail
  rw [← hwd, ← hgn]
  clear hwd hgn d10 d11 ka0 ka1
  have b_a3 := b_a2.bel hbd
  have l_a3 := l_a2.bel hbd
  have l_n3 := h3.bel hbd
  have bel3 := bel2.trans (hbd.mono bel2.size)
  have c_a0_3 := b_a3.c0
  have c_a1_3 := b_a3.c1
  clear hbd b_a2 c_a0_2 c_a1_2 l_a2 h3 bel2
  have b_n3 := b1
  have c_n0_3 := b_n3.c0
  have c_n1_3 := b_n3.c1
  clear b1
  clear b_a3 c_a0_3 c_a1_3 l_a3
  obtain ⟨y, hy⟩ : ∃ y, dig (lim X.natAbs) 0 = y := ⟨_, rfl⟩
  obtain ⟨x, hx⟩ : ∃ x, dig (lim X.natAbs) 1 = x := ⟨_, rfl⟩
  have hyb : y < 4294967296 := by rw [← hy]; exact ok_lim X.natAbs 0
  have hxb : x < 4294967296 := by rw [← hx]; exact ok_lim X.natAbs 1
  have hv : X.natAbs < 18446744073709551616 → x * Bs + y = X.natAbs := by
    intro hb
    have e := val_eq_vt (xs := lim X.natAbs) (k := 2) (by show ln X.natAbs ≤ 2; exact ln_le_of_lt (by rw [Bs_eq]; exact hb))
    rw [val_lim, vt_two, hx, hy] at e
    exact e
  obtain ⟨U, hU⟩ : ∃ U, x * Bs + y = U := ⟨_, rfl⟩
  rw [hU] at hv
  have e0 : bits .or .u64 (y : Int) ((x : Int) * 4294967296) = (U : Int) := by rw [join64w x y hxb hyb, hU]
  have ew : IntKind.u64.wrap ((x : Int) * 4294967296) = (x : Int) * 4294967296 := IntWalk.u64_in _ (by omega)
  have q0 := Lib.hid (fun nq => rat_any (wdn.drewN nq) A3 m3 c3 _ 0 (l_n3.drewN nq) (by omega))
  have q1 := Lib.hid (fun nq => rat_any (wdn.drewN nq) A3 m3 c3 _ 1 (l_n3.drewN nq) (by omega))
  rw [hy] at q0
  rw [hx] at q1
  have HXY := Lib.hid (And.intro hy hx)
  have HE := Lib.hid (And.intro e0 ew)
  have hm2 : ¬ m3 ≤ 2 := by
    intro h2
    have h4 : X.natAbs < Bs ^ 2 := by have e := val_lt (ok_lim X.natAbs); rw [val_lim] at e; exact Nat.lt_of_lt_of_le e (Nat.pow_le_pow_right (by rw [Bs_eq]; decide) (by show ln X.natAbs ≤ 2; omega))
    have := HC.out
    rw [Bs_eq] at h4
    omega
  have t1 : (m3 : Int) > 2 := by omega
  clear hlm hm2 hm3
  have f0 := HE.out.1
  have f1 := HE.out.2
  clear hU hy hx hyb hxb hv e0 ew
  go_quiet (first | (go_at_call_of 64 (Value.int .i64 0); exact q_same (q0.out _)) | (go_at_call 64; exact q_same (q1.out _)))
  clear f0 f1
  go_wp2
  go_ret2
  exact ⟨rfl, below_drewN bel3 _⟩
set_option maxHeartbeats 4000000 in
theorem rsmall_posno (w : World) (X : Int) (sa : Bool) (Aa : Option Addr) (na ca : Nat) (xa : List Nat) (La : Lm w Aa na ca xa) (ha : sgn sa (val xa) = X) (hc : 0 ≤ X ∧ 9223372036854775807 < X.natAbs ∧ X.natAbs < 18446744073709551616) :
    Calls Tryd.prog 33 #[.agg #[.bool sa, .slice Aa na ca]] w fun e w' => e = .returned (.tuple #[.int .i64 0, .bool false]) ∧ Below w.heap.size w w' := by
  have HX := Lib.hid ha
  have HC := Lib.hid hc
  clear ha hc
  go_enter Tryd.func33, Tryd.ntmps33
  go_wp2_with fail
  obtain ⟨ga, hga⟩ : ∃ g, g = w.heap.size := ⟨_, rfl⟩
  obtain ⟨w1, hw1⟩ : ∃ v, v = (w.alloc (.cells #[.bool sa, .slice Aa na ca] 24)) := ⟨_, rfl⟩
  have bel1 : Below w.heap.size w w1 := by rw [hw1]; exact bel_alloc _ _
  have b_a1 : Box w1 ga sa Aa na ca := by rw [hw1, hga]; exact (Box.new _ _ _ _ _)
  rw [← hw1, ← hga]
  have hgs : w.heap.size ≤ ga := by omega
  have HG := Lib.hid hgs
  clear hw1 hgs hga
  have l_a1 := La.bel bel1
  have c_a0_1 := b_a1.c0
  have c_a1_1 := b_a1.c1
  have cc := Lib.hid (rnorm_g w1 X sa Aa na ca xa l_a1 HX.out)
  refine cc.out.mono ?_
  clear cc
  rintro e v2 ⟨A3, m3, c3, rfl, h3, hm3, kb2⟩
  have b_a2 := b_a1.bel kb2
  have l_a2 := l_a1.bel kb2
  have bel2 := bel1.trans (kb2.mono bel1.size)
  have c_a0_2 := b_a2.c0
  have c_a1_2 := b_a2.c1
  clear kb2 b_a1 c_a0_1 c_a1_1 l_a1 bel1
  have hlm : ln X.natAbs = m3 := h3.len
  obtain ⟨gn, hgn⟩ : ∃ g, g = v2.heap.size := ⟨_, rfl⟩
  obtain ⟨wdn, hwd⟩ : ∃ v, v = v2.alloc (.cells #[.bool (decide (X < 0)), .slice A3 m3 c3] 24) := ⟨_, rfl⟩
  have b1 : Box wdn gn (decide (X < 0)) A3 m3 c3 := by rw [hwd, hgn]; exact Box.new _ _ _ _ _
  have d10 := b1.c0
  have d11 := b1.c1
  rw [hwd, hgn] at d10 d11
  have hbd : Below v2.heap.size v2 wdn := by rw [hwd]; exact bel_alloc _ _
  have ka0 := (b_a2.alloc (.cells #[.bool (decide (X < 0)), .slice A3 m3 c3] 24)).c0
  have ka1 := (b_a2.alloc (.cells #[.bool (decide (X < 0)), .slice A3 m3 c3] 24)).c1
  go_wp2_with fail
  rw [← hwd, ← hgn]
  clear hwd hgn d10 d11 ka0 ka1
  have b_a3 := b_a2.bel hbd
  have l_a3 := l_a2.bel hbd
  have l_n3 := h3.bel hbd
  have bel3 := bel2.trans (hbd.mono bel2.size)
  have c_a0_3 := b_a3.c0
  have c_a1_3 := b_a3.c1
  clear hbd b_a2 c_a0_2 c_a1_2 l_a2 h3 bel2
  have b_n3 := b1
  have c_n0_3 := b_n3.c0
  have c_n1_3 := b_n3.c1
  clear b1
  clear b_a3 c_a0_3 c_a1_3 l_a3
  obtain ⟨y, hy⟩ : ∃ y, dig (lim X.natAbs) 0 = y := ⟨_, rfl⟩
  obtain ⟨x, hx⟩ : ∃ x, dig (lim X.natAbs) 1 = x := ⟨_, rfl⟩
  have hyb : y < 4294967296 := by rw [← hy]; exact ok_lim X.natAbs 0
  have hxb : x < 4294967296 := by rw [← hx]; exact ok_lim X.natAbs 1
  have hv : X.natAbs < 18446744073709551616 → x * Bs + y = X.natAbs := by
    intro hb
    have e := val_eq_vt (xs := lim X.natAbs) (k := 2) (by show ln X.natAbs ≤ 2; exact ln_le_of_lt (by rw [Bs_eq]; exact hb))
    rw [val_lim, vt_two, hx, hy] at e
    exact e
  obtain ⟨U, hU⟩ : ∃ U, x * Bs + y = U := ⟨_, rfl⟩
  rw [hU] at hv
  have e0 : bits .or .u64 (y : Int) ((x : Int) * 4294967296) = (U : Int) := by rw [join64w x y hxb hyb, hU]
  have ew : IntKind.u64.wrap ((x : Int) * 4294967296) = (x : Int) * 4294967296 := IntWalk.u64_in _ (by omega)
  have q0 := Lib.hid (fun nq => rat_any (wdn.drewN nq) A3 m3 c3 _ 0 (l_n3.drewN nq) (by omega))
  have q1 := Lib.hid (fun nq => rat_any (wdn.drewN nq) A3 m3 c3 _ 1 (l_n3.drewN nq) (by omega))
  rw [hy] at q0
  rw [hx] at q1
  have HXY := Lib.hid (And.intro hy hx)
  have HE := Lib.hid (And.intro e0 ew)
  have hvv := hv (by have := HC.out; omega)
  have h2 : ln X.natAbs ≤ 2 := ln_le_of_lt (by rw [Bs_eq]; have := HC.out; omega)
  have t1 : ¬ (m3 : Int) > 2 := by omega
  have dX : decide (X < 0) = false := decide_eq_false (by have := HC.out; omega)
  have t2 : (U : Int) > 9223372036854775807 := by have := HC.out; omega
  rw [dX] at b_n3 c_n0_3
  clear hlm hm3 hvv h2
  have f0 := HE.out.1
  have f1 := HE.out.2
  clear hU hy hx hyb hxb hv e0 ew
  go_quiet (first | (go_at_call_of 64 (Value.int .i64 0); exact q_same (q0.out _)) | (go_at_call 64; exact q_same (q1.out _)))
  clear f0 f1
  go_wp2
  go_ret2
  exact ⟨rfl, below_drewN bel3 _⟩
set_option maxHeartbeats 4000000 in
theorem rsmall_negno (w : World) (X : Int) (sa : Bool) (Aa : Option Addr) (na ca : Nat) (xa : List Nat) (La : Lm w Aa na ca xa) (ha : sgn sa (val xa) = X) (hc : X < 0 ∧ 9223372036854775808 < X.natAbs ∧ X.natAbs < 18446744073709551616) :
    Calls Tryd.prog 33 #[.agg #[.bool sa, .slice Aa na ca]] w fun e w' => e = .returned (.tuple #[.int .i64 0, .bool false]) ∧ Below w.heap.size w w' := by
  have HX := Lib.hid ha
  have HC := Lib.hid hc
  clear ha hc
  go_enter Tryd.func33, Tryd.ntmps33
  go_wp2_with fail
  obtain ⟨ga, hga⟩ : ∃ g, g = w.heap.size := ⟨_, rfl⟩
  obtain ⟨w1, hw1⟩ : ∃ v, v = (w.alloc (.cells #[.bool sa, .slice Aa na ca] 24)) := ⟨_, rfl⟩
  have bel1 : Below w.heap.size w w1 := by rw [hw1]; exact bel_alloc _ _
  have b_a1 : Box w1 ga sa Aa na ca := by rw [hw1, hga]; exact (Box.new _ _ _ _ _)
  rw [← hw1, ← hga]
  have hgs : w.heap.size ≤ ga := by omega
  have HG := Lib.hid hgs
  clear hw1 hgs hga
  have l_a1 := La.bel bel1
  have c_a0_1 := b_a1.c0
  have c_a1_1 := b_a1.c1
  have cc := Lib.hid (rnorm_g w1 X sa Aa na ca xa l_a1 HX.out)
  refine cc.out.mono ?_
  clear cc
  rintro e v2 ⟨A3, m3, c3, rfl, h3, hm3, kb2⟩
  have b_a2 := b_a1.bel kb2
  have l_a2 := l_a1.bel kb2
  have bel2 := bel1.trans (kb2.mono bel1.size)
  have c_a0_2 := b_a2.c0
  have c_a1_2 := b_a2.c1
  clear kb2 b_a1 c_a0_1 c_a1_1 l_a1 bel1
  have hlm : ln X.natAbs = m3 := h3.len
  obtain ⟨gn, hgn⟩ : ∃ g, g = v2.heap.size := ⟨_, rfl⟩
  obtain ⟨wdn, hwd⟩ : ∃ v, v = v2.alloc (.cells #[.bool (decide (X < 0)), .slice A3 m3 c3] 24) := ⟨_, rfl⟩
  have b1 : Box wdn gn (decide (X < 0)) A3 m3 c3 := by rw [hwd, hgn]; exact Box.new _ _ _ _ _
  have d10 := b1.c0
  have d11 := b1.c1
  rw [hwd, hgn] at d10 d11
  have hbd : Below v2.heap.size v2 wdn := by rw [hwd]; exact bel_alloc _ _
  have ka0 := (b_a2.alloc (.cells #[.bool (decide (X < 0)), .slice A3 m3 c3] 24)).c0
  have ka1 := (b_a2.alloc (.cells #[.bool (decide (X < 0)), .slice A3 m3 c3] 24)).c1
  go_wp2_with fail
  rw [← hwd, ← hgn]
  clear hwd hgn d10 d11 ka0 ka1
  have b_a3 := b_a2.bel hbd
  have l_a3 := l_a2.bel hbd
  have l_n3 := h3.bel hbd
  have bel3 := bel2.trans (hbd.mono bel2.size)
  have c_a0_3 := b_a3.c0
  have c_a1_3 := b_a3.c1
  clear hbd b_a2 c_a0_2 c_a1_2 l_a2 h3 bel2
  have b_n3 := b1
  have c_n0_3 := b_n3.c0
  have c_n1_3 := b_n3.c1
  clear b1
  clear b_a3 c_a0_3 c_a1_3 l_a3
  obtain ⟨y, hy⟩ : ∃ y, dig (lim X.natAbs) 0 = y := ⟨_, rfl⟩
  obtain ⟨x, hx⟩ : ∃ x, dig (lim X.natAbs) 1 = x := ⟨_, rfl⟩
  have hyb : y < 4294967296 := by rw [← hy]; exact ok_lim X.natAbs 0
  have hxb : x < 4294967296 := by rw [← hx]; exact ok_lim X.natAbs 1
  have hv : X.natAbs < 18446744073709551616 → x * Bs + y = X.natAbs := by
    intro hb
    have e := val_eq_vt (xs := lim X.natAbs) (k := 2) (by show ln X.natAbs ≤ 2; exact ln_le_of_lt (by rw [Bs_eq]; exact hb))
    rw [val_lim, vt_two, hx, hy] at e
    exact e
  obtain ⟨U, hU⟩ : ∃ U, x * Bs + y = U := ⟨_, rfl⟩
  rw [hU] at hv
  have e0 : bits .or .u64 (y : Int) ((x : Int) * 4294967296) = (U : Int) := by rw [join64w x y hxb hyb, hU]
  have ew : IntKind.u64.wrap ((x : Int) * 4294967296) = (x : Int) * 4294967296 := IntWalk.u64_in _ (by omega)
  have q0 := Lib.hid (fun nq => rat_any (wdn.drewN nq) A3 m3 c3 _ 0 (l_n3.drewN nq) (by omega))
  have q1 := Lib.hid (fun nq => rat_any (wdn.drewN nq) A3 m3 c3 _ 1 (l_n3.drewN nq) (by omega))
  rw [hy] at q0
  rw [hx] at q1
  have HXY := Lib.hid (And.intro hy hx)
  have HE := Lib.hid (And.intro e0 ew)
  have hvv := hv (by have := HC.out; omega)
  have h2 : ln X.natAbs ≤ 2 := ln_le_of_lt (by rw [Bs_eq]; have := HC.out; omega)
  have t1 : ¬ (m3 : Int) > 2 := by omega
  have dX : decide (X < 0) = true := decide_eq_true HC.out.1
  have t2 : (U : Int) > 9223372036854775808 := by have := HC.out; omega
  rw [dX] at b_n3 c_n0_3
  clear hlm hm3 hvv h2
  have f0 := HE.out.1
  have f1 := HE.out.2
  clear hU hy hx hyb hxb hv e0 ew
  go_quiet (first | (go_at_call_of 64 (Value.int .i64 0); exact q_same (q0.out _)) | (go_at_call 64; exact q_same (q1.out _)))
  clear f0 f1
  go_wp2
  go_ret2
  exact ⟨rfl, below_drewN bel3 _⟩
set_option maxHeartbeats 4000000 in
theorem rsmall_posok (w : World) (X : Int) (sa : Bool) (Aa : Option Addr) (na ca : Nat) (xa : List Nat) (La : Lm w Aa na ca xa) (ha : sgn sa (val xa) = X) (hc : 0 ≤ X ∧ X.natAbs ≤ 9223372036854775807) :
    Calls Tryd.prog 33 #[.agg #[.bool sa, .slice Aa na ca]] w fun e w' => e = .returned (.tuple #[.int .i64 X, .bool true]) ∧ Below w.heap.size w w' := by
  have HX := Lib.hid ha
  have HC := Lib.hid hc
  clear ha hc
  go_enter Tryd.func33, Tryd.ntmps33
  go_wp2_with fail
  obtain ⟨ga, hga⟩ : ∃ g, g = w.heap.size := ⟨_, rfl⟩
  obtain ⟨w1, hw1⟩ : ∃ v, v = (w.alloc (.cells #[.bool sa, .slice Aa na ca] 24)) := ⟨_, rfl⟩
  have bel1 : Below w.heap.size w w1 := by rw [hw1]; exact bel_alloc _ _
  have b_a1 : Box w1 ga sa Aa na ca := by rw [hw1, hga]; exact (Box.new _ _ _ _ _)
  rw [← hw1, ← hga]
  have hgs : w.heap.size ≤ ga := by omega
  have HG := Lib.hid hgs
  clear hw1 hgs hga
  have l_a1 := La.bel bel1
  have c_a0_1 := b_a1.c0
  have c_a1_1 := b_a1.c1
  have cc := Lib.hid (rnorm_g w1 X sa Aa na ca xa l_a1 HX.out)
  refine cc.out.mono ?_
  clear cc
  rintro e v2 ⟨A3, m3, c3, rfl, h3, hm3, kb2⟩
  have b_a2 := b_a1.bel kb2
  have l_a2 := l_a1.bel kb2
  have bel2 := bel1.trans (kb2.mono bel1.size)
  have c_a0_2 := b_a2.c0
  have c_a1_2 := b_a2.c1
  clear kb2 b_a1 c_a0_1 c_a1_1 l_a1 bel1
  have hlm : ln X.natAbs = m3 := h3.len
  obtain ⟨gn, hgn⟩ : ∃ g, g = v2.heap.size := ⟨_, rfl⟩
  obtain ⟨wdn, hwd⟩ : ∃ v, v = v2.alloc (.cells #[.bool (decide (X < 0)), .slice A3 m3 c3] 24) := ⟨_, rfl⟩
  have b1 : Box wdn gn (decide (X < 0)) A3 m3 c3 := by rw [hwd, hgn]; exact Box.new _ _ _ _ _
  have d10 := b1.c0
  have d11 := b1.c1
  rw [hwd, hgn] at d10 d11
  have hbd : Below v2.heap.size v2 wdn := by rw [hwd]; exact bel_alloc _ _
  have ka0 := (b_a2.alloc (.cells #[.bool (decide (X < 0)), .slice A3 m3 c3] 24)).c0
  have ka1 := (b_a2.alloc (.cells #[.bool (decide (X < 0)), .slice A3 m3 c3] 24)).c1
  go_wp2_with fail
  rw [← hwd, ← hgn]
  clear hwd hgn d10 d11 ka0 ka1
  have b_a3 := b_a2.bel hbd
  have l_a3 := l_a2.bel hbd
  have l_n3 := h3.bel hbd
  have bel3 := bel2.trans (hbd.mono bel2.size)
  have c_a0_3 := b_a3.c0
  have c_a1_3 := b_a3.c1
  clear hbd b_a2 c_a0_2 c_a1_2 l_a2 h3 bel2
  have b_n3 := b1
  have c_n0_3 := b_n3.c0
  have c_n1_3 := b_n3.c1
  clear b1
  clear b_a3 c_a0_3 c_a1_3 l_a3
  obtain ⟨y, hy⟩ : ∃ y, dig (lim X.natAbs) 0 = y := ⟨_, rfl⟩
  obtain ⟨x, hx⟩ : ∃ x, dig (lim X.natAbs) 1 = x := ⟨_, rfl⟩
  have hyb : y < 4294967296 := by rw [← hy]; exact ok_lim X.natAbs 0
  have hxb : x < 4294967296 := by rw [← hx]; exact ok_lim X.natAbs 1
  have hv : X.natAbs < 18446744073709551616 → x * Bs + y = X.natAbs := by
    intro hb
    have e := val_eq_vt (xs := lim X.natAbs) (k := 2) (by show ln X.natAbs ≤ 2; exact ln_le_of_lt (by rw [Bs_eq]; exact hb))
    rw [val_lim, vt_two, hx, hy] at e
    exact e
  obtain ⟨U, hU⟩ : ∃ U, x * Bs + y = U := ⟨_, rfl⟩
  rw [hU] at hv
  have e0 : bits .or .u64 (y : Int) ((x : Int) * 4294967296) = (U : Int) := by rw [join64w x y hxb hyb, hU]
  have ew : IntKind.u64.wrap ((x : Int) * 4294967296) = (x : Int) * 4294967296 := IntWalk.u64_in _ (by omega)
  have q0 := Lib.hid (fun nq => rat_any (wdn.drewN nq) A3 m3 c3 _ 0 (l_n3.drewN nq) (by omega))
  have q1 := Lib.hid (fun nq => rat_any (wdn.drewN nq) A3 m3 c3 _ 1 (l_n3.drewN nq) (by omega))
  rw [hy] at q0
  rw [hx] at q1
  have HXY := Lib.hid (And.intro hy hx)
  have HE := Lib.hid (And.intro e0 ew)
  have hvv := hv (by have := HC.out; omega)
  have h2 : ln X.natAbs ≤ 2 := ln_le_of_lt (by rw [Bs_eq]; have := HC.out; omega)
  have t1 : ¬ (m3 : Int) > 2 := by omega
  have dX : decide (X < 0) = false := decide_eq_false (by have := HC.out; omega)
  have t2 : ¬ (U : Int) > 9223372036854775807 := by have := HC.out; omega
  have eX : (U : Int) = X := by have := HC.out; omega
  have w1x : IntKind.i64.wrap (U : Int) = X := by rw [eX]; exact IntWalk.i64_in _ (by have := HC.out; omega)
  have w2x : wrap64 (U : Int) = X := by rw [← IntWalk.i64_left]; exact w1x
  rw [dX] at b_n3 c_n0_3
  clear hlm hm3 hvv h2 eX
  have f0 := HE.out.1
  have f1 := HE.out.2
  clear hU hy hx hyb hxb hv e0 ew
  go_quiet (first | (go_at_call_of 64 (Value.int .i64 0); exact q_same (q0.out _)) | (go_at_call 64; exact q_same (q1.out _)))
  clear f0 f1
  go_wp2
  go_ret2
  exact ⟨rfl, below_drewN bel3 _⟩
set_option maxHeartbeats 4000000 in
theorem rsmall_negok (w : World) (X : Int) (sa : Bool) (Aa : Option Addr) (na ca : Nat) (xa : List Nat) (La : Lm w Aa na ca xa) (ha : sgn sa (val xa) = X) (hc : X < 0 ∧ X.natAbs ≤ 9223372036854775808) :
    Calls Tryd.prog 33 #[.agg #[.bool sa, .slice Aa na ca]] w fun e w' => e = .returned (.tuple #[.int .i64 X, .bool true]) ∧ Below w.heap.size w w' := by
  have HX := Lib.hid ha
  have HC := Lib.hid hc
  clear ha hc
  go_enter Tryd.func33, Tryd.ntmps33
  go_wp2_with fail
  obtain ⟨ga, hga⟩ : ∃ g, g = w.heap.size := ⟨_, rfl⟩
  obtain ⟨w1, hw1⟩ : ∃ v, v = (w.alloc (.cells #[.bool sa, .slice Aa na ca] 24)) := ⟨_, rfl⟩
  have bel1 : Below w.heap.size w w1 := by rw [hw1]; exact bel_alloc _ _
  have b_a1 : Box w1 ga sa Aa na ca := by rw [hw1, hga]; exact (Box.new _ _ _ _ _)
  rw [← hw1, ← hga]
  have hgs : w.heap.size ≤ ga := by omega
  have HG := Lib.hid hgs
  clear hw1 hgs hga
  have l_a1 := La.bel bel1
  have c_a0_1 := b_a1.c0
  have c_a1_1 := b_a1.c1
  have cc := Lib.hid (rnorm_g w1 X sa Aa na ca xa l_a1 HX.out)
  refine cc.out.mono ?_
  clear cc
  rintro e v2 ⟨A3, m3, c3, rfl, h3, hm3, kb2⟩
  have b_a2 := b_a1.bel kb2
  have l_a2 := l_a1.bel kb2
  have bel2 := bel1.trans (kb2.mono bel1.size)
  have c_a0_2 := b_a2.c0
  have c_a1_2 := b_a2.c1
  clear kb2 b_a1 c_a0_1 c_a1_1 l_a1 bel1
  have hlm : ln X.natAbs = m3 := h3.len
  obtain ⟨gn, hgn⟩ : ∃ g, g = v2.heap.size := ⟨_, rfl⟩
  obtain ⟨wdn, hwd⟩ : ∃ v, v = v2.alloc (.cells #[.bool (decide (X < 0)), .slice A3 m3 c3] 24) := ⟨_, rfl⟩
  have b1 : Box wdn gn (decide (X < 0)) A3 m3 c3 := by rw [hwd, hgn]; exact Box.new _ _ _ _ _
  have d10 := b1.c0
  have d11 := b1.c1
  rw [hwd, hgn] at d10 d11
  have hbd : Below v2.heap.size v2 wdn := by rw [hwd]; exact bel_alloc _ _
  have ka0 := (b_a2.alloc (.cells #[.bool (decide (X < 0)), .slice A3 m3 c3] 24)).c0
  have ka1 := (b_a2.alloc (.cells #[.bool (decide (X < 0)), .slice A3 m3 c3] 24)).c1
  go_wp2_with fail
  rw [← hwd, ← hgn]
  clear hwd hgn d10 d11 ka0 ka1
  have b_a3 := b_a2.bel hbd
  have l_a3 := l_a2.bel hbd
  have l_n3 := h3.bel hbd
  have bel3 := bel2.trans (hbd.mono bel2.size)
  have c_a0_3 := b_a3.c0
  have c_a1_3 := b_a3.c1
  clear hbd b_a2 c_a0_2 c_a1_2 l_a2 h3 bel2
  have b_n3 := b1
  have c_n0_3 := b_n3.c0
  have c_n1_3 := b_n3.c1
  clear b1
  clear b_a3 c_a0_3 c_a1_3 l_a3
  obtain ⟨y, hy⟩ : ∃ y, dig (lim X.natAbs) 0 = y := ⟨_, rfl⟩
  obtain ⟨x, hx⟩ : ∃ x, dig (lim X.natAbs) 1 = x := ⟨_, rfl⟩
  have hyb : y < 4294967296 := by rw [← hy]; exact ok_lim X.natAbs 0
  have hxb : x < 4294967296 := by rw [← hx]; exact ok_lim X.natAbs 1
  have hv : X.natAbs < 18446744073709551616 → x * Bs + y = X.natAbs := by
    intro hb
    have e := val_eq_vt (xs := lim X.natAbs) (k := 2) (by show ln X.natAbs ≤ 2; exact ln_le_of_lt (by rw [Bs_eq]; exact hb))
    rw [val_lim, vt_two, hx, hy] at e
    exact e
  obtain ⟨U, hU⟩ : ∃ U, x * Bs + y = U := ⟨_, rfl⟩
  rw [hU] at hv
  have e0 : bits .or .u64 (y : Int) ((x : Int) * 4294967296) = (U : Int) := by rw [join64w x y hxb hyb, hU]
  have ew : IntKind.u64.wrap ((x : Int) * 4294967296) = (x : Int) * 4294967296 := IntWalk.u64_in _ (by omega)
  have q0 := Lib.hid (fun nq => rat_any (wdn.drewN nq) A3 m3 c3 _ 0 (l_n3.drewN nq) (by omega))
  have q1 := Lib.hid (fun nq => rat_any (wdn.drewN nq) A3 m3 c3 _ 1 (l_n3.drewN nq) (by omega))
  rw [hy] at q0
  rw [hx] at q1
  have HXY := Lib.hid (And.intro hy hx)
  have HE := Lib.hid (And.intro e0 ew)
  have hvv := hv (by have := HC.out; omega)
  have h2 : ln X.natAbs ≤ 2 := ln_le_of_lt (by rw [Bs_eq]; have := HC.out; omega)
  have t1 : ¬ (m3 : Int) > 2 := by omega
  have dX : decide (X < 0) = true := decide_eq_true HC.out.1
  have t2 : ¬ (U : Int) > 9223372036854775808 := by have := HC.out; omega
  have eX : -(U : Int) = X := by have := HC.out; omega
  have w1x : IntKind.u64.wrap (-(U : Int)) = 18446744073709551616 + X := by rw [eX, IntKind.wrap_u64]; have := HC.out; omega
  have w2x : IntKind.i64.wrap (18446744073709551616 + X) = X := by rw [IntKind.wrap_i64]; have := HC.out; omega
  have w3x : wrap64 (18446744073709551616 + X) = X := by rw [← IntWalk.i64_left]; exact w2x
  rw [dX] at b_n3 c_n0_3
  clear hlm hm3 hvv h2 eX
  have f0 := HE.out.1
  have f1 := HE.out.2
  clear hU hy hx hyb hxb hv e0 ew
  go_quiet (first | (go_at_call_of 64 (Value.int .i64 0); exact q_same (q0.out _)) | (go_at_call 64; exact q_same (q1.out _)))
  clear f0 f1
  go_wp2
  go_ret2
  exact ⟨rfl, below_drewN bel3 _⟩
theorem rsmall_g (w : World) (X : Int) (sa : Bool) (Aa : Option Addr) (na ca : Nat) (xa : List Nat) (La : Lm w Aa na ca xa) (ha : sgn sa (val xa) = X) {k : Int} {t : Bool} (hk : (if fits X = true then X else 0) = k) (ht : fits X = t) :
    Calls Tryd.prog 33 #[.agg #[.bool sa, .slice Aa na ca]] w (fun e w' => e = .returned (.tuple #[.int .i64 k, .bool t]) ∧ Below w.heap.size w w') := by
  subst hk; subst ht
  by_cases hf : fits X = true
  · rw [if_pos hf, hf]
    have h1 := (fits_iff X).1 hf
    by_cases h0 : X < 0
    · exact rsmall_negok w X sa Aa na ca xa La ha ⟨h0, by omega⟩
    · exact rsmall_posok w X sa Aa na ca xa La ha ⟨by omega, by omega⟩
  · rw [if_neg hf, Bool.eq_false_iff.2 hf]
    have h1 : ¬ (-9223372036854775808 ≤ X ∧ X ≤ 9223372036854775807) := fun c => hf ((fits_iff X).2 c)
    by_cases hb : 18446744073709551616 ≤ X.natAbs
    · exact rsmall_big w X sa Aa na ca xa La ha hb
    · by_cases h0 : X < 0
      · exact rsmall_negno w X sa Aa na ca xa La ha ⟨h0, by omega, by omega⟩
      · exact rsmall_posno w X sa Aa na ca xa La ha ⟨by omega, by omega, by omega⟩
end Go.Proofs.YtfnfbfiikkiliaaDoor
