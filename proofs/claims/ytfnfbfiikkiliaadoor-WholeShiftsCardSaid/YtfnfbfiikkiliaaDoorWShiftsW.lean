/- WholeShifts: the walk. -/
import Derived.Test.YtfnfbfiikkiliaaDoorRM
import Derived.Test.YtfnfbfiikkiliaaDoorRU
import Derived.Test.YtfnfbfiikkiliaaDoorRV
import Derived.Deep.RegionHeld3
namespace Go.Proofs.YtfnfbfiikkiliaaDoor
open Go.RowKit

set_option maxRecDepth 100000 in
set_option maxHeartbeats 40000000 in
theorem wshifts_few0 (w : World) (sa : Bool) (Aa : Option Addr) (na ca : Nat) (xa : List Nat) (La : Lm w Aa na ca xa) (fa : na ≤ 24) (n v : Int) (hv : -9223372036854775808 ≤ v ∧ v ≤ 9223372036854775807) (hn : n ≤ 1500) (hT : Tab w) (hP : ProductsT w) (hF : FarthestT w) :
    Calls Tryd.prog 4 #[.agg #[.bool sa, .slice Aa na ca], .int .i64 n, .int .i64 v] w fun e w' => e = .returned (.bool true) ∧ Below w.heap.size w w' := by
  obtain ⟨X, hX⟩ : ∃ V0 : Int, sgn sa (val xa) = V0 := ⟨_, rfl⟩
  have HX := Lib.hid hX
  clear hX
  have Hd := Lib.hid (decide_eq_true (show (na : Int) ≤ 24 by omega))
  obtain ⟨V, hV⟩ : ∃ V0 : Int, v = V0 := ⟨_, rfl⟩
  have HV := Lib.hid hV
  clear hV
  obtain ⟨S, hS⟩ : ∃ V0 : Int, X / 2 ^ heldN n = V0 := ⟨_, rfl⟩
  have HS := Lib.hid hS
  clear hS
  obtain ⟨q, hq⟩ : ∃ V0 : Int, min n 1500 = V0 := ⟨_, rfl⟩
  have Hq := Lib.hid hq
  clear hq
  obtain ⟨Z, hZ⟩ : ∃ V0 : Int, X * 2 ^ heldN q = V0 := ⟨_, rfl⟩
  have HZ := Lib.hid hZ
  clear hZ
  obtain ⟨t, ht⟩ : ∃ V0 : Bool, fits X = V0 := ⟨_, rfl⟩
  have Ht := Lib.hid ht
  clear ht
  obtain ⟨k, hk⟩ : ∃ V0 : Int, (if fits X = true then X else 0) = V0 := ⟨_, rfl⟩
  have Hk := Lib.hid hk
  clear hk
  have HV2 : Hid (-9223372036854775808 ≤ v ∧ v ≤ 9223372036854775807) := (hv : -9223372036854775808 ≤ v ∧ v ≤ 9223372036854775807)
  have HF1 : Hid ((if fits V = true then V else 0) = v ∧ fits V = true) := (by
    have h1 : fits V = true := (fits_iff V).2 (by rw [← HV.out]; exact hv)
    exact ⟨by rw [if_pos h1]; exact HV.out.symm, h1⟩ : (if fits V = true then V else 0) = v ∧ fits V = true)
  clear hv
  have HTT := Lib.hid hT
  have HTP := Lib.hid hP
  have HTF := Lib.hid hF
  clear hT hP hF
  go_enter Tryd.func4, Tryd.ntmps4
  go_wp2_with fail
  obtain ⟨ga, hga⟩ : ∃ g, g = w.heap.size := ⟨_, rfl⟩
  obtain ⟨w1, hw1⟩ : ∃ v, v = (w.alloc (.cells #[.bool sa, .slice Aa na ca] 24)) := ⟨_, rfl⟩
  have bel1 : Below w.heap.size w w1 := by rw [hw1]; exact bel_alloc _ _
  have b_a1 : Box w1 ga sa Aa na ca := by rw [hw1, hga]; exact (Box.new _ _ _ _ _)
  rw [← hw1, ← hga]
  have hgs : w.heap.size ≤ ga := by omega
  have HG := Lib.hid hgs
  clear hw1 hgs hga
  have l_a1 := La.bel bel1
  have t_T1 := Lib.hid (HTT.out.bel bel1)
  have t_P1 := Lib.hid (HTP.out.bel bel1)
  have t_F1 := Lib.hid (HTF.out.bel bel1)
  have c_a0_1 := b_a1.c0
  have c_a1_1 := b_a1.c1
  have cc := Lib.hid (known2_any w1 t_T1.out t_P1.out t_F1.out)
  refine cc.out.mono ?_
  clear cc
  rintro e v2 ⟨rfl, kb2⟩
  have b_a2 := b_a1.bel kb2
  have l_a2 := l_a1.bel kb2
  have t_T2 := Lib.hid (t_T1.out.bel kb2)
  have t_P2 := Lib.hid (t_P1.out.bel kb2)
  have t_F2 := Lib.hid (t_F1.out.bel kb2)
  have bel2 := bel1.trans (kb2.mono bel1.size)
  have c_a0_2 := b_a2.c0
  have c_a1_2 := b_a2.c1
  clear kb2 b_a1 c_a0_1 c_a1_1 l_a1 t_T1 t_P1 t_F1 bel1
  go_wp2_with fail
  have cc := Lib.hid (few2_any v2 sa Aa na ca Hd.out)
  refine cc.out.mono ?_
  clear cc
  rintro e v3 ⟨rfl, kb3⟩
  have b_a3 := b_a2.bel kb3
  have l_a3 := l_a2.bel kb3
  have t_T3 := Lib.hid (t_T2.out.bel kb3)
  have t_P3 := Lib.hid (t_P2.out.bel kb3)
  have t_F3 := Lib.hid (t_F2.out.bel kb3)
  have bel3 := bel2.trans (kb3.mono bel2.size)
  have c_a0_3 := b_a3.c0
  have c_a1_3 := b_a3.c1
  clear kb3 b_a2 c_a0_2 c_a1_2 l_a2 t_T2 t_P2 t_F2 bel2
  go_wp2_with fail
  have cc := Lib.hid (wsmall_g v3 X sa Aa na ca xa l_a3 HX.out t_F3.out Hk.out Ht.out)
  refine cc.out.mono ?_
  clear cc
  rintro e v4 ⟨rfl, kb4⟩
  have b_a4 := b_a3.bel kb4
  have l_a4 := l_a3.bel kb4
  have t_T4 := Lib.hid (t_T3.out.bel kb4)
  have t_P4 := Lib.hid (t_P3.out.bel kb4)
  have t_F4 := Lib.hid (t_F3.out.bel kb4)
  have bel4 := bel3.trans (kb4.mono bel3.size)
  have c_a0_4 := b_a4.c0
  have c_a1_4 := b_a4.c1
  clear kb4 b_a3 c_a0_3 c_a1_3 l_a3 t_T3 t_P3 t_F3 bel3
  go_wp2_with fail
  have cc := Lib.hid (rsmall_g v4 X sa Aa na ca xa l_a4 HX.out Hk.out Ht.out)
  refine cc.out.mono ?_
  clear cc
  rintro e v5 ⟨rfl, kb5⟩
  have b_a5 := b_a4.bel kb5
  have l_a5 := l_a4.bel kb5
  have t_T5 := Lib.hid (t_T4.out.bel kb5)
  have t_P5 := Lib.hid (t_P4.out.bel kb5)
  have t_F5 := Lib.hid (t_F4.out.bel kb5)
  have bel5 := bel4.trans (kb5.mono bel4.size)
  have c_a0_5 := b_a5.c0
  have c_a1_5 := b_a5.c1
  clear kb5 b_a4 c_a0_4 c_a1_4 l_a4 t_T4 t_P4 t_F4 bel4
  go_upto_region 7 with (fail)
  have hS0 := held0 b_a5
  have y0 : Below v5.heap.size v5 v5 := Below.refl _ _
  have hu : True := trivial
  refine wp_region_noPanic ?_
  refine wp_region_held_drew (S := (fun w' => (Box w' ga sa Aa na ca ∧ w'.cell? ⟨ga, 0, none⟩ = some (.bool sa) ∧ w'.cell? ⟨ga, 1, none⟩ = some (.slice Aa na ca)))) (by kernel_rfl) ?_ (fun hHeld => ?_)
  · ((try dsimp only); (with_reducible refine keep10 ?_ hS0; (focus repeat' (first | with_reducible assumption | with_reducible refine bel_drw ?_ | with_reducible refine bel_al ?_ | with_reducible refine bel_put ?_ ?_ _ _ | omega))))
  refine wpAnyH_take (i := 0) (oi := { dst := some 36, op := Op.move (Operand.tmp 1), type := 3, pos := "exact.go:44", after := #[], guard := none }) (v := ?_) rfl (by kernel_rfl) (by kernel_rfl) (by kernel_rfl) (fun _ _ _ h => h) (Or.inl ⟨by rfl, ?_⟩) hHeld ?_
  rotate_left
  · (intro w hSw; (try dsimp only at hSw); go_simp; (try with_reducible rfl))
  (try simp only [Act.put, List.setIfInBounds_toArray, List.set_cons_zero, List.set_cons_succ])
  refine wpAnyH_take (i := 1) (oi := { dst := some 37, op := Op.binOp BinOp.leq 3 (Operand.tmp 36) (Operand.const (Value.int IntKind.i64 1500)) 3, type := 4, pos := "exact.go:44", after := #[{ on := 0, ground := Ground.data }], guard := none }) (v := ?_) rfl (by kernel_rfl) (by kernel_rfl) (by kernel_rfl) (fun _ _ _ h => h) (Or.inl ⟨by rfl, ?_⟩) hHeld ?_
  rotate_left
  · (intro w hSw; (try dsimp only at hSw); go_simp; (try with_reducible rfl))
  (try simp only [Act.put, List.setIfInBounds_toArray, List.set_cons_zero, List.set_cons_succ])
  refine wpAnyH_take (i := 2) (oi := { dst := some 38, op := Op.move (Operand.tmp 37), type := 4, pos := "exact.go:44", after := #[{ on := 1, ground := Ground.data }], guard := none }) (v := ?_) rfl (by kernel_rfl) (by kernel_rfl) (by kernel_rfl) (fun _ _ _ h => h) (Or.inl ⟨by rfl, ?_⟩) hHeld ?_
  rotate_left
  · (intro w hSw; (try dsimp only at hSw); go_simp; (try with_reducible rfl))
  (try simp only [Act.put, List.setIfInBounds_toArray, List.set_cons_zero, List.set_cons_succ])
  refine wpAnyH_take (i := 3) (oi := { dst := some 39, op := Op.load 24 (Operand.tmp 3), type := 24, pos := "exact.go:44", after := #[{ on := 2, ground := Ground.guard }], guard := some (2, true) }) (v := ?_) rfl (by kernel_rfl) (by kernel_rfl) (by kernel_rfl) (fun _ _ _ h => h) (Or.inl ⟨by rfl, ?_⟩) hHeld ?_
  rotate_left
  · (intro w hSw; (try dsimp only at hSw); go_simp; (try with_reducible rfl))
  (try simp only [Act.put, List.setIfInBounds_toArray, List.set_cons_zero, List.set_cons_succ])
  refine wpAnyH_take (i := 4) (oi := { dst := some 40, op := Op.move (Operand.tmp 1), type := 3, pos := "exact.go:44", after := #[{ on := 2, ground := Ground.guard }], guard := some (2, true) }) (v := ?_) rfl (by kernel_rfl) (by kernel_rfl) (by kernel_rfl) (fun _ _ _ h => h) (Or.inl ⟨by rfl, ?_⟩) hHeld ?_
  rotate_left
  · (intro w hSw; (try dsimp only at hSw); go_simp; (try with_reducible rfl))
  (try simp only [Act.put, List.setIfInBounds_toArray, List.set_cons_zero, List.set_cons_succ])
  refine wpAnyH_take (i := 6) (oi := { dst := some 42, op := Op.load 24 (Operand.tmp 3), type := 24, pos := "exact.go:44", after := #[{ on := 2, ground := Ground.guard }], guard := some (2, true) }) (v := ?_) rfl (by kernel_rfl) (by kernel_rfl) (by kernel_rfl) (fun _ _ _ h => h) (Or.inl ⟨by rfl, ?_⟩) hHeld ?_
  rotate_left
  · (intro w hSw; (try dsimp only at hSw); go_simp; (try with_reducible rfl))
  (try simp only [Act.put, List.setIfInBounds_toArray, List.set_cons_zero, List.set_cons_succ])
  refine wpAnyH_take (i := 7) (oi := { dst := some 43, op := Op.move (Operand.tmp 1), type := 3, pos := "exact.go:44", after := #[{ on := 2, ground := Ground.guard }], guard := some (2, true) }) (v := ?_) rfl (by kernel_rfl) (by kernel_rfl) (by kernel_rfl) (fun _ _ _ h => h) (Or.inl ⟨by rfl, ?_⟩) hHeld ?_
  rotate_left
  · (intro w hSw; (try dsimp only at hSw); go_simp; (try with_reducible rfl))
  (try simp only [Act.put, List.setIfInBounds_toArray, List.set_cons_zero, List.set_cons_succ])
  refine wpAnyH_ready (rs := [5]) (by kernel_rfl) (by simp) ?_
  refine AllReadyH.cons (o := { dst := some 41, op := Op.call { callee := Callee.value (Operand.func 34), args := #[Operand.tmp 39, Operand.tmp 40], argTypes := #[24, 3] }, type := 24, pos := "exact.go:44", after := #[{ on := 3, ground := Ground.data }, { on := 4, ground := Ground.data }, { on := 2, ground := Ground.chain }, { on := 2, ground := Ground.guard }], guard := some (2, true) }) rfl (fun K hK => ?_) AllReadyH.nil
  clear hHeld
  go_simp
  go_at_call 34
  refine (wshr_g _ X n sa Aa na ca xa ?_ HX.out ?_ ?_ HS.out).mono ?_
  (focus repeat' (first | with_reducible exact l_a5 | with_reducible refine Lm.drew ?_ | with_reducible refine Lm.al ?_ _ | with_reducible refine Lm.put ?_ ?_ _ _ | with_reducible assumption))
  omega
  (refine t_T5.out.bel ?_; (focus repeat' (first | with_reducible assumption | with_reducible refine bel_drw ?_ | with_reducible refine bel_al ?_ | with_reducible refine bel_put ?_ ?_ _ _ | omega)))
  rintro e x1 ⟨A11, m11, c11, rfl, h11, hm11, e1⟩
  have hc := bel_undrew e1
  have q1 : Below v5.heap.size v5 x1 := hc
  have y1 : Below v5.heap.size v5 x1 := bel_next y0 q1
  have La_1 := l_a5.bel q1
  go_wp2_with fail
  refine hK.out _ _ ?_ (fun hHeld => ?_)
  · ((try dsimp only); (with_reducible refine keep10 ?_ hS0; (focus repeat' (first | with_reducible assumption | with_reducible refine bel_drw ?_ | with_reducible refine bel_al ?_ | with_reducible refine bel_put ?_ ?_ _ _ | omega))))
  clear hK K
  (try simp only [Act.put, List.setIfInBounds_toArray, List.set_cons_zero, List.set_cons_succ])
  refine wpAnyH_ready (rs := [8]) (by kernel_rfl) (by simp) ?_
  refine AllReadyH.cons (o := { dst := some 44, op := Op.call { callee := Callee.value (Operand.func 35), args := #[Operand.tmp 42, Operand.tmp 43], argTypes := #[24, 3] }, type := 24, pos := "exact.go:44", after := #[{ on := 6, ground := Ground.data }, { on := 7, ground := Ground.data }, { on := 5, ground := Ground.chain }, { on := 2, ground := Ground.guard }], guard := some (2, true) }) rfl (fun K hK => ?_) AllReadyH.nil
  clear hHeld
  go_simp
  go_at_call 35
  refine (rshrI_g _ X n sa Aa na ca xa ?_ HX.out ?_ HS.out).mono ?_
  (focus repeat' (first | with_reducible exact La_1 | with_reducible refine Lm.drew ?_ | with_reducible refine Lm.al ?_ _ | with_reducible refine Lm.put ?_ ?_ _ _ | with_reducible assumption))
  omega
  rintro e x2 ⟨A12, m12, c12, rfl, h12, hm12, e2⟩
  have hc := e2
  have q2 : Below x1.heap.size x1 x2 := hc
  have y2 : Below v5.heap.size v5 x2 := bel_next y1 q2
  have La_2 := La_1.bel q2
  have Ly_2 := h11.bel q2
  go_wp2_with fail
  refine hK.out _ _ ?_ (fun hHeld => ?_)
  · ((try dsimp only); (with_reducible refine keep10 ?_ hS0; (focus repeat' (first | with_reducible assumption | with_reducible refine bel_drw ?_ | with_reducible refine bel_al ?_ | with_reducible refine bel_put ?_ ?_ _ _ | omega))))
  clear hK K
  (try simp only [Act.put, List.setIfInBounds_toArray, List.set_cons_zero, List.set_cons_succ])
  refine wpAnyH_ready (rs := [9]) (by kernel_rfl) (by simp) ?_
  refine AllReadyH.cons (o := { dst := some 45, op := Op.call { callee := Callee.value (Operand.func 17), args := #[Operand.tmp 41, Operand.tmp 44], argTypes := #[24, 24] }, type := 4, pos := "exact.go:44", after := #[{ on := 5, ground := Ground.data }, { on := 8, ground := Ground.data }, { on := 8, ground := Ground.chain }, { on := 2, ground := Ground.guard }], guard := some (2, true) }) rfl (fun K hK => ?_) AllReadyH.nil
  clear hHeld
  go_simp
  go_at_call 17
  refine (rsameZ _ S S A11 m11 c11 ?_ A12 m12 c12 ?_ (decide_eq_true rfl)).mono ?_
  (focus repeat' (first | with_reducible exact Ly_2 | with_reducible refine Lm.drew ?_ | with_reducible refine Lm.al ?_ _ | with_reducible refine Lm.put ?_ ?_ _ _ | with_reducible assumption))
  (focus repeat' (first | with_reducible exact h12 | with_reducible refine Lm.drew ?_ | with_reducible refine Lm.al ?_ _ | with_reducible refine Lm.put ?_ ?_ _ _ | with_reducible assumption))
  rintro e x3 ⟨rfl, e3⟩
  have hc := e3
  have q3 : Below x2.heap.size x2 x3 := hc
  have y3 : Below v5.heap.size v5 x3 := bel_next y2 q3
  have La_3 := La_2.bel q3
  have Ly_3 := Ly_2.bel q3
  have Lz_3 := h12.bel q3
  go_wp2_with fail
  refine hK.out _ _ ?_ (fun hHeld => ?_)
  · ((try dsimp only); (with_reducible refine keep10 ?_ hS0; (focus repeat' (first | with_reducible assumption | with_reducible refine bel_drw ?_ | with_reducible refine bel_al ?_ | with_reducible refine bel_put ?_ ?_ _ _ | omega))))
  clear hK K
  (try simp only [Act.put, List.setIfInBounds_toArray, List.set_cons_zero, List.set_cons_succ])
  refine wpAnyH_take (i := 10) (oi := { dst := some 46, op := Op.unOp UnOp.not 4 (Operand.tmp 45), type := 4, pos := "exact.go:44", after := #[{ on := 9, ground := Ground.data }, { on := 2, ground := Ground.guard }], guard := some (2, true) }) (v := ?_) rfl (by kernel_rfl) (by kernel_rfl) (by kernel_rfl) (fun _ _ _ h => h) (Or.inl ⟨by rfl, ?_⟩) hHeld ?_
  rotate_left
  · (intro w hSw; (try dsimp only at hSw); go_simp; (try with_reducible rfl))
  (try simp only [Act.put, List.setIfInBounds_toArray, List.set_cons_zero, List.set_cons_succ])
  refine wpAnyH_take (i := 11) (oi := { dst := some 47, op := Op.pick (Operand.tmp 38) (Operand.tmp 46) (Operand.const (Value.bool false)), type := 4, pos := "exact.go:44", after := #[{ on := 2, ground := Ground.data }, { on := 10, ground := Ground.data }], guard := none }) (v := ?_) rfl (by kernel_rfl) (by kernel_rfl) (by kernel_rfl) (fun _ _ _ h => h) (Or.inl ⟨by rfl, ?_⟩) hHeld ?_
  rotate_left
  · (intro w hSw; (try dsimp only at hSw); go_simp; (try with_reducible rfl))
  (try simp only [Act.put, List.setIfInBounds_toArray, List.set_cons_zero, List.set_cons_succ])
  refine wpAnyH_done (by kernel_rfl) ?_ _
  refine NoPanic.normal ?_
  clear e1 e2
  have hbx := y3
  have b_a6 := b_a5.bel hbx
  have l_a6 := l_a5.bel hbx
  have t_T6 := Lib.hid (t_T5.out.bel hbx)
  have t_P6 := Lib.hid (t_P5.out.bel hbx)
  have t_F6 := Lib.hid (t_F5.out.bel hbx)
  have bel6 := bel5.trans (hbx.mono bel5.size)
  have c_a0_6 := b_a6.c0
  have c_a1_6 := b_a6.c1
  clear hbx b_a5 c_a0_5 c_a1_5 l_a5 t_T5 t_P5 t_F5 bel5
  go_wp2_with fail
  have cc := Lib.hid (wof_g x3 v HV2.out HV.out)
  refine cc.out.mono ?_
  clear cc
  rintro e v7 ⟨A5, m5, c5, rfl, h5, hm5, kb7⟩
  have b_a7 := b_a6.bel kb7
  have l_a7 := l_a6.bel kb7
  have t_T7 := Lib.hid (t_T6.out.bel kb7)
  have t_P7 := Lib.hid (t_P6.out.bel kb7)
  have t_F7 := Lib.hid (t_F6.out.bel kb7)
  have bel7 := bel6.trans (kb7.mono bel6.size)
  have c_a0_7 := b_a7.c0
  have c_a1_7 := b_a7.c1
  clear kb7 b_a6 c_a0_6 c_a1_6 l_a6 t_T6 t_P6 t_F6 bel6
  go_wp2_with fail
  have cc := Lib.hid (wsmall_g v7 V _ A5 m5 c5 _ h5 (sgn_lim V) t_F7.out HF1.out.1 HF1.out.2)
  refine cc.out.mono ?_
  clear cc
  rintro e v8 ⟨rfl, kb8⟩
  have b_a8 := b_a7.bel kb8
  have l_a8 := l_a7.bel kb8
  have l_o8 := h5.bel kb8
  have t_T8 := Lib.hid (t_T7.out.bel kb8)
  have t_P8 := Lib.hid (t_P7.out.bel kb8)
  have t_F8 := Lib.hid (t_F7.out.bel kb8)
  have bel8 := bel7.trans (kb8.mono bel7.size)
  have c_a0_8 := b_a8.c0
  have c_a1_8 := b_a8.c1
  clear kb8 b_a7 c_a0_7 c_a1_7 l_a7 h5 t_T7 t_P7 t_F7 bel7
  clear l_o8
  go_upto_region 10 with (fail)
  have hS0 := held0 b_a8
  have y0 : Below v8.heap.size v8 v8 := Below.refl _ _
  refine wp_region_noPanic ?_
  refine wp_region_held_drew (S := (fun w' => (Box w' ga sa Aa na ca ∧ w'.cell? ⟨ga, 0, none⟩ = some (.bool sa) ∧ w'.cell? ⟨ga, 1, none⟩ = some (.slice Aa na ca)))) (by kernel_rfl) ?_ (fun hHeld => ?_)
  · ((try dsimp only); (with_reducible refine keep10 ?_ hS0; (focus repeat' (first | with_reducible assumption | with_reducible refine bel_drw ?_ | with_reducible refine bel_al ?_ | with_reducible refine bel_put ?_ ?_ _ _ | omega))))
  refine wpAnyH_take (i := 0) (oi := { dst := some 54, op := Op.load 24 (Operand.tmp 3), type := 24, pos := "exact.go:48", after := #[], guard := none }) (v := ?_) rfl (by kernel_rfl) (by kernel_rfl) (by kernel_rfl) (fun _ _ _ h => h) (Or.inl ⟨by rfl, ?_⟩) hHeld ?_
  rotate_left
  · (intro w hSw; (try dsimp only at hSw); go_simp; (try with_reducible rfl))
  (try simp only [Act.put, List.setIfInBounds_toArray, List.set_cons_zero, List.set_cons_succ])
  refine wpAnyH_take (i := 1) (oi := { dst := some 55, op := Op.move (Operand.tmp 1), type := 3, pos := "exact.go:48", after := #[], guard := none }) (v := ?_) rfl (by kernel_rfl) (by kernel_rfl) (by kernel_rfl) (fun _ _ _ h => h) (Or.inl ⟨by rfl, ?_⟩) hHeld ?_
  rotate_left
  · (intro w hSw; (try dsimp only at hSw); go_simp; (try with_reducible rfl))
  (try simp only [Act.put, List.setIfInBounds_toArray, List.set_cons_zero, List.set_cons_succ])
  refine wpAnyH_take (i := 2) (oi := { dst := some 56, op := Op.call { callee := Callee.builtin Builtin.min, args := #[Operand.tmp 55, Operand.const (Value.int IntKind.i64 1500)], argTypes := #[3, 3] }, type := 3, pos := "exact.go:48", after := #[{ on := 1, ground := Ground.data }], guard := none }) (v := ?_) rfl (by kernel_rfl) (by kernel_rfl) (by kernel_rfl) (fun _ _ _ h => h) (Or.inl ⟨by rfl, ?_⟩) hHeld ?_
  rotate_left
  · (intro w hSw; (try dsimp only at hSw); go_simp; (try with_reducible rfl))
  (try simp only [Act.put, List.setIfInBounds_toArray, List.set_cons_zero, List.set_cons_succ])
  refine wpAnyH_take (i := 4) (oi := { dst := some 58, op := Op.load 24 (Operand.tmp 3), type := 24, pos := "exact.go:48", after := #[], guard := none }) (v := ?_) rfl (by kernel_rfl) (by kernel_rfl) (by kernel_rfl) (fun _ _ _ h => h) (Or.inl ⟨by rfl, ?_⟩) hHeld ?_
  rotate_left
  · (intro w hSw; (try dsimp only at hSw); go_simp; (try with_reducible rfl))
  (try simp only [Act.put, List.setIfInBounds_toArray, List.set_cons_zero, List.set_cons_succ])
  refine wpAnyH_take (i := 5) (oi := { dst := some 59, op := Op.move (Operand.tmp 1), type := 3, pos := "exact.go:48", after := #[], guard := none }) (v := ?_) rfl (by kernel_rfl) (by kernel_rfl) (by kernel_rfl) (fun _ _ _ h => h) (Or.inl ⟨by rfl, ?_⟩) hHeld ?_
  rotate_left
  · (intro w hSw; (try dsimp only at hSw); go_simp; (try with_reducible rfl))
  (try simp only [Act.put, List.setIfInBounds_toArray, List.set_cons_zero, List.set_cons_succ])
  refine wpAnyH_take (i := 6) (oi := { dst := some 60, op := Op.call { callee := Callee.builtin Builtin.min, args := #[Operand.tmp 59, Operand.const (Value.int IntKind.i64 1500)], argTypes := #[3, 3] }, type := 3, pos := "exact.go:48", after := #[{ on := 5, ground := Ground.data }], guard := none }) (v := ?_) rfl (by kernel_rfl) (by kernel_rfl) (by kernel_rfl) (fun _ _ _ h => h) (Or.inl ⟨by rfl, ?_⟩) hHeld ?_
  rotate_left
  · (intro w hSw; (try dsimp only at hSw); go_simp; (try with_reducible rfl))
  (try simp only [Act.put, List.setIfInBounds_toArray, List.set_cons_zero, List.set_cons_succ])
  refine wpAnyH_ready (rs := [3]) (by kernel_rfl) (by simp) ?_
  refine AllReadyH.cons (o := { dst := some 57, op := Op.call { callee := Callee.value (Operand.func 37), args := #[Operand.tmp 54, Operand.tmp 56], argTypes := #[24, 3] }, type := 24, pos := "exact.go:48", after := #[{ on := 0, ground := Ground.data }, { on := 2, ground := Ground.data }], guard := none }) rfl (fun K hK => ?_) AllReadyH.nil
  clear hHeld
  go_simp
  go_at_call 37
  (try rw [Hq.out])
  refine (wshl_g _ X q sa Aa na ca xa ?_ HX.out ?_ HZ.out).mono ?_
  (focus repeat' (first | with_reducible exact l_a8 | with_reducible refine Lm.drew ?_ | with_reducible refine Lm.al ?_ _ | with_reducible refine Lm.put ?_ ?_ _ _ | with_reducible assumption))
  omega
  rintro e x1 ⟨A13, m13, c13, rfl, h13, hm13, e1⟩
  have hc := bel_undrew e1
  have q1 : Below v8.heap.size v8 x1 := hc
  have y1 : Below v8.heap.size v8 x1 := bel_next y0 q1
  have La_1 := l_a8.bel q1
  go_wp2_with fail
  refine hK.out _ _ ?_ (fun hHeld => ?_)
  · ((try dsimp only); (with_reducible refine keep10 ?_ hS0; (focus repeat' (first | with_reducible assumption | with_reducible refine bel_drw ?_ | with_reducible refine bel_al ?_ | with_reducible refine bel_put ?_ ?_ _ _ | omega))))
  clear hK K
  (try simp only [Act.put, List.setIfInBounds_toArray, List.set_cons_zero, List.set_cons_succ])
  refine wpAnyH_ready (rs := [7]) (by kernel_rfl) (by simp) ?_
  refine AllReadyH.cons (o := { dst := some 61, op := Op.call { callee := Callee.value (Operand.func 38), args := #[Operand.tmp 58, Operand.tmp 60], argTypes := #[24, 3] }, type := 24, pos := "exact.go:48", after := #[{ on := 4, ground := Ground.data }, { on := 6, ground := Ground.data }, { on := 3, ground := Ground.chain }], guard := none }) rfl (fun K hK => ?_) AllReadyH.nil
  clear hHeld
  go_simp
  go_at_call 38
  (try rw [Hq.out])
  refine (rshlI_g _ X q sa Aa na ca xa ?_ HX.out ?_ HZ.out).mono ?_
  (focus repeat' (first | with_reducible exact La_1 | with_reducible refine Lm.drew ?_ | with_reducible refine Lm.al ?_ _ | with_reducible refine Lm.put ?_ ?_ _ _ | with_reducible assumption))
  omega
  rintro e x2 ⟨A14, m14, c14, rfl, h14, hm14, e2⟩
  have hc := e2
  have q2 : Below x1.heap.size x1 x2 := hc
  have y2 : Below v8.heap.size v8 x2 := bel_next y1 q2
  have La_2 := La_1.bel q2
  have Ly_2 := h13.bel q2
  go_wp2_with fail
  refine hK.out _ _ ?_ (fun hHeld => ?_)
  · ((try dsimp only); (with_reducible refine keep10 ?_ hS0; (focus repeat' (first | with_reducible assumption | with_reducible refine bel_drw ?_ | with_reducible refine bel_al ?_ | with_reducible refine bel_put ?_ ?_ _ _ | omega))))
  clear hK K
  (try simp only [Act.put, List.setIfInBounds_toArray, List.set_cons_zero, List.set_cons_succ])
  refine wpAnyH_ready (rs := [8]) (by kernel_rfl) (by simp) ?_
  refine AllReadyH.cons (o := { dst := some 62, op := Op.call { callee := Callee.value (Operand.func 17), args := #[Operand.tmp 57, Operand.tmp 61], argTypes := #[24, 24] }, type := 4, pos := "exact.go:48", after := #[{ on := 3, ground := Ground.data }, { on := 7, ground := Ground.data }, { on := 7, ground := Ground.chain }], guard := none }) rfl (fun K hK => ?_) AllReadyH.nil
  clear hHeld
  go_simp
  go_at_call 17
  refine (rsameZ _ Z Z A13 m13 c13 ?_ A14 m14 c14 ?_ (decide_eq_true rfl)).mono ?_
  (focus repeat' (first | with_reducible exact Ly_2 | with_reducible refine Lm.drew ?_ | with_reducible refine Lm.al ?_ _ | with_reducible refine Lm.put ?_ ?_ _ _ | with_reducible assumption))
  (focus repeat' (first | with_reducible exact h14 | with_reducible refine Lm.drew ?_ | with_reducible refine Lm.al ?_ _ | with_reducible refine Lm.put ?_ ?_ _ _ | with_reducible assumption))
  rintro e x3 ⟨rfl, e3⟩
  have hc := e3
  have q3 : Below x2.heap.size x2 x3 := hc
  have y3 : Below v8.heap.size v8 x3 := bel_next y2 q3
  have La_3 := La_2.bel q3
  go_wp2_with fail
  refine hK.out _ _ ?_ (fun hHeld => ?_)
  · ((try dsimp only); (with_reducible refine keep10 ?_ hS0; (focus repeat' (first | with_reducible assumption | with_reducible refine bel_drw ?_ | with_reducible refine bel_al ?_ | with_reducible refine bel_put ?_ ?_ _ _ | omega))))
  clear hK K
  (try simp only [Act.put, List.setIfInBounds_toArray, List.set_cons_zero, List.set_cons_succ])
  refine wpAnyH_take (i := 9) (oi := { dst := some 63, op := Op.move (Operand.tmp 62), type := 4, pos := "exact.go:48", after := #[{ on := 8, ground := Ground.data }, { on := 8, ground := Ground.chain }], guard := none }) (v := ?_) rfl (by kernel_rfl) (by kernel_rfl) (by kernel_rfl) (fun _ _ _ h => h) (Or.inl ⟨by rfl, ?_⟩) hHeld ?_
  rotate_left
  · (intro w hSw; (try dsimp only at hSw); go_simp; (try with_reducible rfl))
  (try simp only [Act.put, List.setIfInBounds_toArray, List.set_cons_zero, List.set_cons_succ])
  refine wpAnyH_take (i := 10) (oi := { dst := some 64, op := Op.move (Operand.tmp 7), type := 2, pos := "exact.go:48", after := #[{ on := 9, ground := Ground.guard }], guard := some (9, true) }) (v := ?_) rfl (by kernel_rfl) (by kernel_rfl) (by kernel_rfl) (fun _ _ _ h => h) (Or.inl ⟨by rfl, ?_⟩) hHeld ?_
  rotate_left
  · (intro w hSw; (try dsimp only at hSw); go_simp; (try with_reducible rfl))
  (try simp only [Act.put, List.setIfInBounds_toArray, List.set_cons_zero, List.set_cons_succ])
  refine wpAnyH_take (i := 11) (oi := { dst := some 65, op := Op.move (Operand.tmp 9), type := 2, pos := "exact.go:48", after := #[{ on := 9, ground := Ground.guard }], guard := some (9, true) }) (v := ?_) rfl (by kernel_rfl) (by kernel_rfl) (by kernel_rfl) (fun _ _ _ h => h) (Or.inl ⟨by rfl, ?_⟩) hHeld ?_
  rotate_left
  · (intro w hSw; (try dsimp only at hSw); go_simp; (try with_reducible rfl))
  (try simp only [Act.put, List.setIfInBounds_toArray, List.set_cons_zero, List.set_cons_succ])
  refine wpAnyH_take (i := 12) (oi := { dst := some 66, op := Op.binOp BinOp.eql 2 (Operand.tmp 64) (Operand.tmp 65) 2, type := 4, pos := "exact.go:48", after := #[{ on := 10, ground := Ground.data }, { on := 11, ground := Ground.data }, { on := 9, ground := Ground.guard }], guard := some (9, true) }) (v := ?_) rfl (by kernel_rfl) (by kernel_rfl) (by kernel_rfl) (fun _ _ _ h => h) (Or.inl ⟨by rfl, ?_⟩) hHeld ?_
  rotate_left
  · (intro w hSw; (try dsimp only at hSw); go_simp; (try with_reducible rfl))
  (try simp only [Act.put, List.setIfInBounds_toArray, List.set_cons_zero, List.set_cons_succ])
  refine wpAnyH_take (i := 13) (oi := { dst := some 67, op := Op.pick (Operand.tmp 63) (Operand.tmp 66) (Operand.const (Value.bool false)), type := 4, pos := "exact.go:48", after := #[{ on := 9, ground := Ground.data }, { on := 12, ground := Ground.data }], guard := none }) (v := ?_) rfl (by kernel_rfl) (by kernel_rfl) (by kernel_rfl) (fun _ _ _ h => h) (Or.inl ⟨by rfl, ?_⟩) hHeld ?_
  rotate_left
  · (intro w hSw; (try dsimp only at hSw); go_simp; (try with_reducible rfl))
  (try simp only [Act.put, List.setIfInBounds_toArray, List.set_cons_zero, List.set_cons_succ])
  refine wpAnyH_take (i := 14) (oi := { dst := some 68, op := Op.move (Operand.tmp 67), type := 4, pos := "exact.go:48", after := #[{ on := 13, ground := Ground.data }, { on := 9, ground := Ground.chain }], guard := none }) (v := ?_) rfl (by kernel_rfl) (by kernel_rfl) (by kernel_rfl) (fun _ _ _ h => h) (Or.inl ⟨by rfl, ?_⟩) hHeld ?_
  rotate_left
  · (intro w hSw; (try dsimp only at hSw); go_simp; (try with_reducible rfl))
  (try simp only [Act.put, List.setIfInBounds_toArray, List.set_cons_zero, List.set_cons_succ])
  refine wpAnyH_take (i := 15) (oi := { dst := some 69, op := Op.move (Operand.tmp 8), type := 4, pos := "exact.go:48", after := #[{ on := 14, ground := Ground.guard }], guard := some (14, true) }) (v := ?_) rfl (by kernel_rfl) (by kernel_rfl) (by kernel_rfl) (fun _ _ _ h => h) (Or.inl ⟨by rfl, ?_⟩) hHeld ?_
  rotate_left
  · (intro w hSw; (try dsimp only at hSw); go_simp; (try with_reducible rfl))
  (try simp only [Act.put, List.setIfInBounds_toArray, List.set_cons_zero, List.set_cons_succ])
  refine wpAnyH_take (i := 16) (oi := { dst := some 70, op := Op.move (Operand.tmp 10), type := 4, pos := "exact.go:48", after := #[{ on := 14, ground := Ground.guard }], guard := some (14, true) }) (v := ?_) rfl (by kernel_rfl) (by kernel_rfl) (by kernel_rfl) (fun _ _ _ h => h) (Or.inl ⟨by rfl, ?_⟩) hHeld ?_
  rotate_left
  · (intro w hSw; (try dsimp only at hSw); go_simp; (try with_reducible rfl))
  (try simp only [Act.put, List.setIfInBounds_toArray, List.set_cons_zero, List.set_cons_succ])
  refine wpAnyH_take (i := 17) (oi := { dst := some 71, op := Op.binOp BinOp.eql 4 (Operand.tmp 69) (Operand.tmp 70) 4, type := 4, pos := "exact.go:48", after := #[{ on := 15, ground := Ground.data }, { on := 16, ground := Ground.data }, { on := 14, ground := Ground.guard }], guard := some (14, true) }) (v := ?_) rfl (by kernel_rfl) (by kernel_rfl) (by kernel_rfl) (fun _ _ _ h => h) (Or.inl ⟨by rfl, ?_⟩) hHeld ?_
  rotate_left
  · (intro w hSw; (try dsimp only at hSw); go_simp; (try with_reducible rfl))
  (try simp only [Act.put, List.setIfInBounds_toArray, List.set_cons_zero, List.set_cons_succ])
  refine wpAnyH_take (i := 18) (oi := { dst := some 72, op := Op.pick (Operand.tmp 68) (Operand.tmp 71) (Operand.const (Value.bool false)), type := 4, pos := "exact.go:48", after := #[{ on := 14, ground := Ground.data }, { on := 17, ground := Ground.data }], guard := none }) (v := ?_) rfl (by kernel_rfl) (by kernel_rfl) (by kernel_rfl) (fun _ _ _ h => h) (Or.inl ⟨by rfl, ?_⟩) hHeld ?_
  rotate_left
  · (intro w hSw; (try dsimp only at hSw); go_simp; (try with_reducible rfl))
  (try simp only [Act.put, List.setIfInBounds_toArray, List.set_cons_zero, List.set_cons_succ])
  refine wpAnyH_take (i := 19) (oi := { dst := some 73, op := Op.move (Operand.tmp 72), type := 4, pos := "exact.go:48", after := #[{ on := 18, ground := Ground.data }, { on := 14, ground := Ground.chain }], guard := none }) (v := ?_) rfl (by kernel_rfl) (by kernel_rfl) (by kernel_rfl) (fun _ _ _ h => h) (Or.inl ⟨by rfl, ?_⟩) hHeld ?_
  rotate_left
  · (intro w hSw; (try dsimp only at hSw); go_simp; (try with_reducible rfl))
  (try simp only [Act.put, List.setIfInBounds_toArray, List.set_cons_zero, List.set_cons_succ])
  refine wpAnyH_take (i := 20) (oi := { dst := some 74, op := Op.move (Operand.tmp 2), type := 2, pos := "exact.go:48", after := #[{ on := 19, ground := Ground.guard }], guard := some (19, true) }) (v := ?_) rfl (by kernel_rfl) (by kernel_rfl) (by kernel_rfl) (fun _ _ _ h => h) (Or.inl ⟨by rfl, ?_⟩) hHeld ?_
  rotate_left
  · (intro w hSw; (try dsimp only at hSw); go_simp; (try with_reducible rfl))
  (try simp only [Act.put, List.setIfInBounds_toArray, List.set_cons_zero, List.set_cons_succ])
  refine wpAnyH_take (i := 22) (oi := { dst := some 76, op := Op.move (Operand.tmp 2), type := 2, pos := "exact.go:48", after := #[{ on := 19, ground := Ground.guard }], guard := some (19, true) }) (v := ?_) rfl (by kernel_rfl) (by kernel_rfl) (by kernel_rfl) (fun _ _ _ h => h) (Or.inl ⟨by rfl, ?_⟩) hHeld ?_
  rotate_left
  · (intro w hSw; (try dsimp only at hSw); go_simp; (try with_reducible rfl))
  (try simp only [Act.put, List.setIfInBounds_toArray, List.set_cons_zero, List.set_cons_succ])
  refine wpAnyH_ready (rs := [21]) (by kernel_rfl) (by simp) ?_
  refine AllReadyH.cons (o := { dst := some 75, op := Op.call { callee := Callee.value (Operand.func 36), args := #[Operand.tmp 74], argTypes := #[2] }, type := 24, pos := "exact.go:48", after := #[{ on := 20, ground := Ground.data }, { on := 19, ground := Ground.chain }, { on := 19, ground := Ground.guard }], guard := some (19, true) }) rfl (fun K hK => ?_) AllReadyH.nil
  clear hHeld
  go_simp
  go_at_call 36
  refine (wof_g _ v HV2.out HV.out).mono ?_
  rintro e x4 ⟨A15, m15, c15, rfl, h15, hm15, e4⟩
  have hc := e4
  have q4 : Below x3.heap.size x3 x4 := hc
  have y4 : Below v8.heap.size v8 x4 := bel_next y3 q4
  have La_4 := La_3.bel q4
  go_wp2_with fail
  refine hK.out _ _ ?_ (fun hHeld => ?_)
  · ((try dsimp only); (with_reducible refine keep10 ?_ hS0; (focus repeat' (first | with_reducible assumption | with_reducible refine bel_drw ?_ | with_reducible refine bel_al ?_ | with_reducible refine bel_put ?_ ?_ _ _ | omega))))
  clear hK K
  (try simp only [Act.put, List.setIfInBounds_toArray, List.set_cons_zero, List.set_cons_succ])
  refine wpAnyH_ready (rs := [23]) (by kernel_rfl) (by simp) ?_
  refine AllReadyH.cons (o := { dst := some 77, op := Op.call { callee := Callee.value (Operand.func 39), args := #[Operand.tmp 76], argTypes := #[2] }, type := 24, pos := "exact.go:48", after := #[{ on := 22, ground := Ground.data }, { on := 21, ground := Ground.chain }, { on := 19, ground := Ground.guard }], guard := some (19, true) }) rfl (fun K hK => ?_) AllReadyH.nil
  clear hHeld
  go_simp
  go_at_call 39
  refine (rof_g _ v HV2.out HV.out).mono ?_
  rintro e x5 ⟨A16, m16, c16, rfl, h16, hm16, e5⟩
  have hc := e5
  have q5 : Below x4.heap.size x4 x5 := hc
  have y5 : Below v8.heap.size v8 x5 := bel_next y4 q5
  have La_5 := La_4.bel q5
  have Ly_5 := h15.bel q5
  go_wp2_with fail
  refine hK.out _ _ ?_ (fun hHeld => ?_)
  · ((try dsimp only); (with_reducible refine keep10 ?_ hS0; (focus repeat' (first | with_reducible assumption | with_reducible refine bel_drw ?_ | with_reducible refine bel_al ?_ | with_reducible refine bel_put ?_ ?_ _ _ | omega))))
  clear hK K
  (try simp only [Act.put, List.setIfInBounds_toArray, List.set_cons_zero, List.set_cons_succ])
  refine wpAnyH_ready (rs := [24]) (by kernel_rfl) (by simp) ?_
  refine AllReadyH.cons (o := { dst := some 78, op := Op.call { callee := Callee.value (Operand.func 17), args := #[Operand.tmp 75, Operand.tmp 77], argTypes := #[24, 24] }, type := 4, pos := "exact.go:48", after := #[{ on := 21, ground := Ground.data }, { on := 23, ground := Ground.data }, { on := 23, ground := Ground.chain }, { on := 19, ground := Ground.guard }], guard := some (19, true) }) rfl (fun K hK => ?_) AllReadyH.nil
  clear hHeld
  go_simp
  go_at_call 17
  refine (rsameZ _ V V A15 m15 c15 ?_ A16 m16 c16 ?_ (decide_eq_true rfl)).mono ?_
  (focus repeat' (first | with_reducible exact Ly_5 | with_reducible refine Lm.drew ?_ | with_reducible refine Lm.al ?_ _ | with_reducible refine Lm.put ?_ ?_ _ _ | with_reducible assumption))
  (focus repeat' (first | with_reducible exact h16 | with_reducible refine Lm.drew ?_ | with_reducible refine Lm.al ?_ _ | with_reducible refine Lm.put ?_ ?_ _ _ | with_reducible assumption))
  rintro e x6 ⟨rfl, e6⟩
  have hc := e6
  have q6 : Below x5.heap.size x5 x6 := hc
  have y6 : Below v8.heap.size v8 x6 := bel_next y5 q6
  have La_6 := La_5.bel q6
  have Ly_6 := Ly_5.bel q6
  have Lz_6 := h16.bel q6
  go_wp2_with fail
  refine hK.out _ _ ?_ (fun hHeld => ?_)
  · ((try dsimp only); (with_reducible refine keep10 ?_ hS0; (focus repeat' (first | with_reducible assumption | with_reducible refine bel_drw ?_ | with_reducible refine bel_al ?_ | with_reducible refine bel_put ?_ ?_ _ _ | omega))))
  clear hK K
  (try simp only [Act.put, List.setIfInBounds_toArray, List.set_cons_zero, List.set_cons_succ])
  refine wpAnyH_take (i := 25) (oi := { dst := some 79, op := Op.pick (Operand.tmp 73) (Operand.tmp 78) (Operand.const (Value.bool false)), type := 4, pos := "exact.go:48", after := #[{ on := 19, ground := Ground.data }, { on := 24, ground := Ground.data }], guard := none }) (v := ?_) rfl (by kernel_rfl) (by kernel_rfl) (by kernel_rfl) (fun _ _ _ h => h) (Or.inl ⟨by rfl, ?_⟩) hHeld ?_
  rotate_left
  · (intro w hSw; (try dsimp only at hSw); go_simp; (try with_reducible rfl))
  (try simp only [Act.put, List.setIfInBounds_toArray, List.set_cons_zero, List.set_cons_succ])
  refine wpAnyH_take (i := 26) (oi := { dst := some 80, op := Op.move (Operand.tmp 79), type := 4, pos := "exact.go:48", after := #[{ on := 25, ground := Ground.data }, { on := 24, ground := Ground.chain }], guard := none }) (v := ?_) rfl (by kernel_rfl) (by kernel_rfl) (by kernel_rfl) (fun _ _ _ h => h) (Or.inl ⟨by rfl, ?_⟩) hHeld ?_
  rotate_left
  · (intro w hSw; (try dsimp only at hSw); go_simp; (try with_reducible rfl))
  (try simp only [Act.put, List.setIfInBounds_toArray, List.set_cons_zero, List.set_cons_succ])
  refine wpAnyH_take (i := 27) (oi := { dst := some 81, op := Op.move (Operand.tmp 12), type := 4, pos := "exact.go:48", after := #[{ on := 26, ground := Ground.guard }], guard := some (26, true) }) (v := ?_) rfl (by kernel_rfl) (by kernel_rfl) (by kernel_rfl) (fun _ _ _ h => h) (Or.inl ⟨by rfl, ?_⟩) hHeld ?_
  rotate_left
  · (intro w hSw; (try dsimp only at hSw); go_simp; (try with_reducible rfl))
  (try simp only [Act.put, List.setIfInBounds_toArray, List.set_cons_zero, List.set_cons_succ])
  refine wpAnyH_take (i := 28) (oi := { dst := some 82, op := Op.pick (Operand.tmp 80) (Operand.tmp 81) (Operand.const (Value.bool false)), type := 4, pos := "exact.go:48", after := #[{ on := 26, ground := Ground.data }, { on := 27, ground := Ground.data }], guard := none }) (v := ?_) rfl (by kernel_rfl) (by kernel_rfl) (by kernel_rfl) (fun _ _ _ h => h) (Or.inl ⟨by rfl, ?_⟩) hHeld ?_
  rotate_left
  · (intro w hSw; (try dsimp only at hSw); go_simp; (try with_reducible rfl))
  (try simp only [Act.put, List.setIfInBounds_toArray, List.set_cons_zero, List.set_cons_succ])
  refine wpAnyH_take (i := 29) (oi := { dst := some 83, op := Op.move (Operand.tmp 82), type := 4, pos := "exact.go:48", after := #[{ on := 28, ground := Ground.data }, { on := 26, ground := Ground.chain }], guard := none }) (v := ?_) rfl (by kernel_rfl) (by kernel_rfl) (by kernel_rfl) (fun _ _ _ h => h) (Or.inl ⟨by rfl, ?_⟩) hHeld ?_
  rotate_left
  · (intro w hSw; (try dsimp only at hSw); go_simp; (try with_reducible rfl))
  (try simp only [Act.put, List.setIfInBounds_toArray, List.set_cons_zero, List.set_cons_succ])
  refine wpAnyH_take (i := 30) (oi := { dst := some 84, op := Op.move (Operand.tmp 11), type := 2, pos := "exact.go:48", after := #[{ on := 29, ground := Ground.guard }], guard := some (29, true) }) (v := ?_) rfl (by kernel_rfl) (by kernel_rfl) (by kernel_rfl) (fun _ _ _ h => h) (Or.inl ⟨by rfl, ?_⟩) hHeld ?_
  rotate_left
  · (intro w hSw; (try dsimp only at hSw); go_simp; (try with_reducible rfl))
  (try simp only [Act.put, List.setIfInBounds_toArray, List.set_cons_zero, List.set_cons_succ])
  refine wpAnyH_take (i := 31) (oi := { dst := some 85, op := Op.move (Operand.tmp 2), type := 2, pos := "exact.go:48", after := #[{ on := 29, ground := Ground.guard }], guard := some (29, true) }) (v := ?_) rfl (by kernel_rfl) (by kernel_rfl) (by kernel_rfl) (fun _ _ _ h => h) (Or.inl ⟨by rfl, ?_⟩) hHeld ?_
  rotate_left
  · (intro w hSw; (try dsimp only at hSw); go_simp; (try with_reducible rfl))
  (try simp only [Act.put, List.setIfInBounds_toArray, List.set_cons_zero, List.set_cons_succ])
  refine wpAnyH_take (i := 32) (oi := { dst := some 86, op := Op.binOp BinOp.eql 2 (Operand.tmp 84) (Operand.tmp 85) 2, type := 4, pos := "exact.go:48", after := #[{ on := 30, ground := Ground.data }, { on := 31, ground := Ground.data }, { on := 29, ground := Ground.guard }], guard := some (29, true) }) (v := ?_) rfl (by kernel_rfl) (by kernel_rfl) (by kernel_rfl) (fun _ _ _ h => h) (Or.inl ⟨by rfl, ?_⟩) hHeld ?_
  rotate_left
  · (intro w hSw; (try dsimp only at hSw); go_simp; (try with_reducible rfl))
  (try simp only [Act.put, List.setIfInBounds_toArray, List.set_cons_zero, List.set_cons_succ])
  refine wpAnyH_take (i := 33) (oi := { dst := some 87, op := Op.pick (Operand.tmp 83) (Operand.tmp 86) (Operand.const (Value.bool false)), type := 4, pos := "exact.go:48", after := #[{ on := 29, ground := Ground.data }, { on := 32, ground := Ground.data }], guard := none }) (v := ?_) rfl (by kernel_rfl) (by kernel_rfl) (by kernel_rfl) (fun _ _ _ h => h) (Or.inl ⟨by rfl, ?_⟩) hHeld ?_
  rotate_left
  · (intro w hSw; (try dsimp only at hSw); go_simp; (try with_reducible rfl))
  (try simp only [Act.put, List.setIfInBounds_toArray, List.set_cons_zero, List.set_cons_succ])
  refine wpAnyH_take (i := 34) (oi := { dst := some 6, op := Op.assign (Operand.tmp 87), type := 4, pos := "exact.go:48", after := #[{ on := 33, ground := Ground.data }, { on := 29, ground := Ground.chain }, { on := 0, ground := Ground.phase }, { on := 1, ground := Ground.phase }, { on := 2, ground := Ground.phase }, { on := 3, ground := Ground.phase }, { on := 4, ground := Ground.phase }, { on := 5, ground := Ground.phase }, { on := 6, ground := Ground.phase }, { on := 7, ground := Ground.phase }, { on := 8, ground := Ground.phase }, { on := 9, ground := Ground.phase }, { on := 10, ground := Ground.phase }, { on := 11, ground := Ground.phase }, { on := 12, ground := Ground.phase }, { on := 13, ground := Ground.phase }, { on := 14, ground := Ground.phase }, { on := 15, ground := Ground.phase }, { on := 16, ground := Ground.phase }, { on := 17, ground := Ground.phase }, { on := 18, ground := Ground.phase }, { on := 19, ground := Ground.phase }, { on := 20, ground := Ground.phase }, { on := 21, ground := Ground.phase }, { on := 22, ground := Ground.phase }, { on := 23, ground := Ground.phase }, { on := 24, ground := Ground.phase }, { on := 25, ground := Ground.phase }, { on := 26, ground := Ground.phase }, { on := 27, ground := Ground.phase }, { on := 28, ground := Ground.phase }, { on := 29, ground := Ground.phase }, { on := 30, ground := Ground.phase }, { on := 31, ground := Ground.phase }, { on := 32, ground := Ground.phase }, { on := 33, ground := Ground.phase }], guard := none }) (v := ?_) rfl (by kernel_rfl) (by kernel_rfl) (by kernel_rfl) (fun _ _ _ h => h) (Or.inl ⟨by rfl, ?_⟩) hHeld ?_
  rotate_left
  · (intro w hSw; (try dsimp only at hSw); go_simp; (try with_reducible rfl))
  (try simp only [Act.put, List.setIfInBounds_toArray, List.set_cons_zero, List.set_cons_succ])
  refine wpAnyH_done (by kernel_rfl) ?_ _
  refine NoPanic.normal ?_
  go_wp2
  go_ret
  exact ⟨rfl, bel8.trans (y6.mono bel8.size)⟩
set_option maxRecDepth 100000 in
set_option maxHeartbeats 40000000 in
theorem wshifts_few1 (w : World) (sa : Bool) (Aa : Option Addr) (na ca : Nat) (xa : List Nat) (La : Lm w Aa na ca xa) (fa : na ≤ 24) (n v : Int) (hv : -9223372036854775808 ≤ v ∧ v ≤ 9223372036854775807) (hn : 100000 < n) (hT : Tab w) (hP : ProductsT w) (hF : FarthestT w) :
    Calls Tryd.prog 4 #[.agg #[.bool sa, .slice Aa na ca], .int .i64 n, .int .i64 v] w fun e w' => e = .returned (.bool true) ∧ Below w.heap.size w w' := by
  obtain ⟨X, hX⟩ : ∃ V0 : Int, sgn sa (val xa) = V0 := ⟨_, rfl⟩
  have HX := Lib.hid hX
  clear hX
  have Hd := Lib.hid (decide_eq_true (show (na : Int) ≤ 24 by omega))
  obtain ⟨V, hV⟩ : ∃ V0 : Int, v = V0 := ⟨_, rfl⟩
  have HV := Lib.hid hV
  clear hV
  obtain ⟨S, hS⟩ : ∃ V0 : Int, X / 2 ^ heldN n = V0 := ⟨_, rfl⟩
  have HS := Lib.hid hS
  clear hS
  obtain ⟨q, hq⟩ : ∃ V0 : Int, min n 1500 = V0 := ⟨_, rfl⟩
  have Hq := Lib.hid hq
  clear hq
  obtain ⟨Z, hZ⟩ : ∃ V0 : Int, X * 2 ^ heldN q = V0 := ⟨_, rfl⟩
  have HZ := Lib.hid hZ
  clear hZ
  obtain ⟨t, ht⟩ : ∃ V0 : Bool, fits X = V0 := ⟨_, rfl⟩
  have Ht := Lib.hid ht
  clear ht
  obtain ⟨k, hk⟩ : ∃ V0 : Int, (if fits X = true then X else 0) = V0 := ⟨_, rfl⟩
  have Hk := Lib.hid hk
  clear hk
  have HV2 : Hid (-9223372036854775808 ≤ v ∧ v ≤ 9223372036854775807) := (hv : -9223372036854775808 ≤ v ∧ v ≤ 9223372036854775807)
  have HF1 : Hid ((if fits V = true then V else 0) = v ∧ fits V = true) := (by
    have h1 : fits V = true := (fits_iff V).2 (by rw [← HV.out]; exact hv)
    exact ⟨by rw [if_pos h1]; exact HV.out.symm, h1⟩ : (if fits V = true then V else 0) = v ∧ fits V = true)
  clear hv
  have hg1 : n > 1500 := by omega
  have hg2 : ¬ n ≤ 100000 := by omega
  have hg3 : decide (n ≤ 1500) = false := decide_eq_false (by omega)
  have Hg3 := Lib.hid hg3
  have HTT := Lib.hid hT
  have HTP := Lib.hid hP
  have HTF := Lib.hid hF
  clear hT hP hF
  go_enter Tryd.func4, Tryd.ntmps4
  go_wp2_with fail
  obtain ⟨ga, hga⟩ : ∃ g, g = w.heap.size := ⟨_, rfl⟩
  obtain ⟨w1, hw1⟩ : ∃ v, v = (w.alloc (.cells #[.bool sa, .slice Aa na ca] 24)) := ⟨_, rfl⟩
  have bel1 : Below w.heap.size w w1 := by rw [hw1]; exact bel_alloc _ _
  have b_a1 : Box w1 ga sa Aa na ca := by rw [hw1, hga]; exact (Box.new _ _ _ _ _)
  rw [← hw1, ← hga]
  have hgs : w.heap.size ≤ ga := by omega
  have HG := Lib.hid hgs
  clear hw1 hgs hga
  have l_a1 := La.bel bel1
  have t_T1 := Lib.hid (HTT.out.bel bel1)
  have t_P1 := Lib.hid (HTP.out.bel bel1)
  have t_F1 := Lib.hid (HTF.out.bel bel1)
  have c_a0_1 := b_a1.c0
  have c_a1_1 := b_a1.c1
  have cc := Lib.hid (known2_any w1 t_T1.out t_P1.out t_F1.out)
  refine cc.out.mono ?_
  clear cc
  rintro e v2 ⟨rfl, kb2⟩
  have b_a2 := b_a1.bel kb2
  have l_a2 := l_a1.bel kb2
  have t_T2 := Lib.hid (t_T1.out.bel kb2)
  have t_P2 := Lib.hid (t_P1.out.bel kb2)
  have t_F2 := Lib.hid (t_F1.out.bel kb2)
  have bel2 := bel1.trans (kb2.mono bel1.size)
  have c_a0_2 := b_a2.c0
  have c_a1_2 := b_a2.c1
  clear kb2 b_a1 c_a0_1 c_a1_1 l_a1 t_T1 t_P1 t_F1 bel1
  go_wp2_with fail
  have cc := Lib.hid (few2_any v2 sa Aa na ca Hd.out)
  refine cc.out.mono ?_
  clear cc
  rintro e v3 ⟨rfl, kb3⟩
  have b_a3 := b_a2.bel kb3
  have l_a3 := l_a2.bel kb3
  have t_T3 := Lib.hid (t_T2.out.bel kb3)
  have t_P3 := Lib.hid (t_P2.out.bel kb3)
  have t_F3 := Lib.hid (t_F2.out.bel kb3)
  have bel3 := bel2.trans (kb3.mono bel2.size)
  have c_a0_3 := b_a3.c0
  have c_a1_3 := b_a3.c1
  clear kb3 b_a2 c_a0_2 c_a1_2 l_a2 t_T2 t_P2 t_F2 bel2
  go_wp2_with fail
  have cc := Lib.hid (wsmall_g v3 X sa Aa na ca xa l_a3 HX.out t_F3.out Hk.out Ht.out)
  refine cc.out.mono ?_
  clear cc
  rintro e v4 ⟨rfl, kb4⟩
  have b_a4 := b_a3.bel kb4
  have l_a4 := l_a3.bel kb4
  have t_T4 := Lib.hid (t_T3.out.bel kb4)
  have t_P4 := Lib.hid (t_P3.out.bel kb4)
  have t_F4 := Lib.hid (t_F3.out.bel kb4)
  have bel4 := bel3.trans (kb4.mono bel3.size)
  have c_a0_4 := b_a4.c0
  have c_a1_4 := b_a4.c1
  clear kb4 b_a3 c_a0_3 c_a1_3 l_a3 t_T3 t_P3 t_F3 bel3
  go_wp2_with fail
  have cc := Lib.hid (rsmall_g v4 X sa Aa na ca xa l_a4 HX.out Hk.out Ht.out)
  refine cc.out.mono ?_
  clear cc
  rintro e v5 ⟨rfl, kb5⟩
  have b_a5 := b_a4.bel kb5
  have l_a5 := l_a4.bel kb5
  have t_T5 := Lib.hid (t_T4.out.bel kb5)
  have t_P5 := Lib.hid (t_P4.out.bel kb5)
  have t_F5 := Lib.hid (t_F4.out.bel kb5)
  have bel5 := bel4.trans (kb5.mono bel4.size)
  have c_a0_5 := b_a5.c0
  have c_a1_5 := b_a5.c1
  clear kb5 b_a4 c_a0_4 c_a1_4 l_a4 t_T4 t_P4 t_F4 bel4
  go_upto_region 7 with (fail)
  have hS0 := held0 b_a5
  have y0 : Below v5.heap.size v5 v5 := Below.refl _ _
  refine wp_region_noPanic ?_
  refine wp_region_held_drew (S := (fun w' => (Box w' ga sa Aa na ca ∧ w'.cell? ⟨ga, 0, none⟩ = some (.bool sa) ∧ w'.cell? ⟨ga, 1, none⟩ = some (.slice Aa na ca)))) (by kernel_rfl) ?_ (fun hHeld => ?_)
  · ((try dsimp only); (with_reducible refine keep10 ?_ hS0; (focus repeat' (first | with_reducible assumption | with_reducible refine bel_drw ?_ | with_reducible refine bel_al ?_ | with_reducible refine bel_put ?_ ?_ _ _ | omega))))
  refine wpAnyH_take (i := 0) (oi := { dst := some 36, op := Op.move (Operand.tmp 1), type := 3, pos := "exact.go:44", after := #[], guard := none }) (v := ?_) rfl (by kernel_rfl) (by kernel_rfl) (by kernel_rfl) (fun _ _ _ h => h) (Or.inl ⟨by rfl, ?_⟩) hHeld ?_
  rotate_left
  · (intro w hSw; (try dsimp only at hSw); go_simp; (try with_reducible rfl))
  (try simp only [Act.put, List.setIfInBounds_toArray, List.set_cons_zero, List.set_cons_succ])
  (try rw [Hg3.out])
  refine wpAnyH_take (i := 1) (oi := { dst := some 37, op := Op.binOp BinOp.leq 3 (Operand.tmp 36) (Operand.const (Value.int IntKind.i64 1500)) 3, type := 4, pos := "exact.go:44", after := #[{ on := 0, ground := Ground.data }], guard := none }) (v := ?_) rfl (by kernel_rfl) (by kernel_rfl) (by kernel_rfl) (fun _ _ _ h => h) (Or.inl ⟨by rfl, ?_⟩) hHeld ?_
  rotate_left
  · (intro w hSw; (try dsimp only at hSw); go_simp; (try with_reducible rfl))
  (try simp only [Act.put, List.setIfInBounds_toArray, List.set_cons_zero, List.set_cons_succ])
  (try rw [Hg3.out])
  refine wpAnyH_take (i := 2) (oi := { dst := some 38, op := Op.move (Operand.tmp 37), type := 4, pos := "exact.go:44", after := #[{ on := 1, ground := Ground.data }], guard := none }) (v := ?_) rfl (by kernel_rfl) (by kernel_rfl) (by kernel_rfl) (fun _ _ _ h => h) (Or.inl ⟨by rfl, ?_⟩) hHeld ?_
  rotate_left
  · (intro w hSw; (try dsimp only at hSw); go_simp; (try with_reducible rfl))
  (try simp only [Act.put, List.setIfInBounds_toArray, List.set_cons_zero, List.set_cons_succ])
  (try rw [Hg3.out])
  refine wpAnyH_take (i := 3) (oi := { dst := some 39, op := Op.load 24 (Operand.tmp 3), type := 24, pos := "exact.go:44", after := #[{ on := 2, ground := Ground.guard }], guard := some (2, true) }) (v := undef) rfl (by kernel_rfl) (by kernel_rfl) (by kernel_rfl) (fun _ _ _ h => h) (Or.inr ⟨by rfl, rfl⟩) hHeld ?_
  (try simp only [Act.put, List.setIfInBounds_toArray, List.set_cons_zero, List.set_cons_succ])
  (try rw [Hg3.out])
  refine wpAnyH_take (i := 4) (oi := { dst := some 40, op := Op.move (Operand.tmp 1), type := 3, pos := "exact.go:44", after := #[{ on := 2, ground := Ground.guard }], guard := some (2, true) }) (v := undef) rfl (by kernel_rfl) (by kernel_rfl) (by kernel_rfl) (fun _ _ _ h => h) (Or.inr ⟨by rfl, rfl⟩) hHeld ?_
  (try simp only [Act.put, List.setIfInBounds_toArray, List.set_cons_zero, List.set_cons_succ])
  (try rw [Hg3.out])
  refine wpAnyH_take (i := 5) (oi := { dst := some 41, op := Op.call { callee := Callee.value (Operand.func 34), args := #[Operand.tmp 39, Operand.tmp 40], argTypes := #[24, 3] }, type := 24, pos := "exact.go:44", after := #[{ on := 3, ground := Ground.data }, { on := 4, ground := Ground.data }, { on := 2, ground := Ground.chain }, { on := 2, ground := Ground.guard }], guard := some (2, true) }) (v := undef) rfl (by kernel_rfl) (by kernel_rfl) (by kernel_rfl) (fun _ _ _ h => h) (Or.inr ⟨by rfl, rfl⟩) hHeld ?_
  (try simp only [Act.put, List.setIfInBounds_toArray, List.set_cons_zero, List.set_cons_succ])
  (try rw [Hg3.out])
  refine wpAnyH_take (i := 6) (oi := { dst := some 42, op := Op.load 24 (Operand.tmp 3), type := 24, pos := "exact.go:44", after := #[{ on := 2, ground := Ground.guard }], guard := some (2, true) }) (v := undef) rfl (by kernel_rfl) (by kernel_rfl) (by kernel_rfl) (fun _ _ _ h => h) (Or.inr ⟨by rfl, rfl⟩) hHeld ?_
  (try simp only [Act.put, List.setIfInBounds_toArray, List.set_cons_zero, List.set_cons_succ])
  (try rw [Hg3.out])
  refine wpAnyH_take (i := 7) (oi := { dst := some 43, op := Op.move (Operand.tmp 1), type := 3, pos := "exact.go:44", after := #[{ on := 2, ground := Ground.guard }], guard := some (2, true) }) (v := undef) rfl (by kernel_rfl) (by kernel_rfl) (by kernel_rfl) (fun _ _ _ h => h) (Or.inr ⟨by rfl, rfl⟩) hHeld ?_
  (try simp only [Act.put, List.setIfInBounds_toArray, List.set_cons_zero, List.set_cons_succ])
  (try rw [Hg3.out])
  refine wpAnyH_take (i := 8) (oi := { dst := some 44, op := Op.call { callee := Callee.value (Operand.func 35), args := #[Operand.tmp 42, Operand.tmp 43], argTypes := #[24, 3] }, type := 24, pos := "exact.go:44", after := #[{ on := 6, ground := Ground.data }, { on := 7, ground := Ground.data }, { on := 5, ground := Ground.chain }, { on := 2, ground := Ground.guard }], guard := some (2, true) }) (v := undef) rfl (by kernel_rfl) (by kernel_rfl) (by kernel_rfl) (fun _ _ _ h => h) (Or.inr ⟨by rfl, rfl⟩) hHeld ?_
  (try simp only [Act.put, List.setIfInBounds_toArray, List.set_cons_zero, List.set_cons_succ])
  (try rw [Hg3.out])
  refine wpAnyH_take (i := 9) (oi := { dst := some 45, op := Op.call { callee := Callee.value (Operand.func 17), args := #[Operand.tmp 41, Operand.tmp 44], argTypes := #[24, 24] }, type := 4, pos := "exact.go:44", after := #[{ on := 5, ground := Ground.data }, { on := 8, ground := Ground.data }, { on := 8, ground := Ground.chain }, { on := 2, ground := Ground.guard }], guard := some (2, true) }) (v := undef) rfl (by kernel_rfl) (by kernel_rfl) (by kernel_rfl) (fun _ _ _ h => h) (Or.inr ⟨by rfl, rfl⟩) hHeld ?_
  (try simp only [Act.put, List.setIfInBounds_toArray, List.set_cons_zero, List.set_cons_succ])
  (try rw [Hg3.out])
  refine wpAnyH_take (i := 10) (oi := { dst := some 46, op := Op.unOp UnOp.not 4 (Operand.tmp 45), type := 4, pos := "exact.go:44", after := #[{ on := 9, ground := Ground.data }, { on := 2, ground := Ground.guard }], guard := some (2, true) }) (v := undef) rfl (by kernel_rfl) (by kernel_rfl) (by kernel_rfl) (fun _ _ _ h => h) (Or.inr ⟨by rfl, rfl⟩) hHeld ?_
  (try simp only [Act.put, List.setIfInBounds_toArray, List.set_cons_zero, List.set_cons_succ])
  (try rw [Hg3.out])
  refine wpAnyH_take (i := 11) (oi := { dst := some 47, op := Op.pick (Operand.tmp 38) (Operand.tmp 46) (Operand.const (Value.bool false)), type := 4, pos := "exact.go:44", after := #[{ on := 2, ground := Ground.data }, { on := 10, ground := Ground.data }], guard := none }) (v := ?_) rfl (by kernel_rfl) (by kernel_rfl) (by kernel_rfl) (fun _ _ _ h => h) (Or.inl ⟨by rfl, ?_⟩) hHeld ?_
  rotate_left
  · (intro w hSw; (try dsimp only at hSw); go_simp; (try with_reducible rfl))
  (try simp only [Act.put, List.setIfInBounds_toArray, List.set_cons_zero, List.set_cons_succ])
  (try rw [Hg3.out])
  refine wpAnyH_done (by kernel_rfl) ?_ _
  refine NoPanic.normal ?_
  have hbx : Below v5.heap.size v5 v5.drew := (Below.refl _ _).drew
  obtain ⟨wd, hwd⟩ : ∃ v, v = v5.drew := ⟨_, rfl⟩
  rw [← hwd] at hbx
  try rw [← hwd]
  clear hwd
  have b_a6 := b_a5.bel hbx
  have l_a6 := l_a5.bel hbx
  have t_T6 := Lib.hid (t_T5.out.bel hbx)
  have t_P6 := Lib.hid (t_P5.out.bel hbx)
  have t_F6 := Lib.hid (t_F5.out.bel hbx)
  have bel6 := bel5.trans (hbx.mono bel5.size)
  have c_a0_6 := b_a6.c0
  have c_a1_6 := b_a6.c1
  clear hbx b_a5 c_a0_5 c_a1_5 l_a5 t_T5 t_P5 t_F5 bel5
  go_wp2_with fail
  have cc := Lib.hid (wof_g wd v HV2.out HV.out)
  refine cc.out.mono ?_
  clear cc
  rintro e v7 ⟨A5, m5, c5, rfl, h5, hm5, kb7⟩
  have b_a7 := b_a6.bel kb7
  have l_a7 := l_a6.bel kb7
  have t_T7 := Lib.hid (t_T6.out.bel kb7)
  have t_P7 := Lib.hid (t_P6.out.bel kb7)
  have t_F7 := Lib.hid (t_F6.out.bel kb7)
  have bel7 := bel6.trans (kb7.mono bel6.size)
  have c_a0_7 := b_a7.c0
  have c_a1_7 := b_a7.c1
  clear kb7 b_a6 c_a0_6 c_a1_6 l_a6 t_T6 t_P6 t_F6 bel6
  go_wp2_with fail
  have cc := Lib.hid (wsmall_g v7 V _ A5 m5 c5 _ h5 (sgn_lim V) t_F7.out HF1.out.1 HF1.out.2)
  refine cc.out.mono ?_
  clear cc
  rintro e v8 ⟨rfl, kb8⟩
  have b_a8 := b_a7.bel kb8
  have l_a8 := l_a7.bel kb8
  have l_o8 := h5.bel kb8
  have t_T8 := Lib.hid (t_T7.out.bel kb8)
  have t_P8 := Lib.hid (t_P7.out.bel kb8)
  have t_F8 := Lib.hid (t_F7.out.bel kb8)
  have bel8 := bel7.trans (kb8.mono bel7.size)
  have c_a0_8 := b_a8.c0
  have c_a1_8 := b_a8.c1
  clear kb8 b_a7 c_a0_7 c_a1_7 l_a7 h5 t_T7 t_P7 t_F7 bel7
  clear l_o8
  go_upto_region 10 with (fail)
  have hS0 := held0 b_a8
  have y0 : Below v8.heap.size v8 v8 := Below.refl _ _
  refine wp_region_noPanic ?_
  refine wp_region_held_drew (S := (fun w' => (Box w' ga sa Aa na ca ∧ w'.cell? ⟨ga, 0, none⟩ = some (.bool sa) ∧ w'.cell? ⟨ga, 1, none⟩ = some (.slice Aa na ca)))) (by kernel_rfl) ?_ (fun hHeld => ?_)
  · ((try dsimp only); (with_reducible refine keep10 ?_ hS0; (focus repeat' (first | with_reducible assumption | with_reducible refine bel_drw ?_ | with_reducible refine bel_al ?_ | with_reducible refine bel_put ?_ ?_ _ _ | omega))))
  refine wpAnyH_take (i := 0) (oi := { dst := some 54, op := Op.load 24 (Operand.tmp 3), type := 24, pos := "exact.go:48", after := #[], guard := none }) (v := ?_) rfl (by kernel_rfl) (by kernel_rfl) (by kernel_rfl) (fun _ _ _ h => h) (Or.inl ⟨by rfl, ?_⟩) hHeld ?_
  rotate_left
  · (intro w hSw; (try dsimp only at hSw); go_simp; (try with_reducible rfl))
  (try simp only [Act.put, List.setIfInBounds_toArray, List.set_cons_zero, List.set_cons_succ])
  refine wpAnyH_take (i := 1) (oi := { dst := some 55, op := Op.move (Operand.tmp 1), type := 3, pos := "exact.go:48", after := #[], guard := none }) (v := ?_) rfl (by kernel_rfl) (by kernel_rfl) (by kernel_rfl) (fun _ _ _ h => h) (Or.inl ⟨by rfl, ?_⟩) hHeld ?_
  rotate_left
  · (intro w hSw; (try dsimp only at hSw); go_simp; (try with_reducible rfl))
  (try simp only [Act.put, List.setIfInBounds_toArray, List.set_cons_zero, List.set_cons_succ])
  refine wpAnyH_take (i := 2) (oi := { dst := some 56, op := Op.call { callee := Callee.builtin Builtin.min, args := #[Operand.tmp 55, Operand.const (Value.int IntKind.i64 1500)], argTypes := #[3, 3] }, type := 3, pos := "exact.go:48", after := #[{ on := 1, ground := Ground.data }], guard := none }) (v := ?_) rfl (by kernel_rfl) (by kernel_rfl) (by kernel_rfl) (fun _ _ _ h => h) (Or.inl ⟨by rfl, ?_⟩) hHeld ?_
  rotate_left
  · (intro w hSw; (try dsimp only at hSw); go_simp; (try with_reducible rfl))
  (try simp only [Act.put, List.setIfInBounds_toArray, List.set_cons_zero, List.set_cons_succ])
  refine wpAnyH_take (i := 4) (oi := { dst := some 58, op := Op.load 24 (Operand.tmp 3), type := 24, pos := "exact.go:48", after := #[], guard := none }) (v := ?_) rfl (by kernel_rfl) (by kernel_rfl) (by kernel_rfl) (fun _ _ _ h => h) (Or.inl ⟨by rfl, ?_⟩) hHeld ?_
  rotate_left
  · (intro w hSw; (try dsimp only at hSw); go_simp; (try with_reducible rfl))
  (try simp only [Act.put, List.setIfInBounds_toArray, List.set_cons_zero, List.set_cons_succ])
  refine wpAnyH_take (i := 5) (oi := { dst := some 59, op := Op.move (Operand.tmp 1), type := 3, pos := "exact.go:48", after := #[], guard := none }) (v := ?_) rfl (by kernel_rfl) (by kernel_rfl) (by kernel_rfl) (fun _ _ _ h => h) (Or.inl ⟨by rfl, ?_⟩) hHeld ?_
  rotate_left
  · (intro w hSw; (try dsimp only at hSw); go_simp; (try with_reducible rfl))
  (try simp only [Act.put, List.setIfInBounds_toArray, List.set_cons_zero, List.set_cons_succ])
  refine wpAnyH_take (i := 6) (oi := { dst := some 60, op := Op.call { callee := Callee.builtin Builtin.min, args := #[Operand.tmp 59, Operand.const (Value.int IntKind.i64 1500)], argTypes := #[3, 3] }, type := 3, pos := "exact.go:48", after := #[{ on := 5, ground := Ground.data }], guard := none }) (v := ?_) rfl (by kernel_rfl) (by kernel_rfl) (by kernel_rfl) (fun _ _ _ h => h) (Or.inl ⟨by rfl, ?_⟩) hHeld ?_
  rotate_left
  · (intro w hSw; (try dsimp only at hSw); go_simp; (try with_reducible rfl))
  (try simp only [Act.put, List.setIfInBounds_toArray, List.set_cons_zero, List.set_cons_succ])
  refine wpAnyH_ready (rs := [3]) (by kernel_rfl) (by simp) ?_
  refine AllReadyH.cons (o := { dst := some 57, op := Op.call { callee := Callee.value (Operand.func 37), args := #[Operand.tmp 54, Operand.tmp 56], argTypes := #[24, 3] }, type := 24, pos := "exact.go:48", after := #[{ on := 0, ground := Ground.data }, { on := 2, ground := Ground.data }], guard := none }) rfl (fun K hK => ?_) AllReadyH.nil
  clear hHeld
  go_simp
  go_at_call 37
  (try rw [Hq.out])
  refine (wshl_g _ X q sa Aa na ca xa ?_ HX.out ?_ HZ.out).mono ?_
  (focus repeat' (first | with_reducible exact l_a8 | with_reducible refine Lm.drew ?_ | with_reducible refine Lm.al ?_ _ | with_reducible refine Lm.put ?_ ?_ _ _ | with_reducible assumption))
  omega
  rintro e x1 ⟨A13, m13, c13, rfl, h13, hm13, e1⟩
  have hc := bel_undrew e1
  have q1 : Below v8.heap.size v8 x1 := hc
  have y1 : Below v8.heap.size v8 x1 := bel_next y0 q1
  have La_1 := l_a8.bel q1
  go_wp2_with fail
  refine hK.out _ _ ?_ (fun hHeld => ?_)
  · ((try dsimp only); (with_reducible refine keep10 ?_ hS0; (focus repeat' (first | with_reducible assumption | with_reducible refine bel_drw ?_ | with_reducible refine bel_al ?_ | with_reducible refine bel_put ?_ ?_ _ _ | omega))))
  clear hK K
  (try simp only [Act.put, List.setIfInBounds_toArray, List.set_cons_zero, List.set_cons_succ])
  refine wpAnyH_ready (rs := [7]) (by kernel_rfl) (by simp) ?_
  refine AllReadyH.cons (o := { dst := some 61, op := Op.call { callee := Callee.value (Operand.func 38), args := #[Operand.tmp 58, Operand.tmp 60], argTypes := #[24, 3] }, type := 24, pos := "exact.go:48", after := #[{ on := 4, ground := Ground.data }, { on := 6, ground := Ground.data }, { on := 3, ground := Ground.chain }], guard := none }) rfl (fun K hK => ?_) AllReadyH.nil
  clear hHeld
  go_simp
  go_at_call 38
  (try rw [Hq.out])
  refine (rshlI_g _ X q sa Aa na ca xa ?_ HX.out ?_ HZ.out).mono ?_
  (focus repeat' (first | with_reducible exact La_1 | with_reducible refine Lm.drew ?_ | with_reducible refine Lm.al ?_ _ | with_reducible refine Lm.put ?_ ?_ _ _ | with_reducible assumption))
  omega
  rintro e x2 ⟨A14, m14, c14, rfl, h14, hm14, e2⟩
  have hc := e2
  have q2 : Below x1.heap.size x1 x2 := hc
  have y2 : Below v8.heap.size v8 x2 := bel_next y1 q2
  have La_2 := La_1.bel q2
  have Ly_2 := h13.bel q2
  go_wp2_with fail
  refine hK.out _ _ ?_ (fun hHeld => ?_)
  · ((try dsimp only); (with_reducible refine keep10 ?_ hS0; (focus repeat' (first | with_reducible assumption | with_reducible refine bel_drw ?_ | with_reducible refine bel_al ?_ | with_reducible refine bel_put ?_ ?_ _ _ | omega))))
  clear hK K
  (try simp only [Act.put, List.setIfInBounds_toArray, List.set_cons_zero, List.set_cons_succ])
  refine wpAnyH_ready (rs := [8]) (by kernel_rfl) (by simp) ?_
  refine AllReadyH.cons (o := { dst := some 62, op := Op.call { callee := Callee.value (Operand.func 17), args := #[Operand.tmp 57, Operand.tmp 61], argTypes := #[24, 24] }, type := 4, pos := "exact.go:48", after := #[{ on := 3, ground := Ground.data }, { on := 7, ground := Ground.data }, { on := 7, ground := Ground.chain }], guard := none }) rfl (fun K hK => ?_) AllReadyH.nil
  clear hHeld
  go_simp
  go_at_call 17
  refine (rsameZ _ Z Z A13 m13 c13 ?_ A14 m14 c14 ?_ (decide_eq_true rfl)).mono ?_
  (focus repeat' (first | with_reducible exact Ly_2 | with_reducible refine Lm.drew ?_ | with_reducible refine Lm.al ?_ _ | with_reducible refine Lm.put ?_ ?_ _ _ | with_reducible assumption))
  (focus repeat' (first | with_reducible exact h14 | with_reducible refine Lm.drew ?_ | with_reducible refine Lm.al ?_ _ | with_reducible refine Lm.put ?_ ?_ _ _ | with_reducible assumption))
  rintro e x3 ⟨rfl, e3⟩
  have hc := e3
  have q3 : Below x2.heap.size x2 x3 := hc
  have y3 : Below v8.heap.size v8 x3 := bel_next y2 q3
  have La_3 := La_2.bel q3
  go_wp2_with fail
  refine hK.out _ _ ?_ (fun hHeld => ?_)
  · ((try dsimp only); (with_reducible refine keep10 ?_ hS0; (focus repeat' (first | with_reducible assumption | with_reducible refine bel_drw ?_ | with_reducible refine bel_al ?_ | with_reducible refine bel_put ?_ ?_ _ _ | omega))))
  clear hK K
  (try simp only [Act.put, List.setIfInBounds_toArray, List.set_cons_zero, List.set_cons_succ])
  refine wpAnyH_take (i := 9) (oi := { dst := some 63, op := Op.move (Operand.tmp 62), type := 4, pos := "exact.go:48", after := #[{ on := 8, ground := Ground.data }, { on := 8, ground := Ground.chain }], guard := none }) (v := ?_) rfl (by kernel_rfl) (by kernel_rfl) (by kernel_rfl) (fun _ _ _ h => h) (Or.inl ⟨by rfl, ?_⟩) hHeld ?_
  rotate_left
  · (intro w hSw; (try dsimp only at hSw); go_simp; (try with_reducible rfl))
  (try simp only [Act.put, List.setIfInBounds_toArray, List.set_cons_zero, List.set_cons_succ])
  refine wpAnyH_take (i := 10) (oi := { dst := some 64, op := Op.move (Operand.tmp 7), type := 2, pos := "exact.go:48", after := #[{ on := 9, ground := Ground.guard }], guard := some (9, true) }) (v := ?_) rfl (by kernel_rfl) (by kernel_rfl) (by kernel_rfl) (fun _ _ _ h => h) (Or.inl ⟨by rfl, ?_⟩) hHeld ?_
  rotate_left
  · (intro w hSw; (try dsimp only at hSw); go_simp; (try with_reducible rfl))
  (try simp only [Act.put, List.setIfInBounds_toArray, List.set_cons_zero, List.set_cons_succ])
  refine wpAnyH_take (i := 11) (oi := { dst := some 65, op := Op.move (Operand.tmp 9), type := 2, pos := "exact.go:48", after := #[{ on := 9, ground := Ground.guard }], guard := some (9, true) }) (v := ?_) rfl (by kernel_rfl) (by kernel_rfl) (by kernel_rfl) (fun _ _ _ h => h) (Or.inl ⟨by rfl, ?_⟩) hHeld ?_
  rotate_left
  · (intro w hSw; (try dsimp only at hSw); go_simp; (try with_reducible rfl))
  (try simp only [Act.put, List.setIfInBounds_toArray, List.set_cons_zero, List.set_cons_succ])
  refine wpAnyH_take (i := 12) (oi := { dst := some 66, op := Op.binOp BinOp.eql 2 (Operand.tmp 64) (Operand.tmp 65) 2, type := 4, pos := "exact.go:48", after := #[{ on := 10, ground := Ground.data }, { on := 11, ground := Ground.data }, { on := 9, ground := Ground.guard }], guard := some (9, true) }) (v := ?_) rfl (by kernel_rfl) (by kernel_rfl) (by kernel_rfl) (fun _ _ _ h => h) (Or.inl ⟨by rfl, ?_⟩) hHeld ?_
  rotate_left
  · (intro w hSw; (try dsimp only at hSw); go_simp; (try with_reducible rfl))
  (try simp only [Act.put, List.setIfInBounds_toArray, List.set_cons_zero, List.set_cons_succ])
  refine wpAnyH_take (i := 13) (oi := { dst := some 67, op := Op.pick (Operand.tmp 63) (Operand.tmp 66) (Operand.const (Value.bool false)), type := 4, pos := "exact.go:48", after := #[{ on := 9, ground := Ground.data }, { on := 12, ground := Ground.data }], guard := none }) (v := ?_) rfl (by kernel_rfl) (by kernel_rfl) (by kernel_rfl) (fun _ _ _ h => h) (Or.inl ⟨by rfl, ?_⟩) hHeld ?_
  rotate_left
  · (intro w hSw; (try dsimp only at hSw); go_simp; (try with_reducible rfl))
  (try simp only [Act.put, List.setIfInBounds_toArray, List.set_cons_zero, List.set_cons_succ])
  refine wpAnyH_take (i := 14) (oi := { dst := some 68, op := Op.move (Operand.tmp 67), type := 4, pos := "exact.go:48", after := #[{ on := 13, ground := Ground.data }, { on := 9, ground := Ground.chain }], guard := none }) (v := ?_) rfl (by kernel_rfl) (by kernel_rfl) (by kernel_rfl) (fun _ _ _ h => h) (Or.inl ⟨by rfl, ?_⟩) hHeld ?_
  rotate_left
  · (intro w hSw; (try dsimp only at hSw); go_simp; (try with_reducible rfl))
  (try simp only [Act.put, List.setIfInBounds_toArray, List.set_cons_zero, List.set_cons_succ])
  refine wpAnyH_take (i := 15) (oi := { dst := some 69, op := Op.move (Operand.tmp 8), type := 4, pos := "exact.go:48", after := #[{ on := 14, ground := Ground.guard }], guard := some (14, true) }) (v := ?_) rfl (by kernel_rfl) (by kernel_rfl) (by kernel_rfl) (fun _ _ _ h => h) (Or.inl ⟨by rfl, ?_⟩) hHeld ?_
  rotate_left
  · (intro w hSw; (try dsimp only at hSw); go_simp; (try with_reducible rfl))
  (try simp only [Act.put, List.setIfInBounds_toArray, List.set_cons_zero, List.set_cons_succ])
  refine wpAnyH_take (i := 16) (oi := { dst := some 70, op := Op.move (Operand.tmp 10), type := 4, pos := "exact.go:48", after := #[{ on := 14, ground := Ground.guard }], guard := some (14, true) }) (v := ?_) rfl (by kernel_rfl) (by kernel_rfl) (by kernel_rfl) (fun _ _ _ h => h) (Or.inl ⟨by rfl, ?_⟩) hHeld ?_
  rotate_left
  · (intro w hSw; (try dsimp only at hSw); go_simp; (try with_reducible rfl))
  (try simp only [Act.put, List.setIfInBounds_toArray, List.set_cons_zero, List.set_cons_succ])
  refine wpAnyH_take (i := 17) (oi := { dst := some 71, op := Op.binOp BinOp.eql 4 (Operand.tmp 69) (Operand.tmp 70) 4, type := 4, pos := "exact.go:48", after := #[{ on := 15, ground := Ground.data }, { on := 16, ground := Ground.data }, { on := 14, ground := Ground.guard }], guard := some (14, true) }) (v := ?_) rfl (by kernel_rfl) (by kernel_rfl) (by kernel_rfl) (fun _ _ _ h => h) (Or.inl ⟨by rfl, ?_⟩) hHeld ?_
  rotate_left
  · (intro w hSw; (try dsimp only at hSw); go_simp; (try with_reducible rfl))
  (try simp only [Act.put, List.setIfInBounds_toArray, List.set_cons_zero, List.set_cons_succ])
  refine wpAnyH_take (i := 18) (oi := { dst := some 72, op := Op.pick (Operand.tmp 68) (Operand.tmp 71) (Operand.const (Value.bool false)), type := 4, pos := "exact.go:48", after := #[{ on := 14, ground := Ground.data }, { on := 17, ground := Ground.data }], guard := none }) (v := ?_) rfl (by kernel_rfl) (by kernel_rfl) (by kernel_rfl) (fun _ _ _ h => h) (Or.inl ⟨by rfl, ?_⟩) hHeld ?_
  rotate_left
  · (intro w hSw; (try dsimp only at hSw); go_simp; (try with_reducible rfl))
  (try simp only [Act.put, List.setIfInBounds_toArray, List.set_cons_zero, List.set_cons_succ])
  refine wpAnyH_take (i := 19) (oi := { dst := some 73, op := Op.move (Operand.tmp 72), type := 4, pos := "exact.go:48", after := #[{ on := 18, ground := Ground.data }, { on := 14, ground := Ground.chain }], guard := none }) (v := ?_) rfl (by kernel_rfl) (by kernel_rfl) (by kernel_rfl) (fun _ _ _ h => h) (Or.inl ⟨by rfl, ?_⟩) hHeld ?_
  rotate_left
  · (intro w hSw; (try dsimp only at hSw); go_simp; (try with_reducible rfl))
  (try simp only [Act.put, List.setIfInBounds_toArray, List.set_cons_zero, List.set_cons_succ])
  refine wpAnyH_take (i := 20) (oi := { dst := some 74, op := Op.move (Operand.tmp 2), type := 2, pos := "exact.go:48", after := #[{ on := 19, ground := Ground.guard }], guard := some (19, true) }) (v := ?_) rfl (by kernel_rfl) (by kernel_rfl) (by kernel_rfl) (fun _ _ _ h => h) (Or.inl ⟨by rfl, ?_⟩) hHeld ?_
  rotate_left
  · (intro w hSw; (try dsimp only at hSw); go_simp; (try with_reducible rfl))
  (try simp only [Act.put, List.setIfInBounds_toArray, List.set_cons_zero, List.set_cons_succ])
  refine wpAnyH_take (i := 22) (oi := { dst := some 76, op := Op.move (Operand.tmp 2), type := 2, pos := "exact.go:48", after := #[{ on := 19, ground := Ground.guard }], guard := some (19, true) }) (v := ?_) rfl (by kernel_rfl) (by kernel_rfl) (by kernel_rfl) (fun _ _ _ h => h) (Or.inl ⟨by rfl, ?_⟩) hHeld ?_
  rotate_left
  · (intro w hSw; (try dsimp only at hSw); go_simp; (try with_reducible rfl))
  (try simp only [Act.put, List.setIfInBounds_toArray, List.set_cons_zero, List.set_cons_succ])
  refine wpAnyH_ready (rs := [21]) (by kernel_rfl) (by simp) ?_
  refine AllReadyH.cons (o := { dst := some 75, op := Op.call { callee := Callee.value (Operand.func 36), args := #[Operand.tmp 74], argTypes := #[2] }, type := 24, pos := "exact.go:48", after := #[{ on := 20, ground := Ground.data }, { on := 19, ground := Ground.chain }, { on := 19, ground := Ground.guard }], guard := some (19, true) }) rfl (fun K hK => ?_) AllReadyH.nil
  clear hHeld
  go_simp
  go_at_call 36
  refine (wof_g _ v HV2.out HV.out).mono ?_
  rintro e x4 ⟨A15, m15, c15, rfl, h15, hm15, e4⟩
  have hc := e4
  have q4 : Below x3.heap.size x3 x4 := hc
  have y4 : Below v8.heap.size v8 x4 := bel_next y3 q4
  have La_4 := La_3.bel q4
  go_wp2_with fail
  refine hK.out _ _ ?_ (fun hHeld => ?_)
  · ((try dsimp only); (with_reducible refine keep10 ?_ hS0; (focus repeat' (first | with_reducible assumption | with_reducible refine bel_drw ?_ | with_reducible refine bel_al ?_ | with_reducible refine bel_put ?_ ?_ _ _ | omega))))
  clear hK K
  (try simp only [Act.put, List.setIfInBounds_toArray, List.set_cons_zero, List.set_cons_succ])
  refine wpAnyH_ready (rs := [23]) (by kernel_rfl) (by simp) ?_
  refine AllReadyH.cons (o := { dst := some 77, op := Op.call { callee := Callee.value (Operand.func 39), args := #[Operand.tmp 76], argTypes := #[2] }, type := 24, pos := "exact.go:48", after := #[{ on := 22, ground := Ground.data }, { on := 21, ground := Ground.chain }, { on := 19, ground := Ground.guard }], guard := some (19, true) }) rfl (fun K hK => ?_) AllReadyH.nil
  clear hHeld
  go_simp
  go_at_call 39
  refine (rof_g _ v HV2.out HV.out).mono ?_
  rintro e x5 ⟨A16, m16, c16, rfl, h16, hm16, e5⟩
  have hc := e5
  have q5 : Below x4.heap.size x4 x5 := hc
  have y5 : Below v8.heap.size v8 x5 := bel_next y4 q5
  have La_5 := La_4.bel q5
  have Ly_5 := h15.bel q5
  go_wp2_with fail
  refine hK.out _ _ ?_ (fun hHeld => ?_)
  · ((try dsimp only); (with_reducible refine keep10 ?_ hS0; (focus repeat' (first | with_reducible assumption | with_reducible refine bel_drw ?_ | with_reducible refine bel_al ?_ | with_reducible refine bel_put ?_ ?_ _ _ | omega))))
  clear hK K
  (try simp only [Act.put, List.setIfInBounds_toArray, List.set_cons_zero, List.set_cons_succ])
  refine wpAnyH_ready (rs := [24]) (by kernel_rfl) (by simp) ?_
  refine AllReadyH.cons (o := { dst := some 78, op := Op.call { callee := Callee.value (Operand.func 17), args := #[Operand.tmp 75, Operand.tmp 77], argTypes := #[24, 24] }, type := 4, pos := "exact.go:48", after := #[{ on := 21, ground := Ground.data }, { on := 23, ground := Ground.data }, { on := 23, ground := Ground.chain }, { on := 19, ground := Ground.guard }], guard := some (19, true) }) rfl (fun K hK => ?_) AllReadyH.nil
  clear hHeld
  go_simp
  go_at_call 17
  refine (rsameZ _ V V A15 m15 c15 ?_ A16 m16 c16 ?_ (decide_eq_true rfl)).mono ?_
  (focus repeat' (first | with_reducible exact Ly_5 | with_reducible refine Lm.drew ?_ | with_reducible refine Lm.al ?_ _ | with_reducible refine Lm.put ?_ ?_ _ _ | with_reducible assumption))
  (focus repeat' (first | with_reducible exact h16 | with_reducible refine Lm.drew ?_ | with_reducible refine Lm.al ?_ _ | with_reducible refine Lm.put ?_ ?_ _ _ | with_reducible assumption))
  rintro e x6 ⟨rfl, e6⟩
  have hc := e6
  have q6 : Below x5.heap.size x5 x6 := hc
  have y6 : Below v8.heap.size v8 x6 := bel_next y5 q6
  have La_6 := La_5.bel q6
  have Ly_6 := Ly_5.bel q6
  have Lz_6 := h16.bel q6
  go_wp2_with fail
  refine hK.out _ _ ?_ (fun hHeld => ?_)
  · ((try dsimp only); (with_reducible refine keep10 ?_ hS0; (focus repeat' (first | with_reducible assumption | with_reducible refine bel_drw ?_ | with_reducible refine bel_al ?_ | with_reducible refine bel_put ?_ ?_ _ _ | omega))))
  clear hK K
  (try simp only [Act.put, List.setIfInBounds_toArray, List.set_cons_zero, List.set_cons_succ])
  refine wpAnyH_take (i := 25) (oi := { dst := some 79, op := Op.pick (Operand.tmp 73) (Operand.tmp 78) (Operand.const (Value.bool false)), type := 4, pos := "exact.go:48", after := #[{ on := 19, ground := Ground.data }, { on := 24, ground := Ground.data }], guard := none }) (v := ?_) rfl (by kernel_rfl) (by kernel_rfl) (by kernel_rfl) (fun _ _ _ h => h) (Or.inl ⟨by rfl, ?_⟩) hHeld ?_
  rotate_left
  · (intro w hSw; (try dsimp only at hSw); go_simp; (try with_reducible rfl))
  (try simp only [Act.put, List.setIfInBounds_toArray, List.set_cons_zero, List.set_cons_succ])
  refine wpAnyH_take (i := 26) (oi := { dst := some 80, op := Op.move (Operand.tmp 79), type := 4, pos := "exact.go:48", after := #[{ on := 25, ground := Ground.data }, { on := 24, ground := Ground.chain }], guard := none }) (v := ?_) rfl (by kernel_rfl) (by kernel_rfl) (by kernel_rfl) (fun _ _ _ h => h) (Or.inl ⟨by rfl, ?_⟩) hHeld ?_
  rotate_left
  · (intro w hSw; (try dsimp only at hSw); go_simp; (try with_reducible rfl))
  (try simp only [Act.put, List.setIfInBounds_toArray, List.set_cons_zero, List.set_cons_succ])
  refine wpAnyH_take (i := 27) (oi := { dst := some 81, op := Op.move (Operand.tmp 12), type := 4, pos := "exact.go:48", after := #[{ on := 26, ground := Ground.guard }], guard := some (26, true) }) (v := ?_) rfl (by kernel_rfl) (by kernel_rfl) (by kernel_rfl) (fun _ _ _ h => h) (Or.inl ⟨by rfl, ?_⟩) hHeld ?_
  rotate_left
  · (intro w hSw; (try dsimp only at hSw); go_simp; (try with_reducible rfl))
  (try simp only [Act.put, List.setIfInBounds_toArray, List.set_cons_zero, List.set_cons_succ])
  refine wpAnyH_take (i := 28) (oi := { dst := some 82, op := Op.pick (Operand.tmp 80) (Operand.tmp 81) (Operand.const (Value.bool false)), type := 4, pos := "exact.go:48", after := #[{ on := 26, ground := Ground.data }, { on := 27, ground := Ground.data }], guard := none }) (v := ?_) rfl (by kernel_rfl) (by kernel_rfl) (by kernel_rfl) (fun _ _ _ h => h) (Or.inl ⟨by rfl, ?_⟩) hHeld ?_
  rotate_left
  · (intro w hSw; (try dsimp only at hSw); go_simp; (try with_reducible rfl))
  (try simp only [Act.put, List.setIfInBounds_toArray, List.set_cons_zero, List.set_cons_succ])
  refine wpAnyH_take (i := 29) (oi := { dst := some 83, op := Op.move (Operand.tmp 82), type := 4, pos := "exact.go:48", after := #[{ on := 28, ground := Ground.data }, { on := 26, ground := Ground.chain }], guard := none }) (v := ?_) rfl (by kernel_rfl) (by kernel_rfl) (by kernel_rfl) (fun _ _ _ h => h) (Or.inl ⟨by rfl, ?_⟩) hHeld ?_
  rotate_left
  · (intro w hSw; (try dsimp only at hSw); go_simp; (try with_reducible rfl))
  (try simp only [Act.put, List.setIfInBounds_toArray, List.set_cons_zero, List.set_cons_succ])
  refine wpAnyH_take (i := 30) (oi := { dst := some 84, op := Op.move (Operand.tmp 11), type := 2, pos := "exact.go:48", after := #[{ on := 29, ground := Ground.guard }], guard := some (29, true) }) (v := ?_) rfl (by kernel_rfl) (by kernel_rfl) (by kernel_rfl) (fun _ _ _ h => h) (Or.inl ⟨by rfl, ?_⟩) hHeld ?_
  rotate_left
  · (intro w hSw; (try dsimp only at hSw); go_simp; (try with_reducible rfl))
  (try simp only [Act.put, List.setIfInBounds_toArray, List.set_cons_zero, List.set_cons_succ])
  refine wpAnyH_take (i := 31) (oi := { dst := some 85, op := Op.move (Operand.tmp 2), type := 2, pos := "exact.go:48", after := #[{ on := 29, ground := Ground.guard }], guard := some (29, true) }) (v := ?_) rfl (by kernel_rfl) (by kernel_rfl) (by kernel_rfl) (fun _ _ _ h => h) (Or.inl ⟨by rfl, ?_⟩) hHeld ?_
  rotate_left
  · (intro w hSw; (try dsimp only at hSw); go_simp; (try with_reducible rfl))
  (try simp only [Act.put, List.setIfInBounds_toArray, List.set_cons_zero, List.set_cons_succ])
  refine wpAnyH_take (i := 32) (oi := { dst := some 86, op := Op.binOp BinOp.eql 2 (Operand.tmp 84) (Operand.tmp 85) 2, type := 4, pos := "exact.go:48", after := #[{ on := 30, ground := Ground.data }, { on := 31, ground := Ground.data }, { on := 29, ground := Ground.guard }], guard := some (29, true) }) (v := ?_) rfl (by kernel_rfl) (by kernel_rfl) (by kernel_rfl) (fun _ _ _ h => h) (Or.inl ⟨by rfl, ?_⟩) hHeld ?_
  rotate_left
  · (intro w hSw; (try dsimp only at hSw); go_simp; (try with_reducible rfl))
  (try simp only [Act.put, List.setIfInBounds_toArray, List.set_cons_zero, List.set_cons_succ])
  refine wpAnyH_take (i := 33) (oi := { dst := some 87, op := Op.pick (Operand.tmp 83) (Operand.tmp 86) (Operand.const (Value.bool false)), type := 4, pos := "exact.go:48", after := #[{ on := 29, ground := Ground.data }, { on := 32, ground := Ground.data }], guard := none }) (v := ?_) rfl (by kernel_rfl) (by kernel_rfl) (by kernel_rfl) (fun _ _ _ h => h) (Or.inl ⟨by rfl, ?_⟩) hHeld ?_
  rotate_left
  · (intro w hSw; (try dsimp only at hSw); go_simp; (try with_reducible rfl))
  (try simp only [Act.put, List.setIfInBounds_toArray, List.set_cons_zero, List.set_cons_succ])
  refine wpAnyH_take (i := 34) (oi := { dst := some 6, op := Op.assign (Operand.tmp 87), type := 4, pos := "exact.go:48", after := #[{ on := 33, ground := Ground.data }, { on := 29, ground := Ground.chain }, { on := 0, ground := Ground.phase }, { on := 1, ground := Ground.phase }, { on := 2, ground := Ground.phase }, { on := 3, ground := Ground.phase }, { on := 4, ground := Ground.phase }, { on := 5, ground := Ground.phase }, { on := 6, ground := Ground.phase }, { on := 7, ground := Ground.phase }, { on := 8, ground := Ground.phase }, { on := 9, ground := Ground.phase }, { on := 10, ground := Ground.phase }, { on := 11, ground := Ground.phase }, { on := 12, ground := Ground.phase }, { on := 13, ground := Ground.phase }, { on := 14, ground := Ground.phase }, { on := 15, ground := Ground.phase }, { on := 16, ground := Ground.phase }, { on := 17, ground := Ground.phase }, { on := 18, ground := Ground.phase }, { on := 19, ground := Ground.phase }, { on := 20, ground := Ground.phase }, { on := 21, ground := Ground.phase }, { on := 22, ground := Ground.phase }, { on := 23, ground := Ground.phase }, { on := 24, ground := Ground.phase }, { on := 25, ground := Ground.phase }, { on := 26, ground := Ground.phase }, { on := 27, ground := Ground.phase }, { on := 28, ground := Ground.phase }, { on := 29, ground := Ground.phase }, { on := 30, ground := Ground.phase }, { on := 31, ground := Ground.phase }, { on := 32, ground := Ground.phase }, { on := 33, ground := Ground.phase }], guard := none }) (v := ?_) rfl (by kernel_rfl) (by kernel_rfl) (by kernel_rfl) (fun _ _ _ h => h) (Or.inl ⟨by rfl, ?_⟩) hHeld ?_
  rotate_left
  · (intro w hSw; (try dsimp only at hSw); go_simp; (try with_reducible rfl))
  (try simp only [Act.put, List.setIfInBounds_toArray, List.set_cons_zero, List.set_cons_succ])
  refine wpAnyH_done (by kernel_rfl) ?_ _
  refine NoPanic.normal ?_
  go_wp2
  go_ret
  exact ⟨rfl, bel8.trans (y6.mono bel8.size)⟩
set_option maxRecDepth 100000 in
set_option maxHeartbeats 40000000 in
theorem wshifts_mid (w : World) (sa : Bool) (Aa : Option Addr) (na ca : Nat) (fa : na ≤ 24) (n v : Int) (hn : 1500 < n ∧ n ≤ 100000) (hT : Tab w) (hP : ProductsT w) (hF : FarthestT w) :
    Calls Tryd.prog 4 #[.agg #[.bool sa, .slice Aa na ca], .int .i64 n, .int .i64 v] w fun e w' => e = .returned (.bool true) ∧ Below w.heap.size w w' := by
  have Hd := Lib.hid (decide_eq_true (show (na : Int) ≤ 24 by omega))
  obtain ⟨hn1, hn2⟩ := hn
  have hg : n > 1500 := hn1
  clear hn1
  have HTT := Lib.hid hT
  have HTP := Lib.hid hP
  have HTF := Lib.hid hF
  clear hT hP hF
  go_enter Tryd.func4, Tryd.ntmps4
  go_wp2_with fail
  obtain ⟨ga, hga⟩ : ∃ g, g = w.heap.size := ⟨_, rfl⟩
  obtain ⟨w1, hw1⟩ : ∃ v, v = (w.alloc (.cells #[.bool sa, .slice Aa na ca] 24)) := ⟨_, rfl⟩
  have bel1 : Below w.heap.size w w1 := by rw [hw1]; exact bel_alloc _ _
  have b_a1 : Box w1 ga sa Aa na ca := by rw [hw1, hga]; exact (Box.new _ _ _ _ _)
  rw [← hw1, ← hga]
  have hgs : w.heap.size ≤ ga := by omega
  have HG := Lib.hid hgs
  clear hw1 hgs hga
  have t_T1 := Lib.hid (HTT.out.bel bel1)
  have t_P1 := Lib.hid (HTP.out.bel bel1)
  have t_F1 := Lib.hid (HTF.out.bel bel1)
  have c_a0_1 := b_a1.c0
  have c_a1_1 := b_a1.c1
  have cc := Lib.hid (known2_any w1 t_T1.out t_P1.out t_F1.out)
  refine cc.out.mono ?_
  clear cc
  rintro e v2 ⟨rfl, kb2⟩
  have b_a2 := b_a1.bel kb2
  have t_T2 := Lib.hid (t_T1.out.bel kb2)
  have t_P2 := Lib.hid (t_P1.out.bel kb2)
  have t_F2 := Lib.hid (t_F1.out.bel kb2)
  have bel2 := bel1.trans (kb2.mono bel1.size)
  have c_a0_2 := b_a2.c0
  have c_a1_2 := b_a2.c1
  clear kb2 b_a1 c_a0_1 c_a1_1 t_T1 t_P1 t_F1 bel1
  go_wp2_with fail
  have cc := Lib.hid (few2_any v2 sa Aa na ca Hd.out)
  refine cc.out.mono ?_
  clear cc
  rintro e v3 ⟨rfl, kb3⟩
  have b_a3 := b_a2.bel kb3
  have t_T3 := Lib.hid (t_T2.out.bel kb3)
  have t_P3 := Lib.hid (t_P2.out.bel kb3)
  have t_F3 := Lib.hid (t_F2.out.bel kb3)
  have bel3 := bel2.trans (kb3.mono bel2.size)
  have c_a0_3 := b_a3.c0
  have c_a1_3 := b_a3.c1
  clear kb3 b_a2 c_a0_2 c_a1_2 t_T2 t_P2 t_F2 bel2
  go_wp2
  go_ret
  exact ⟨rfl, bel3⟩
end Go.Proofs.YtfnfbfiikkiliaaDoor
