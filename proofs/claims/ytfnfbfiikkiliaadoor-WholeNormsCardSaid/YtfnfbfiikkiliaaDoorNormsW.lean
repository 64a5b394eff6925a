/- WholeNorms: the walk. -/
import Derived.Test.YtfnfbfiikkiliaaDoorRM
import Derived.Test.YtfnfbfiikkiliaaDoorNormsA
import Derived.Deep.RegionHeld3
import Derived.Deep.DeepCutAuto
namespace Go.Proofs.YtfnfbfiikkiliaaDoor
open Go.RowKit

theorem sz1 (w : World) (o : Obj) : (w.alloc o).heap.size = w.heap.size + 1 := Array.size_push ..
theorem wis_q (w : World) (sa : Bool) (Aa : Option Addr) (na ca : Nat) (xa : List Nat) (La : Lm w Aa na ca xa) {t : Bool} (ht : (decide (lim (val xa) = xa) && !(sa && decide (na = 0))) = t) :
    Calls Tryd.prog 15 #[.agg #[.bool sa, .slice Aa na ca]] w fun e w' => e = .returned (.bool t) ∧ Below w.heap.size w w' := by
  subst ht; exact wis_any w sa Aa na ca xa La

set_option maxRecDepth 100000 in
set_option maxHeartbeats 40000000 in
theorem norms_few0 (w : World) (sa : Bool) (Aa : Option Addr) (na ca : Nat) (xa : List Nat) (La : Lm w Aa na ca xa) (fa : na ≤ 24) (sb : Bool) (Ab : Option Addr) (nb cb : Nat) (xb : List Nat) (Lb : Lm w Ab nb cb xb) (fb : nb ≤ 24) (n : Nat) (hn : n ≤ 255) (hk : n % 4 = 0) (hT : Tab w) (hS : SumsT w) (hP : ProductsT w) (hF : FarthestT w) :
    Calls Tryd.prog 6 #[.agg #[.bool sa, .slice Aa na ca], .agg #[.bool sb, .slice Ab nb cb], .int .u8 (n : Nat)] w fun e w' => e = .returned (.bool true) ∧ Below w.heap.size w w' := by
  obtain ⟨X, hX⟩ : ∃ V0 : Int, sgn sa (val xa) = V0 := ⟨_, rfl⟩
  have HX := Lib.hid hX
  clear hX
  obtain ⟨Y, hY⟩ : ∃ V0 : Int, sgn sb (val xb) = V0 := ⟨_, rfl⟩
  have HY := Lib.hid hY
  clear hY
  have Hd := Lib.hid (And.intro (decide_eq_true (show (na : Int) ≤ 24 by omega)) (decide_eq_true (show (nb : Int) ≤ 24 by omega)))
  obtain ⟨k, ek, hk3, hkz⟩ : ∃ k, n % 4 = k ∧ k ≤ 3 ∧ k = 0 := ⟨_, rfl, by omega, hk⟩
  have HET : Hid ((n : Int).tmod 4 = (k : Int)) := (by rw [Int.tmod_eq_emod_of_nonneg (by omega)]; omega : (n : Int).tmod 4 = (k : Int))
  have HWU : Hid (IntKind.u8.wrap (k : Int) = (k : Int)) := (by rw [IntKind.wrap_u8]; omega : IntKind.u8.wrap (k : Int) = (k : Int))
  have HWI : Hid (IntKind.i64.wrap (k : Int) = (k : Int)) := (IntWalk.i64_in _ (by omega) : IntKind.i64.wrap (k : Int) = (k : Int))
  obtain ⟨ys, hys⟩ : ∃ ys, xa ++ List.replicate k 0 = ys := ⟨_, rfl⟩
  obtain ⟨nx, hnx⟩ : ∃ nx, ys.length = nx := ⟨_, rfl⟩
  have hle : nx = na + k := by rw [← hnx, ← hys, List.length_append, List.length_replicate, La.len]
  have hoy : Ok ys := by rw [← hys]; exact ok_zeros La.ok k
  have hvy : val ys = val xa := by rw [← hys]; exact val_pad xa k
  have HLEN : Hid (xa.length ≤ 1000000 ∧ ys.length ≤ 1000000 ∧ Ok ys) := (by have h1 := La.len; exact ⟨by omega, by omega, hoy⟩ : xa.length ≤ 1000000 ∧ ys.length ≤ 1000000 ∧ Ok ys)
  have HXP : Hid (sgn sa (val ys) = X) := (by rw [hvy]; exact HX.out : sgn sa (val ys) = X)
  have HYS := Lib.hid hys
  have HNX := Lib.hid hnx
  have HNN : Hid (nx ≤ 27) := (by omega : nx ≤ 27)
  obtain ⟨O, hO⟩ : ∃ O : Int, O = 0 := ⟨_, rfl⟩
  have HO1 : Hid (sgn true (val (List.replicate k 0)) = O) := (by rw [hO, show val (List.replicate k 0) = 0 from by have h := val_pad [] k; rw [List.nil_append] at h; rw [h]; rfl]; rfl : sgn true (val (List.replicate k 0)) = O)
  have HO2 : Hid (sg O = 0) := (by rw [hO]; rfl : sg O = 0)
  have HO3 : Hid (O + X = X) := (by omega : O + X = X)
  have HC0 : Hid (sg (X - X) = 0) := (sg_zero (by omega) : sg (X - X) = 0)
  
  clear hO hys hnx hle hoy hvy
  have HKZ := Lib.hid hkz
  have HKD : Hid (decide ((k : Int) = 0) = true) := (decide_eq_true (by omega) : decide ((k : Int) = 0) = true)
  have HKE : Hid (((k : Int) == 0) = true) := (by rw [beq_iff_eq]; omega : ((k : Int) == 0) = true)
  clear ek hk hn hkz
  obtain ⟨SS, hSS⟩ : ∃ V0 : Int, X + Y = V0 := ⟨_, rfl⟩
  have HSS := Lib.hid hSS
  clear hSS
  obtain ⟨MM, hMM⟩ : ∃ V0 : Int, X * Y = V0 := ⟨_, rfl⟩
  have HMM := Lib.hid hMM
  clear hMM
  have HTT := Lib.hid hT
  have HTS := Lib.hid hS
  have HTP := Lib.hid hP
  have HTF := Lib.hid hF
  clear hT hS hP hF
  go_enter Tryd.func6, Tryd.ntmps6
  go_wp2_with fail
  obtain ⟨ga, hga⟩ : ∃ g, g = w.heap.size := ⟨_, rfl⟩
  obtain ⟨gb, hgb⟩ : ∃ g, g = w.heap.size + 1 := ⟨_, rfl⟩
  obtain ⟨w1, hw1⟩ : ∃ v, v = ((w.alloc (.cells #[.bool sa, .slice Aa na ca] 24)).alloc (.cells #[.bool sb, .slice Ab nb cb] 24)) := ⟨_, rfl⟩
  have bel1 : Below w.heap.size w w1 := by rw [hw1]; exact bel_alloc2 _ _ _
  have b_a1 : Box w1 ga sa Aa na ca := by rw [hw1, hga]; exact ((Box.new _ _ _ _ _).alloc _)
  have b_b1 : Box w1 gb sb Ab nb cb := by rw [hw1, hgb]; exact (Box.at1 _ _ _ _ _ _)
  rw [← hw1, ← hgb, ← hga]
  have hgs : w.heap.size ≤ ga ∧ w.heap.size ≤ gb ∧ ga ≠ gb ∧ gb ≠ ga := by omega
  have HG := Lib.hid hgs
  clear hw1 hgs hga hgb
  have l_a1 := La.bel bel1
  have l_b1 := Lb.bel bel1
  have t_T1 := Lib.hid (HTT.out.bel bel1)
  have t_S1 := Lib.hid (HTS.out.bel bel1)
  have t_P1 := Lib.hid (HTP.out.bel bel1)
  have t_F1 := Lib.hid (HTF.out.bel bel1)
  have c_a0_1 := b_a1.c0
  have c_a1_1 := b_a1.c1
  have c_b0_1 := b_b1.c0
  have c_b1_1 := b_b1.c1
  have cc := Lib.hid (known2_any w1 t_T1.out t_P1.out t_F1.out)
  refine cc.out.mono ?_
  clear cc
  rintro e v2 ⟨rfl, kb2⟩
  have b_a2 := b_a1.bel kb2
  have b_b2 := b_b1.bel kb2
  have l_a2 := l_a1.bel kb2
  have l_b2 := l_b1.bel kb2
  have t_T2 := Lib.hid (t_T1.out.bel kb2)
  have t_S2 := Lib.hid (t_S1.out.bel kb2)
  have t_P2 := Lib.hid (t_P1.out.bel kb2)
  have t_F2 := Lib.hid (t_F1.out.bel kb2)
  have bel2 := bel1.trans (kb2.mono bel1.size)
  have c_a0_2 := b_a2.c0
  have c_a1_2 := b_a2.c1
  have c_b0_2 := b_b2.c0
  have c_b1_2 := b_b2.c1
  clear kb2 b_a1 c_a0_1 c_a1_1 b_b1 c_b0_1 c_b1_1 l_a1 l_b1 t_T1 t_S1 t_P1 t_F1 bel1
  go_wp2_with fail
  have cc := Lib.hid (few2_any v2 sa Aa na ca Hd.out.1)
  refine cc.out.mono ?_
  clear cc
  rintro e v3 ⟨rfl, kb3⟩
  have b_a3 := b_a2.bel kb3
  have b_b3 := b_b2.bel kb3
  have l_a3 := l_a2.bel kb3
  have l_b3 := l_b2.bel kb3
  have t_T3 := Lib.hid (t_T2.out.bel kb3)
  have t_S3 := Lib.hid (t_S2.out.bel kb3)
  have t_P3 := Lib.hid (t_P2.out.bel kb3)
  have t_F3 := Lib.hid (t_F2.out.bel kb3)
  have bel3 := bel2.trans (kb3.mono bel2.size)
  have c_a0_3 := b_a3.c0
  have c_a1_3 := b_a3.c1
  have c_b0_3 := b_b3.c0
  have c_b1_3 := b_b3.c1
  clear kb3 b_a2 c_a0_2 c_a1_2 b_b2 c_b0_2 c_b1_2 l_a2 l_b2 t_T2 t_S2 t_P2 t_F2 bel2
  go_wp2_with fail
  have cc := Lib.hid (few2_any v3 sb Ab nb cb Hd.out.2)
  refine cc.out.mono ?_
  clear cc
  rintro e v4 ⟨rfl, kb4⟩
  have b_a4 := b_a3.bel kb4
  have b_b4 := b_b3.bel kb4
  have l_a4 := l_a3.bel kb4
  have l_b4 := l_b3.bel kb4
  have t_T4 := Lib.hid (t_T3.out.bel kb4)
  have t_S4 := Lib.hid (t_S3.out.bel kb4)
  have t_P4 := Lib.hid (t_P3.out.bel kb4)
  have t_F4 := Lib.hid (t_F3.out.bel kb4)
  have bel4 := bel3.trans (kb4.mono bel3.size)
  have c_a0_4 := b_a4.c0
  have c_a1_4 := b_a4.c1
  have c_b0_4 := b_b4.c0
  have c_b1_4 := b_b4.c1
  clear kb4 b_a3 c_a0_3 c_a1_3 b_b3 c_b0_3 c_b1_3 l_a3 l_b3 t_T3 t_S3 t_P3 t_F3 bel3
  go_upto_region 5 with (fail)
  go_cut [7] (fun s7 wx => LaidN v4 sa ys s7 wx)
  case first =>
    have hS0 := And.intro (held0 b_a4) (held0 b_b4)
    have y0 : Below v4.heap.size v4 v4 := Below.refl _ _
    refine wp_region_noPanic ?_
    refine wp_region_held_drew (S := (fun w' => (Box w' ga sa Aa na ca ∧ w'.cell? ⟨ga, 0, none⟩ = some (.bool sa) ∧ w'.cell? ⟨ga, 1, none⟩ = some (.slice Aa na ca)) ∧ (Box w' gb sb Ab nb cb ∧ w'.cell? ⟨gb, 0, none⟩ = some (.bool sb) ∧ w'.cell? ⟨gb, 1, none⟩ = some (.slice Ab nb cb)))) (by kernel_rfl) ?_ (fun hHeld => ?_)
    · ((try dsimp only); (with_reducible refine keep20 ?_ hS0; (focus repeat' (first | with_reducible assumption | with_reducible refine bel_drw ?_ | with_reducible refine bel_al ?_ | with_reducible refine bel_put ?_ ?_ _ _ | omega))))
    refine wpAnyH_take (i := 0) (oi := { dst := some 19, op := Op.fieldAddr 24 (Operand.tmp 3) 0, type := 0, pos := "family.go:46", after := #[], guard := none }) (v := ?_) rfl (by kernel_rfl) (by kernel_rfl) (by kernel_rfl) (fun _ _ _ h => h) (Or.inl ⟨by rfl, ?_⟩) hHeld ?_
    rotate_left
    · (intro w hSw; (try dsimp only at hSw); go_simp; (try with_reducible rfl))
    (try simp only [Act.put, List.setIfInBounds_toArray, List.set_cons_zero, List.set_cons_succ])
    refine wpAnyH_take (i := 1) (oi := { dst := some 20, op := Op.load 4 (Operand.tmp 19), type := 4, pos := "family.go:46", after := #[{ on := 0, ground := Ground.data }], guard := none }) (v := ?_) rfl (by kernel_rfl) (by kernel_rfl) (by kernel_rfl) (fun _ _ _ h => h) (Or.inl ⟨by rfl, ?_⟩) hHeld ?_
    rotate_left
    · (intro w hSw; (try dsimp only at hSw); go_simp; (try with_reducible rfl))
    (try simp only [Act.put, List.setIfInBounds_toArray, List.set_cons_zero, List.set_cons_succ])
    refine wpAnyH_take (i := 2) (oi := { dst := some 21, op := Op.fieldAddr 24 (Operand.tmp 3) 1, type := 0, pos := "family.go:46", after := #[], guard := none }) (v := ?_) rfl (by kernel_rfl) (by kernel_rfl) (by kernel_rfl) (fun _ _ _ h => h) (Or.inl ⟨by rfl, ?_⟩) hHeld ?_
    rotate_left
    · (intro w hSw; (try dsimp only at hSw); go_simp; (try with_reducible rfl))
    (try simp only [Act.put, List.setIfInBounds_toArray, List.set_cons_zero, List.set_cons_succ])
    refine wpAnyH_take (i := 3) (oi := { dst := some 22, op := Op.load 22 (Operand.tmp 21), type := 22, pos := "family.go:46", after := #[{ on := 2, ground := Ground.data }], guard := none }) (v := ?_) rfl (by kernel_rfl) (by kernel_rfl) (by kernel_rfl) (fun _ _ _ h => h) (Or.inl ⟨by rfl, ?_⟩) hHeld ?_
    rotate_left
    · (intro w hSw; (try dsimp only at hSw); go_simp; (try with_reducible rfl))
    (try simp only [Act.put, List.setIfInBounds_toArray, List.set_cons_zero, List.set_cons_succ])
    refine wpAnyH_take (i := 5) (oi := { dst := some 24, op := Op.move (Operand.tmp 2), type := 5, pos := "family.go:46", after := #[], guard := none }) (v := ?_) rfl (by kernel_rfl) (by kernel_rfl) (by kernel_rfl) (fun _ _ _ h => h) (Or.inl ⟨by rfl, ?_⟩) hHeld ?_
    rotate_left
    · (intro w hSw; (try dsimp only at hSw); go_simp; (try with_reducible rfl))
    (try simp only [Act.put, List.setIfInBounds_toArray, List.set_cons_zero, List.set_cons_succ])
    refine wpAnyH_take (i := 6) (oi := { dst := some 25, op := Op.binOp BinOp.rem 5 (Operand.tmp 24) (Operand.const (Value.int IntKind.u8 4)) 5, type := 5, pos := "family.go:46", after := #[{ on := 5, ground := Ground.data }], guard := none }) (v := ?_) rfl (by kernel_rfl) (by kernel_rfl) (by kernel_rfl) (fun _ _ _ h => h) (Or.inl ⟨by rfl, ?_⟩) hHeld ?_
    rotate_left
    · (intro w hSw; (try dsimp only at hSw); go_simp; (try with_reducible rfl))
    (try simp only [Act.put, List.setIfInBounds_toArray, List.set_cons_zero, List.set_cons_succ])
    (try rw [HET.out])
    (try rw [HWU.out])
    (try rw [HWI.out])
    refine wpAnyH_take (i := 7) (oi := { dst := some 26, op := Op.convert 5 3 (Operand.tmp 25), type := 3, pos := "family.go:46", after := #[{ on := 6, ground := Ground.data }], guard := none }) (v := ?_) rfl (by kernel_rfl) (by kernel_rfl) (by kernel_rfl) (fun _ _ _ h => h) (Or.inl ⟨by rfl, ?_⟩) hHeld ?_
    rotate_left
    · (intro w hSw; (try dsimp only at hSw); go_simp; (try with_reducible rfl))
    (try simp only [Act.put, List.setIfInBounds_toArray, List.set_cons_zero, List.set_cons_succ])
    (try rw [HET.out])
    (try rw [HWU.out])
    (try rw [HWI.out])
    refine wpAnyH_ready (rs := [4, 10]) (by kernel_rfl) (by simp) ?_
    refine AllReadyH.cons (o := { dst := some 23, op := Op.call { callee := Callee.builtin Builtin.append, args := #[Operand.const (Value.slice none 0 0), Operand.tmp 22], argTypes := #[22, 22] }, type := 22, pos := "family.go:46", after := #[{ on := 3, ground := Ground.data }], guard := none }) rfl (fun K hK => ?_) (AllReadyH.cons (o := { dst := some 7, op := Op.alloc 24, type := 0, pos := "family.go:46", after := #[], guard := none }) rfl (fun K hK => ?_) AllReadyH.nil)
    · skip
      clear hHeld
      rw [if_pos (by rfl)]
      obtain ⟨v1, x1, hr1, hz1, hg1⟩ := app1 v4.drew 22 Aa na ca xa (l_a4.drew)
      refine Lib.wp_append_run _ _ _ _ _ rfl _ _ rfl rfl v1 x1 hr1 ?_
      have yw : Below v4.heap.size v4 v4.drew := bel_drw y0
      have y1 : Below v4.heap.size v4 x1 := yw.grown hg1 yw.size (fun k hk => by cases hk)
      refine hK.out _ _ ?_ (fun hHeld => ?_)
      · ((try dsimp only); (with_reducible refine keep20 ?_ hS0; (focus repeat' (first | with_reducible assumption | with_reducible refine bel_drw ?_ | with_reducible refine bel_al ?_ | with_reducible refine bel_put ?_ ?_ _ _ | omega))))
      clear hK K
      (try simp only [Act.put, List.setIfInBounds_toArray, List.set_cons_zero, List.set_cons_succ])
      refine wpAnyH_ready (rs := [8, 10]) (by kernel_rfl) (by simp) ?_
      refine AllReadyH.cons (o := { dst := some 27, op := Op.call { callee := Callee.builtin Builtin.append, args := #[Operand.tmp 23, Operand.tmp 26], argTypes := #[22, 3] }, type := 22, pos := "family.go:46", after := #[{ on := 4, ground := Ground.data }, { on := 7, ground := Ground.data }, { on := 4, ground := Ground.chain }], guard := none }) rfl (fun K hK => ?_) (AllReadyH.cons (o := { dst := some 7, op := Op.alloc 24, type := 0, pos := "family.go:46", after := #[], guard := none }) rfl (fun K hK => ?_) AllReadyH.nil)
      · skip
        clear hHeld
        rw [if_pos (by rfl)]
        have yw : Below v4.heap.size v4 x1 := y1
        obtain ⟨v2, x2, hr2, hz2, hg2⟩ := app2 x1 22 _ v1 xa (hz1) k (by omega) HLEN.out.1 y1.size
        rw [HYS.out] at hz2
        obtain ⟨A2, c2, rfl, hl2⟩ := hz2.lm HLEN.out.2.2 HLEN.out.2.1
        refine Lib.wp_append_run _ _ _ _ _ rfl _ _ rfl rfl _ x2 hr2 ?_
        have y2 : Below v4.heap.size v4 x2 := yw.grown hg2 yw.size (fun j hj => Nat.le_trans (Nat.le_refl _) (hz1.own j hj).1)
        refine hK.out _ _ ?_ (fun hHeld => ?_)
        · ((try dsimp only); (with_reducible refine keep20 ?_ hS0; (focus repeat' (first | with_reducible assumption | with_reducible refine bel_drw ?_ | with_reducible refine bel_al ?_ | with_reducible refine bel_put ?_ ?_ _ _ | omega))))
        clear hK K
        (try simp only [Act.put, List.setIfInBounds_toArray, List.set_cons_zero, List.set_cons_succ])
        refine wpAnyH_take (i := 9) (oi := { dst := some 28, op := Op.build 24 #[(0, Operand.tmp 20), (1, Operand.tmp 27)], type := 24, pos := "family.go:46", after := #[{ on := 1, ground := Ground.data }, { on := 8, ground := Ground.data }], guard := none }) (v := ?_) rfl (by kernel_rfl) (by kernel_rfl) (by kernel_rfl) (fun _ _ _ h => h) (Or.inl ⟨by rfl, ?_⟩) hHeld ?_
        rotate_left
        · (intro w hSw; (try dsimp only at hSw); go_simp; (try with_reducible rfl))
        (try simp only [Act.put, List.setIfInBounds_toArray, List.set_cons_zero, List.set_cons_succ])
        refine wpAnyH_ready (rs := [10]) (by kernel_rfl) (by simp) ?_
        refine AllReadyH.cons (o := { dst := some 7, op := Op.alloc 24, type := 0, pos := "family.go:46", after := #[], guard := none }) rfl (fun K hK => ?_) AllReadyH.nil
        clear hHeld
        go_simp
        refine hK.out _ _ ?_ (fun hHeld => ?_)
        · ((try dsimp only); (with_reducible refine keep20 ?_ hS0; (focus repeat' (first | with_reducible assumption | with_reducible refine bel_drw ?_ | with_reducible refine bel_al ?_ | with_reducible refine bel_put ?_ ?_ _ _ | omega))))
        clear hK K
        (try simp only [Act.put, List.setIfInBounds_toArray, List.set_cons_zero, List.set_cons_succ])
        refine wpAnyH_ready (rs := [11]) (by kernel_rfl) (by simp) ?_
        refine AllReadyH.cons (o := { dst := none, op := Op.store 24 (Operand.tmp 7) (Operand.tmp 28), type := 0, pos := "family.go:46", after := #[{ on := 10, ground := Ground.data }, { on := 9, ground := Ground.data }, { on := 8, ground := Ground.chain }, { on := 0, ground := Ground.phase }, { on := 1, ground := Ground.phase }, { on := 2, ground := Ground.phase }, { on := 3, ground := Ground.phase }, { on := 4, ground := Ground.phase }, { on := 5, ground := Ground.phase }, { on := 6, ground := Ground.phase }, { on := 7, ground := Ground.phase }, { on := 8, ground := Ground.phase }, { on := 9, ground := Ground.phase }, { on := 10, ground := Ground.phase }], guard := none }) rfl (fun K hK => ?_) AllReadyH.nil
        clear hHeld
        go_simp
        refine hK.out _ _ ?_ (fun hHeld => ?_)
        · ((try dsimp only); (with_reducible refine keep20 ?_ hS0; (focus repeat' (first | with_reducible assumption | with_reducible refine bel_drw ?_ | with_reducible refine bel_al ?_ | with_reducible refine bel_put ?_ ?_ _ _ | omega))))
        clear hK K
        (try simp only [Act.put, List.setIfInBounds_toArray, List.set_cons_zero, List.set_cons_succ])
        refine wpAnyH_done (by kernel_rfl) ?_ _
        refine NoPanic.normal ?_
        go_wp2_with fail
        go_meet
        exact laidN_new y2 hl2
      · skip
        clear hHeld
        go_simp
        refine hK.out _ _ ?_ (fun hHeld => ?_)
        · ((try dsimp only); (with_reducible refine keep20 ?_ hS0; (focus repeat' (first | with_reducible assumption | with_reducible refine bel_drw ?_ | with_reducible refine bel_al ?_ | with_reducible refine bel_put ?_ ?_ _ _ | omega))))
        clear hK K
        (try simp only [Act.put, List.setIfInBounds_toArray, List.set_cons_zero, List.set_cons_succ])
        refine wpAnyH_ready (rs := [8]) (by kernel_rfl) (by simp) ?_
        refine AllReadyH.cons (o := { dst := some 27, op := Op.call { callee := Callee.builtin Builtin.append, args := #[Operand.tmp 23, Operand.tmp 26], argTypes := #[22, 3] }, type := 22, pos := "family.go:46", after := #[{ on := 4, ground := Ground.data }, { on := 7, ground := Ground.data }, { on := 4, ground := Ground.chain }], guard := none }) rfl (fun K hK => ?_) AllReadyH.nil
        have tz : Two (x1.alloc Zero) x1.heap.size := (Box.new x1 false none 0 0).two
        clear hHeld
        rw [if_pos (by rfl)]
        have yw : Below v4.heap.size v4 (x1.alloc Zero) := bel_al y1
        obtain ⟨v2, x2, hr2, hz2, hg2⟩ := app2 (x1.alloc Zero) 22 _ v1 xa (hz1.alloc _) k (by omega) HLEN.out.1 yw.size
        rw [HYS.out] at hz2
        obtain ⟨A2, c2, rfl, hl2⟩ := hz2.lm HLEN.out.2.2 HLEN.out.2.1
        refine Lib.wp_append_run _ _ _ _ _ rfl _ _ rfl rfl _ x2 hr2 ?_
        have y2 : Below v4.heap.size v4 x2 := yw.grown hg2 yw.size (fun j hj => Nat.le_trans (Nat.le_refl _) (hz1.own j hj).1)
        have tz2 := tz.kept hg2 (fun e => by have h1 := (hz1.own _ e.symm).2; omega)
        have rr := tz2.room.2
        have sz := y1.size
        refine hK.out _ _ ?_ (fun hHeld => ?_)
        · ((try dsimp only); (with_reducible refine keep20 ?_ hS0; (focus repeat' (first | with_reducible assumption | with_reducible refine bel_drw ?_ | with_reducible refine bel_al ?_ | with_reducible refine bel_put ?_ ?_ _ _ | omega))))
        clear hK K
        (try simp only [Act.put, List.setIfInBounds_toArray, List.set_cons_zero, List.set_cons_succ])
        refine wpAnyH_take (i := 9) (oi := { dst := some 28, op := Op.build 24 #[(0, Operand.tmp 20), (1, Operand.tmp 27)], type := 24, pos := "family.go:46", after := #[{ on := 1, ground := Ground.data }, { on := 8, ground := Ground.data }], guard := none }) (v := ?_) rfl (by kernel_rfl) (by kernel_rfl) (by kernel_rfl) (fun _ _ _ h => h) (Or.inl ⟨by rfl, ?_⟩) hHeld ?_
        rotate_left
        · (intro w hSw; (try dsimp only at hSw); go_simp; (try with_reducible rfl))
        (try simp only [Act.put, List.setIfInBounds_toArray, List.set_cons_zero, List.set_cons_succ])
        refine wpAnyH_ready (rs := [11]) (by kernel_rfl) (by simp) ?_
        refine AllReadyH.cons (o := { dst := none, op := Op.store 24 (Operand.tmp 7) (Operand.tmp 28), type := 0, pos := "family.go:46", after := #[{ on := 10, ground := Ground.data }, { on := 9, ground := Ground.data }, { on := 8, ground := Ground.chain }, { on := 0, ground := Ground.phase }, { on := 1, ground := Ground.phase }, { on := 2, ground := Ground.phase }, { on := 3, ground := Ground.phase }, { on := 4, ground := Ground.phase }, { on := 5, ground := Ground.phase }, { on := 6, ground := Ground.phase }, { on := 7, ground := Ground.phase }, { on := 8, ground := Ground.phase }, { on := 9, ground := Ground.phase }, { on := 10, ground := Ground.phase }], guard := none }) rfl (fun K hK => ?_) AllReadyH.nil
        clear hHeld
        go_simp
        refine hK.out _ _ ?_ (fun hHeld => ?_)
        · ((try dsimp only); (with_reducible refine keep20 ?_ hS0; (focus repeat' (first | with_reducible assumption | with_reducible refine bel_drw ?_ | with_reducible refine bel_al ?_ | with_reducible refine bel_put ?_ ?_ _ _ | omega))))
        clear hK K
        (try simp only [Act.put, List.setIfInBounds_toArray, List.set_cons_zero, List.set_cons_succ])
        refine wpAnyH_done (by kernel_rfl) ?_ _
        refine NoPanic.normal ?_
        go_wp2_with fail
        go_meet
        exact laidN_old y2 hl2 tz2 sz
    · skip
      clear hHeld
      go_simp
      refine hK.out _ _ ?_ (fun hHeld => ?_)
      · ((try dsimp only); (with_reducible refine keep20 ?_ hS0; (focus repeat' (first | with_reducible assumption | with_reducible refine bel_drw ?_ | with_reducible refine bel_al ?_ | with_reducible refine bel_put ?_ ?_ _ _ | omega))))
      clear hK K
      (try simp only [Act.put, List.setIfInBounds_toArray, List.set_cons_zero, List.set_cons_succ])
      refine wpAnyH_ready (rs := [4]) (by kernel_rfl) (by simp) ?_
      refine AllReadyH.cons (o := { dst := some 23, op := Op.call { callee := Callee.builtin Builtin.append, args := #[Operand.const (Value.slice none 0 0), Operand.tmp 22], argTypes := #[22, 22] }, type := 22, pos := "family.go:46", after := #[{ on := 3, ground := Ground.data }], guard := none }) rfl (fun K hK => ?_) AllReadyH.nil
      have tz : Two (v4.alloc Zero) v4.heap.size := (Box.new v4 false none 0 0).two
      clear hHeld
      rw [if_pos (by rfl)]
      obtain ⟨v1, x1, hr1, hz1, hg1⟩ := app1 (v4.alloc Zero).drew 22 Aa na ca xa ((l_a4.bel (bel_alloc _ _)).drew)
      refine Lib.wp_append_run _ _ _ _ _ rfl _ _ rfl rfl v1 x1 hr1 ?_
      have yw : Below v4.heap.size v4 (v4.alloc Zero).drew := bel_drw (bel_al y0)
      have y1 : Below v4.heap.size v4 x1 := yw.grown hg1 yw.size (fun k hk => by cases hk)
      have tz1 : Two x1 v4.heap.size := Two.kept (w := (v4.alloc Zero).drew) tz hg1 (fun e => by cases e)
      refine hK.out _ _ ?_ (fun hHeld => ?_)
      · ((try dsimp only); (with_reducible refine keep20 ?_ hS0; (focus repeat' (first | with_reducible assumption | with_reducible refine bel_drw ?_ | with_reducible refine bel_al ?_ | with_reducible refine bel_put ?_ ?_ _ _ | omega))))
      clear hK K
      (try simp only [Act.put, List.setIfInBounds_toArray, List.set_cons_zero, List.set_cons_succ])
      refine wpAnyH_ready (rs := [8]) (by kernel_rfl) (by simp) ?_
      refine AllReadyH.cons (o := { dst := some 27, op := Op.call { callee := Callee.builtin Builtin.append, args := #[Operand.tmp 23, Operand.tmp 26], argTypes := #[22, 3] }, type := 22, pos := "family.go:46", after := #[{ on := 4, ground := Ground.data }, { on := 7, ground := Ground.data }, { on := 4, ground := Ground.chain }], guard := none }) rfl (fun K hK => ?_) AllReadyH.nil
      have hsz : (v4.alloc Zero).drew.heap.size = v4.heap.size + 1 := sz1 _ _
      clear hHeld
      rw [if_pos (by rfl)]
      have yw : Below v4.heap.size v4 x1 := y1
      obtain ⟨v2, x2, hr2, hz2, hg2⟩ := app2 x1 22 _ v1 xa (hz1) k (by omega) HLEN.out.1 (by have h1 := tz1.lt; omega)
      rw [HYS.out] at hz2
      obtain ⟨A2, c2, rfl, hl2⟩ := hz2.lm HLEN.out.2.2 HLEN.out.2.1
      refine Lib.wp_append_run _ _ _ _ _ rfl _ _ rfl rfl _ x2 hr2 ?_
      have y2 : Below v4.heap.size v4 x2 := yw.grown hg2 yw.size (fun j hj => Nat.le_trans (by omega) (hz1.own j hj).1)
      have tz2 := tz1.kept hg2 (fun e => by have h1 := (hz1.own _ e.symm).1; omega)
      have rr := tz2.room.2
      have sz : v4.heap.size ≤ v4.heap.size := Nat.le_refl _
      refine hK.out _ _ ?_ (fun hHeld => ?_)
      · ((try dsimp only); (with_reducible refine keep20 ?_ hS0; (focus repeat' (first | with_reducible assumption | with_reducible refine bel_drw ?_ | with_reducible refine bel_al ?_ | with_reducible refine bel_put ?_ ?_ _ _ | omega))))
      clear hK K
      (try simp only [Act.put, List.setIfInBounds_toArray, List.set_cons_zero, List.set_cons_succ])
      refine wpAnyH_take (i := 9) (oi := { dst := some 28, op := Op.build 24 #[(0, Operand.tmp 20), (1, Operand.tmp 27)], type := 24, pos := "family.go:46", after := #[{ on := 1, ground := Ground.data }, { on := 8, ground := Ground.data }], guard := none }) (v := ?_) rfl (by kernel_rfl) (by kernel_rfl) (by kernel_rfl) (fun _ _ _ h => h) (Or.inl ⟨by rfl, ?_⟩) hHeld ?_
      rotate_left
      · (intro w hSw; (try dsimp only at hSw); go_simp; (try with_reducible rfl))
      (try simp only [Act.put, List.setIfInBounds_toArray, List.set_cons_zero, List.set_cons_succ])
      refine wpAnyH_ready (rs := [11]) (by kernel_rfl) (by simp) ?_
      refine AllReadyH.cons (o := { dst := none, op := Op.store 24 (Operand.tmp 7) (Operand.tmp 28), type := 0, pos := "family.go:46", after := #[{ on := 10, ground := Ground.data }, { on := 9, ground := Ground.data }, { on := 8, ground := Ground.chain }, { on := 0, ground := Ground.phase }, { on := 1, ground := Ground.phase }, { on := 2, ground := Ground.phase }, { on := 3, ground := Ground.phase }, { on := 4, ground := Ground.phase }, { on := 5, ground := Ground.phase }, { on := 6, ground := Ground.phase }, { on := 7, ground := Ground.phase }, { on := 8, ground := Ground.phase }, { on := 9, ground := Ground.phase }, { on := 10, ground := Ground.phase }], guard := none }) rfl (fun K hK => ?_) AllReadyH.nil
      clear hHeld
      go_simp
      refine hK.out _ _ ?_ (fun hHeld => ?_)
      · ((try dsimp only); (with_reducible refine keep20 ?_ hS0; (focus repeat' (first | with_reducible assumption | with_reducible refine bel_drw ?_ | with_reducible refine bel_al ?_ | with_reducible refine bel_put ?_ ?_ _ _ | omega))))
      clear hK K
      (try simp only [Act.put, List.setIfInBounds_toArray, List.set_cons_zero, List.set_cons_succ])
      refine wpAnyH_done (by kernel_rfl) ?_ _
      refine NoPanic.normal ?_
      go_wp2_with fail
      go_meet
      exact laidN_old y2 hl2 tz2 sz
  case rest =>
    obtain ⟨gx, A5, c5, rfl, bx, lx, hgx, hbx⟩ := hcut
    rw [HNX.out] at bx lx
    have b_x5 := bx
    have l_x5 := lx
    clear bx lx
    have b_a5 := b_a4.bel hbx
    have b_b5 := b_b4.bel hbx
    have l_a5 := l_a4.bel hbx
    have l_b5 := l_b4.bel hbx
    have t_T5 := Lib.hid (t_T4.out.bel hbx)
    have t_S5 := Lib.hid (t_S4.out.bel hbx)
    have t_P5 := Lib.hid (t_P4.out.bel hbx)
    have t_F5 := Lib.hid (t_F4.out.bel hbx)
    have bel5 := bel4.trans (hbx.mono bel4.size)
    have c_a0_5 := b_a5.c0
    have c_a1_5 := b_a5.c1
    have c_b0_5 := b_b5.c0
    have c_b1_5 := b_b5.c1
    clear hbx b_a4 c_a0_4 c_a1_4 b_b4 c_b0_4 c_b1_4 l_a4 l_b4 t_T4 t_S4 t_P4 t_F4 bel4
    have c_x0_5 := b_x5.c0
    have c_x1_5 := b_x5.c1
    have et := HET.out
    have wu := HWU.out
    have wi := HWI.out
    have wj : wrap64 (k : Int) = (k : Int) := by rw [← IntWalk.i64_left]; exact wi
    go_upto_region 7 with (at_make; refine wpList_make_u32 _ rfl _ _ rfl .i64 .i64 _ _ k rfl rfl (by clear wi wu wj; omega) (by clear wi wu wj; omega) (by clear wi wu wj; omega) ?_; intro w7 hown hb7 hs7; clear hs7)
    clear et wu wi wj
    obtain ⟨Az, hAz⟩ : ∃ Az : Option Addr, Az = some ⟨wc.heap.size, 0, none⟩ := ⟨_, rfl⟩
    have lz : Lm w7 Az k k (List.replicate k 0) := by
      rw [hAz]
      have h := hown.lm (Ok.zeros k) (by rw [List.length_replicate]; omega)
      rw [List.length_replicate] at h
      exact h
    rw [← hAz]
    clear hown hAz
    have b_a6 := b_a5.bel hb7
    have b_b6 := b_b5.bel hb7
    have b_x6 := b_x5.bel hb7
    have l_a6 := l_a5.bel hb7
    have l_b6 := l_b5.bel hb7
    have l_x6 := l_x5.bel hb7
    have t_T6 := Lib.hid (t_T5.out.bel hb7)
    have t_S6 := Lib.hid (t_S5.out.bel hb7)
    have t_P6 := Lib.hid (t_P5.out.bel hb7)
    have t_F6 := Lib.hid (t_F5.out.bel hb7)
    have bel6 := bel5.trans (hb7.mono bel5.size)
    have c_a0_6 := b_a6.c0
    have c_a1_6 := b_a6.c1
    have c_b0_6 := b_b6.c0
    have c_b1_6 := b_b6.c1
    have c_x0_6 := b_x6.c0
    have c_x1_6 := b_x6.c1
    clear hb7 b_a5 c_a0_5 c_a1_5 b_b5 c_b0_5 c_b1_5 b_x5 c_x0_5 c_x1_5 l_a5 l_b5 l_x5 t_T5 t_S5 t_P5 t_F5 bel5
    obtain ⟨gz, hgz⟩ : ∃ g, g = w7.heap.size := ⟨_, rfl⟩
    obtain ⟨w8, hw8⟩ : ∃ v, v = w7.alloc (.cells #[.bool true, .slice Az k k] 24) := ⟨_, rfl⟩
    have bz : Box w8 gz true Az k k := by rw [hw8, hgz]; exact Box.new _ _ _ _ _
    have hb8 : Below w7.heap.size w7 w8 := by rw [hw8]; exact bel_alloc _ _
    rw [← hw8, ← hgz]
    clear hw8 hgz
    have b_a7 := b_a6.bel hb8
    have b_b7 := b_b6.bel hb8
    have b_x7 := b_x6.bel hb8
    have l_a7 := l_a6.bel hb8
    have l_b7 := l_b6.bel hb8
    have l_x7 := l_x6.bel hb8
    have l_z7 := lz.bel hb8
    have t_T7 := Lib.hid (t_T6.out.bel hb8)
    have t_S7 := Lib.hid (t_S6.out.bel hb8)
    have t_P7 := Lib.hid (t_P6.out.bel hb8)
    have t_F7 := Lib.hid (t_F6.out.bel hb8)
    have bel7 := bel6.trans (hb8.mono bel6.size)
    have c_a0_7 := b_a7.c0
    have c_a1_7 := b_a7.c1
    have c_b0_7 := b_b7.c0
    have c_b1_7 := b_b7.c1
    have c_x0_7 := b_x7.c0
    have c_x1_7 := b_x7.c1
    clear hb8 b_a6 c_a0_6 c_a1_6 b_b6 c_b0_6 c_b1_6 b_x6 c_x0_6 c_x1_6 l_a6 l_b6 l_x6 lz t_T6 t_S6 t_P6 t_F6 bel6
    have b_z7 := bz
    have c_z0_7 := b_z7.c0
    have c_z1_7 := b_z7.c1
    clear bz
    have hS0 := And.intro (held0 b_a7) ( And.intro (held0 b_b7) ( And.intro (held0 b_x7) (held0 b_z7)))
    have y0 : Below w8.heap.size w8 w8 := Below.refl _ _
    refine wp_region_noPanic ?_
    refine wp_region_held_drew (S := (fun w' => (Box w' ga sa Aa na ca ∧ w'.cell? ⟨ga, 0, none⟩ = some (.bool sa) ∧ w'.cell? ⟨ga, 1, none⟩ = some (.slice Aa na ca)) ∧ (Box w' gb sb Ab nb cb ∧ w'.cell? ⟨gb, 0, none⟩ = some (.bool sb) ∧ w'.cell? ⟨gb, 1, none⟩ = some (.slice Ab nb cb)) ∧ (Box w' gx sa A5 nx c5 ∧ w'.cell? ⟨gx, 0, none⟩ = some (.bool sa) ∧ w'.cell? ⟨gx, 1, none⟩ = some (.slice A5 nx c5)) ∧ (Box w' gz true Az k k ∧ w'.cell? ⟨gz, 0, none⟩ = some (.bool true) ∧ w'.cell? ⟨gz, 1, none⟩ = some (.slice Az k k)))) (by kernel_rfl) ?_ (fun hHeld => ?_)
    · ((try dsimp only); (with_reducible refine keep40 ?_ hS0; (focus repeat' (first | with_reducible assumption | with_reducible refine bel_drw ?_ | with_reducible refine bel_al ?_ | with_reducible refine bel_put ?_ ?_ _ _ | omega))))
    refine wpAnyH_take (i := 0) (oi := { dst := some 34, op := Op.load 24 (Operand.tmp 7), type := 24, pos := "family.go:48", after := #[], guard := none }) (v := ?_) rfl (by kernel_rfl) (by kernel_rfl) (by kernel_rfl) (fun _ _ _ h => h) (Or.inl ⟨by rfl, ?_⟩) hHeld ?_
    rotate_left
    · (intro w hSw; (try dsimp only at hSw); go_simp; (try with_reducible rfl))
    (try simp only [Act.put, List.setIfInBounds_toArray, List.set_cons_zero, List.set_cons_succ])
    (try rw [HET.out])
    (try rw [HWU.out])
    (try rw [HKD.out])
    (try rw [HKE.out])
    refine wpAnyH_take (i := 1) (oi := { dst := some 35, op := Op.load 24 (Operand.tmp 4), type := 24, pos := "family.go:48", after := #[], guard := none }) (v := ?_) rfl (by kernel_rfl) (by kernel_rfl) (by kernel_rfl) (fun _ _ _ h => h) (Or.inl ⟨by rfl, ?_⟩) hHeld ?_
    rotate_left
    · (intro w hSw; (try dsimp only at hSw); go_simp; (try with_reducible rfl))
    (try simp only [Act.put, List.setIfInBounds_toArray, List.set_cons_zero, List.set_cons_succ])
    (try rw [HET.out])
    (try rw [HWU.out])
    (try rw [HKD.out])
    (try rw [HKE.out])
    refine wpAnyH_take (i := 3) (oi := { dst := some 37, op := Op.load 24 (Operand.tmp 3), type := 24, pos := "family.go:48", after := #[], guard := none }) (v := ?_) rfl (by kernel_rfl) (by kernel_rfl) (by kernel_rfl) (fun _ _ _ h => h) (Or.inl ⟨by rfl, ?_⟩) hHeld ?_
    rotate_left
    · (intro w hSw; (try dsimp only at hSw); go_simp; (try with_reducible rfl))
    (try simp only [Act.put, List.setIfInBounds_toArray, List.set_cons_zero, List.set_cons_succ])
    (try rw [HET.out])
    (try rw [HWU.out])
    (try rw [HKD.out])
    (try rw [HKE.out])
    refine wpAnyH_take (i := 4) (oi := { dst := some 38, op := Op.load 24 (Operand.tmp 4), type := 24, pos := "family.go:48", after := #[], guard := none }) (v := ?_) rfl (by kernel_rfl) (by kernel_rfl) (by kernel_rfl) (fun _ _ _ h => h) (Or.inl ⟨by rfl, ?_⟩) hHeld ?_
    rotate_left
    · (intro w hSw; (try dsimp only at hSw); go_simp; (try with_reducible rfl))
    (try simp only [Act.put, List.setIfInBounds_toArray, List.set_cons_zero, List.set_cons_succ])
    (try rw [HET.out])
    (try rw [HWU.out])
    (try rw [HKD.out])
    (try rw [HKE.out])
    refine wpAnyH_ready (rs := [2]) (by kernel_rfl) (by simp) ?_
    refine AllReadyH.cons (o := { dst := some 36, op := Op.call { callee := Callee.value (Operand.func 24), args := #[Operand.tmp 34, Operand.tmp 35], argTypes := #[24, 24] }, type := 24, pos := "family.go:48", after := #[{ on := 0, ground := Ground.data }, { on := 1, ground := Ground.data }], guard := none }) rfl (fun K hK => ?_) AllReadyH.nil
    clear hHeld
    go_simp
    go_at_call 24
    refine (wadd_g _ X Y sa A5 nx c5 ys ?_ HXP.out sb Ab nb cb xb ?_ HY.out ?_ ?_ ?_ HSS.out).mono ?_
    (focus repeat' (first | with_reducible exact l_x7 | with_reducible refine Lm.drew ?_ | with_reducible refine Lm.al ?_ _ | with_reducible refine Lm.put ?_ ?_ _ _ | with_reducible assumption))
    (focus repeat' (first | with_reducible exact l_b7 | with_reducible refine Lm.drew ?_ | with_reducible refine Lm.al ?_ _ | with_reducible refine Lm.put ?_ ?_ _ _ | with_reducible assumption))
    (refine t_S7.out.bel ?_; (focus repeat' (first | with_reducible assumption | with_reducible refine bel_drw ?_ | with_reducible refine bel_al ?_ | with_reducible refine bel_put ?_ ?_ _ _ | omega)))
    (have hnn := HNN.out; omega)
    omega
    rintro e x1 ⟨A11, m11, c11, rfl, h11, hm11, e1⟩
    have hc := bel_undrew e1
    have q1 : Below w8.heap.size w8 x1 := hc
    have y1 : Below w8.heap.size w8 x1 := bel_next y0 q1
    have La_1 := l_a7.bel q1
    have Lb_1 := l_b7.bel q1
    have Lx_1 := l_x7.bel q1
    have Lz_1 := l_z7.bel q1
    go_wp2_with fail
    refine hK.out _ _ ?_ (fun hHeld => ?_)
    · ((try dsimp only); (with_reducible refine keep40 ?_ hS0; (focus repeat' (first | with_reducible assumption | with_reducible refine bel_drw ?_ | with_reducible refine bel_al ?_ | with_reducible refine bel_put ?_ ?_ _ _ | omega))))
    clear hK K
    (try simp only [Act.put, List.setIfInBounds_toArray, List.set_cons_zero, List.set_cons_succ])
    (try rw [HET.out])
    (try rw [HWU.out])
    (try rw [HKD.out])
    (try rw [HKE.out])
    refine wpAnyH_ready (rs := [5]) (by kernel_rfl) (by simp) ?_
    refine AllReadyH.cons (o := { dst := some 39, op := Op.call { callee := Callee.value (Operand.func 24), args := #[Operand.tmp 37, Operand.tmp 38], argTypes := #[24, 24] }, type := 24, pos := "family.go:48", after := #[{ on := 3, ground := Ground.data }, { on := 4, ground := Ground.data }, { on := 2, ground := Ground.chain }], guard := none }) rfl (fun K hK => ?_) AllReadyH.nil
    clear hHeld
    go_simp
    go_at_call 24
    refine (wadd_g _ X Y sa Aa na ca xa ?_ HX.out sb Ab nb cb xb ?_ HY.out ?_ ?_ ?_ HSS.out).mono ?_
    (focus repeat' (first | with_reducible exact La_1 | with_reducible refine Lm.drew ?_ | with_reducible refine Lm.al ?_ _ | with_reducible refine Lm.put ?_ ?_ _ _ | with_reducible assumption))
    (focus repeat' (first | with_reducible exact Lb_1 | with_reducible refine Lm.drew ?_ | with_reducible refine Lm.al ?_ _ | with_reducible refine Lm.put ?_ ?_ _ _ | with_reducible assumption))
    (refine t_S7.out.bel ?_; (focus repeat' (first | with_reducible assumption | with_reducible refine bel_drw ?_ | with_reducible refine bel_al ?_ | with_reducible refine bel_put ?_ ?_ _ _ | omega)))
    omega
    omega
    rintro e x2 ⟨A12, m12, c12, rfl, h12, hm12, e2⟩
    have hc := e2
    have q2 : Below x1.heap.size x1 x2 := hc
    have y2 : Below w8.heap.size w8 x2 := bel_next y1 q2
    have La_2 := La_1.bel q2
    have Lb_2 := Lb_1.bel q2
    have Lx_2 := Lx_1.bel q2
    have Lz_2 := Lz_1.bel q2
    have Lu_2 := h11.bel q2
    go_wp2_with fail
    refine hK.out _ _ ?_ (fun hHeld => ?_)
    · ((try dsimp only); (with_reducible refine keep40 ?_ hS0; (focus repeat' (first | with_reducible assumption | with_reducible refine bel_drw ?_ | with_reducible refine bel_al ?_ | with_reducible refine bel_put ?_ ?_ _ _ | omega))))
    clear hK K
    (try simp only [Act.put, List.setIfInBounds_toArray, List.set_cons_zero, List.set_cons_succ])
    (try rw [HET.out])
    (try rw [HWU.out])
    (try rw [HKD.out])
    (try rw [HKE.out])
    refine wpAnyH_ready (rs := [6]) (by kernel_rfl) (by simp) ?_
    refine AllReadyH.cons (o := { dst := some 40, op := Op.call { callee := Callee.value (Operand.func 17), args := #[Operand.tmp 36, Operand.tmp 39], argTypes := #[24, 24] }, type := 4, pos := "family.go:48", after := #[{ on := 2, ground := Ground.data }, { on := 5, ground := Ground.data }, { on := 5, ground := Ground.chain }], guard := none }) rfl (fun K hK => ?_) AllReadyH.nil
    clear hHeld
    go_simp
    go_at_call 17
    refine (rsameZ _ SS SS A11 m11 c11 ?_ A12 m12 c12 ?_ (decide_eq_true rfl)).mono ?_
    (focus repeat' (first | with_reducible exact Lu_2 | with_reducible refine Lm.drew ?_ | with_reducible refine Lm.al ?_ _ | with_reducible refine Lm.put ?_ ?_ _ _ | with_reducible assumption))
    (focus repeat' (first | with_reducible exact h12 | with_reducible refine Lm.drew ?_ | with_reducible refine Lm.al ?_ _ | with_reducible refine Lm.put ?_ ?_ _ _ | with_reducible assumption))
    rintro e x3 ⟨rfl, e3⟩
    have hc := e3
    have q3 : Below x2.heap.size x2 x3 := hc
    have y3 : Below w8.heap.size w8 x3 := bel_next y2 q3
    have La_3 := La_2.bel q3
    have Lb_3 := Lb_2.bel q3
    have Lx_3 := Lx_2.bel q3
    have Lz_3 := Lz_2.bel q3
    go_wp2_with fail
    refine hK.out _ _ ?_ (fun hHeld => ?_)
    · ((try dsimp only); (with_reducible refine keep40 ?_ hS0; (focus repeat' (first | with_reducible assumption | with_reducible refine bel_drw ?_ | with_reducible refine bel_al ?_ | with_reducible refine bel_put ?_ ?_ _ _ | omega))))
    clear hK K
    (try simp only [Act.put, List.setIfInBounds_toArray, List.set_cons_zero, List.set_cons_succ])
    (try rw [HET.out])
    (try rw [HWU.out])
    (try rw [HKD.out])
    (try rw [HKE.out])
    refine wpAnyH_take (i := 7) (oi := { dst := some 41, op := Op.move (Operand.tmp 40), type := 4, pos := "family.go:48", after := #[{ on := 6, ground := Ground.data }, { on := 6, ground := Ground.chain }], guard := none }) (v := ?_) rfl (by kernel_rfl) (by kernel_rfl) (by kernel_rfl) (fun _ _ _ h => h) (Or.inl ⟨by rfl, ?_⟩) hHeld ?_
    rotate_left
    · (intro w hSw; (try dsimp only at hSw); go_simp; (try with_reducible rfl))
    (try simp only [Act.put, List.setIfInBounds_toArray, List.set_cons_zero, List.set_cons_succ])
    (try rw [HET.out])
    (try rw [HWU.out])
    (try rw [HKD.out])
    (try rw [HKE.out])
    refine wpAnyH_take (i := 8) (oi := { dst := some 42, op := Op.load 24 (Operand.tmp 7), type := 24, pos := "family.go:48", after := #[{ on := 7, ground := Ground.guard }], guard := some (7, true) }) (v := ?_) rfl (by kernel_rfl) (by kernel_rfl) (by kernel_rfl) (fun _ _ _ h => h) (Or.inl ⟨by rfl, ?_⟩) hHeld ?_
    rotate_left
    · (intro w hSw; (try dsimp only at hSw); go_simp; (try with_reducible rfl))
    (try simp only [Act.put, List.setIfInBounds_toArray, List.set_cons_zero, List.set_cons_succ])
    (try rw [HET.out])
    (try rw [HWU.out])
    (try rw [HKD.out])
    (try rw [HKE.out])
    refine wpAnyH_take (i := 9) (oi := { dst := some 43, op := Op.load 24 (Operand.tmp 4), type := 24, pos := "family.go:48", after := #[{ on := 7, ground := Ground.guard }], guard := some (7, true) }) (v := ?_) rfl (by kernel_rfl) (by kernel_rfl) (by kernel_rfl) (fun _ _ _ h => h) (Or.inl ⟨by rfl, ?_⟩) hHeld ?_
    rotate_left
    · (intro w hSw; (try dsimp only at hSw); go_simp; (try with_reducible rfl))
    (try simp only [Act.put, List.setIfInBounds_toArray, List.set_cons_zero, List.set_cons_succ])
    (try rw [HET.out])
    (try rw [HWU.out])
    (try rw [HKD.out])
    (try rw [HKE.out])
    refine wpAnyH_take (i := 11) (oi := { dst := some 45, op := Op.load 24 (Operand.tmp 3), type := 24, pos := "family.go:48", after := #[{ on := 7, ground := Ground.guard }], guard := some (7, true) }) (v := ?_) rfl (by kernel_rfl) (by kernel_rfl) (by kernel_rfl) (fun _ _ _ h => h) (Or.inl ⟨by rfl, ?_⟩) hHeld ?_
    rotate_left
    · (intro w hSw; (try dsimp only at hSw); go_simp; (try with_reducible rfl))
    (try simp only [Act.put, List.setIfInBounds_toArray, List.set_cons_zero, List.set_cons_succ])
    (try rw [HET.out])
    (try rw [HWU.out])
    (try rw [HKD.out])
    (try rw [HKE.out])
    refine wpAnyH_take (i := 12) (oi := { dst := some 46, op := Op.load 24 (Operand.tmp 4), type := 24, pos := "family.go:48", after := #[{ on := 7, ground := Ground.guard }], guard := some (7, true) }) (v := ?_) rfl (by kernel_rfl) (by kernel_rfl) (by kernel_rfl) (fun _ _ _ h => h) (Or.inl ⟨by rfl, ?_⟩) hHeld ?_
    rotate_left
    · (intro w hSw; (try dsimp only at hSw); go_simp; (try with_reducible rfl))
    (try simp only [Act.put, List.setIfInBounds_toArray, List.set_cons_zero, List.set_cons_succ])
    (try rw [HET.out])
    (try rw [HWU.out])
    (try rw [HKD.out])
    (try rw [HKE.out])
    refine wpAnyH_ready (rs := [10]) (by kernel_rfl) (by simp) ?_
    refine AllReadyH.cons (o := { dst := some 44, op := Op.call { callee := Callee.value (Operand.func 28), args := #[Operand.tmp 42, Operand.tmp 43], argTypes := #[24, 24] }, type := 24, pos := "family.go:48", after := #[{ on := 8, ground := Ground.data }, { on := 9, ground := Ground.data }, { on := 7, ground := Ground.chain }, { on := 7, ground := Ground.guard }], guard := some (7, true) }) rfl (fun K hK => ?_) AllReadyH.nil
    clear hHeld
    go_simp
    go_at_call 28
    refine (wmul_g _ X Y sa A5 nx c5 ys ?_ HXP.out sb Ab nb cb xb ?_ HY.out ?_ ?_ ?_ HMM.out).mono ?_
    (focus repeat' (first | with_reducible exact Lx_3 | with_reducible refine Lm.drew ?_ | with_reducible refine Lm.al ?_ _ | with_reducible refine Lm.put ?_ ?_ _ _ | with_reducible assumption))
    (focus repeat' (first | with_reducible exact Lb_3 | with_reducible refine Lm.drew ?_ | with_reducible refine Lm.al ?_ _ | with_reducible refine Lm.put ?_ ?_ _ _ | with_reducible assumption))
    (refine t_P7.out.bel ?_; (focus repeat' (first | with_reducible assumption | with_reducible refine bel_drw ?_ | with_reducible refine bel_al ?_ | with_reducible refine bel_put ?_ ?_ _ _ | omega)))
    (have hnn := HNN.out; omega)
    omega
    rintro e x4 ⟨A13, m13, c13, rfl, h13, hm13, e4⟩
    have hc := e4
    have q4 : Below x3.heap.size x3 x4 := hc
    have y4 : Below w8.heap.size w8 x4 := bel_next y3 q4
    have La_4 := La_3.bel q4
    have Lb_4 := Lb_3.bel q4
    have Lx_4 := Lx_3.bel q4
    have Lz_4 := Lz_3.bel q4
    go_wp2_with fail
    refine hK.out _ _ ?_ (fun hHeld => ?_)
    · ((try dsimp only); (with_reducible refine keep40 ?_ hS0; (focus repeat' (first | with_reducible assumption | with_reducible refine bel_drw ?_ | with_reducible refine bel_al ?_ | with_reducible refine bel_put ?_ ?_ _ _ | omega))))
    clear hK K
    (try simp only [Act.put, List.setIfInBounds_toArray, List.set_cons_zero, List.set_cons_succ])
    (try rw [HET.out])
    (try rw [HWU.out])
    (try rw [HKD.out])
    (try rw [HKE.out])
    refine wpAnyH_ready (rs := [13]) (by kernel_rfl) (by simp) ?_
    refine AllReadyH.cons (o := { dst := some 47, op := Op.call { callee := Callee.value (Operand.func 28), args := #[Operand.tmp 45, Operand.tmp 46], argTypes := #[24, 24] }, type := 24, pos := "family.go:48", after := #[{ on := 11, ground := Ground.data }, { on := 12, ground := Ground.data }, { on := 10, ground := Ground.chain }, { on := 7, ground := Ground.guard }], guard := some (7, true) }) rfl (fun K hK => ?_) AllReadyH.nil
    clear hHeld
    go_simp
    go_at_call 28
    refine (wmul_g _ X Y sa Aa na ca xa ?_ HX.out sb Ab nb cb xb ?_ HY.out ?_ ?_ ?_ HMM.out).mono ?_
    (focus repeat' (first | with_reducible exact La_4 | with_reducible refine Lm.drew ?_ | with_reducible refine Lm.al ?_ _ | with_reducible refine Lm.put ?_ ?_ _ _ | with_reducible assumption))
    (focus repeat' (first | with_reducible exact Lb_4 | with_reducible refine Lm.drew ?_ | with_reducible refine Lm.al ?_ _ | with_reducible refine Lm.put ?_ ?_ _ _ | with_reducible assumption))
    (refine t_P7.out.bel ?_; (focus repeat' (first | with_reducible assumption | with_reducible refine bel_drw ?_ | with_reducible refine bel_al ?_ | with_reducible refine bel_put ?_ ?_ _ _ | omega)))
    omega
    omega
    rintro e x5 ⟨A14, m14, c14, rfl, h14, hm14, e5⟩
    have hc := e5
    have q5 : Below x4.heap.size x4 x5 := hc
    have y5 : Below w8.heap.size w8 x5 := bel_next y4 q5
    have La_5 := La_4.bel q5
    have Lb_5 := Lb_4.bel q5
    have Lx_5 := Lx_4.bel q5
    have Lz_5 := Lz_4.bel q5
    have Lu_5 := h13.bel q5
    go_wp2_with fail
    refine hK.out _ _ ?_ (fun hHeld => ?_)
    · ((try dsimp only); (with_reducible refine keep40 ?_ hS0; (focus repeat' (first | with_reducible assumption | with_reducible refine bel_drw ?_ | with_reducible refine bel_al ?_ | with_reducible refine bel_put ?_ ?_ _ _ | omega))))
    clear hK K
    (try simp only [Act.put, List.setIfInBounds_toArray, List.set_cons_zero, List.set_cons_succ])
    (try rw [HET.out])
    (try rw [HWU.out])
    (try rw [HKD.out])
    (try rw [HKE.out])
    refine wpAnyH_ready (rs := [14]) (by kernel_rfl) (by simp) ?_
    refine AllReadyH.cons (o := { dst := some 48, op := Op.call { callee := Callee.value (Operand.func 17), args := #[Operand.tmp 44, Operand.tmp 47], argTypes := #[24, 24] }, type := 4, pos := "family.go:48", after := #[{ on := 10, ground := Ground.data }, { on := 13, ground := Ground.data }, { on := 13, ground := Ground.chain }, { on := 7, ground := Ground.guard }], guard := some (7, true) }) rfl (fun K hK => ?_) AllReadyH.nil
    clear hHeld
    go_simp
    go_at_call 17
    refine (rsameZ _ MM MM A13 m13 c13 ?_ A14 m14 c14 ?_ (decide_eq_true rfl)).mono ?_
    (focus repeat' (first | with_reducible exact Lu_5 | with_reducible refine Lm.drew ?_ | with_reducible refine Lm.al ?_ _ | with_reducible refine Lm.put ?_ ?_ _ _ | with_reducible assumption))
    (focus repeat' (first | with_reducible exact h14 | with_reducible refine Lm.drew ?_ | with_reducible refine Lm.al ?_ _ | with_reducible refine Lm.put ?_ ?_ _ _ | with_reducible assumption))
    rintro e x6 ⟨rfl, e6⟩
    have hc := e6
    have q6 : Below x5.heap.size x5 x6 := hc
    have y6 : Below w8.heap.size w8 x6 := bel_next y5 q6
    have La_6 := La_5.bel q6
    have Lb_6 := Lb_5.bel q6
    have Lx_6 := Lx_5.bel q6
    have Lz_6 := Lz_5.bel q6
    go_wp2_with fail
    refine hK.out _ _ ?_ (fun hHeld => ?_)
    · ((try dsimp only); (with_reducible refine keep40 ?_ hS0; (focus repeat' (first | with_reducible assumption | with_reducible refine bel_drw ?_ | with_reducible refine bel_al ?_ | with_reducible refine bel_put ?_ ?_ _ _ | omega))))
    clear hK K
    (try simp only [Act.put, List.setIfInBounds_toArray, List.set_cons_zero, List.set_cons_succ])
    (try rw [HET.out])
    (try rw [HWU.out])
    (try rw [HKD.out])
    (try rw [HKE.out])
    refine wpAnyH_take (i := 15) (oi := { dst := some 49, op := Op.pick (Operand.tmp 41) (Operand.tmp 48) (Operand.const (Value.bool false)), type := 4, pos := "family.go:48", after := #[{ on := 7, ground := Ground.data }, { on := 14, ground := Ground.data }], guard := none }) (v := ?_) rfl (by kernel_rfl) (by kernel_rfl) (by kernel_rfl) (fun _ _ _ h => h) (Or.inl ⟨by rfl, ?_⟩) hHeld ?_
    rotate_left
    · (intro w hSw; (try dsimp only at hSw); go_simp; (try with_reducible rfl))
    (try simp only [Act.put, List.setIfInBounds_toArray, List.set_cons_zero, List.set_cons_succ])
    (try rw [HET.out])
    (try rw [HWU.out])
    (try rw [HKD.out])
    (try rw [HKE.out])
    refine wpAnyH_take (i := 16) (oi := { dst := some 50, op := Op.move (Operand.tmp 49), type := 4, pos := "family.go:48", after := #[{ on := 15, ground := Ground.data }, { on := 14, ground := Ground.chain }], guard := none }) (v := ?_) rfl (by kernel_rfl) (by kernel_rfl) (by kernel_rfl) (fun _ _ _ h => h) (Or.inl ⟨by rfl, ?_⟩) hHeld ?_
    rotate_left
    · (intro w hSw; (try dsimp only at hSw); go_simp; (try with_reducible rfl))
    (try simp only [Act.put, List.setIfInBounds_toArray, List.set_cons_zero, List.set_cons_succ])
    (try rw [HET.out])
    (try rw [HWU.out])
    (try rw [HKD.out])
    (try rw [HKE.out])
    refine wpAnyH_take (i := 17) (oi := { dst := some 51, op := Op.load 24 (Operand.tmp 7), type := 24, pos := "family.go:48", after := #[{ on := 16, ground := Ground.guard }], guard := some (16, true) }) (v := ?_) rfl (by kernel_rfl) (by kernel_rfl) (by kernel_rfl) (fun _ _ _ h => h) (Or.inl ⟨by rfl, ?_⟩) hHeld ?_
    rotate_left
    · (intro w hSw; (try dsimp only at hSw); go_simp; (try with_reducible rfl))
    (try simp only [Act.put, List.setIfInBounds_toArray, List.set_cons_zero, List.set_cons_succ])
    (try rw [HET.out])
    (try rw [HWU.out])
    (try rw [HKD.out])
    (try rw [HKE.out])
    refine wpAnyH_take (i := 18) (oi := { dst := some 52, op := Op.load 24 (Operand.tmp 3), type := 24, pos := "family.go:48", after := #[{ on := 16, ground := Ground.guard }], guard := some (16, true) }) (v := ?_) rfl (by kernel_rfl) (by kernel_rfl) (by kernel_rfl) (fun _ _ _ h => h) (Or.inl ⟨by rfl, ?_⟩) hHeld ?_
    rotate_left
    · (intro w hSw; (try dsimp only at hSw); go_simp; (try with_reducible rfl))
    (try simp only [Act.put, List.setIfInBounds_toArray, List.set_cons_zero, List.set_cons_succ])
    (try rw [HET.out])
    (try rw [HWU.out])
    (try rw [HKD.out])
    (try rw [HKE.out])
    refine wpAnyH_ready (rs := [19]) (by kernel_rfl) (by simp) ?_
    refine AllReadyH.cons (o := { dst := some 53, op := Op.call { callee := Callee.value (Operand.func 22), args := #[Operand.tmp 51, Operand.tmp 52], argTypes := #[24, 24] }, type := 3, pos := "family.go:48", after := #[{ on := 17, ground := Ground.data }, { on := 18, ground := Ground.data }, { on := 16, ground := Ground.chain }, { on := 16, ground := Ground.guard }], guard := some (16, true) }) rfl (fun K hK => ?_) AllReadyH.nil
    clear hHeld
    go_simp
    go_at_call 22
    refine (wcmp_g _ X X sa A5 nx c5 ys ?_ HXP.out sa Aa na ca xa ?_ HX.out HC0.out).mono ?_
    (focus repeat' (first | with_reducible exact Lx_6 | with_reducible refine Lm.drew ?_ | with_reducible refine Lm.al ?_ _ | with_reducible refine Lm.put ?_ ?_ _ _ | with_reducible assumption))
    (focus repeat' (first | with_reducible exact La_6 | with_reducible refine Lm.drew ?_ | with_reducible refine Lm.al ?_ _ | with_reducible refine Lm.put ?_ ?_ _ _ | with_reducible assumption))
    rintro e x7 ⟨rfl, e7⟩
    have hc := e7
    have q7 : Below x6.heap.size x6 x7 := hc
    have y7 : Below w8.heap.size w8 x7 := bel_next y6 q7
    have La_7 := La_6.bel q7
    have Lb_7 := Lb_6.bel q7
    have Lx_7 := Lx_6.bel q7
    have Lz_7 := Lz_6.bel q7
    go_wp2_with fail
    refine hK.out _ _ ?_ (fun hHeld => ?_)
    · ((try dsimp only); (with_reducible refine keep40 ?_ hS0; (focus repeat' (first | with_reducible assumption | with_reducible refine bel_drw ?_ | with_reducible refine bel_al ?_ | with_reducible refine bel_put ?_ ?_ _ _ | omega))))
    clear hK K
    (try simp only [Act.put, List.setIfInBounds_toArray, List.set_cons_zero, List.set_cons_succ])
    (try rw [HET.out])
    (try rw [HWU.out])
    (try rw [HKD.out])
    (try rw [HKE.out])
    refine wpAnyH_take (i := 20) (oi := { dst := some 54, op := Op.binOp BinOp.eql 3 (Operand.tmp 53) (Operand.const (Value.int IntKind.i64 0)) 3, type := 4, pos := "family.go:48", after := #[{ on := 19, ground := Ground.data }, { on := 16, ground := Ground.guard }], guard := some (16, true) }) (v := ?_) rfl (by kernel_rfl) (by kernel_rfl) (by kernel_rfl) (fun _ _ _ h => h) (Or.inl ⟨by rfl, ?_⟩) hHeld ?_
    rotate_left
    · (intro w hSw; (try dsimp only at hSw); go_simp; (try with_reducible rfl))
    (try simp only [Act.put, List.setIfInBounds_toArray, List.set_cons_zero, List.set_cons_succ])
    (try rw [HET.out])
    (try rw [HWU.out])
    (try rw [HKD.out])
    (try rw [HKE.out])
    refine wpAnyH_take (i := 21) (oi := { dst := some 55, op := Op.pick (Operand.tmp 50) (Operand.tmp 54) (Operand.const (Value.bool false)), type := 4, pos := "family.go:48", after := #[{ on := 16, ground := Ground.data }, { on := 20, ground := Ground.data }], guard := none }) (v := ?_) rfl (by kernel_rfl) (by kernel_rfl) (by kernel_rfl) (fun _ _ _ h => h) (Or.inl ⟨by rfl, ?_⟩) hHeld ?_
    rotate_left
    · (intro w hSw; (try dsimp only at hSw); go_simp; (try with_reducible rfl))
    (try simp only [Act.put, List.setIfInBounds_toArray, List.set_cons_zero, List.set_cons_succ])
    (try rw [HET.out])
    (try rw [HWU.out])
    (try rw [HKD.out])
    (try rw [HKE.out])
    refine wpAnyH_take (i := 22) (oi := { dst := some 56, op := Op.move (Operand.tmp 55), type := 4, pos := "family.go:48", after := #[{ on := 21, ground := Ground.data }, { on := 19, ground := Ground.chain }], guard := none }) (v := ?_) rfl (by kernel_rfl) (by kernel_rfl) (by kernel_rfl) (fun _ _ _ h => h) (Or.inl ⟨by rfl, ?_⟩) hHeld ?_
    rotate_left
    · (intro w hSw; (try dsimp only at hSw); go_simp; (try with_reducible rfl))
    (try simp only [Act.put, List.setIfInBounds_toArray, List.set_cons_zero, List.set_cons_succ])
    (try rw [HET.out])
    (try rw [HWU.out])
    (try rw [HKD.out])
    (try rw [HKE.out])
    refine wpAnyH_take (i := 23) (oi := { dst := some 57, op := Op.load 24 (Operand.tmp 8), type := 24, pos := "family.go:48", after := #[{ on := 22, ground := Ground.guard }], guard := some (22, true) }) (v := ?_) rfl (by kernel_rfl) (by kernel_rfl) (by kernel_rfl) (fun _ _ _ h => h) (Or.inl ⟨by rfl, ?_⟩) hHeld ?_
    rotate_left
    · (intro w hSw; (try dsimp only at hSw); go_simp; (try with_reducible rfl))
    (try simp only [Act.put, List.setIfInBounds_toArray, List.set_cons_zero, List.set_cons_succ])
    (try rw [HET.out])
    (try rw [HWU.out])
    (try rw [HKD.out])
    (try rw [HKE.out])
    refine wpAnyH_ready (rs := [24]) (by kernel_rfl) (by simp) ?_
    refine AllReadyH.cons (o := { dst := some 58, op := Op.call { callee := Callee.value (Operand.func 20), args := #[Operand.tmp 57], argTypes := #[24] }, type := 3, pos := "family.go:48", after := #[{ on := 23, ground := Ground.data }, { on := 22, ground := Ground.chain }, { on := 22, ground := Ground.guard }], guard := some (22, true) }) rfl (fun K hK => ?_) AllReadyH.nil
    clear hHeld
    go_simp
    go_at_call 20
    refine (wsign_g _ O true Az k k _ ?_ HO1.out HO2.out).mono ?_
    (focus repeat' (first | with_reducible exact Lz_7 | with_reducible refine Lm.drew ?_ | with_reducible refine Lm.al ?_ _ | with_reducible refine Lm.put ?_ ?_ _ _ | with_reducible assumption))
    rintro e x8 ⟨rfl, e8⟩
    have hc := e8
    have q8 : Below x7.heap.size x7 x8 := hc
    have y8 : Below w8.heap.size w8 x8 := bel_next y7 q8
    have La_8 := La_7.bel q8
    have Lb_8 := Lb_7.bel q8
    have Lx_8 := Lx_7.bel q8
    have Lz_8 := Lz_7.bel q8
    go_wp2_with fail
    refine hK.out _ _ ?_ (fun hHeld => ?_)
    · ((try dsimp only); (with_reducible refine keep40 ?_ hS0; (focus repeat' (first | with_reducible assumption | with_reducible refine bel_drw ?_ | with_reducible refine bel_al ?_ | with_reducible refine bel_put ?_ ?_ _ _ | omega))))
    clear hK K
    (try simp only [Act.put, List.setIfInBounds_toArray, List.set_cons_zero, List.set_cons_succ])
    (try rw [HET.out])
    (try rw [HWU.out])
    (try rw [HKD.out])
    (try rw [HKE.out])
    refine wpAnyH_take (i := 25) (oi := { dst := some 59, op := Op.binOp BinOp.eql 3 (Operand.tmp 58) (Operand.const (Value.int IntKind.i64 0)) 3, type := 4, pos := "family.go:48", after := #[{ on := 24, ground := Ground.data }, { on := 22, ground := Ground.guard }], guard := some (22, true) }) (v := ?_) rfl (by kernel_rfl) (by kernel_rfl) (by kernel_rfl) (fun _ _ _ h => h) (Or.inl ⟨by rfl, ?_⟩) hHeld ?_
    rotate_left
    · (intro w hSw; (try dsimp only at hSw); go_simp; (try with_reducible rfl))
    (try simp only [Act.put, List.setIfInBounds_toArray, List.set_cons_zero, List.set_cons_succ])
    (try rw [HET.out])
    (try rw [HWU.out])
    (try rw [HKD.out])
    (try rw [HKE.out])
    refine wpAnyH_take (i := 26) (oi := { dst := some 60, op := Op.pick (Operand.tmp 56) (Operand.tmp 59) (Operand.const (Value.bool false)), type := 4, pos := "family.go:48", after := #[{ on := 22, ground := Ground.data }, { on := 25, ground := Ground.data }], guard := none }) (v := ?_) rfl (by kernel_rfl) (by kernel_rfl) (by kernel_rfl) (fun _ _ _ h => h) (Or.inl ⟨by rfl, ?_⟩) hHeld ?_
    rotate_left
    · (intro w hSw; (try dsimp only at hSw); go_simp; (try with_reducible rfl))
    (try simp only [Act.put, List.setIfInBounds_toArray, List.set_cons_zero, List.set_cons_succ])
    (try rw [HET.out])
    (try rw [HWU.out])
    (try rw [HKD.out])
    (try rw [HKE.out])
    refine wpAnyH_take (i := 27) (oi := { dst := some 61, op := Op.move (Operand.tmp 60), type := 4, pos := "family.go:48", after := #[{ on := 26, ground := Ground.data }, { on := 24, ground := Ground.chain }], guard := none }) (v := ?_) rfl (by kernel_rfl) (by kernel_rfl) (by kernel_rfl) (fun _ _ _ h => h) (Or.inl ⟨by rfl, ?_⟩) hHeld ?_
    rotate_left
    · (intro w hSw; (try dsimp only at hSw); go_simp; (try with_reducible rfl))
    (try simp only [Act.put, List.setIfInBounds_toArray, List.set_cons_zero, List.set_cons_succ])
    (try rw [HET.out])
    (try rw [HWU.out])
    (try rw [HKD.out])
    (try rw [HKE.out])
    refine wpAnyH_take (i := 28) (oi := { dst := some 62, op := Op.load 24 (Operand.tmp 8), type := 24, pos := "family.go:48", after := #[{ on := 27, ground := Ground.guard }], guard := some (27, true) }) (v := ?_) rfl (by kernel_rfl) (by kernel_rfl) (by kernel_rfl) (fun _ _ _ h => h) (Or.inl ⟨by rfl, ?_⟩) hHeld ?_
    rotate_left
    · (intro w hSw; (try dsimp only at hSw); go_simp; (try with_reducible rfl))
    (try simp only [Act.put, List.setIfInBounds_toArray, List.set_cons_zero, List.set_cons_succ])
    (try rw [HET.out])
    (try rw [HWU.out])
    (try rw [HKD.out])
    (try rw [HKE.out])
    refine wpAnyH_take (i := 29) (oi := { dst := some 63, op := Op.load 24 (Operand.tmp 3), type := 24, pos := "family.go:48", after := #[{ on := 27, ground := Ground.guard }], guard := some (27, true) }) (v := ?_) rfl (by kernel_rfl) (by kernel_rfl) (by kernel_rfl) (fun _ _ _ h => h) (Or.inl ⟨by rfl, ?_⟩) hHeld ?_
    rotate_left
    · (intro w hSw; (try dsimp only at hSw); go_simp; (try with_reducible rfl))
    (try simp only [Act.put, List.setIfInBounds_toArray, List.set_cons_zero, List.set_cons_succ])
    (try rw [HET.out])
    (try rw [HWU.out])
    (try rw [HKD.out])
    (try rw [HKE.out])
    refine wpAnyH_take (i := 31) (oi := { dst := some 65, op := Op.load 24 (Operand.tmp 3), type := 24, pos := "family.go:48", after := #[{ on := 27, ground := Ground.guard }], guard := some (27, true) }) (v := ?_) rfl (by kernel_rfl) (by kernel_rfl) (by kernel_rfl) (fun _ _ _ h => h) (Or.inl ⟨by rfl, ?_⟩) hHeld ?_
    rotate_left
    · (intro w hSw; (try dsimp only at hSw); go_simp; (try with_reducible rfl))
    (try simp only [Act.put, List.setIfInBounds_toArray, List.set_cons_zero, List.set_cons_succ])
    (try rw [HET.out])
    (try rw [HWU.out])
    (try rw [HKD.out])
    (try rw [HKE.out])
    refine wpAnyH_ready (rs := [30]) (by kernel_rfl) (by simp) ?_
    refine AllReadyH.cons (o := { dst := some 64, op := Op.call { callee := Callee.value (Operand.func 24), args := #[Operand.tmp 62, Operand.tmp 63], argTypes := #[24, 24] }, type := 24, pos := "family.go:48", after := #[{ on := 28, ground := Ground.data }, { on := 29, ground := Ground.data }, { on := 27, ground := Ground.chain }, { on := 27, ground := Ground.guard }], guard := some (27, true) }) rfl (fun K hK => ?_) AllReadyH.nil
    clear hHeld
    go_simp
    go_at_call 24
    refine (wadd_g _ O X true Az k k _ ?_ HO1.out sa Aa na ca xa ?_ HX.out ?_ ?_ ?_ HO3.out).mono ?_
    (focus repeat' (first | with_reducible exact Lz_8 | with_reducible refine Lm.drew ?_ | with_reducible refine Lm.al ?_ _ | with_reducible refine Lm.put ?_ ?_ _ _ | with_reducible assumption))
    (focus repeat' (first | with_reducible exact La_8 | with_reducible refine Lm.drew ?_ | with_reducible refine Lm.al ?_ _ | with_reducible refine Lm.put ?_ ?_ _ _ | with_reducible assumption))
    (refine t_S7.out.bel ?_; (focus repeat' (first | with_reducible assumption | with_reducible refine bel_drw ?_ | with_reducible refine bel_al ?_ | with_reducible refine bel_put ?_ ?_ _ _ | omega)))
    omega
    omega
    rintro e x9 ⟨A15, m15, c15, rfl, h15, hm15, e9⟩
    have hc := e9
    have q9 : Below x8.heap.size x8 x9 := hc
    have y9 : Below w8.heap.size w8 x9 := bel_next y8 q9
    have La_9 := La_8.bel q9
    have Lb_9 := Lb_8.bel q9
    have Lx_9 := Lx_8.bel q9
    have Lz_9 := Lz_8.bel q9
    go_wp2_with fail
    refine hK.out _ _ ?_ (fun hHeld => ?_)
    · ((try dsimp only); (with_reducible refine keep40 ?_ hS0; (focus repeat' (first | with_reducible assumption | with_reducible refine bel_drw ?_ | with_reducible refine bel_al ?_ | with_reducible refine bel_put ?_ ?_ _ _ | omega))))
    clear hK K
    (try simp only [Act.put, List.setIfInBounds_toArray, List.set_cons_zero, List.set_cons_succ])
    (try rw [HET.out])
    (try rw [HWU.out])
    (try rw [HKD.out])
    (try rw [HKE.out])
    refine wpAnyH_ready (rs := [32]) (by kernel_rfl) (by simp) ?_
    refine AllReadyH.cons (o := { dst := some 66, op := Op.call { callee := Callee.value (Operand.func 18), args := #[Operand.tmp 65], argTypes := #[24] }, type := 24, pos := "family.go:48", after := #[{ on := 31, ground := Ground.data }, { on := 30, ground := Ground.chain }, { on := 27, ground := Ground.guard }], guard := some (27, true) }) rfl (fun K hK => ?_) AllReadyH.nil
    clear hHeld
    go_simp
    go_at_call 18
    refine (wnorm_g _ X sa Aa na ca xa ?_ HX.out).mono ?_
    (focus repeat' (first | with_reducible exact La_9 | with_reducible refine Lm.drew ?_ | with_reducible refine Lm.al ?_ _ | with_reducible refine Lm.put ?_ ?_ _ _ | with_reducible assumption))
    rintro e x10 ⟨A16, m16, c16, rfl, h16, hm16, e10⟩
    have hc := e10
    have q10 : Below x9.heap.size x9 x10 := hc
    have y10 : Below w8.heap.size w8 x10 := bel_next y9 q10
    have La_10 := La_9.bel q10
    have Lb_10 := Lb_9.bel q10
    have Lx_10 := Lx_9.bel q10
    have Lz_10 := Lz_9.bel q10
    have Lu_10 := h15.bel q10
    go_wp2_with fail
    refine hK.out _ _ ?_ (fun hHeld => ?_)
    · ((try dsimp only); (with_reducible refine keep40 ?_ hS0; (focus repeat' (first | with_reducible assumption | with_reducible refine bel_drw ?_ | with_reducible refine bel_al ?_ | with_reducible refine bel_put ?_ ?_ _ _ | omega))))
    clear hK K
    (try simp only [Act.put, List.setIfInBounds_toArray, List.set_cons_zero, List.set_cons_succ])
    (try rw [HET.out])
    (try rw [HWU.out])
    (try rw [HKD.out])
    (try rw [HKE.out])
    refine wpAnyH_ready (rs := [33]) (by kernel_rfl) (by simp) ?_
    refine AllReadyH.cons (o := { dst := some 67, op := Op.call { callee := Callee.value (Operand.func 17), args := #[Operand.tmp 64, Operand.tmp 66], argTypes := #[24, 24] }, type := 4, pos := "family.go:48", after := #[{ on := 30, ground := Ground.data }, { on := 32, ground := Ground.data }, { on := 32, ground := Ground.chain }, { on := 27, ground := Ground.guard }], guard := some (27, true) }) rfl (fun K hK => ?_) AllReadyH.nil
    clear hHeld
    go_simp
    go_at_call 17
    refine (rsameZ _ X X A15 m15 c15 ?_ A16 m16 c16 ?_ (decide_eq_true rfl)).mono ?_
    (focus repeat' (first | with_reducible exact Lu_10 | with_reducible refine Lm.drew ?_ | with_reducible refine Lm.al ?_ _ | with_reducible refine Lm.put ?_ ?_ _ _ | with_reducible assumption))
    (focus repeat' (first | with_reducible exact h16 | with_reducible refine Lm.drew ?_ | with_reducible refine Lm.al ?_ _ | with_reducible refine Lm.put ?_ ?_ _ _ | with_reducible assumption))
    rintro e x11 ⟨rfl, e11⟩
    have hc := e11
    have q11 : Below x10.heap.size x10 x11 := hc
    have y11 : Below w8.heap.size w8 x11 := bel_next y10 q11
    have La_11 := La_10.bel q11
    have Lb_11 := Lb_10.bel q11
    have Lx_11 := Lx_10.bel q11
    have Lz_11 := Lz_10.bel q11
    go_wp2_with fail
    refine hK.out _ _ ?_ (fun hHeld => ?_)
    · ((try dsimp only); (with_reducible refine keep40 ?_ hS0; (focus repeat' (first | with_reducible assumption | with_reducible refine bel_drw ?_ | with_reducible refine bel_al ?_ | with_reducible refine bel_put ?_ ?_ _ _ | omega))))
    clear hK K
    (try simp only [Act.put, List.setIfInBounds_toArray, List.set_cons_zero, List.set_cons_succ])
    (try rw [HET.out])
    (try rw [HWU.out])
    (try rw [HKD.out])
    (try rw [HKE.out])
    refine wpAnyH_take (i := 34) (oi := { dst := some 68, op := Op.pick (Operand.tmp 61) (Operand.tmp 67) (Operand.const (Value.bool false)), type := 4, pos := "family.go:48", after := #[{ on := 27, ground := Ground.data }, { on := 33, ground := Ground.data }], guard := none }) (v := ?_) rfl (by kernel_rfl) (by kernel_rfl) (by kernel_rfl) (fun _ _ _ h => h) (Or.inl ⟨by rfl, ?_⟩) hHeld ?_
    rotate_left
    · (intro w hSw; (try dsimp only at hSw); go_simp; (try with_reducible rfl))
    (try simp only [Act.put, List.setIfInBounds_toArray, List.set_cons_zero, List.set_cons_succ])
    (try rw [HET.out])
    (try rw [HWU.out])
    (try rw [HKD.out])
    (try rw [HKE.out])
    refine wpAnyH_take (i := 35) (oi := { dst := some 69, op := Op.move (Operand.tmp 68), type := 4, pos := "family.go:48", after := #[{ on := 34, ground := Ground.data }, { on := 33, ground := Ground.chain }], guard := none }) (v := ?_) rfl (by kernel_rfl) (by kernel_rfl) (by kernel_rfl) (fun _ _ _ h => h) (Or.inl ⟨by rfl, ?_⟩) hHeld ?_
    rotate_left
    · (intro w hSw; (try dsimp only at hSw); go_simp; (try with_reducible rfl))
    (try simp only [Act.put, List.setIfInBounds_toArray, List.set_cons_zero, List.set_cons_succ])
    (try rw [HET.out])
    (try rw [HWU.out])
    (try rw [HKD.out])
    (try rw [HKE.out])
    refine wpAnyH_take (i := 36) (oi := { dst := some 70, op := Op.load 24 (Operand.tmp 7), type := 24, pos := "family.go:48", after := #[{ on := 35, ground := Ground.guard }], guard := some (35, true) }) (v := ?_) rfl (by kernel_rfl) (by kernel_rfl) (by kernel_rfl) (fun _ _ _ h => h) (Or.inl ⟨by rfl, ?_⟩) hHeld ?_
    rotate_left
    · (intro w hSw; (try dsimp only at hSw); go_simp; (try with_reducible rfl))
    (try simp only [Act.put, List.setIfInBounds_toArray, List.set_cons_zero, List.set_cons_succ])
    (try rw [HET.out])
    (try rw [HWU.out])
    (try rw [HKD.out])
    (try rw [HKE.out])
    refine wpAnyH_ready (rs := [37]) (by kernel_rfl) (by simp) ?_
    refine AllReadyH.cons (o := { dst := some 71, op := Op.call { callee := Callee.value (Operand.func 18), args := #[Operand.tmp 70], argTypes := #[24] }, type := 24, pos := "family.go:48", after := #[{ on := 36, ground := Ground.data }, { on := 35, ground := Ground.chain }, { on := 35, ground := Ground.guard }], guard := some (35, true) }) rfl (fun K hK => ?_) AllReadyH.nil
    clear hHeld
    go_simp
    go_at_call 18
    refine (wnorm_g _ X sa A5 nx c5 ys ?_ HXP.out).mono ?_
    (focus repeat' (first | with_reducible exact Lx_11 | with_reducible refine Lm.drew ?_ | with_reducible refine Lm.al ?_ _ | with_reducible refine Lm.put ?_ ?_ _ _ | with_reducible assumption))
    rintro e x12 ⟨A17, m17, c17, rfl, h17, hm17, e12⟩
    have hc := e12
    have q12 : Below x11.heap.size x11 x12 := hc
    have y12 : Below w8.heap.size w8 x12 := bel_next y11 q12
    have La_12 := La_11.bel q12
    have Lb_12 := Lb_11.bel q12
    have Lx_12 := Lx_11.bel q12
    have Lz_12 := Lz_11.bel q12
    go_wp2_with fail
    refine hK.out _ _ ?_ (fun hHeld => ?_)
    · ((try dsimp only); (with_reducible refine keep40 ?_ hS0; (focus repeat' (first | with_reducible assumption | with_reducible refine bel_drw ?_ | with_reducible refine bel_al ?_ | with_reducible refine bel_put ?_ ?_ _ _ | omega))))
    clear hK K
    (try simp only [Act.put, List.setIfInBounds_toArray, List.set_cons_zero, List.set_cons_succ])
    (try rw [HET.out])
    (try rw [HWU.out])
    (try rw [HKD.out])
    (try rw [HKE.out])
    refine wpAnyH_ready (rs := [38]) (by kernel_rfl) (by simp) ?_
    refine AllReadyH.cons (o := { dst := some 72, op := Op.call { callee := Callee.value (Operand.func 15), args := #[Operand.tmp 71], argTypes := #[24] }, type := 4, pos := "family.go:48", after := #[{ on := 37, ground := Ground.data }, { on := 37, ground := Ground.chain }, { on := 35, ground := Ground.guard }], guard := some (35, true) }) rfl (fun K hK => ?_) AllReadyH.nil
    clear hHeld
    go_simp
    go_at_call 15
    refine (wis_lim _ X A17 m17 c17 ?_).mono ?_
    (focus repeat' (first | with_reducible exact h17 | with_reducible refine Lm.drew ?_ | with_reducible refine Lm.al ?_ _ | with_reducible refine Lm.put ?_ ?_ _ _ | with_reducible assumption))
    rintro e x13 ⟨rfl, e13⟩
    have hc := e13
    have q13 : Below x12.heap.size x12 x13 := hc
    have y13 : Below w8.heap.size w8 x13 := bel_next y12 q13
    have La_13 := La_12.bel q13
    have Lb_13 := Lb_12.bel q13
    have Lx_13 := Lx_12.bel q13
    have Lz_13 := Lz_12.bel q13
    go_wp2_with fail
    refine hK.out _ _ ?_ (fun hHeld => ?_)
    · ((try dsimp only); (with_reducible refine keep40 ?_ hS0; (focus repeat' (first | with_reducible assumption | with_reducible refine bel_drw ?_ | with_reducible refine bel_al ?_ | with_reducible refine bel_put ?_ ?_ _ _ | omega))))
    clear hK K
    (try simp only [Act.put, List.setIfInBounds_toArray, List.set_cons_zero, List.set_cons_succ])
    (try rw [HET.out])
    (try rw [HWU.out])
    (try rw [HKD.out])
    (try rw [HKE.out])
    refine wpAnyH_take (i := 39) (oi := { dst := some 73, op := Op.pick (Operand.tmp 69) (Operand.tmp 72) (Operand.const (Value.bool false)), type := 4, pos := "family.go:48", after := #[{ on := 35, ground := Ground.data }, { on := 38, ground := Ground.data }], guard := none }) (v := ?_) rfl (by kernel_rfl) (by kernel_rfl) (by kernel_rfl) (fun _ _ _ h => h) (Or.inl ⟨by rfl, ?_⟩) hHeld ?_
    rotate_left
    · (intro w hSw; (try dsimp only at hSw); go_simp; (try with_reducible rfl))
    (try simp only [Act.put, List.setIfInBounds_toArray, List.set_cons_zero, List.set_cons_succ])
    (try rw [HET.out])
    (try rw [HWU.out])
    (try rw [HKD.out])
    (try rw [HKE.out])
    refine wpAnyH_take (i := 40) (oi := { dst := some 74, op := Op.move (Operand.tmp 73), type := 4, pos := "family.go:48", after := #[{ on := 39, ground := Ground.data }, { on := 38, ground := Ground.chain }], guard := none }) (v := ?_) rfl (by kernel_rfl) (by kernel_rfl) (by kernel_rfl) (fun _ _ _ h => h) (Or.inl ⟨by rfl, ?_⟩) hHeld ?_
    rotate_left
    · (intro w hSw; (try dsimp only at hSw); go_simp; (try with_reducible rfl))
    (try simp only [Act.put, List.setIfInBounds_toArray, List.set_cons_zero, List.set_cons_succ])
    (try rw [HET.out])
    (try rw [HWU.out])
    (try rw [HKD.out])
    (try rw [HKE.out])
    refine wpAnyH_take (i := 41) (oi := { dst := some 75, op := Op.move (Operand.tmp 2), type := 5, pos := "family.go:48", after := #[{ on := 40, ground := Ground.guard }], guard := some (40, true) }) (v := ?_) rfl (by kernel_rfl) (by kernel_rfl) (by kernel_rfl) (fun _ _ _ h => h) (Or.inl ⟨by rfl, ?_⟩) hHeld ?_
    rotate_left
    · (intro w hSw; (try dsimp only at hSw); go_simp; (try with_reducible rfl))
    (try simp only [Act.put, List.setIfInBounds_toArray, List.set_cons_zero, List.set_cons_succ])
    (try rw [HET.out])
    (try rw [HWU.out])
    (try rw [HKD.out])
    (try rw [HKE.out])
    refine wpAnyH_take (i := 42) (oi := { dst := some 76, op := Op.binOp BinOp.rem 5 (Operand.tmp 75) (Operand.const (Value.int IntKind.u8 4)) 5, type := 5, pos := "family.go:48", after := #[{ on := 41, ground := Ground.data }, { on := 40, ground := Ground.guard }], guard := some (40, true) }) (v := ?_) rfl (by kernel_rfl) (by kernel_rfl) (by kernel_rfl) (fun _ _ _ h => h) (Or.inl ⟨by rfl, ?_⟩) hHeld ?_
    rotate_left
    · (intro w hSw; (try dsimp only at hSw); go_simp; (try with_reducible rfl))
    (try simp only [Act.put, List.setIfInBounds_toArray, List.set_cons_zero, List.set_cons_succ])
    (try rw [HET.out])
    (try rw [HWU.out])
    (try rw [HKD.out])
    (try rw [HKE.out])
    refine wpAnyH_take (i := 43) (oi := { dst := some 77, op := Op.binOp BinOp.eql 5 (Operand.tmp 76) (Operand.const (Value.int IntKind.u8 0)) 5, type := 4, pos := "family.go:48", after := #[{ on := 42, ground := Ground.data }, { on := 40, ground := Ground.guard }], guard := some (40, true) }) (v := ?_) rfl (by kernel_rfl) (by kernel_rfl) (by kernel_rfl) (fun _ _ _ h => h) (Or.inl ⟨by rfl, ?_⟩) hHeld ?_
    rotate_left
    · (intro w hSw; (try dsimp only at hSw); go_simp; (try with_reducible rfl))
    (try simp only [Act.put, List.setIfInBounds_toArray, List.set_cons_zero, List.set_cons_succ])
    (try rw [HET.out])
    (try rw [HWU.out])
    (try rw [HKD.out])
    (try rw [HKE.out])
    refine wpAnyH_take (i := 44) (oi := { dst := some 78, op := Op.move (Operand.tmp 77), type := 4, pos := "family.go:48", after := #[{ on := 43, ground := Ground.data }, { on := 40, ground := Ground.chain }, { on := 40, ground := Ground.guard }], guard := some (40, true) }) (v := ?_) rfl (by kernel_rfl) (by kernel_rfl) (by kernel_rfl) (fun _ _ _ h => h) (Or.inl ⟨by rfl, ?_⟩) hHeld ?_
    rotate_left
    · (intro w hSw; (try dsimp only at hSw); go_simp; (try with_reducible rfl))
    (try simp only [Act.put, List.setIfInBounds_toArray, List.set_cons_zero, List.set_cons_succ])
    (try rw [HET.out])
    (try rw [HWU.out])
    (try rw [HKD.out])
    (try rw [HKE.out])
    refine wpAnyH_take (i := 45) (oi := { dst := some 79, op := Op.load 24 (Operand.tmp 7), type := 24, pos := "family.go:48", after := #[{ on := 44, ground := Ground.guard }], guard := some (44, false) }) (v := undef) rfl (by kernel_rfl) (by kernel_rfl) (by kernel_rfl) (fun _ _ _ h => h) (Or.inr ⟨by rfl, rfl⟩) hHeld ?_
    (try simp only [Act.put, List.setIfInBounds_toArray, List.set_cons_zero, List.set_cons_succ])
    (try rw [HET.out])
    (try rw [HWU.out])
    (try rw [HKD.out])
    (try rw [HKE.out])
    refine wpAnyH_take (i := 46) (oi := { dst := some 80, op := Op.call { callee := Callee.value (Operand.func 15), args := #[Operand.tmp 79], argTypes := #[24] }, type := 4, pos := "family.go:48", after := #[{ on := 45, ground := Ground.data }, { on := 44, ground := Ground.chain }, { on := 44, ground := Ground.guard }], guard := some (44, false) }) (v := undef) rfl (by kernel_rfl) (by kernel_rfl) (by kernel_rfl) (fun _ _ _ h => h) (Or.inr ⟨by rfl, rfl⟩) hHeld ?_
    (try simp only [Act.put, List.setIfInBounds_toArray, List.set_cons_zero, List.set_cons_succ])
    (try rw [HET.out])
    (try rw [HWU.out])
    (try rw [HKD.out])
    (try rw [HKE.out])
    refine wpAnyH_take (i := 47) (oi := { dst := some 81, op := Op.unOp UnOp.not 4 (Operand.tmp 80), type := 4, pos := "family.go:48", after := #[{ on := 46, ground := Ground.data }, { on := 44, ground := Ground.guard }], guard := some (44, false) }) (v := undef) rfl (by kernel_rfl) (by kernel_rfl) (by kernel_rfl) (fun _ _ _ h => h) (Or.inr ⟨by rfl, rfl⟩) hHeld ?_
    (try simp only [Act.put, List.setIfInBounds_toArray, List.set_cons_zero, List.set_cons_succ])
    (try rw [HET.out])
    (try rw [HWU.out])
    (try rw [HKD.out])
    (try rw [HKE.out])
    refine wpAnyH_take (i := 48) (oi := { dst := some 82, op := Op.pick (Operand.tmp 78) (Operand.const (Value.bool true)) (Operand.tmp 81), type := 4, pos := "family.go:48", after := #[{ on := 44, ground := Ground.data }, { on := 47, ground := Ground.data }, { on := 40, ground := Ground.guard }], guard := some (40, true) }) (v := ?_) rfl (by kernel_rfl) (by kernel_rfl) (by kernel_rfl) (fun _ _ _ h => h) (Or.inl ⟨by rfl, ?_⟩) hHeld ?_
    rotate_left
    · (intro w hSw; (try dsimp only at hSw); go_simp; (try with_reducible rfl))
    (try simp only [Act.put, List.setIfInBounds_toArray, List.set_cons_zero, List.set_cons_succ])
    (try rw [HET.out])
    (try rw [HWU.out])
    (try rw [HKD.out])
    (try rw [HKE.out])
    refine wpAnyH_take (i := 49) (oi := { dst := some 83, op := Op.pick (Operand.tmp 74) (Operand.tmp 82) (Operand.const (Value.bool false)), type := 4, pos := "family.go:48", after := #[{ on := 40, ground := Ground.data }, { on := 48, ground := Ground.data }], guard := none }) (v := ?_) rfl (by kernel_rfl) (by kernel_rfl) (by kernel_rfl) (fun _ _ _ h => h) (Or.inl ⟨by rfl, ?_⟩) hHeld ?_
    rotate_left
    · (intro w hSw; (try dsimp only at hSw); go_simp; (try with_reducible rfl))
    (try simp only [Act.put, List.setIfInBounds_toArray, List.set_cons_zero, List.set_cons_succ])
    (try rw [HET.out])
    (try rw [HWU.out])
    (try rw [HKD.out])
    (try rw [HKE.out])
    refine wpAnyH_take (i := 50) (oi := { dst := some 6, op := Op.assign (Operand.tmp 83), type := 4, pos := "family.go:48", after := #[{ on := 49, ground := Ground.data }, { on := 46, ground := Ground.chain }, { on := 0, ground := Ground.phase }, { on := 1, ground := Ground.phase }, { on := 2, ground := Ground.phase }, { on := 3, ground := Ground.phase }, { on := 4, ground := Ground.phase }, { on := 5, ground := Ground.phase }, { on := 6, ground := Ground.phase }, { on := 7, ground := Ground.phase }, { on := 8, ground := Ground.phase }, { on := 9, ground := Ground.phase }, { on := 10, ground := Ground.phase }, { on := 11, ground := Ground.phase }, { on := 12, ground := Ground.phase }, { on := 13, ground := Ground.phase }, { on := 14, ground := Ground.phase }, { on := 15, ground := Ground.phase }, { on := 16, ground := Ground.phase }, { on := 17, ground := Ground.phase }, { on := 18, ground := Ground.phase }, { on := 19, ground := Ground.phase }, { on := 20, ground := Ground.phase }, { on := 21, ground := Ground.phase }, { on := 22, ground := Ground.phase }, { on := 23, ground := Ground.phase }, { on := 24, ground := Ground.phase }, { on := 25, ground := Ground.phase }, { on := 26, ground := Ground.phase }, { on := 27, ground := Ground.phase }, { on := 28, ground := Ground.phase }, { on := 29, ground := Ground.phase }, { on := 30, ground := Ground.phase }, { on := 31, ground := Ground.phase }, { on := 32, ground := Ground.phase }, { on := 33, ground := Ground.phase }, { on := 34, ground := Ground.phase }, { on := 35, ground := Ground.phase }, { on := 36, ground := Ground.phase }, { on := 37, ground := Ground.phase }, { on := 38, ground := Ground.phase }, { on := 39, ground := Ground.phase }, { on := 40, ground := Ground.phase }, { on := 41, ground := Ground.phase }, { on := 42, ground := Ground.phase }, { on := 43, ground := Ground.phase }, { on := 44, ground := Ground.phase }, { on := 45, ground := Ground.phase }, { on := 46, ground := Ground.phase }, { on := 47, ground := Ground.phase }, { on := 48, ground := Ground.phase }, { on := 49, ground := Ground.phase }], guard := none }) (v := ?_) rfl (by kernel_rfl) (by kernel_rfl) (by kernel_rfl) (fun _ _ _ h => h) (Or.inl ⟨by rfl, ?_⟩) hHeld ?_
    rotate_left
    · (intro w hSw; (try dsimp only at hSw); go_simp; (try with_reducible rfl))
    (try simp only [Act.put, List.setIfInBounds_toArray, List.set_cons_zero, List.set_cons_succ])
    (try rw [HET.out])
    (try rw [HWU.out])
    (try rw [HKD.out])
    (try rw [HKE.out])
    refine wpAnyH_done (by kernel_rfl) ?_ _
    refine NoPanic.normal ?_
    go_wp2
    go_ret
    exact ⟨rfl, bel7.trans (y13.mono bel7.size)⟩
set_option maxRecDepth 100000 in
set_option maxHeartbeats 40000000 in
theorem norms_few1 (w : World) (sa : Bool) (Aa : Option Addr) (na ca : Nat) (xa : List Nat) (La : Lm w Aa na ca xa) (fa : na ≤ 24) (sb : Bool) (Ab : Option Addr) (nb cb : Nat) (xb : List Nat) (Lb : Lm w Ab nb cb xb) (fb : nb ≤ 24) (n : Nat) (hn : n ≤ 255) (hk : n % 4 ≠ 0) (hT : Tab w) (hS : SumsT w) (hP : ProductsT w) (hF : FarthestT w) :
    Calls Tryd.prog 6 #[.agg #[.bool sa, .slice Aa na ca], .agg #[.bool sb, .slice Ab nb cb], .int .u8 (n : Nat)] w fun e w' => e = .returned (.bool true) ∧ Below w.heap.size w w' := by
  obtain ⟨X, hX⟩ : ∃ V0 : Int, sgn sa (val xa) = V0 := ⟨_, rfl⟩
  have HX := Lib.hid hX
  clear hX
  obtain ⟨Y, hY⟩ : ∃ V0 : Int, sgn sb (val xb) = V0 := ⟨_, rfl⟩
  have HY := Lib.hid hY
  clear hY
  have Hd := Lib.hid (And.intro (decide_eq_true (show (na : Int) ≤ 24 by omega)) (decide_eq_true (show (nb : Int) ≤ 24 by omega)))
  obtain ⟨k, ek, hk3, hkz⟩ : ∃ k, n % 4 = k ∧ k ≤ 3 ∧ k ≠ 0 := ⟨_, rfl, by omega, hk⟩
  have HET : Hid ((n : Int).tmod 4 = (k : Int)) := (by rw [Int.tmod_eq_emod_of_nonneg (by omega)]; omega : (n : Int).tmod 4 = (k : Int))
  have HWU : Hid (IntKind.u8.wrap (k : Int) = (k : Int)) := (by rw [IntKind.wrap_u8]; omega : IntKind.u8.wrap (k : Int) = (k : Int))
  have HWI : Hid (IntKind.i64.wrap (k : Int) = (k : Int)) := (IntWalk.i64_in _ (by omega) : IntKind.i64.wrap (k : Int) = (k : Int))
  obtain ⟨ys, hys⟩ : ∃ ys, xa ++ List.replicate k 0 = ys := ⟨_, rfl⟩
  obtain ⟨nx, hnx⟩ : ∃ nx, ys.length = nx := ⟨_, rfl⟩
  have hle : nx = na + k := by rw [← hnx, ← hys, List.length_append, List.length_replicate, La.len]
  have hoy : Ok ys := by rw [← hys]; exact ok_zeros La.ok k
  have hvy : val ys = val xa := by rw [← hys]; exact val_pad xa k
  have HLEN : Hid (xa.length ≤ 1000000 ∧ ys.length ≤ 1000000 ∧ Ok ys) := (by have h1 := La.len; exact ⟨by omega, by omega, hoy⟩ : xa.length ≤ 1000000 ∧ ys.length ≤ 1000000 ∧ Ok ys)
  have HXP : Hid (sgn sa (val ys) = X) := (by rw [hvy]; exact HX.out : sgn sa (val ys) = X)
  have HYS := Lib.hid hys
  have HNX := Lib.hid hnx
  have HNN : Hid (nx ≤ 27) := (by omega : nx ≤ 27)
  obtain ⟨O, hO⟩ : ∃ O : Int, O = 0 := ⟨_, rfl⟩
  have HO1 : Hid (sgn true (val (List.replicate k 0)) = O) := (by rw [hO, show val (List.replicate k 0) = 0 from by have h := val_pad [] k; rw [List.nil_append] at h; rw [h]; rfl]; rfl : sgn true (val (List.replicate k 0)) = O)
  have HO2 : Hid (sg O = 0) := (by rw [hO]; rfl : sg O = 0)
  have HO3 : Hid (O + X = X) := (by omega : O + X = X)
  have HC0 : Hid (sg (X - X) = 0) := (sg_zero (by omega) : sg (X - X) = 0)
  have HNI : Hid ((decide (lim (val ys) = ys) && !(sa && decide (nx = 0))) = false) := (by
    have h1 : ¬ lim (val ys) = ys := by
      intro c
      have h2 : (lim (val ys)).length = ys.length := by rw [c]
      have h3 := ln_val_le La.ok
      have h4 : (lim (val ys)).length = ln (val ys) := rfl
      rw [La.len] at h3
      rw [hvy] at h2 h4
      omega
    rw [decide_eq_false h1, Bool.false_and] : (decide (lim (val ys) = ys) && !(sa && decide (nx = 0))) = false)
  clear hO hys hnx hle hoy hvy
  have HKZ := Lib.hid hkz
  have HKD : Hid (decide ((k : Int) = 0) = false) := (decide_eq_false (by omega) : decide ((k : Int) = 0) = false)
  have HKE : Hid (((k : Int) == 0) = false) := (by rw [beq_eq_false_iff_ne]; omega : ((k : Int) == 0) = false)
  clear ek hk hn hkz
  obtain ⟨SS, hSS⟩ : ∃ V0 : Int, X + Y = V0 := ⟨_, rfl⟩
  have HSS := Lib.hid hSS
  clear hSS
  obtain ⟨MM, hMM⟩ : ∃ V0 : Int, X * Y = V0 := ⟨_, rfl⟩
  have HMM := Lib.hid hMM
  clear hMM
  have HTT := Lib.hid hT
  have HTS := Lib.hid hS
  have HTP := Lib.hid hP
  have HTF := Lib.hid hF
  clear hT hS hP hF
  go_enter Tryd.func6, Tryd.ntmps6
  go_wp2_with fail
  obtain ⟨ga, hga⟩ : ∃ g, g = w.heap.size := ⟨_, rfl⟩
  obtain ⟨gb, hgb⟩ : ∃ g, g = w.heap.size + 1 := ⟨_, rfl⟩
  obtain ⟨w1, hw1⟩ : ∃ v, v = ((w.alloc (.cells #[.bool sa, .slice Aa na ca] 24)).alloc (.cells #[.bool sb, .slice Ab nb cb] 24)) := ⟨_, rfl⟩
  have bel1 : Below w.heap.size w w1 := by rw [hw1]; exact bel_alloc2 _ _ _
  have b_a1 : Box w1 ga sa Aa na ca := by rw [hw1, hga]; exact ((Box.new _ _ _ _ _).alloc _)
  have b_b1 : Box w1 gb sb Ab nb cb := by rw [hw1, hgb]; exact (Box.at1 _ _ _ _ _ _)
  rw [← hw1, ← hgb, ← hga]
  have hgs : w.heap.size ≤ ga ∧ w.heap.size ≤ gb ∧ ga ≠ gb ∧ gb ≠ ga := by omega
  have HG := Lib.hid hgs
  clear hw1 hgs hga hgb
  have l_a1 := La.bel bel1
  have l_b1 := Lb.bel bel1
  have t_T1 := Lib.hid (HTT.out.bel bel1)
  have t_S1 := Lib.hid (HTS.out.bel bel1)
  have t_P1 := Lib.hid (HTP.out.bel bel1)
  have t_F1 := Lib.hid (HTF.out.bel bel1)
  have c_a0_1 := b_a1.c0
  have c_a1_1 := b_a1.c1
  have c_b0_1 := b_b1.c0
  have c_b1_1 := b_b1.c1
  have cc := Lib.hid (known2_any w1 t_T1.out t_P1.out t_F1.out)
  refine cc.out.mono ?_
  clear cc
  rintro e v2 ⟨rfl, kb2⟩
  have b_a2 := b_a1.bel kb2
  have b_b2 := b_b1.bel kb2
  have l_a2 := l_a1.bel kb2
  have l_b2 := l_b1.bel kb2
  have t_T2 := Lib.hid (t_T1.out.bel kb2)
  have t_S2 := Lib.hid (t_S1.out.bel kb2)
  have t_P2 := Lib.hid (t_P1.out.bel kb2)
  have t_F2 := Lib.hid (t_F1.out.bel kb2)
  have bel2 := bel1.trans (kb2.mono bel1.size)
  have c_a0_2 := b_a2.c0
  have c_a1_2 := b_a2.c1
  have c_b0_2 := b_b2.c0
  have c_b1_2 := b_b2.c1
  clear kb2 b_a1 c_a0_1 c_a1_1 b_b1 c_b0_1 c_b1_1 l_a1 l_b1 t_T1 t_S1 t_P1 t_F1 bel1
  go_wp2_with fail
  have cc := Lib.hid (few2_any v2 sa Aa na ca Hd.out.1)
  refine cc.out.mono ?_
  clear cc
  rintro e v3 ⟨rfl, kb3⟩
  have b_a3 := b_a2.bel kb3
  have b_b3 := b_b2.bel kb3
  have l_a3 := l_a2.bel kb3
  have l_b3 := l_b2.bel kb3
  have t_T3 := Lib.hid (t_T2.out.bel kb3)
  have t_S3 := Lib.hid (t_S2.out.bel kb3)
  have t_P3 := Lib.hid (t_P2.out.bel kb3)
  have t_F3 := Lib.hid (t_F2.out.bel kb3)
  have bel3 := bel2.trans (kb3.mono bel2.size)
  have c_a0_3 := b_a3.c0
  have c_a1_3 := b_a3.c1
  have c_b0_3 := b_b3.c0
  have c_b1_3 := b_b3.c1
  clear kb3 b_a2 c_a0_2 c_a1_2 b_b2 c_b0_2 c_b1_2 l_a2 l_b2 t_T2 t_S2 t_P2 t_F2 bel2
  go_wp2_with fail
  have cc := Lib.hid (few2_any v3 sb Ab nb cb Hd.out.2)
  refine cc.out.mono ?_
  clear cc
  rintro e v4 ⟨rfl, kb4⟩
  have b_a4 := b_a3.bel kb4
  have b_b4 := b_b3.bel kb4
  have l_a4 := l_a3.bel kb4
  have l_b4 := l_b3.bel kb4
  have t_T4 := Lib.hid (t_T3.out.bel kb4)
  have t_S4 := Lib.hid (t_S3.out.bel kb4)
  have t_P4 := Lib.hid (t_P3.out.bel kb4)
  have t_F4 := Lib.hid (t_F3.out.bel kb4)
  have bel4 := bel3.trans (kb4.mono bel3.size)
  have c_a0_4 := b_a4.c0
  have c_a1_4 := b_a4.c1
  have c_b0_4 := b_b4.c0
  have c_b1_4 := b_b4.c1
  clear kb4 b_a3 c_a0_3 c_a1_3 b_b3 c_b0_3 c_b1_3 l_a3 l_b3 t_T3 t_S3 t_P3 t_F3 bel3
  go_upto_region 5 with (fail)
  go_cut [7] (fun s7 wx => LaidN v4 sa ys s7 wx)
  case first =>
    have hS0 := And.intro (held0 b_a4) (held0 b_b4)
    have y0 : Below v4.heap.size v4 v4 := Below.refl _ _
    refine wp_region_noPanic ?_
    refine wp_region_held_drew (S := (fun w' => (Box w' ga sa Aa na ca ∧ w'.cell? ⟨ga, 0, none⟩ = some (.bool sa) ∧ w'.cell? ⟨ga, 1, none⟩ = some (.slice Aa na ca)) ∧ (Box w' gb sb Ab nb cb ∧ w'.cell? ⟨gb, 0, none⟩ = some (.bool sb) ∧ w'.cell? ⟨gb, 1, none⟩ = some (.slice Ab nb cb)))) (by kernel_rfl) ?_ (fun hHeld => ?_)
    · ((try dsimp only); (with_reducible refine keep20 ?_ hS0; (focus repeat' (first | with_reducible assumption | with_reducible refine bel_drw ?_ | with_reducible refine bel_al ?_ | with_reducible refine bel_put ?_ ?_ _ _ | omega))))
    refine wpAnyH_take (i := 0) (oi := { dst := some 19, op := Op.fieldAddr 24 (Operand.tmp 3) 0, type := 0, pos := "family.go:46", after := #[], guard := none }) (v := ?_) rfl (by kernel_rfl) (by kernel_rfl) (by kernel_rfl) (fun _ _ _ h => h) (Or.inl ⟨by rfl, ?_⟩) hHeld ?_
    rotate_left
    · (intro w hSw; (try dsimp only at hSw); go_simp; (try with_reducible rfl))
    (try simp only [Act.put, List.setIfInBounds_toArray, List.set_cons_zero, List.set_cons_succ])
    refine wpAnyH_take (i := 1) (oi := { dst := some 20, op := Op.load 4 (Operand.tmp 19), type := 4, pos := "family.go:46", after := #[{ on := 0, ground := Ground.data }], guard := none }) (v := ?_) rfl (by kernel_rfl) (by kernel_rfl) (by kernel_rfl) (fun _ _ _ h => h) (Or.inl ⟨by rfl, ?_⟩) hHeld ?_
    rotate_left
    · (intro w hSw; (try dsimp only at hSw); go_simp; (try with_reducible rfl))
    (try simp only [Act.put, List.setIfInBounds_toArray, List.set_cons_zero, List.set_cons_succ])
    refine wpAnyH_take (i := 2) (oi := { dst := some 21, op := Op.fieldAddr 24 (Operand.tmp 3) 1, type := 0, pos := "family.go:46", after := #[], guard := none }) (v := ?_) rfl (by kernel_rfl) (by kernel_rfl) (by kernel_rfl) (fun _ _ _ h => h) (Or.inl ⟨by rfl, ?_⟩) hHeld ?_
    rotate_left
    · (intro w hSw; (try dsimp only at hSw); go_simp; (try with_reducible rfl))
    (try simp only [Act.put, List.setIfInBounds_toArray, List.set_cons_zero, List.set_cons_succ])
    refine wpAnyH_take (i := 3) (oi := { dst := some 22, op := Op.load 22 (Operand.tmp 21), type := 22, pos := "family.go:46", after := #[{ on := 2, ground := Ground.data }], guard := none }) (v := ?_) rfl (by kernel_rfl) (by kernel_rfl) (by kernel_rfl) (fun _ _ _ h => h) (Or.inl ⟨by rfl, ?_⟩) hHeld ?_
    rotate_left
    · (intro w hSw; (try dsimp only at hSw); go_simp; (try with_reducible rfl))
    (try simp only [Act.put, List.setIfInBounds_toArray, List.set_cons_zero, List.set_cons_succ])
    refine wpAnyH_take (i := 5) (oi := { dst := some 24, op := Op.move (Operand.tmp 2), type := 5, pos := "family.go:46", after := #[], guard := none }) (v := ?_) rfl (by kernel_rfl) (by kernel_rfl) (by kernel_rfl) (fun _ _ _ h => h) (Or.inl ⟨by rfl, ?_⟩) hHeld ?_
    rotate_left
    · (intro w hSw; (try dsimp only at hSw); go_simp; (try with_reducible rfl))
    (try simp only [Act.put, List.setIfInBounds_toArray, List.set_cons_zero, List.set_cons_succ])
    refine wpAnyH_take (i := 6) (oi := { dst := some 25, op := Op.binOp BinOp.rem 5 (Operand.tmp 24) (Operand.const (Value.int IntKind.u8 4)) 5, type := 5, pos := "family.go:46", after := #[{ on := 5, ground := Ground.data }], guard := none }) (v := ?_) rfl (by kernel_rfl) (by kernel_rfl) (by kernel_rfl) (fun _ _ _ h => h) (Or.inl ⟨by rfl, ?_⟩) hHeld ?_
    rotate_left
    · (intro w hSw; (try dsimp only at hSw); go_simp; (try with_reducible rfl))
    (try simp only [Act.put, List.setIfInBounds_toArray, List.set_cons_zero, List.set_cons_succ])
    (try rw [HET.out])
    (try rw [HWU.out])
    (try rw [HWI.out])
    refine wpAnyH_take (i := 7) (oi := { dst := some 26, op := Op.convert 5 3 (Operand.tmp 25), type := 3, pos := "family.go:46", after := #[{ on := 6, ground := Ground.data }], guard := none }) (v := ?_) rfl (by kernel_rfl) (by kernel_rfl) (by kernel_rfl) (fun _ _ _ h => h) (Or.inl ⟨by rfl, ?_⟩) hHeld ?_
    rotate_left
    · (intro w hSw; (try dsimp only at hSw); go_simp; (try with_reducible rfl))
    (try simp only [Act.put, List.setIfInBounds_toArray, List.set_cons_zero, List.set_cons_succ])
    (try rw [HET.out])
    (try rw [HWU.out])
    (try rw [HWI.out])
    refine wpAnyH_ready (rs := [4, 10]) (by kernel_rfl) (by simp) ?_
    refine AllReadyH.cons (o := { dst := some 23, op := Op.call { callee := Callee.builtin Builtin.append, args := #[Operand.const (Value.slice none 0 0), Operand.tmp 22], argTypes := #[22, 22] }, type := 22, pos := "family.go:46", after := #[{ on := 3, ground := Ground.data }], guard := none }) rfl (fun K hK => ?_) (AllReadyH.cons (o := { dst := some 7, op := Op.alloc 24, type := 0, pos := "family.go:46", after := #[], guard := none }) rfl (fun K hK => ?_) AllReadyH.nil)
    · skip
      clear hHeld
      rw [if_pos (by rfl)]
      obtain ⟨v1, x1, hr1, hz1, hg1⟩ := app1 v4.drew 22 Aa na ca xa (l_a4.drew)
      refine Lib.wp_append_run _ _ _ _ _ rfl _ _ rfl rfl v1 x1 hr1 ?_
      have yw : Below v4.heap.size v4 v4.drew := bel_drw y0
      have y1 : Below v4.heap.size v4 x1 := yw.grown hg1 yw.size (fun k hk => by cases hk)
      refine hK.out _ _ ?_ (fun hHeld => ?_)
      · ((try dsimp only); (with_reducible refine keep20 ?_ hS0; (focus repeat' (first | with_reducible assumption | with_reducible refine bel_drw ?_ | with_reducible refine bel_al ?_ | with_reducible refine bel_put ?_ ?_ _ _ | omega))))
      clear hK K
      (try simp only [Act.put, List.setIfInBounds_toArray, List.set_cons_zero, List.set_cons_succ])
      refine wpAnyH_ready (rs := [8, 10]) (by kernel_rfl) (by simp) ?_
      refine AllReadyH.cons (o := { dst := some 27, op := Op.call { callee := Callee.builtin Builtin.append, args := #[Operand.tmp 23, Operand.tmp 26], argTypes := #[22, 3] }, type := 22, pos := "family.go:46", after := #[{ on := 4, ground := Ground.data }, { on := 7, ground := Ground.data }, { on := 4, ground := Ground.chain }], guard := none }) rfl (fun K hK => ?_) (AllReadyH.cons (o := { dst := some 7, op := Op.alloc 24, type := 0, pos := "family.go:46", after := #[], guard := none }) rfl (fun K hK => ?_) AllReadyH.nil)
      · skip
        clear hHeld
        rw [if_pos (by rfl)]
        have yw : Below v4.heap.size v4 x1 := y1
        obtain ⟨v2, x2, hr2, hz2, hg2⟩ := app2 x1 22 _ v1 xa (hz1) k (by omega) HLEN.out.1 y1.size
        rw [HYS.out] at hz2
        obtain ⟨A2, c2, rfl, hl2⟩ := hz2.lm HLEN.out.2.2 HLEN.out.2.1
        refine Lib.wp_append_run _ _ _ _ _ rfl _ _ rfl rfl _ x2 hr2 ?_
        have y2 : Below v4.heap.size v4 x2 := yw.grown hg2 yw.size (fun j hj => Nat.le_trans (Nat.le_refl _) (hz1.own j hj).1)
        refine hK.out _ _ ?_ (fun hHeld => ?_)
        · ((try dsimp only); (with_reducible refine keep20 ?_ hS0; (focus repeat' (first | with_reducible assumption | with_reducible refine bel_drw ?_ | with_reducible refine bel_al ?_ | with_reducible refine bel_put ?_ ?_ _ _ | omega))))
        clear hK K
        (try simp only [Act.put, List.setIfInBounds_toArray, List.set_cons_zero, List.set_cons_succ])
        refine wpAnyH_take (i := 9) (oi := { dst := some 28, op := Op.build 24 #[(0, Operand.tmp 20), (1, Operand.tmp 27)], type := 24, pos := "family.go:46", after := #[{ on := 1, ground := Ground.data }, { on := 8, ground := Ground.data }], guard := none }) (v := ?_) rfl (by kernel_rfl) (by kernel_rfl) (by kernel_rfl) (fun _ _ _ h => h) (Or.inl ⟨by rfl, ?_⟩) hHeld ?_
        rotate_left
        · (intro w hSw; (try dsimp only at hSw); go_simp; (try with_reducible rfl))
        (try simp only [Act.put, List.setIfInBounds_toArray, List.set_cons_zero, List.set_cons_succ])
        refine wpAnyH_ready (rs := [10]) (by kernel_rfl) (by simp) ?_
        refine AllReadyH.cons (o := { dst := some 7, op := Op.alloc 24, type := 0, pos := "family.go:46", after := #[], guard := none }) rfl (fun K hK => ?_) AllReadyH.nil
        clear hHeld
        go_simp
        refine hK.out _ _ ?_ (fun hHeld => ?_)
        · ((try dsimp only); (with_reducible refine keep20 ?_ hS0; (focus repeat' (first | with_reducible assumption | with_reducible refine bel_drw ?_ | with_reducible refine bel_al ?_ | with_reducible refine bel_put ?_ ?_ _ _ | omega))))
        clear hK K
        (try simp only [Act.put, List.setIfInBounds_toArray, List.set_cons_zero, List.set_cons_succ])
        refine wpAnyH_ready (rs := [11]) (by kernel_rfl) (by simp) ?_
        refine AllReadyH.cons (o := { dst := none, op := Op.store 24 (Operand.tmp 7) (Operand.tmp 28), type := 0, pos := "family.go:46", after := #[{ on := 10, ground := Ground.data }, { on := 9, ground := Ground.data }, { on := 8, ground := Ground.chain }, { on := 0, ground := Ground.phase }, { on := 1, ground := Ground.phase }, { on := 2, ground := Ground.phase }, { on := 3, ground := Ground.phase }, { on := 4, ground := Ground.phase }, { on := 5, ground := Ground.phase }, { on := 6, ground := Ground.phase }, { on := 7, ground := Ground.phase }, { on := 8, ground := Ground.phase }, { on := 9, ground := Ground.phase }, { on := 10, ground := Ground.phase }], guard := none }) rfl (fun K hK => ?_) AllReadyH.nil
        clear hHeld
        go_simp
        refine hK.out _ _ ?_ (fun hHeld => ?_)
        · ((try dsimp only); (with_reducible refine keep20 ?_ hS0; (focus repeat' (first | with_reducible assumption | with_reducible refine bel_drw ?_ | with_reducible refine bel_al ?_ | with_reducible refine bel_put ?_ ?_ _ _ | omega))))
        clear hK K
        (try simp only [Act.put, List.setIfInBounds_toArray, List.set_cons_zero, List.set_cons_succ])
        refine wpAnyH_done (by kernel_rfl) ?_ _
        refine NoPanic.normal ?_
        go_wp2_with fail
        go_meet
        exact laidN_new y2 hl2
      · skip
        clear hHeld
        go_simp
        refine hK.out _ _ ?_ (fun hHeld => ?_)
        · ((try dsimp only); (with_reducible refine keep20 ?_ hS0; (focus repeat' (first | with_reducible assumption | with_reducible refine bel_drw ?_ | with_reducible refine bel_al ?_ | with_reducible refine bel_put ?_ ?_ _ _ | omega))))
        clear hK K
        (try simp only [Act.put, List.setIfInBounds_toArray, List.set_cons_zero, List.set_cons_succ])
        refine wpAnyH_ready (rs := [8]) (by kernel_rfl) (by simp) ?_
        refine AllReadyH.cons (o := { dst := some 27, op := Op.call { callee := Callee.builtin Builtin.append, args := #[Operand.tmp 23, Operand.tmp 26], argTypes := #[22, 3] }, type := 22, pos := "family.go:46", after := #[{ on := 4, ground := Ground.data }, { on := 7, ground := Ground.data }, { on := 4, ground := Ground.chain }], guard := none }) rfl (fun K hK => ?_) AllReadyH.nil
        have tz : Two (x1.alloc Zero) x1.heap.size := (Box.new x1 false none 0 0).two
        clear hHeld
        rw [if_pos (by rfl)]
        have yw : Below v4.heap.size v4 (x1.alloc Zero) := bel_al y1
        obtain ⟨v2, x2, hr2, hz2, hg2⟩ := app2 (x1.alloc Zero) 22 _ v1 xa (hz1.alloc _) k (by omega) HLEN.out.1 yw.size
        rw [HYS.out] at hz2
        obtain ⟨A2, c2, rfl, hl2⟩ := hz2.lm HLEN.out.2.2 HLEN.out.2.1
        refine Lib.wp_append_run _ _ _ _ _ rfl _ _ rfl rfl _ x2 hr2 ?_
        have y2 : Below v4.heap.size v4 x2 := yw.grown hg2 yw.size (fun j hj => Nat.le_trans (Nat.le_refl _) (hz1.own j hj).1)
        have tz2 := tz.kept hg2 (fun e => by have h1 := (hz1.own _ e.symm).2; omega)
        have rr := tz2.room.2
        have sz := y1.size
        refine hK.out _ _ ?_ (fun hHeld => ?_)
        · ((try dsimp only); (with_reducible refine keep20 ?_ hS0; (focus repeat' (first | with_reducible assumption | with_reducible refine bel_drw ?_ | with_reducible refine bel_al ?_ | with_reducible refine bel_put ?_ ?_ _ _ | omega))))
        clear hK K
        (try simp only [Act.put, List.setIfInBounds_toArray, List.set_cons_zero, List.set_cons_succ])
        refine wpAnyH_take (i := 9) (oi := { dst := some 28, op := Op.build 24 #[(0, Operand.tmp 20), (1, Operand.tmp 27)], type := 24, pos := "family.go:46", after := #[{ on := 1, ground := Ground.data }, { on := 8, ground := Ground.data }], guard := none }) (v := ?_) rfl (by kernel_rfl) (by kernel_rfl) (by kernel_rfl) (fun _ _ _ h => h) (Or.inl ⟨by rfl, ?_⟩) hHeld ?_
        rotate_left
        · (intro w hSw; (try dsimp only at hSw); go_simp; (try with_reducible rfl))
        (try simp only [Act.put, List.setIfInBounds_toArray, List.set_cons_zero, List.set_cons_succ])
        refine wpAnyH_ready (rs := [11]) (by kernel_rfl) (by simp) ?_
        refine AllReadyH.cons (o := { dst := none, op := Op.store 24 (Operand.tmp 7) (Operand.tmp 28), type := 0, pos := "family.go:46", after := #[{ on := 10, ground := Ground.data }, { on := 9, ground := Ground.data }, { on := 8, ground := Ground.chain }, { on := 0, ground := Ground.phase }, { on := 1, ground := Ground.phase }, { on := 2, ground := Ground.phase }, { on := 3, ground := Ground.phase }, { on := 4, ground := Ground.phase }, { on := 5, ground := Ground.phase }, { on := 6, ground := Ground.phase }, { on := 7, ground := Ground.phase }, { on := 8, ground := Ground.phase }, { on := 9, ground := Ground.phase }, { on := 10, ground := Ground.phase }], guard := none }) rfl (fun K hK => ?_) AllReadyH.nil
        clear hHeld
        go_simp
        refine hK.out _ _ ?_ (fun hHeld => ?_)
        · ((try dsimp only); (with_reducible refine keep20 ?_ hS0; (focus repeat' (first | with_reducible assumption | with_reducible refine bel_drw ?_ | with_reducible refine bel_al ?_ | with_reducible refine bel_put ?_ ?_ _ _ | omega))))
        clear hK K
        (try simp only [Act.put, List.setIfInBounds_toArray, List.set_cons_zero, List.set_cons_succ])
        refine wpAnyH_done (by kernel_rfl) ?_ _
        refine NoPanic.normal ?_
        go_wp2_with fail
        go_meet
        exact laidN_old y2 hl2 tz2 sz
    · skip
      clear hHeld
      go_simp
      refine hK.out _ _ ?_ (fun hHeld => ?_)
      · ((try dsimp only); (with_reducible refine keep20 ?_ hS0; (focus repeat' (first | with_reducible assumption | with_reducible refine bel_drw ?_ | with_reducible refine bel_al ?_ | with_reducible refine bel_put ?_ ?_ _ _ | omega))))
      clear hK K
      (try simp only [Act.put, List.setIfInBounds_toArray, List.set_cons_zero, List.set_cons_succ])
      refine wpAnyH_ready (rs := [4]) (by kernel_rfl) (by simp) ?_
      refine AllReadyH.cons (o := { dst := some 23, op := Op.call { callee := Callee.builtin Builtin.append, args := #[Operand.const (Value.slice none 0 0), Operand.tmp 22], argTypes := #[22, 22] }, type := 22, pos := "family.go:46", after := #[{ on := 3, ground := Ground.data }], guard := none }) rfl (fun K hK => ?_) AllReadyH.nil
      have tz : Two (v4.alloc Zero) v4.heap.size := (Box.new v4 false none 0 0).two
      clear hHeld
      rw [if_pos (by rfl)]
      obtain ⟨v1, x1, hr1, hz1, hg1⟩ := app1 (v4.alloc Zero).drew 22 Aa na ca xa ((l_a4.bel (bel_alloc _ _)).drew)
      refine Lib.wp_append_run _ _ _ _ _ rfl _ _ rfl rfl v1 x1 hr1 ?_
      have yw : Below v4.heap.size v4 (v4.alloc Zero).drew := bel_drw (bel_al y0)
      have y1 : Below v4.heap.size v4 x1 := yw.grown hg1 yw.size (fun k hk => by cases hk)
      have tz1 : Two x1 v4.heap.size := Two.kept (w := (v4.alloc Zero).drew) tz hg1 (fun e => by cases e)
      refine hK.out _ _ ?_ (fun hHeld => ?_)
      · ((try dsimp only); (with_reducible refine keep20 ?_ hS0; (focus repeat' (first | with_reducible assumption | with_reducible refine bel_drw ?_ | with_reducible refine bel_al ?_ | with_reducible refine bel_put ?_ ?_ _ _ | omega))))
      clear hK K
      (try simp only [Act.put, List.setIfInBounds_toArray, List.set_cons_zero, List.set_cons_succ])
      refine wpAnyH_ready (rs := [8]) (by kernel_rfl) (by simp) ?_
      refine AllReadyH.cons (o := { dst := some 27, op := Op.call { callee := Callee.builtin Builtin.append, args := #[Operand.tmp 23, Operand.tmp 26], argTypes := #[22, 3] }, type := 22, pos := "family.go:46", after := #[{ on := 4, ground := Ground.data }, { on := 7, ground := Ground.data }, { on := 4, ground := Ground.chain }], guard := none }) rfl (fun K hK => ?_) AllReadyH.nil
      have hsz : (v4.alloc Zero).drew.heap.size = v4.heap.size + 1 := sz1 _ _
      clear hHeld
      rw [if_pos (by rfl)]
      have yw : Below v4.heap.size v4 x1 := y1
      obtain ⟨v2, x2, hr2, hz2, hg2⟩ := app2 x1 22 _ v1 xa (hz1) k (by omega) HLEN.out.1 (by have h1 := tz1.lt; omega)
      rw [HYS.out] at hz2
      obtain ⟨A2, c2, rfl, hl2⟩ := hz2.lm HLEN.out.2.2 HLEN.out.2.1
      refine Lib.wp_append_run _ _ _ _ _ rfl _ _ rfl rfl _ x2 hr2 ?_
      have y2 : Below v4.heap.size v4 x2 := yw.grown hg2 yw.size (fun j hj => Nat.le_trans (by omega) (hz1.own j hj).1)
      have tz2 := tz1.kept hg2 (fun e => by have h1 := (hz1.own _ e.symm).1; omega)
      have rr := tz2.room.2
      have sz : v4.heap.size ≤ v4.heap.size := Nat.le_refl _
      refine hK.out _ _ ?_ (fun hHeld => ?_)
      · ((try dsimp only); (with_reducible refine keep20 ?_ hS0; (focus repeat' (first | with_reducible assumption | with_reducible refine bel_drw ?_ | with_reducible refine bel_al ?_ | with_reducible refine bel_put ?_ ?_ _ _ | omega))))
      clear hK K
      (try simp only [Act.put, List.setIfInBounds_toArray, List.set_cons_zero, List.set_cons_succ])
      refine wpAnyH_take (i := 9) (oi := { dst := some 28, op := Op.build 24 #[(0, Operand.tmp 20), (1, Operand.tmp 27)], type := 24, pos := "family.go:46", after := #[{ on := 1, ground := Ground.data }, { on := 8, ground := Ground.data }], guard := none }) (v := ?_) rfl (by kernel_rfl) (by kernel_rfl) (by kernel_rfl) (fun _ _ _ h => h) (Or.inl ⟨by rfl, ?_⟩) hHeld ?_
      rotate_left
      · (intro w hSw; (try dsimp only at hSw); go_simp; (try with_reducible rfl))
      (try simp only [Act.put, List.setIfInBounds_toArray, List.set_cons_zero, List.set_cons_succ])
      refine wpAnyH_ready (rs := [11]) (by kernel_rfl) (by simp) ?_
      refine AllReadyH.cons (o := { dst := none, op := Op.store 24 (Operand.tmp 7) (Operand.tmp 28), type := 0, pos := "family.go:46", after := #[{ on := 10, ground := Ground.data }, { on := 9, ground := Ground.data }, { on := 8, ground := Ground.chain }, { on := 0, ground := Ground.phase }, { on := 1, ground := Ground.phase }, { on := 2, ground := Ground.phase }, { on := 3, ground := Ground.phase }, { on := 4, ground := Ground.phase }, { on := 5, ground := Ground.phase }, { on := 6, ground := Ground.phase }, { on := 7, ground := Ground.phase }, { on := 8, ground := Ground.phase }, { on := 9, ground := Ground.phase }, { on := 10, ground := Ground.phase }], guard := none }) rfl (fun K hK => ?_) AllReadyH.nil
      clear hHeld
      go_simp
      refine hK.out _ _ ?_ (fun hHeld => ?_)
      · ((try dsimp only); (with_reducible refine keep20 ?_ hS0; (focus repeat' (first | with_reducible assumption | with_reducible refine bel_drw ?_ | with_reducible refine bel_al ?_ | with_reducible refine bel_put ?_ ?_ _ _ | omega))))
      clear hK K
      (try simp only [Act.put, List.setIfInBounds_toArray, List.set_cons_zero, List.set_cons_succ])
      refine wpAnyH_done (by kernel_rfl) ?_ _
      refine NoPanic.normal ?_
      go_wp2_with fail
      go_meet
      exact laidN_old y2 hl2 tz2 sz
  case rest =>
    obtain ⟨gx, A5, c5, rfl, bx, lx, hgx, hbx⟩ := hcut
    rw [HNX.out] at bx lx
    have b_x5 := bx
    have l_x5 := lx
    clear bx lx
    have b_a5 := b_a4.bel hbx
    have b_b5 := b_b4.bel hbx
    have l_a5 := l_a4.bel hbx
    have l_b5 := l_b4.bel hbx
    have t_T5 := Lib.hid (t_T4.out.bel hbx)
    have t_S5 := Lib.hid (t_S4.out.bel hbx)
    have t_P5 := Lib.hid (t_P4.out.bel hbx)
    have t_F5 := Lib.hid (t_F4.out.bel hbx)
    have bel5 := bel4.trans (hbx.mono bel4.size)
    have c_a0_5 := b_a5.c0
    have c_a1_5 := b_a5.c1
    have c_b0_5 := b_b5.c0
    have c_b1_5 := b_b5.c1
    clear hbx b_a4 c_a0_4 c_a1_4 b_b4 c_b0_4 c_b1_4 l_a4 l_b4 t_T4 t_S4 t_P4 t_F4 bel4
    have c_x0_5 := b_x5.c0
    have c_x1_5 := b_x5.c1
    have et := HET.out
    have wu := HWU.out
    have wi := HWI.out
    have wj : wrap64 (k : Int) = (k : Int) := by rw [← IntWalk.i64_left]; exact wi
    go_upto_region 7 with (at_make; refine wpList_make_u32 _ rfl _ _ rfl .i64 .i64 _ _ k rfl rfl (by clear wi wu wj; omega) (by clear wi wu wj; omega) (by clear wi wu wj; omega) ?_; intro w7 hown hb7 hs7; clear hs7)
    clear et wu wi wj
    obtain ⟨Az, hAz⟩ : ∃ Az : Option Addr, Az = some ⟨wc.heap.size, 0, none⟩ := ⟨_, rfl⟩
    have lz : Lm w7 Az k k (List.replicate k 0) := by
      rw [hAz]
      have h := hown.lm (Ok.zeros k) (by rw [List.length_replicate]; omega)
      rw [List.length_replicate] at h
      exact h
    rw [← hAz]
    clear hown hAz
    have b_a6 := b_a5.bel hb7
    have b_b6 := b_b5.bel hb7
    have b_x6 := b_x5.bel hb7
    have l_a6 := l_a5.bel hb7
    have l_b6 := l_b5.bel hb7
    have l_x6 := l_x5.bel hb7
    have t_T6 := Lib.hid (t_T5.out.bel hb7)
    have t_S6 := Lib.hid (t_S5.out.bel hb7)
    have t_P6 := Lib.hid (t_P5.out.bel hb7)
    have t_F6 := Lib.hid (t_F5.out.bel hb7)
    have bel6 := bel5.trans (hb7.mono bel5.size)
    have c_a0_6 := b_a6.c0
    have c_a1_6 := b_a6.c1
    have c_b0_6 := b_b6.c0
    have c_b1_6 := b_b6.c1
    have c_x0_6 := b_x6.c0
    have c_x1_6 := b_x6.c1
    clear hb7 b_a5 c_a0_5 c_a1_5 b_b5 c_b0_5 c_b1_5 b_x5 c_x0_5 c_x1_5 l_a5 l_b5 l_x5 t_T5 t_S5 t_P5 t_F5 bel5
    obtain ⟨gz, hgz⟩ : ∃ g, g = w7.heap.size := ⟨_, rfl⟩
    obtain ⟨w8, hw8⟩ : ∃ v, v = w7.alloc (.cells #[.bool true, .slice Az k k] 24) := ⟨_, rfl⟩
    have bz : Box w8 gz true Az k k := by rw [hw8, hgz]; exact Box.new _ _ _ _ _
    have hb8 : Below w7.heap.size w7 w8 := by rw [hw8]; exact bel_alloc _ _
    rw [← hw8, ← hgz]
    clear hw8 hgz
    have b_a7 := b_a6.bel hb8
    have b_b7 := b_b6.bel hb8
    have b_x7 := b_x6.bel hb8
    have l_a7 := l_a6.bel hb8
    have l_b7 := l_b6.bel hb8
    have l_x7 := l_x6.bel hb8
    have l_z7 := lz.bel hb8
    have t_T7 := Lib.hid (t_T6.out.bel hb8)
    have t_S7 := Lib.hid (t_S6.out.bel hb8)
    have t_P7 := Lib.hid (t_P6.out.bel hb8)
    have t_F7 := Lib.hid (t_F6.out.bel hb8)
    have bel7 := bel6.trans (hb8.mono bel6.size)
    have c_a0_7 := b_a7.c0
    have c_a1_7 := b_a7.c1
    have c_b0_7 := b_b7.c0
    have c_b1_7 := b_b7.c1
    have c_x0_7 := b_x7.c0
    have c_x1_7 := b_x7.c1
    clear hb8 b_a6 c_a0_6 c_a1_6 b_b6 c_b0_6 c_b1_6 b_x6 c_x0_6 c_x1_6 l_a6 l_b6 l_x6 lz t_T6 t_S6 t_P6 t_F6 bel6
    have b_z7 := bz
    have c_z0_7 := b_z7.c0
    have c_z1_7 := b_z7.c1
    clear bz
    have hS0 := And.intro (held0 b_a7) ( And.intro (held0 b_b7) ( And.intro (held0 b_x7) (held0 b_z7)))
    have y0 : Below w8.heap.size w8 w8 := Below.refl _ _
    refine wp_region_noPanic ?_
    refine wp_region_held_drew (S := (fun w' => (Box w' ga sa Aa na ca ∧ w'.cell? ⟨ga, 0, none⟩ = some (.bool sa) ∧ w'.cell? ⟨ga, 1, none⟩ = some (.slice Aa na ca)) ∧ (Box w' gb sb Ab nb cb ∧ w'.cell? ⟨gb, 0, none⟩ = some (.bool sb) ∧ w'.cell? ⟨gb, 1, none⟩ = some (.slice Ab nb cb)) ∧ (Box w' gx sa A5 nx c5 ∧ w'.cell? ⟨gx, 0, none⟩ = some (.bool sa) ∧ w'.cell? ⟨gx, 1, none⟩ = some (.slice A5 nx c5)) ∧ (Box w' gz true Az k k ∧ w'.cell? ⟨gz, 0, none⟩ = some (.bool true) ∧ w'.cell? ⟨gz, 1, none⟩ = some (.slice Az k k)))) (by kernel_rfl) ?_ (fun hHeld => ?_)
    · ((try dsimp only); (with_reducible refine keep40 ?_ hS0; (focus repeat' (first | with_reducible assumption | with_reducible refine bel_drw ?_ | with_reducible refine bel_al ?_ | with_reducible refine bel_put ?_ ?_ _ _ | omega))))
    refine wpAnyH_take (i := 0) (oi := { dst := some 34, op := Op.load 24 (Operand.tmp 7), type := 24, pos := "family.go:48", after := #[], guard := none }) (v := ?_) rfl (by kernel_rfl) (by kernel_rfl) (by kernel_rfl) (fun _ _ _ h => h) (Or.inl ⟨by rfl, ?_⟩) hHeld ?_
    rotate_left
    · (intro w hSw; (try dsimp only at hSw); go_simp; (try with_reducible rfl))
    (try simp only [Act.put, List.setIfInBounds_toArray, List.set_cons_zero, List.set_cons_succ])
    (try rw [HET.out])
    (try rw [HWU.out])
    (try rw [HKD.out])
    (try rw [HKE.out])
    refine wpAnyH_take (i := 1) (oi := { dst := some 35, op := Op.load 24 (Operand.tmp 4), type := 24, pos := "family.go:48", after := #[], guard := none }) (v := ?_) rfl (by kernel_rfl) (by kernel_rfl) (by kernel_rfl) (fun _ _ _ h => h) (Or.inl ⟨by rfl, ?_⟩) hHeld ?_
    rotate_left
    · (intro w hSw; (try dsimp only at hSw); go_simp; (try with_reducible rfl))
    (try simp only [Act.put, List.setIfInBounds_toArray, List.set_cons_zero, List.set_cons_succ])
    (try rw [HET.out])
    (try rw [HWU.out])
    (try rw [HKD.out])
    (try rw [HKE.out])
    refine wpAnyH_take (i := 3) (oi := { dst := some 37, op := Op.load 24 (Operand.tmp 3), type := 24, pos := "family.go:48", after := #[], guard := none }) (v := ?_) rfl (by kernel_rfl) (by kernel_rfl) (by kernel_rfl) (fun _ _ _ h => h) (Or.inl ⟨by rfl, ?_⟩) hHeld ?_
    rotate_left
    · (intro w hSw; (try dsimp only at hSw); go_simp; (try with_reducible rfl))
    (try simp only [Act.put, List.setIfInBounds_toArray, List.set_cons_zero, List.set_cons_succ])
    (try rw [HET.out])
    (try rw [HWU.out])
    (try rw [HKD.out])
    (try rw [HKE.out])
    refine wpAnyH_take (i := 4) (oi := { dst := some 38, op := Op.load 24 (Operand.tmp 4), type := 24, pos := "family.go:48", after := #[], guard := none }) (v := ?_) rfl (by kernel_rfl) (by kernel_rfl) (by kernel_rfl) (fun _ _ _ h => h) (Or.inl ⟨by rfl, ?_⟩) hHeld ?_
    rotate_left
    · (intro w hSw; (try dsimp only at hSw); go_simp; (try with_reducible rfl))
    (try simp only [Act.put, List.setIfInBounds_toArray, List.set_cons_zero, List.set_cons_succ])
    (try rw [HET.out])
    (try rw [HWU.out])
    (try rw [HKD.out])
    (try rw [HKE.out])
    refine wpAnyH_ready (rs := [2]) (by kernel_rfl) (by simp) ?_
    refine AllReadyH.cons (o := { dst := some 36, op := Op.call { callee := Callee.value (Operand.func 24), args := #[Operand.tmp 34, Operand.tmp 35], argTypes := #[24, 24] }, type := 24, pos := "family.go:48", after := #[{ on := 0, ground := Ground.data }, { on := 1, ground := Ground.data }], guard := none }) rfl (fun K hK => ?_) AllReadyH.nil
    clear hHeld
    go_simp
    go_at_call 24
    refine (wadd_g _ X Y sa A5 nx c5 ys ?_ HXP.out sb Ab nb cb xb ?_ HY.out ?_ ?_ ?_ HSS.out).mono ?_
    (focus repeat' (first | with_reducible exact l_x7 | with_reducible refine Lm.drew ?_ | with_reducible refine Lm.al ?_ _ | with_reducible refine Lm.put ?_ ?_ _ _ | with_reducible assumption))
    (focus repeat' (first | with_reducible exact l_b7 | with_reducible refine Lm.drew ?_ | with_reducible refine Lm.al ?_ _ | with_reducible refine Lm.put ?_ ?_ _ _ | with_reducible assumption))
    (refine t_S7.out.bel ?_; (focus repeat' (first | with_reducible assumption | with_reducible refine bel_drw ?_ | with_reducible refine bel_al ?_ | with_reducible refine bel_put ?_ ?_ _ _ | omega)))
    (have hnn := HNN.out; omega)
    omega
    rintro e x1 ⟨A11, m11, c11, rfl, h11, hm11, e1⟩
    have hc := bel_undrew e1
    have q1 : Below w8.heap.size w8 x1 := hc
    have y1 : Below w8.heap.size w8 x1 := bel_next y0 q1
    have La_1 := l_a7.bel q1
    have Lb_1 := l_b7.bel q1
    have Lx_1 := l_x7.bel q1
    have Lz_1 := l_z7.bel q1
    go_wp2_with fail
    refine hK.out _ _ ?_ (fun hHeld => ?_)
    · ((try dsimp only); (with_reducible refine keep40 ?_ hS0; (focus repeat' (first | with_reducible assumption | with_reducible refine bel_drw ?_ | with_reducible refine bel_al ?_ | with_reducible refine bel_put ?_ ?_ _ _ | omega))))
    clear hK K
    (try simp only [Act.put, List.setIfInBounds_toArray, List.set_cons_zero, List.set_cons_succ])
    (try rw [HET.out])
    (try rw [HWU.out])
    (try rw [HKD.out])
    (try rw [HKE.out])
    refine wpAnyH_ready (rs := [5]) (by kernel_rfl) (by simp) ?_
    refine AllReadyH.cons (o := { dst := some 39, op := Op.call { callee := Callee.value (Operand.func 24), args := #[Operand.tmp 37, Operand.tmp 38], argTypes := #[24, 24] }, type := 24, pos := "family.go:48", after := #[{ on := 3, ground := Ground.data }, { on := 4, ground := Ground.data }, { on := 2, ground := Ground.chain }], guard := none }) rfl (fun K hK => ?_) AllReadyH.nil
    clear hHeld
    go_simp
    go_at_call 24
    refine (wadd_g _ X Y sa Aa na ca xa ?_ HX.out sb Ab nb cb xb ?_ HY.out ?_ ?_ ?_ HSS.out).mono ?_
    (focus repeat' (first | with_reducible exact La_1 | with_reducible refine Lm.drew ?_ | with_reducible refine Lm.al ?_ _ | with_reducible refine Lm.put ?_ ?_ _ _ | with_reducible assumption))
    (focus repeat' (first | with_reducible exact Lb_1 | with_reducible refine Lm.drew ?_ | with_reducible refine Lm.al ?_ _ | with_reducible refine Lm.put ?_ ?_ _ _ | with_reducible assumption))
    (refine t_S7.out.bel ?_; (focus repeat' (first | with_reducible assumption | with_reducible refine bel_drw ?_ | with_reducible refine bel_al ?_ | with_reducible refine bel_put ?_ ?_ _ _ | omega)))
    omega
    omega
    rintro e x2 ⟨A12, m12, c12, rfl, h12, hm12, e2⟩
    have hc := e2
    have q2 : Below x1.heap.size x1 x2 := hc
    have y2 : Below w8.heap.size w8 x2 := bel_next y1 q2
    have La_2 := La_1.bel q2
    have Lb_2 := Lb_1.bel q2
    have Lx_2 := Lx_1.bel q2
    have Lz_2 := Lz_1.bel q2
    have Lu_2 := h11.bel q2
    go_wp2_with fail
    refine hK.out _ _ ?_ (fun hHeld => ?_)
    · ((try dsimp only); (with_reducible refine keep40 ?_ hS0; (focus repeat' (first | with_reducible assumption | with_reducible refine bel_drw ?_ | with_reducible refine bel_al ?_ | with_reducible refine bel_put ?_ ?_ _ _ | omega))))
    clear hK K
    (try simp only [Act.put, List.setIfInBounds_toArray, List.set_cons_zero, List.set_cons_succ])
    (try rw [HET.out])
    (try rw [HWU.out])
    (try rw [HKD.out])
    (try rw [HKE.out])
    refine wpAnyH_ready (rs := [6]) (by kernel_rfl) (by simp) ?_
    refine AllReadyH.cons (o := { dst := some 40, op := Op.call { callee := Callee.value (Operand.func 17), args := #[Operand.tmp 36, Operand.tmp 39], argTypes := #[24, 24] }, type := 4, pos := "family.go:48", after := #[{ on := 2, ground := Ground.data }, { on := 5, ground := Ground.data }, { on := 5, ground := Ground.chain }], guard := none }) rfl (fun K hK => ?_) AllReadyH.nil
    clear hHeld
    go_simp
    go_at_call 17
    refine (rsameZ _ SS SS A11 m11 c11 ?_ A12 m12 c12 ?_ (decide_eq_true rfl)).mono ?_
    (focus repeat' (first | with_reducible exact Lu_2 | with_reducible refine Lm.drew ?_ | with_reducible refine Lm.al ?_ _ | with_reducible refine Lm.put ?_ ?_ _ _ | with_reducible assumption))
    (focus repeat' (first | with_reducible exact h12 | with_reducible refine Lm.drew ?_ | with_reducible refine Lm.al ?_ _ | with_reducible refine Lm.put ?_ ?_ _ _ | with_reducible assumption))
    rintro e x3 ⟨rfl, e3⟩
    have hc := e3
    have q3 : Below x2.heap.size x2 x3 := hc
    have y3 : Below w8.heap.size w8 x3 := bel_next y2 q3
    have La_3 := La_2.bel q3
    have Lb_3 := Lb_2.bel q3
    have Lx_3 := Lx_2.bel q3
    have Lz_3 := Lz_2.bel q3
    go_wp2_with fail
    refine hK.out _ _ ?_ (fun hHeld => ?_)
    · ((try dsimp only); (with_reducible refine keep40 ?_ hS0; (focus repeat' (first | with_reducible assumption | with_reducible refine bel_drw ?_ | with_reducible refine bel_al ?_ | with_reducible refine bel_put ?_ ?_ _ _ | omega))))
    clear hK K
    (try simp only [Act.put, List.setIfInBounds_toArray, List.set_cons_zero, List.set_cons_succ])
    (try rw [HET.out])
    (try rw [HWU.out])
    (try rw [HKD.out])
    (try rw [HKE.out])
    refine wpAnyH_take (i := 7) (oi := { dst := some 41, op := Op.move (Operand.tmp 40), type := 4, pos := "family.go:48", after := #[{ on := 6, ground := Ground.data }, { on := 6, ground := Ground.chain }], guard := none }) (v := ?_) rfl (by kernel_rfl) (by kernel_rfl) (by kernel_rfl) (fun _ _ _ h => h) (Or.inl ⟨by rfl, ?_⟩) hHeld ?_
    rotate_left
    · (intro w hSw; (try dsimp only at hSw); go_simp; (try with_reducible rfl))
    (try simp only [Act.put, List.setIfInBounds_toArray, List.set_cons_zero, List.set_cons_succ])
    (try rw [HET.out])
    (try rw [HWU.out])
    (try rw [HKD.out])
    (try rw [HKE.out])
    refine wpAnyH_take (i := 8) (oi := { dst := some 42, op := Op.load 24 (Operand.tmp 7), type := 24, pos := "family.go:48", after := #[{ on := 7, ground := Ground.guard }], guard := some (7, true) }) (v := ?_) rfl (by kernel_rfl) (by kernel_rfl) (by kernel_rfl) (fun _ _ _ h => h) (Or.inl ⟨by rfl, ?_⟩) hHeld ?_
    rotate_left
    · (intro w hSw; (try dsimp only at hSw); go_simp; (try with_reducible rfl))
    (try simp only [Act.put, List.setIfInBounds_toArray, List.set_cons_zero, List.set_cons_succ])
    (try rw [HET.out])
    (try rw [HWU.out])
    (try rw [HKD.out])
    (try rw [HKE.out])
    refine wpAnyH_take (i := 9) (oi := { dst := some 43, op := Op.load 24 (Operand.tmp 4), type := 24, pos := "family.go:48", after := #[{ on := 7, ground := Ground.guard }], guard := some (7, true) }) (v := ?_) rfl (by kernel_rfl) (by kernel_rfl) (by kernel_rfl) (fun _ _ _ h => h) (Or.inl ⟨by rfl, ?_⟩) hHeld ?_
    rotate_left
    · (intro w hSw; (try dsimp only at hSw); go_simp; (try with_reducible rfl))
    (try simp only [Act.put, List.setIfInBounds_toArray, List.set_cons_zero, List.set_cons_succ])
    (try rw [HET.out])
    (try rw [HWU.out])
    (try rw [HKD.out])
    (try rw [HKE.out])
    refine wpAnyH_take (i := 11) (oi := { dst := some 45, op := Op.load 24 (Operand.tmp 3), type := 24, pos := "family.go:48", after := #[{ on := 7, ground := Ground.guard }], guard := some (7, true) }) (v := ?_) rfl (by kernel_rfl) (by kernel_rfl) (by kernel_rfl) (fun _ _ _ h => h) (Or.inl ⟨by rfl, ?_⟩) hHeld ?_
    rotate_left
    · (intro w hSw; (try dsimp only at hSw); go_simp; (try with_reducible rfl))
    (try simp only [Act.put, List.setIfInBounds_toArray, List.set_cons_zero, List.set_cons_succ])
    (try rw [HET.out])
    (try rw [HWU.out])
    (try rw [HKD.out])
    (try rw [HKE.out])
    refine wpAnyH_take (i := 12) (oi := { dst := some 46, op := Op.load 24 (Operand.tmp 4), type := 24, pos := "family.go:48", after := #[{ on := 7, ground := Ground.guard }], guard := some (7, true) }) (v := ?_) rfl (by kernel_rfl) (by kernel_rfl) (by kernel_rfl) (fun _ _ _ h => h) (Or.inl ⟨by rfl, ?_⟩) hHeld ?_
    rotate_left
    · (intro w hSw; (try dsimp only at hSw); go_simp; (try with_reducible rfl))
    (try simp only [Act.put, List.setIfInBounds_toArray, List.set_cons_zero, List.set_cons_succ])
    (try rw [HET.out])
    (try rw [HWU.out])
    (try rw [HKD.out])
    (try rw [HKE.out])
    refine wpAnyH_ready (rs := [10]) (by kernel_rfl) (by simp) ?_
    refine AllReadyH.cons (o := { dst := some 44, op := Op.call { callee := Callee.value (Operand.func 28), args := #[Operand.tmp 42, Operand.tmp 43], argTypes := #[24, 24] }, type := 24, pos := "family.go:48", after := #[{ on := 8, ground := Ground.data }, { on := 9, ground := Ground.data }, { on := 7, ground := Ground.chain }, { on := 7, ground := Ground.guard }], guard := some (7, true) }) rfl (fun K hK => ?_) AllReadyH.nil
    clear hHeld
    go_simp
    go_at_call 28
    refine (wmul_g _ X Y sa A5 nx c5 ys ?_ HXP.out sb Ab nb cb xb ?_ HY.out ?_ ?_ ?_ HMM.out).mono ?_
    (focus repeat' (first | with_reducible exact Lx_3 | with_reducible refine Lm.drew ?_ | with_reducible refine Lm.al ?_ _ | with_reducible refine Lm.put ?_ ?_ _ _ | with_reducible assumption))
    (focus repeat' (first | with_reducible exact Lb_3 | with_reducible refine Lm.drew ?_ | with_reducible refine Lm.al ?_ _ | with_reducible refine Lm.put ?_ ?_ _ _ | with_reducible assumption))
    (refine t_P7.out.bel ?_; (focus repeat' (first | with_reducible assumption | with_reducible refine bel_drw ?_ | with_reducible refine bel_al ?_ | with_reducible refine bel_put ?_ ?_ _ _ | omega)))
    (have hnn := HNN.out; omega)
    omega
    rintro e x4 ⟨A13, m13, c13, rfl, h13, hm13, e4⟩
    have hc := e4
    have q4 : Below x3.heap.size x3 x4 := hc
    have y4 : Below w8.heap.size w8 x4 := bel_next y3 q4
    have La_4 := La_3.bel q4
    have Lb_4 := Lb_3.bel q4
    have Lx_4 := Lx_3.bel q4
    have Lz_4 := Lz_3.bel q4
    go_wp2_with fail
    refine hK.out _ _ ?_ (fun hHeld => ?_)
    · ((try dsimp only); (with_reducible refine keep40 ?_ hS0; (focus repeat' (first | with_reducible assumption | with_reducible refine bel_drw ?_ | with_reducible refine bel_al ?_ | with_reducible refine bel_put ?_ ?_ _ _ | omega))))
    clear hK K
    (try simp only [Act.put, List.setIfInBounds_toArray, List.set_cons_zero, List.set_cons_succ])
    (try rw [HET.out])
    (try rw [HWU.out])
    (try rw [HKD.out])
    (try rw [HKE.out])
    refine wpAnyH_ready (rs := [13]) (by kernel_rfl) (by simp) ?_
    refine AllReadyH.cons (o := { dst := some 47, op := Op.call { callee := Callee.value (Operand.func 28), args := #[Operand.tmp 45, Operand.tmp 46], argTypes := #[24, 24] }, type := 24, pos := "family.go:48", after := #[{ on := 11, ground := Ground.data }, { on := 12, ground := Ground.data }, { on := 10, ground := Ground.chain }, { on := 7, ground := Ground.guard }], guard := some (7, true) }) rfl (fun K hK => ?_) AllReadyH.nil
    clear hHeld
    go_simp
    go_at_call 28
    refine (wmul_g _ X Y sa Aa na ca xa ?_ HX.out sb Ab nb cb xb ?_ HY.out ?_ ?_ ?_ HMM.out).mono ?_
    (focus repeat' (first | with_reducible exact La_4 | with_reducible refine Lm.drew ?_ | with_reducible refine Lm.al ?_ _ | with_reducible refine Lm.put ?_ ?_ _ _ | with_reducible assumption))
    (focus repeat' (first | with_reducible exact Lb_4 | with_reducible refine Lm.drew ?_ | with_reducible refine Lm.al ?_ _ | with_reducible refine Lm.put ?_ ?_ _ _ | with_reducible assumption))
    (refine t_P7.out.bel ?_; (focus repeat' (first | with_reducible assumption | with_reducible refine bel_drw ?_ | with_reducible refine bel_al ?_ | with_reducible refine bel_put ?_ ?_ _ _ | omega)))
    omega
    omega
    rintro e x5 ⟨A14, m14, c14, rfl, h14, hm14, e5⟩
    have hc := e5
    have q5 : Below x4.heap.size x4 x5 := hc
    have y5 : Below w8.heap.size w8 x5 := bel_next y4 q5
    have La_5 := La_4.bel q5
    have Lb_5 := Lb_4.bel q5
    have Lx_5 := Lx_4.bel q5
    have Lz_5 := Lz_4.bel q5
    have Lu_5 := h13.bel q5
    go_wp2_with fail
    refine hK.out _ _ ?_ (fun hHeld => ?_)
    · ((try dsimp only); (with_reducible refine keep40 ?_ hS0; (focus repeat' (first | with_reducible assumption | with_reducible refine bel_drw ?_ | with_reducible refine bel_al ?_ | with_reducible refine bel_put ?_ ?_ _ _ | omega))))
    clear hK K
    (try simp only [Act.put, List.setIfInBounds_toArray, List.set_cons_zero, List.set_cons_succ])
    (try rw [HET.out])
    (try rw [HWU.out])
    (try rw [HKD.out])
    (try rw [HKE.out])
    refine wpAnyH_ready (rs := [14]) (by kernel_rfl) (by simp) ?_
    refine AllReadyH.cons (o := { dst := some 48, op := Op.call { callee := Callee.value (Operand.func 17), args := #[Operand.tmp 44, Operand.tmp 47], argTypes := #[24, 24] }, type := 4, pos := "family.go:48", after := #[{ on := 10, ground := Ground.data }, { on := 13, ground := Ground.data }, { on := 13, ground := Ground.chain }, { on := 7, ground := Ground.guard }], guard := some (7, true) }) rfl (fun K hK => ?_) AllReadyH.nil
    clear hHeld
    go_simp
    go_at_call 17
    refine (rsameZ _ MM MM A13 m13 c13 ?_ A14 m14 c14 ?_ (decide_eq_true rfl)).mono ?_
    (focus repeat' (first | with_reducible exact Lu_5 | with_reducible refine Lm.drew ?_ | with_reducible refine Lm.al ?_ _ | with_reducible refine Lm.put ?_ ?_ _ _ | with_reducible assumption))
    (focus repeat' (first | with_reducible exact h14 | with_reducible refine Lm.drew ?_ | with_reducible refine Lm.al ?_ _ | with_reducible refine Lm.put ?_ ?_ _ _ | with_reducible assumption))
    rintro e x6 ⟨rfl, e6⟩
    have hc := e6
    have q6 : Below x5.heap.size x5 x6 := hc
    have y6 : Below w8.heap.size w8 x6 := bel_next y5 q6
    have La_6 := La_5.bel q6
    have Lb_6 := Lb_5.bel q6
    have Lx_6 := Lx_5.bel q6
    have Lz_6 := Lz_5.bel q6
    go_wp2_with fail
    refine hK.out _ _ ?_ (fun hHeld => ?_)
    · ((try dsimp only); (with_reducible refine keep40 ?_ hS0; (focus repeat' (first | with_reducible assumption | with_reducible refine bel_drw ?_ | with_reducible refine bel_al ?_ | with_reducible refine bel_put ?_ ?_ _ _ | omega))))
    clear hK K
    (try simp only [Act.put, List.setIfInBounds_toArray, List.set_cons_zero, List.set_cons_succ])
    (try rw [HET.out])
    (try rw [HWU.out])
    (try rw [HKD.out])
    (try rw [HKE.out])
    refine wpAnyH_take (i := 15) (oi := { dst := some 49, op := Op.pick (Operand.tmp 41) (Operand.tmp 48) (Operand.const (Value.bool false)), type := 4, pos := "family.go:48", after := #[{ on := 7, ground := Ground.data }, { on := 14, ground := Ground.data }], guard := none }) (v := ?_) rfl (by kernel_rfl) (by kernel_rfl) (by kernel_rfl) (fun _ _ _ h => h) (Or.inl ⟨by rfl, ?_⟩) hHeld ?_
    rotate_left
    · (intro w hSw; (try dsimp only at hSw); go_simp; (try with_reducible rfl))
    (try simp only [Act.put, List.setIfInBounds_toArray, List.set_cons_zero, List.set_cons_succ])
    (try rw [HET.out])
    (try rw [HWU.out])
    (try rw [HKD.out])
    (try rw [HKE.out])
    refine wpAnyH_take (i := 16) (oi := { dst := some 50, op := Op.move (Operand.tmp 49), type := 4, pos := "family.go:48", after := #[{ on := 15, ground := Ground.data }, { on := 14, ground := Ground.chain }], guard := none }) (v := ?_) rfl (by kernel_rfl) (by kernel_rfl) (by kernel_rfl) (fun _ _ _ h => h) (Or.inl ⟨by rfl, ?_⟩) hHeld ?_
    rotate_left
    · (intro w hSw; (try dsimp only at hSw); go_simp; (try with_reducible rfl))
    (try simp only [Act.put, List.setIfInBounds_toArray, List.set_cons_zero, List.set_cons_succ])
    (try rw [HET.out])
    (try rw [HWU.out])
    (try rw [HKD.out])
    (try rw [HKE.out])
    refine wpAnyH_take (i := 17) (oi := { dst := some 51, op := Op.load 24 (Operand.tmp 7), type := 24, pos := "family.go:48", after := #[{ on := 16, ground := Ground.guard }], guard := some (16, true) }) (v := ?_) rfl (by kernel_rfl) (by kernel_rfl) (by kernel_rfl) (fun _ _ _ h => h) (Or.inl ⟨by rfl, ?_⟩) hHeld ?_
    rotate_left
    · (intro w hSw; (try dsimp only at hSw); go_simp; (try with_reducible rfl))
    (try simp only [Act.put, List.setIfInBounds_toArray, List.set_cons_zero, List.set_cons_succ])
    (try rw [HET.out])
    (try rw [HWU.out])
    (try rw [HKD.out])
    (try rw [HKE.out])
    refine wpAnyH_take (i := 18) (oi := { dst := some 52, op := Op.load 24 (Operand.tmp 3), type := 24, pos := "family.go:48", after := #[{ on := 16, ground := Ground.guard }], guard := some (16, true) }) (v := ?_) rfl (by kernel_rfl) (by kernel_rfl) (by kernel_rfl) (fun _ _ _ h => h) (Or.inl ⟨by rfl, ?_⟩) hHeld ?_
    rotate_left
    · (intro w hSw; (try dsimp only at hSw); go_simp; (try with_reducible rfl))
    (try simp only [Act.put, List.setIfInBounds_toArray, List.set_cons_zero, List.set_cons_succ])
    (try rw [HET.out])
    (try rw [HWU.out])
    (try rw [HKD.out])
    (try rw [HKE.out])
    refine wpAnyH_ready (rs := [19]) (by kernel_rfl) (by simp) ?_
    refine AllReadyH.cons (o := { dst := some 53, op := Op.call { callee := Callee.value (Operand.func 22), args := #[Operand.tmp 51, Operand.tmp 52], argTypes := #[24, 24] }, type := 3, pos := "family.go:48", after := #[{ on := 17, ground := Ground.data }, { on := 18, ground := Ground.data }, { on := 16, ground := Ground.chain }, { on := 16, ground := Ground.guard }], guard := some (16, true) }) rfl (fun K hK => ?_) AllReadyH.nil
    clear hHeld
    go_simp
    go_at_call 22
    refine (wcmp_g _ X X sa A5 nx c5 ys ?_ HXP.out sa Aa na ca xa ?_ HX.out HC0.out).mono ?_
    (focus repeat' (first | with_reducible exact Lx_6 | with_reducible refine Lm.drew ?_ | with_reducible refine Lm.al ?_ _ | with_reducible refine Lm.put ?_ ?_ _ _ | with_reducible assumption))
    (focus repeat' (first | with_reducible exact La_6 | with_reducible refine Lm.drew ?_ | with_reducible refine Lm.al ?_ _ | with_reducible refine Lm.put ?_ ?_ _ _ | with_reducible assumption))
    rintro e x7 ⟨rfl, e7⟩
    have hc := e7
    have q7 : Below x6.heap.size x6 x7 := hc
    have y7 : Below w8.heap.size w8 x7 := bel_next y6 q7
    have La_7 := La_6.bel q7
    have Lb_7 := Lb_6.bel q7
    have Lx_7 := Lx_6.bel q7
    have Lz_7 := Lz_6.bel q7
    go_wp2_with fail
    refine hK.out _ _ ?_ (fun hHeld => ?_)
    · ((try dsimp only); (with_reducible refine keep40 ?_ hS0; (focus repeat' (first | with_reducible assumption | with_reducible refine bel_drw ?_ | with_reducible refine bel_al ?_ | with_reducible refine bel_put ?_ ?_ _ _ | omega))))
    clear hK K
    (try simp only [Act.put, List.setIfInBounds_toArray, List.set_cons_zero, List.set_cons_succ])
    (try rw [HET.out])
    (try rw [HWU.out])
    (try rw [HKD.out])
    (try rw [HKE.out])
    refine wpAnyH_take (i := 20) (oi := { dst := some 54, op := Op.binOp BinOp.eql 3 (Operand.tmp 53) (Operand.const (Value.int IntKind.i64 0)) 3, type := 4, pos := "family.go:48", after := #[{ on := 19, ground := Ground.data }, { on := 16, ground := Ground.guard }], guard := some (16, true) }) (v := ?_) rfl (by kernel_rfl) (by kernel_rfl) (by kernel_rfl) (fun _ _ _ h => h) (Or.inl ⟨by rfl, ?_⟩) hHeld ?_
    rotate_left
    · (intro w hSw; (try dsimp only at hSw); go_simp; (try with_reducible rfl))
    (try simp only [Act.put, List.setIfInBounds_toArray, List.set_cons_zero, List.set_cons_succ])
    (try rw [HET.out])
    (try rw [HWU.out])
    (try rw [HKD.out])
    (try rw [HKE.out])
    refine wpAnyH_take (i := 21) (oi := { dst := some 55, op := Op.pick (Operand.tmp 50) (Operand.tmp 54) (Operand.const (Value.bool false)), type := 4, pos := "family.go:48", after := #[{ on := 16, ground := Ground.data }, { on := 20, ground := Ground.data }], guard := none }) (v := ?_) rfl (by kernel_rfl) (by kernel_rfl) (by kernel_rfl) (fun _ _ _ h => h) (Or.inl ⟨by rfl, ?_⟩) hHeld ?_
    rotate_left
    · (intro w hSw; (try dsimp only at hSw); go_simp; (try with_reducible rfl))
    (try simp only [Act.put, List.setIfInBounds_toArray, List.set_cons_zero, List.set_cons_succ])
    (try rw [HET.out])
    (try rw [HWU.out])
    (try rw [HKD.out])
    (try rw [HKE.out])
    refine wpAnyH_take (i := 22) (oi := { dst := some 56, op := Op.move (Operand.tmp 55), type := 4, pos := "family.go:48", after := #[{ on := 21, ground := Ground.data }, { on := 19, ground := Ground.chain }], guard := none }) (v := ?_) rfl (by kernel_rfl) (by kernel_rfl) (by kernel_rfl) (fun _ _ _ h => h) (Or.inl ⟨by rfl, ?_⟩) hHeld ?_
    rotate_left
    · (intro w hSw; (try dsimp only at hSw); go_simp; (try with_reducible rfl))
    (try simp only [Act.put, List.setIfInBounds_toArray, List.set_cons_zero, List.set_cons_succ])
    (try rw [HET.out])
    (try rw [HWU.out])
    (try rw [HKD.out])
    (try rw [HKE.out])
    refine wpAnyH_take (i := 23) (oi := { dst := some 57, op := Op.load 24 (Operand.tmp 8), type := 24, pos := "family.go:48", after := #[{ on := 22, ground := Ground.guard }], guard := some (22, true) }) (v := ?_) rfl (by kernel_rfl) (by kernel_rfl) (by kernel_rfl) (fun _ _ _ h => h) (Or.inl ⟨by rfl, ?_⟩) hHeld ?_
    rotate_left
    · (intro w hSw; (try dsimp only at hSw); go_simp; (try with_reducible rfl))
    (try simp only [Act.put, List.setIfInBounds_toArray, List.set_cons_zero, List.set_cons_succ])
    (try rw [HET.out])
    (try rw [HWU.out])
    (try rw [HKD.out])
    (try rw [HKE.out])
    refine wpAnyH_ready (rs := [24]) (by kernel_rfl) (by simp) ?_
    refine AllReadyH.cons (o := { dst := some 58, op := Op.call { callee := Callee.value (Operand.func 20), args := #[Operand.tmp 57], argTypes := #[24] }, type := 3, pos := "family.go:48", after := #[{ on := 23, ground := Ground.data }, { on := 22, ground := Ground.chain }, { on := 22, ground := Ground.guard }], guard := some (22, true) }) rfl (fun K hK => ?_) AllReadyH.nil
    clear hHeld
    go_simp
    go_at_call 20
    refine (wsign_g _ O true Az k k _ ?_ HO1.out HO2.out).mono ?_
    (focus repeat' (first | with_reducible exact Lz_7 | with_reducible refine Lm.drew ?_ | with_reducible refine Lm.al ?_ _ | with_reducible refine Lm.put ?_ ?_ _ _ | with_reducible assumption))
    rintro e x8 ⟨rfl, e8⟩
    have hc := e8
    have q8 : Below x7.heap.size x7 x8 := hc
    have y8 : Below w8.heap.size w8 x8 := bel_next y7 q8
    have La_8 := La_7.bel q8
    have Lb_8 := Lb_7.bel q8
    have Lx_8 := Lx_7.bel q8
    have Lz_8 := Lz_7.bel q8
    go_wp2_with fail
    refine hK.out _ _ ?_ (fun hHeld => ?_)
    · ((try dsimp only); (with_reducible refine keep40 ?_ hS0; (focus repeat' (first | with_reducible assumption | with_reducible refine bel_drw ?_ | with_reducible refine bel_al ?_ | with_reducible refine bel_put ?_ ?_ _ _ | omega))))
    clear hK K
    (try simp only [Act.put, List.setIfInBounds_toArray, List.set_cons_zero, List.set_cons_succ])
    (try rw [HET.out])
    (try rw [HWU.out])
    (try rw [HKD.out])
    (try rw [HKE.out])
    refine wpAnyH_take (i := 25) (oi := { dst := some 59, op := Op.binOp BinOp.eql 3 (Operand.tmp 58) (Operand.const (Value.int IntKind.i64 0)) 3, type := 4, pos := "family.go:48", after := #[{ on := 24, ground := Ground.data }, { on := 22, ground := Ground.guard }], guard := some (22, true) }) (v := ?_) rfl (by kernel_rfl) (by kernel_rfl) (by kernel_rfl) (fun _ _ _ h => h) (Or.inl ⟨by rfl, ?_⟩) hHeld ?_
    rotate_left
    · (intro w hSw; (try dsimp only at hSw); go_simp; (try with_reducible rfl))
    (try simp only [Act.put, List.setIfInBounds_toArray, List.set_cons_zero, List.set_cons_succ])
    (try rw [HET.out])
    (try rw [HWU.out])
    (try rw [HKD.out])
    (try rw [HKE.out])
    refine wpAnyH_take (i := 26) (oi := { dst := some 60, op := Op.pick (Operand.tmp 56) (Operand.tmp 59) (Operand.const (Value.bool false)), type := 4, pos := "family.go:48", after := #[{ on := 22, ground := Ground.data }, { on := 25, ground := Ground.data }], guard := none }) (v := ?_) rfl (by kernel_rfl) (by kernel_rfl) (by kernel_rfl) (fun _ _ _ h => h) (Or.inl ⟨by rfl, ?_⟩) hHeld ?_
    rotate_left
    · (intro w hSw; (try dsimp only at hSw); go_simp; (try with_reducible rfl))
    (try simp only [Act.put, List.setIfInBounds_toArray, List.set_cons_zero, List.set_cons_succ])
    (try rw [HET.out])
    (try rw [HWU.out])
    (try rw [HKD.out])
    (try rw [HKE.out])
    refine wpAnyH_take (i := 27) (oi := { dst := some 61, op := Op.move (Operand.tmp 60), type := 4, pos := "family.go:48", after := #[{ on := 26, ground := Ground.data }, { on := 24, ground := Ground.chain }], guard := none }) (v := ?_) rfl (by kernel_rfl) (by kernel_rfl) (by kernel_rfl) (fun _ _ _ h => h) (Or.inl ⟨by rfl, ?_⟩) hHeld ?_
    rotate_left
    · (intro w hSw; (try dsimp only at hSw); go_simp; (try with_reducible rfl))
    (try simp only [Act.put, List.setIfInBounds_toArray, List.set_cons_zero, List.set_cons_succ])
    (try rw [HET.out])
    (try rw [HWU.out])
    (try rw [HKD.out])
    (try rw [HKE.out])
    refine wpAnyH_take (i := 28) (oi := { dst := some 62, op := Op.load 24 (Operand.tmp 8), type := 24, pos := "family.go:48", after := #[{ on := 27, ground := Ground.guard }], guard := some (27, true) }) (v := ?_) rfl (by kernel_rfl) (by kernel_rfl) (by kernel_rfl) (fun _ _ _ h => h) (Or.inl ⟨by rfl, ?_⟩) hHeld ?_
    rotate_left
    · (intro w hSw; (try dsimp only at hSw); go_simp; (try with_reducible rfl))
    (try simp only [Act.put, List.setIfInBounds_toArray, List.set_cons_zero, List.set_cons_succ])
    (try rw [HET.out])
    (try rw [HWU.out])
    (try rw [HKD.out])
    (try rw [HKE.out])
    refine wpAnyH_take (i := 29) (oi := { dst := some 63, op := Op.load 24 (Operand.tmp 3), type := 24, pos := "family.go:48", after := #[{ on := 27, ground := Ground.guard }], guard := some (27, true) }) (v := ?_) rfl (by kernel_rfl) (by kernel_rfl) (by kernel_rfl) (fun _ _ _ h => h) (Or.inl ⟨by rfl, ?_⟩) hHeld ?_
    rotate_left
    · (intro w hSw; (try dsimp only at hSw); go_simp; (try with_reducible rfl))
    (try simp only [Act.put, List.setIfInBounds_toArray, List.set_cons_zero, List.set_cons_succ])
    (try rw [HET.out])
    (try rw [HWU.out])
    (try rw [HKD.out])
    (try rw [HKE.out])
    refine wpAnyH_take (i := 31) (oi := { dst := some 65, op := Op.load 24 (Operand.tmp 3), type := 24, pos := "family.go:48", after := #[{ on := 27, ground := Ground.guard }], guard := some (27, true) }) (v := ?_) rfl (by kernel_rfl) (by kernel_rfl) (by kernel_rfl) (fun _ _ _ h => h) (Or.inl ⟨by rfl, ?_⟩) hHeld ?_
    rotate_left
    · (intro w hSw; (try dsimp only at hSw); go_simp; (try with_reducible rfl))
    (try simp only [Act.put, List.setIfInBounds_toArray, List.set_cons_zero, List.set_cons_succ])
    (try rw [HET.out])
    (try rw [HWU.out])
    (try rw [HKD.out])
    (try rw [HKE.out])
    refine wpAnyH_ready (rs := [30]) (by kernel_rfl) (by simp) ?_
    refine AllReadyH.cons (o := { dst := some 64, op := Op.call { callee := Callee.value (Operand.func 24), args := #[Operand.tmp 62, Operand.tmp 63], argTypes := #[24, 24] }, type := 24, pos := "family.go:48", after := #[{ on := 28, ground := Ground.data }, { on := 29, ground := Ground.data }, { on := 27, ground := Ground.chain }, { on := 27, ground := Ground.guard }], guard := some (27, true) }) rfl (fun K hK => ?_) AllReadyH.nil
    clear hHeld
    go_simp
    go_at_call 24
    refine (wadd_g _ O X true Az k k _ ?_ HO1.out sa Aa na ca xa ?_ HX.out ?_ ?_ ?_ HO3.out).mono ?_
    (focus repeat' (first | with_reducible exact Lz_8 | with_reducible refine Lm.drew ?_ | with_reducible refine Lm.al ?_ _ | with_reducible refine Lm.put ?_ ?_ _ _ | with_reducible assumption))
    (focus repeat' (first | with_reducible exact La_8 | with_reducible refine Lm.drew ?_ | with_reducible refine Lm.al ?_ _ | with_reducible refine Lm.put ?_ ?_ _ _ | with_reducible assumption))
    (refine t_S7.out.bel ?_; (focus repeat' (first | with_reducible assumption | with_reducible refine bel_drw ?_ | with_reducible refine bel_al ?_ | with_reducible refine bel_put ?_ ?_ _ _ | omega)))
    omega
    omega
    rintro e x9 ⟨A15, m15, c15, rfl, h15, hm15, e9⟩
    have hc := e9
    have q9 : Below x8.heap.size x8 x9 := hc
    have y9 : Below w8.heap.size w8 x9 := bel_next y8 q9
    have La_9 := La_8.bel q9
    have Lb_9 := Lb_8.bel q9
    have Lx_9 := Lx_8.bel q9
    have Lz_9 := Lz_8.bel q9
    go_wp2_with fail
    refine hK.out _ _ ?_ (fun hHeld => ?_)
    · ((try dsimp only); (with_reducible refine keep40 ?_ hS0; (focus repeat' (first | with_reducible assumption | with_reducible refine bel_drw ?_ | with_reducible refine bel_al ?_ | with_reducible refine bel_put ?_ ?_ _ _ | omega))))
    clear hK K
    (try simp only [Act.put, List.setIfInBounds_toArray, List.set_cons_zero, List.set_cons_succ])
    (try rw [HET.out])
    (try rw [HWU.out])
    (try rw [HKD.out])
    (try rw [HKE.out])
    refine wpAnyH_ready (rs := [32]) (by kernel_rfl) (by simp) ?_
    refine AllReadyH.cons (o := { dst := some 66, op := Op.call { callee := Callee.value (Operand.func 18), args := #[Operand.tmp 65], argTypes := #[24] }, type := 24, pos := "family.go:48", after := #[{ on := 31, ground := Ground.data }, { on := 30, ground := Ground.chain }, { on := 27, ground := Ground.guard }], guard := some (27, true) }) rfl (fun K hK => ?_) AllReadyH.nil
    clear hHeld
    go_simp
    go_at_call 18
    refine (wnorm_g _ X sa Aa na ca xa ?_ HX.out).mono ?_
    (focus repeat' (first | with_reducible exact La_9 | with_reducible refine Lm.drew ?_ | with_reducible refine Lm.al ?_ _ | with_reducible refine Lm.put ?_ ?_ _ _ | with_reducible assumption))
    rintro e x10 ⟨A16, m16, c16, rfl, h16, hm16, e10⟩
    have hc := e10
    have q10 : Below x9.heap.size x9 x10 := hc
    have y10 : Below w8.heap.size w8 x10 := bel_next y9 q10
    have La_10 := La_9.bel q10
    have Lb_10 := Lb_9.bel q10
    have Lx_10 := Lx_9.bel q10
    have Lz_10 := Lz_9.bel q10
    have Lu_10 := h15.bel q10
    go_wp2_with fail
    refine hK.out _ _ ?_ (fun hHeld => ?_)
    · ((try dsimp only); (with_reducible refine keep40 ?_ hS0; (focus repeat' (first | with_reducible assumption | with_reducible refine bel_drw ?_ | with_reducible refine bel_al ?_ | with_reducible refine bel_put ?_ ?_ _ _ | omega))))
    clear hK K
    (try simp only [Act.put, List.setIfInBounds_toArray, List.set_cons_zero, List.set_cons_succ])
    (try rw [HET.out])
    (try rw [HWU.out])
    (try rw [HKD.out])
    (try rw [HKE.out])
    refine wpAnyH_ready (rs := [33]) (by kernel_rfl) (by simp) ?_
    refine AllReadyH.cons (o := { dst := some 67, op := Op.call { callee := Callee.value (Operand.func 17), args := #[Operand.tmp 64, Operand.tmp 66], argTypes := #[24, 24] }, type := 4, pos := "family.go:48", after := #[{ on := 30, ground := Ground.data }, { on := 32, ground := Ground.data }, { on := 32, ground := Ground.chain }, { on := 27, ground := Ground.guard }], guard := some (27, true) }) rfl (fun K hK => ?_) AllReadyH.nil
    clear hHeld
    go_simp
    go_at_call 17
    refine (rsameZ _ X X A15 m15 c15 ?_ A16 m16 c16 ?_ (decide_eq_true rfl)).mono ?_
    (focus repeat' (first | with_reducible exact Lu_10 | with_reducible refine Lm.drew ?_ | with_reducible refine Lm.al ?_ _ | with_reducible refine Lm.put ?_ ?_ _ _ | with_reducible assumption))
    (focus repeat' (first | with_reducible exact h16 | with_reducible refine Lm.drew ?_ | with_reducible refine Lm.al ?_ _ | with_reducible refine Lm.put ?_ ?_ _ _ | with_reducible assumption))
    rintro e x11 ⟨rfl, e11⟩
    have hc := e11
    have q11 : Below x10.heap.size x10 x11 := hc
    have y11 : Below w8.heap.size w8 x11 := bel_next y10 q11
    have La_11 := La_10.bel q11
    have Lb_11 := Lb_10.bel q11
    have Lx_11 := Lx_10.bel q11
    have Lz_11 := Lz_10.bel q11
    go_wp2_with fail
    refine hK.out _ _ ?_ (fun hHeld => ?_)
    · ((try dsimp only); (with_reducible refine keep40 ?_ hS0; (focus repeat' (first | with_reducible assumption | with_reducible refine bel_drw ?_ | with_reducible refine bel_al ?_ | with_reducible refine bel_put ?_ ?_ _ _ | omega))))
    clear hK K
    (try simp only [Act.put, List.setIfInBounds_toArray, List.set_cons_zero, List.set_cons_succ])
    (try rw [HET.out])
    (try rw [HWU.out])
    (try rw [HKD.out])
    (try rw [HKE.out])
    refine wpAnyH_take (i := 34) (oi := { dst := some 68, op := Op.pick (Operand.tmp 61) (Operand.tmp 67) (Operand.const (Value.bool false)), type := 4, pos := "family.go:48", after := #[{ on := 27, ground := Ground.data }, { on := 33, ground := Ground.data }], guard := none }) (v := ?_) rfl (by kernel_rfl) (by kernel_rfl) (by kernel_rfl) (fun _ _ _ h => h) (Or.inl ⟨by rfl, ?_⟩) hHeld ?_
    rotate_left
    · (intro w hSw; (try dsimp only at hSw); go_simp; (try with_reducible rfl))
    (try simp only [Act.put, List.setIfInBounds_toArray, List.set_cons_zero, List.set_cons_succ])
    (try rw [HET.out])
    (try rw [HWU.out])
    (try rw [HKD.out])
    (try rw [HKE.out])
    refine wpAnyH_take (i := 35) (oi := { dst := some 69, op := Op.move (Operand.tmp 68), type := 4, pos := "family.go:48", after := #[{ on := 34, ground := Ground.data }, { on := 33, ground := Ground.chain }], guard := none }) (v := ?_) rfl (by kernel_rfl) (by kernel_rfl) (by kernel_rfl) (fun _ _ _ h => h) (Or.inl ⟨by rfl, ?_⟩) hHeld ?_
    rotate_left
    · (intro w hSw; (try dsimp only at hSw); go_simp; (try with_reducible rfl))
    (try simp only [Act.put, List.setIfInBounds_toArray, List.set_cons_zero, List.set_cons_succ])
    (try rw [HET.out])
    (try rw [HWU.out])
    (try rw [HKD.out])
    (try rw [HKE.out])
    refine wpAnyH_take (i := 36) (oi := { dst := some 70, op := Op.load 24 (Operand.tmp 7), type := 24, pos := "family.go:48", after := #[{ on := 35, ground := Ground.guard }], guard := some (35, true) }) (v := ?_) rfl (by kernel_rfl) (by kernel_rfl) (by kernel_rfl) (fun _ _ _ h => h) (Or.inl ⟨by rfl, ?_⟩) hHeld ?_
    rotate_left
    · (intro w hSw; (try dsimp only at hSw); go_simp; (try with_reducible rfl))
    (try simp only [Act.put, List.setIfInBounds_toArray, List.set_cons_zero, List.set_cons_succ])
    (try rw [HET.out])
    (try rw [HWU.out])
    (try rw [HKD.out])
    (try rw [HKE.out])
    refine wpAnyH_ready (rs := [37]) (by kernel_rfl) (by simp) ?_
    refine AllReadyH.cons (o := { dst := some 71, op := Op.call { callee := Callee.value (Operand.func 18), args := #[Operand.tmp 70], argTypes := #[24] }, type := 24, pos := "family.go:48", after := #[{ on := 36, ground := Ground.data }, { on := 35, ground := Ground.chain }, { on := 35, ground := Ground.guard }], guard := some (35, true) }) rfl (fun K hK => ?_) AllReadyH.nil
    clear hHeld
    go_simp
    go_at_call 18
    refine (wnorm_g _ X sa A5 nx c5 ys ?_ HXP.out).mono ?_
    (focus repeat' (first | with_reducible exact Lx_11 | with_reducible refine Lm.drew ?_ | with_reducible refine Lm.al ?_ _ | with_reducible refine Lm.put ?_ ?_ _ _ | with_reducible assumption))
    rintro e x12 ⟨A17, m17, c17, rfl, h17, hm17, e12⟩
    have hc := e12
    have q12 : Below x11.heap.size x11 x12 := hc
    have y12 : Below w8.heap.size w8 x12 := bel_next y11 q12
    have La_12 := La_11.bel q12
    have Lb_12 := Lb_11.bel q12
    have Lx_12 := Lx_11.bel q12
    have Lz_12 := Lz_11.bel q12
    go_wp2_with fail
    refine hK.out _ _ ?_ (fun hHeld => ?_)
    · ((try dsimp only); (with_reducible refine keep40 ?_ hS0; (focus repeat' (first | with_reducible assumption | with_reducible refine bel_drw ?_ | with_reducible refine bel_al ?_ | with_reducible refine bel_put ?_ ?_ _ _ | omega))))
    clear hK K
    (try simp only [Act.put, List.setIfInBounds_toArray, List.set_cons_zero, List.set_cons_succ])
    (try rw [HET.out])
    (try rw [HWU.out])
    (try rw [HKD.out])
    (try rw [HKE.out])
    refine wpAnyH_ready (rs := [38]) (by kernel_rfl) (by simp) ?_
    refine AllReadyH.cons (o := { dst := some 72, op := Op.call { callee := Callee.value (Operand.func 15), args := #[Operand.tmp 71], argTypes := #[24] }, type := 4, pos := "family.go:48", after := #[{ on := 37, ground := Ground.data }, { on := 37, ground := Ground.chain }, { on := 35, ground := Ground.guard }], guard := some (35, true) }) rfl (fun K hK => ?_) AllReadyH.nil
    clear hHeld
    go_simp
    go_at_call 15
    refine (wis_lim _ X A17 m17 c17 ?_).mono ?_
    (focus repeat' (first | with_reducible exact h17 | with_reducible refine Lm.drew ?_ | with_reducible refine Lm.al ?_ _ | with_reducible refine Lm.put ?_ ?_ _ _ | with_reducible assumption))
    rintro e x13 ⟨rfl, e13⟩
    have hc := e13
    have q13 : Below x12.heap.size x12 x13 := hc
    have y13 : Below w8.heap.size w8 x13 := bel_next y12 q13
    have La_13 := La_12.bel q13
    have Lb_13 := Lb_12.bel q13
    have Lx_13 := Lx_12.bel q13
    have Lz_13 := Lz_12.bel q13
    go_wp2_with fail
    refine hK.out _ _ ?_ (fun hHeld => ?_)
    · ((try dsimp only); (with_reducible refine keep40 ?_ hS0; (focus repeat' (first | with_reducible assumption | with_reducible refine bel_drw ?_ | with_reducible refine bel_al ?_ | with_reducible refine bel_put ?_ ?_ _ _ | omega))))
    clear hK K
    (try simp only [Act.put, List.setIfInBounds_toArray, List.set_cons_zero, List.set_cons_succ])
    (try rw [HET.out])
    (try rw [HWU.out])
    (try rw [HKD.out])
    (try rw [HKE.out])
    refine wpAnyH_take (i := 39) (oi := { dst := some 73, op := Op.pick (Operand.tmp 69) (Operand.tmp 72) (Operand.const (Value.bool false)), type := 4, pos := "family.go:48", after := #[{ on := 35, ground := Ground.data }, { on := 38, ground := Ground.data }], guard := none }) (v := ?_) rfl (by kernel_rfl) (by kernel_rfl) (by kernel_rfl) (fun _ _ _ h => h) (Or.inl ⟨by rfl, ?_⟩) hHeld ?_
    rotate_left
    · (intro w hSw; (try dsimp only at hSw); go_simp; (try with_reducible rfl))
    (try simp only [Act.put, List.setIfInBounds_toArray, List.set_cons_zero, List.set_cons_succ])
    (try rw [HET.out])
    (try rw [HWU.out])
    (try rw [HKD.out])
    (try rw [HKE.out])
    refine wpAnyH_take (i := 40) (oi := { dst := some 74, op := Op.move (Operand.tmp 73), type := 4, pos := "family.go:48", after := #[{ on := 39, ground := Ground.data }, { on := 38, ground := Ground.chain }], guard := none }) (v := ?_) rfl (by kernel_rfl) (by kernel_rfl) (by kernel_rfl) (fun _ _ _ h => h) (Or.inl ⟨by rfl, ?_⟩) hHeld ?_
    rotate_left
    · (intro w hSw; (try dsimp only at hSw); go_simp; (try with_reducible rfl))
    (try simp only [Act.put, List.setIfInBounds_toArray, List.set_cons_zero, List.set_cons_succ])
    (try rw [HET.out])
    (try rw [HWU.out])
    (try rw [HKD.out])
    (try rw [HKE.out])
    refine wpAnyH_take (i := 41) (oi := { dst := some 75, op := Op.move (Operand.tmp 2), type := 5, pos := "family.go:48", after := #[{ on := 40, ground := Ground.guard }], guard := some (40, true) }) (v := ?_) rfl (by kernel_rfl) (by kernel_rfl) (by kernel_rfl) (fun _ _ _ h => h) (Or.inl ⟨by rfl, ?_⟩) hHeld ?_
    rotate_left
    · (intro w hSw; (try dsimp only at hSw); go_simp; (try with_reducible rfl))
    (try simp only [Act.put, List.setIfInBounds_toArray, List.set_cons_zero, List.set_cons_succ])
    (try rw [HET.out])
    (try rw [HWU.out])
    (try rw [HKD.out])
    (try rw [HKE.out])
    refine wpAnyH_take (i := 42) (oi := { dst := some 76, op := Op.binOp BinOp.rem 5 (Operand.tmp 75) (Operand.const (Value.int IntKind.u8 4)) 5, type := 5, pos := "family.go:48", after := #[{ on := 41, ground := Ground.data }, { on := 40, ground := Ground.guard }], guard := some (40, true) }) (v := ?_) rfl (by kernel_rfl) (by kernel_rfl) (by kernel_rfl) (fun _ _ _ h => h) (Or.inl ⟨by rfl, ?_⟩) hHeld ?_
    rotate_left
    · (intro w hSw; (try dsimp only at hSw); go_simp; (try with_reducible rfl))
    (try simp only [Act.put, List.setIfInBounds_toArray, List.set_cons_zero, List.set_cons_succ])
    (try rw [HET.out])
    (try rw [HWU.out])
    (try rw [HKD.out])
    (try rw [HKE.out])
    refine wpAnyH_take (i := 43) (oi := { dst := some 77, op := Op.binOp BinOp.eql 5 (Operand.tmp 76) (Operand.const (Value.int IntKind.u8 0)) 5, type := 4, pos := "family.go:48", after := #[{ on := 42, ground := Ground.data }, { on := 40, ground := Ground.guard }], guard := some (40, true) }) (v := ?_) rfl (by kernel_rfl) (by kernel_rfl) (by kernel_rfl) (fun _ _ _ h => h) (Or.inl ⟨by rfl, ?_⟩) hHeld ?_
    rotate_left
    · (intro w hSw; (try dsimp only at hSw); go_simp; (try with_reducible rfl))
    (try simp only [Act.put, List.setIfInBounds_toArray, List.set_cons_zero, List.set_cons_succ])
    (try rw [HET.out])
    (try rw [HWU.out])
    (try rw [HKD.out])
    (try rw [HKE.out])
    refine wpAnyH_take (i := 44) (oi := { dst := some 78, op := Op.move (Operand.tmp 77), type := 4, pos := "family.go:48", after := #[{ on := 43, ground := Ground.data }, { on := 40, ground := Ground.chain }, { on := 40, ground := Ground.guard }], guard := some (40, true) }) (v := ?_) rfl (by kernel_rfl) (by kernel_rfl) (by kernel_rfl) (fun _ _ _ h => h) (Or.inl ⟨by rfl, ?_⟩) hHeld ?_
    rotate_left
    · (intro w hSw; (try dsimp only at hSw); go_simp; (try with_reducible rfl))
    (try simp only [Act.put, List.setIfInBounds_toArray, List.set_cons_zero, List.set_cons_succ])
    (try rw [HET.out])
    (try rw [HWU.out])
    (try rw [HKD.out])
    (try rw [HKE.out])
    refine wpAnyH_take (i := 45) (oi := { dst := some 79, op := Op.load 24 (Operand.tmp 7), type := 24, pos := "family.go:48", after := #[{ on := 44, ground := Ground.guard }], guard := some (44, false) }) (v := ?_) rfl (by kernel_rfl) (by kernel_rfl) (by kernel_rfl) (fun _ _ _ h => h) (Or.inl ⟨by rfl, ?_⟩) hHeld ?_
    rotate_left
    · (intro w hSw; (try dsimp only at hSw); go_simp; (try with_reducible rfl))
    (try simp only [Act.put, List.setIfInBounds_toArray, List.set_cons_zero, List.set_cons_succ])
    (try rw [HET.out])
    (try rw [HWU.out])
    (try rw [HKD.out])
    (try rw [HKE.out])
    refine wpAnyH_ready (rs := [46]) (by kernel_rfl) (by simp) ?_
    refine AllReadyH.cons (o := { dst := some 80, op := Op.call { callee := Callee.value (Operand.func 15), args := #[Operand.tmp 79], argTypes := #[24] }, type := 4, pos := "family.go:48", after := #[{ on := 45, ground := Ground.data }, { on := 44, ground := Ground.chain }, { on := 44, ground := Ground.guard }], guard := some (44, false) }) rfl (fun K hK => ?_) AllReadyH.nil
    clear hHeld
    go_simp
    go_at_call 15
    refine (wis_q _ sa A5 nx c5 ys ?_ HNI.out).mono ?_
    (focus repeat' (first | with_reducible exact Lx_13 | with_reducible refine Lm.drew ?_ | with_reducible refine Lm.al ?_ _ | with_reducible refine Lm.put ?_ ?_ _ _ | with_reducible assumption))
    rintro e x14 ⟨rfl, e14⟩
    have hc := e14
    have q14 : Below x13.heap.size x13 x14 := hc
    have y14 : Below w8.heap.size w8 x14 := bel_next y13 q14
    have La_14 := La_13.bel q14
    have Lb_14 := Lb_13.bel q14
    have Lx_14 := Lx_13.bel q14
    have Lz_14 := Lz_13.bel q14
    go_wp2_with fail
    refine hK.out _ _ ?_ (fun hHeld => ?_)
    · ((try dsimp only); (with_reducible refine keep40 ?_ hS0; (focus repeat' (first | with_reducible assumption | with_reducible refine bel_drw ?_ | with_reducible refine bel_al ?_ | with_reducible refine bel_put ?_ ?_ _ _ | omega))))
    clear hK K
    (try simp only [Act.put, List.setIfInBounds_toArray, List.set_cons_zero, List.set_cons_succ])
    (try rw [HET.out])
    (try rw [HWU.out])
    (try rw [HKD.out])
    (try rw [HKE.out])
    refine wpAnyH_take (i := 47) (oi := { dst := some 81, op := Op.unOp UnOp.not 4 (Operand.tmp 80), type := 4, pos := "family.go:48", after := #[{ on := 46, ground := Ground.data }, { on := 44, ground := Ground.guard }], guard := some (44, false) }) (v := ?_) rfl (by kernel_rfl) (by kernel_rfl) (by kernel_rfl) (fun _ _ _ h => h) (Or.inl ⟨by rfl, ?_⟩) hHeld ?_
    rotate_left
    · (intro w hSw; (try dsimp only at hSw); go_simp; (try with_reducible rfl))
    (try simp only [Act.put, List.setIfInBounds_toArray, List.set_cons_zero, List.set_cons_succ])
    (try rw [HET.out])
    (try rw [HWU.out])
    (try rw [HKD.out])
    (try rw [HKE.out])
    refine wpAnyH_take (i := 48) (oi := { dst := some 82, op := Op.pick (Operand.tmp 78) (Operand.const (Value.bool true)) (Operand.tmp 81), type := 4, pos := "family.go:48", after := #[{ on := 44, ground := Ground.data }, { on := 47, ground := Ground.data }, { on := 40, ground := Ground.guard }], guard := some (40, true) }) (v := ?_) rfl (by kernel_rfl) (by kernel_rfl) (by kernel_rfl) (fun _ _ _ h => h) (Or.inl ⟨by rfl, ?_⟩) hHeld ?_
    rotate_left
    · (intro w hSw; (try dsimp only at hSw); go_simp; (try with_reducible rfl))
    (try simp only [Act.put, List.setIfInBounds_toArray, List.set_cons_zero, List.set_cons_succ])
    (try rw [HET.out])
    (try rw [HWU.out])
    (try rw [HKD.out])
    (try rw [HKE.out])
    refine wpAnyH_take (i := 49) (oi := { dst := some 83, op := Op.pick (Operand.tmp 74) (Operand.tmp 82) (Operand.const (Value.bool false)), type := 4, pos := "family.go:48", after := #[{ on := 40, ground := Ground.data }, { on := 48, ground := Ground.data }], guard := none }) (v := ?_) rfl (by kernel_rfl) (by kernel_rfl) (by kernel_rfl) (fun _ _ _ h => h) (Or.inl ⟨by rfl, ?_⟩) hHeld ?_
    rotate_left
    · (intro w hSw; (try dsimp only at hSw); go_simp; (try with_reducible rfl))
    (try simp only [Act.put, List.setIfInBounds_toArray, List.set_cons_zero, List.set_cons_succ])
    (try rw [HET.out])
    (try rw [HWU.out])
    (try rw [HKD.out])
    (try rw [HKE.out])
    refine wpAnyH_take (i := 50) (oi := { dst := some 6, op := Op.assign (Operand.tmp 83), type := 4, pos := "family.go:48", after := #[{ on := 49, ground := Ground.data }, { on := 46, ground := Ground.chain }, { on := 0, ground := Ground.phase }, { on := 1, ground := Ground.phase }, { on := 2, ground := Ground.phase }, { on := 3, ground := Ground.phase }, { on := 4, ground := Ground.phase }, { on := 5, ground := Ground.phase }, { on := 6, ground := Ground.phase }, { on := 7, ground := Ground.phase }, { on := 8, ground := Ground.phase }, { on := 9, ground := Ground.phase }, { on := 10, ground := Ground.phase }, { on := 11, ground := Ground.phase }, { on := 12, ground := Ground.phase }, { on := 13, ground := Ground.phase }, { on := 14, ground := Ground.phase }, { on := 15, ground := Ground.phase }, { on := 16, ground := Ground.phase }, { on := 17, ground := Ground.phase }, { on := 18, ground := Ground.phase }, { on := 19, ground := Ground.phase }, { on := 20, ground := Ground.phase }, { on := 21, ground := Ground.phase }, { on := 22, ground := Ground.phase }, { on := 23, ground := Ground.phase }, { on := 24, ground := Ground.phase }, { on := 25, ground := Ground.phase }, { on := 26, ground := Ground.phase }, { on := 27, ground := Ground.phase }, { on := 28, ground := Ground.phase }, { on := 29, ground := Ground.phase }, { on := 30, ground := Ground.phase }, { on := 31, ground := Ground.phase }, { on := 32, ground := Ground.phase }, { on := 33, ground := Ground.phase }, { on := 34, ground := Ground.phase }, { on := 35, ground := Ground.phase }, { on := 36, ground := Ground.phase }, { on := 37, ground := Ground.phase }, { on := 38, ground := Ground.phase }, { on := 39, ground := Ground.phase }, { on := 40, ground := Ground.phase }, { on := 41, ground := Ground.phase }, { on := 42, ground := Ground.phase }, { on := 43, ground := Ground.phase }, { on := 44, ground := Ground.phase }, { on := 45, ground := Ground.phase }, { on := 46, ground := Ground.phase }, { on := 47, ground := Ground.phase }, { on := 48, ground := Ground.phase }, { on := 49, ground := Ground.phase }], guard := none }) (v := ?_) rfl (by kernel_rfl) (by kernel_rfl) (by kernel_rfl) (fun _ _ _ h => h) (Or.inl ⟨by rfl, ?_⟩) hHeld ?_
    rotate_left
    · (intro w hSw; (try dsimp only at hSw); go_simp; (try with_reducible rfl))
    (try simp only [Act.put, List.setIfInBounds_toArray, List.set_cons_zero, List.set_cons_succ])
    (try rw [HET.out])
    (try rw [HWU.out])
    (try rw [HKD.out])
    (try rw [HKE.out])
    refine wpAnyH_done (by kernel_rfl) ?_ _
    refine NoPanic.normal ?_
    go_wp2
    go_ret
    exact ⟨rfl, bel7.trans (y14.mono bel7.size)⟩
end Go.Proofs.YtfnfbfiikkiliaaDoor
