import Derived.Test.YtnjjfakjnkhhjaaGreatDoorEvd
import Derived.Deep.RegionHeld3
import Derived.Deep.DeepCutAuto
import Derived.Lib.AppendZeros
set_option maxHeartbeats 4000000
set_option maxRecDepth 100000
set_option linter.all false
namespace Go.Proofs.YtnjjfakjnkhhjaaGreatDoor
open Go.RowKit
theorem mk_row (w : World) (l c : Nat) (hlc : l ≤ c) (hc : c ≤ 1000000) :
  ∃ v w', (Instr.makeSlice 22 (.int .i64 l) (.int .i64 c)).run Tryz.prog w = .ok v w' ∧ RowZ w' w.heap.size v (List.replicate l 0) ∧ w.grownBy w' none := by
 obtain ⟨i, hi, hz0, hz1, hz2⟩ := info_parts Tryz.info124
 have hr := run_make (P := Tryz.prog) w 22 124 i (.int .u32 0) Tryz.underlying22 hi hz0 .i64 .i64 (l : Int) (c : Int) (by omega) (by omega) (by rw [hz2]; omega) (by omega)
 refine ⟨_, _, hr, ?_, World.grownBy_alloc w _ none⟩
 rw [Int.toNat_natCast, Int.toNat_natCast, hz1, Nat.mul_one]
 refine ⟨by simp, .inr ⟨w.heap.size, c, madeCells (Value.int .u32 0).cells c, by rw [List.length_replicate], Nat.le_refl _, heap_alloc_new w _, by simpa using hlc, by simp only [maxLen]; omega, by rw [size_madeCells, Nat.mul_one], ?_⟩⟩
 apply List.ext_getElem?
 intro j
 simp only [madeCells, Value.cells, List.getElem?_take, List.getElem?_map, List.getElem?_replicate, List.length_replicate, Nat.mul_one, Array.getElem?_toList, Array.getElem?_map, Array.getElem?_range]
 by_cases h : j < l
 ·have h2 : j < c := by omega
  simp [h, h2, Nat.mod_one, d32]
 ·simp [h]
theorem app4 (w : World) (ty : TypeId) (b : Nat) (v : Value) (xs : List Nat) (h : RowZ w b v xs) (A : Option Addr) (m c : Nat) (ys : List Nat) (hl : Lm w A m c ys) (hn : xs.length ≤ 1000000) (hm : m ≤ 1000000) (hb : b ≤ w.heap.size) :
  ∃ v' w', (Builtin.append_ #[22, 22] ty #[v, .slice A m c]).run Tryz.prog w = .ok v' w' ∧ RowZ w' b v' (xs ++ ys) ∧ w.grownBy w' v.ownBlock := by
 obtain ⟨i, hi, hz0, hz1, hz2⟩ := info_parts Tryz.info124
 have hlen := hl.len
 have hone : ∀ u ∈ ys.map d32, u.oneCell' = true := fun u hu => by rw [List.mem_map] at hu; obtain ⟨x, _, rfl⟩ := hu; rfl
 have fin : ∀ {v' w'}, w'.ownsRow b 124 1 v' (xs.length + m) (xs.map d32 ++ ys.map d32) → RowZ w' b v' (xs ++ ys) := fun h => by
  unfold RowZ
  rw [List.length_append, List.map_append, hlen]; exact h
 rcases hA : A with _ | ⟨b', o', sp⟩
 ·subst hA
  have hm0 : m = 0 := by
   rcases Nat.eq_zero_or_pos m with h0 | h0
   ·exact h0
   ·obtain ⟨_, _, hh, _⟩ := hl.2.2 h0; cases hh
  subst hm0
  have hy : ys = [] := List.eq_nil_of_length_eq_zero hlen
  subst hy
  refine ⟨v, w, ?_, by rw [List.append_nil]; exact h, ⟨rfl, rfl, rfl, Nat.le_refl _, fun _ _ _ => rfl⟩⟩
  rcases h.2 with ⟨rfl, _⟩ | ⟨g, cap, cur, rfl, _, _, hnc, _, _, _⟩
  ·simp [Builtin.append_, run_underlying Tryz.underlying22, sizeOf, typeInfo, hi, Builtin.lenOf, Builtin.firstCells]
  ·simp [Builtin.append_, run_underlying Tryz.underlying22, sizeOf, typeInfo, hi, Builtin.lenOf, Builtin.firstCells, hnc, storeCells]
 ·have hsp : 0 < m → sp = none := fun h0 => by obtain ⟨_, _, hh, _⟩ := hl.2.2 h0; rw [hA] at hh; cases hh; rfl
  obtain ⟨v', w', h1, h2, h3, _⟩ := run_append_own (P := Tryz.prog) w b 22 ty 124 i (.int .u32 0) 1 4 Tryz.underlying22 hi hz0 hz1 hz2 rfl (by omega) v xs.length (xs.map d32) h ⟨b', o', sp⟩ m c (ys.map d32) (by simp [hlen])
   (fun j u hu => by
     rw [List.getElem?_map] at hu
     by_cases hj : j < ys.length
     ·rw [List.getElem?_eq_getElem hj] at hu
      simp at hu
      subst hu
      obtain ⟨b1, o1, hh, _, hc⟩ := hl.2.2 (by omega)
      rw [hA] at hh; cases hh
      have := hc j (by omega)
      rw [dig_get hj] at this
      have e : (⟨b', o', none⟩ : Addr).add j = ⟨b', o' + j, none⟩ := by unfold Addr.add; split <;> simp_all
      rw [e]; exact this
     ·rw [List.getElem?_eq_none (by omega)] at hu; simp at hu)
   hone (by simp only [maxLen]; omega) (by omega) hb
  exact ⟨v', w', h1, fin h2, h3⟩
theorem wp_make_run {P : Program} (w : World) {o : Oper} {a : Act} {K : Act → World → Prop} {Q : Exit → Act → World → Prop} (l c : Operand) (t : TypeId) (ho : o.op = .makeSlice t l c) (vl vc : Value) (hl : a.eval l = vl) (hc : a.eval c = vc)
  (v' : Value) (w' : World) (hr : (Instr.makeSlice t vl vc).run P w = .ok v' w') (h : K (a.put o.dst v') w') : o.wp P a w K Q := by
 unfold Oper.wp execOp
 simp only [ho, hl, hc, Sem.run_bind, hr, Result.andThen_ok]
 exact h
theorem val_zapp (k : Nat) (xs : List Nat) : val (List.replicate k 0 ++ xs) = val xs * 2 ^ (32 * k) := by
 have h0 : vt (dig (List.replicate k 0 ++ xs)) k = 0 := vt_zero _ fun i hi => by
  unfold dig
  rw [List.getD_eq_getElem?_getD, List.getElem?_append_left (by rw [List.length_replicate]; exact hi), List.getElem?_replicate, if_pos hi]; rfl
 rw [val_split _ k, h0, Nat.zero_add, List.drop_left' (by rw [List.length_replicate]), Bs_pow_eq, Nat.mul_comm]
theorem raised_any (w : World) (sa : Bool) (Aa : Option Addr) (na ca : Nat) (xa : List Nat) (La : Lm w Aa na ca xa) (hna : na ≤ 25000) (k : Nat) (hk0 : k ≠ 0) (hk : k ≤ 2000000) {X Z : Int} (hX : sgn sa (val xa) = X) (hZ : X * 2 ^ k = Z) :
  Calls Tryz.prog 184 #[.agg #[.bool sa, .slice Aa na ca], .int .i64 (k : Nat)] w (TellsI w Z 100000) := by
 obtain ⟨q, hq⟩ : ∃ q, k / 32 = q := ⟨_, rfl⟩
 obtain ⟨r, hr⟩ : ∃ r, k % 32 = r := ⟨_, rfl⟩
 have hqr : k = 32 * q + r := by omega
 have hr32 : r < 32 := by omega
 have hq1 : q ≤ 62500 := by omega
 obtain ⟨ys, hys⟩ : ∃ ys, List.replicate q 0 ++ xa = ys := ⟨_, rfl⟩
 obtain ⟨nx, hnx⟩ : ∃ nx, ys.length = nx := ⟨_, rfl⟩
 have hlen := La.len
 have hle : nx = q + na := by rw [← hnx, ← hys, List.length_append, List.length_replicate, hlen]
 have hoy : Ok ys := by rw [← hys]; exact Ok.of_mem fun x hx => (List.mem_append.1 hx).elim (fun h => (Ok.zeros q).mem x h) (fun h => La.ok.mem x h)
 have hvy : val ys = val xa * 2 ^ (32 * q) := by rw [← hys]; exact val_zapp q xa
 obtain ⟨Y, hY⟩ : ∃ Y : Int, sgn sa (val ys) = Y := ⟨_, rfl⟩
 have hYZ : Y * 2 ^ heldN (r : Int) = Z := by
  have h1 : Y = X * 2 ^ (32 * q) := by
   rw [← hY, hvy, ← hX]
   cases sa <;> simp [sgn, Int.neg_mul]
  have h2 : heldN (r : Int) = r := by unfold heldN; omega
  rw [h1, h2, Int.mul_assoc, ← Int.pow_add, ← hqr]
  exact hZ
 have HLEN : Hid ((List.replicate q 0 : List Nat).length ≤ 1000000 ∧ ys.length ≤ 1000000 ∧ Ok ys ∧ nx ≤ 87500) := (⟨by rw [List.length_replicate]; omega, by omega, hoy, by omega⟩ : _ ∧ _)
 have HYS := Lib.hid hys
 have HNX := Lib.hid hnx
 have HY := Lib.hid hY
 have HYZ := Lib.hid hYZ
 have HQ : Hid (q ≤ q + na ∧ q + na ≤ 1000000 ∧ na ≤ 1000000) := (⟨by omega, by omega, by omega⟩ : _ ∧ _)
 have HD : Hid ((k : Int) / 32 = (q : Int)) := (by omega : (k : Int) / 32 = (q : Int))
 have HR : Hid ((k : Int) % 32 = (r : Int)) := (by omega : (k : Int) % 32 = (r : Int))
 have HW : Hid (IntKind.i64.wrap (q : Int) = (q : Int)) := (IntWalk.i64_in _ (by omega) : IntKind.i64.wrap (q : Int) = (q : Int))
 have HW2 : Hid (IntKind.i64.wrap ((q : Int) + (na : Int)) = ((q + na : Nat) : Int)) := (by rw [IntWalk.i64_in _ (by omega)]; omega : IntKind.i64.wrap ((q : Int) + (na : Int)) = ((q + na : Nat) : Int))
 have HW3 : Hid (IntKind.i64.wrap (r : Int) = (r : Int)) := (IntWalk.i64_in _ (by omega) : IntKind.i64.wrap (r : Int) = (r : Int))
 have HRL : Hid (nx + heldN (r : Int) / 32 + 1 ≤ 100000) := (by have h2 : heldN (r : Int) = r := (by unfold heldN; omega); rw [h2]; omega : nx + heldN (r : Int) / 32 + 1 ≤ 100000)
 have HK : Hid (((k : Int) == 0) = false) := (by rw [beq_eq_false_iff_ne]; omega : ((k : Int) == 0) = false)
 clear hq hr hqr hr32 hq1 hys hnx hle hoy hvy hY hYZ hX hZ hk hk0 hna hlen
 go_enter Tryz.func184, Tryz.ntmps184
 go_upto_region 1 with (fail)
 obtain ⟨ga, hga⟩ : ∃ g, g = w.heap.size := ⟨_, rfl⟩
 obtain ⟨r0, hr0⟩ : ∃ g, g = w.heap.size + 1 := ⟨_, rfl⟩
 obtain ⟨w1, hw1⟩ : ∃ v, v = ((w.alloc (.cells #[.bool sa, .slice Aa na ca] 24)).alloc (.cells #[.bool false, .slice none 0 0] 24)) := ⟨_, rfl⟩
 have bel1 : Below w.heap.size w w1 := by rw [hw1]; exact bel_alloc2 _ _ _
 have b_a1 : Box w1 ga sa Aa na ca := by rw [hw1, hga]; exact ((Box.new _ _ _ _ _).alloc _)
 have t_r01 : Two w1 r0 := by rw [hw1, hr0]; exact Box.two (Box.at1 _ _ _ _ _ _)
 rw [← hw1, ← hr0, ← hga]
 have hgs : w.heap.size ≤ ga ∧ w.heap.size ≤ r0 ∧ ga ≠ r0 ∧ r0 ≠ ga := by omega
 have HG := Lib.hid hgs
 clear hw1 hgs hga hr0
 have l_a1 := La.bel bel1
 have c_a0_1 := b_a1.c0
 have c_a1_1 := b_a1.c1
 have f_r01 := t_r01.room.2
 have hk0 := HK.out
 go_upto_region 3 with (fail)
 clear hk0
 have hS0 := held0 b_a1
 have y0 : Below w1.heap.size w1 w1 := Below.refl _ _
 refine wp_region_noPanic ?_
 refine wp_region_held_drew (S := (fun w' => Box w' ga sa Aa na ca ∧ w'.cell? ⟨ga, 0, none⟩ = some (.bool sa) ∧ w'.cell? ⟨ga, 1, none⟩ = some (.slice Aa na ca))) (by kernel_rfl) ?_ (fun hHeld => ?_)
 ·((try dsimp only); (with_reducible refine keep10 ?_ hS0; (focus repeat' (first | with_reducible assumption | with_reducible refine bel_drw ?_ | with_reducible refine bel_al ?_ | with_reducible refine bel_put ?_ ?_ _ _ | omega))))
 refine wpAnyH_take (i := 0) (oi := { dst := some 9, op := Op.move (Operand.tmp 1), type := 3, pos := "dyad.go:67", after := #[], guard := none }) (v := ?_) rfl (by kernel_rfl) (by kernel_rfl) (by kernel_rfl) (fun _ _ _ h => h) (Or.inl ⟨by rfl, ?_⟩) hHeld ?_
 rotate_left
 ·(intro w hSw; (try dsimp only at hSw); go_simp; (try with_reducible rfl))
 (try simp only [Act.put, List.setIfInBounds_toArray, List.set_cons_zero, List.set_cons_succ])
 (try rw [HD.out])
 (try rw [HW.out])
 (try rw [HW2.out])
 refine wpAnyH_take (i := 1) (oi := { dst := some 10, op := Op.binOp BinOp.quo 3 (Operand.tmp 9) (Operand.const (Value.int IntKind.i64 32)) 3, type := 3, pos := "dyad.go:67", after := #[{ on := 0, ground := Ground.data }], guard := none }) (v := ?_) rfl (by kernel_rfl) (by kernel_rfl) (by kernel_rfl) (fun _ _ _ h => h) (Or.inl ⟨by rfl, ?_⟩) hHeld ?_
 rotate_left
 ·(intro w hSw; (try dsimp only at hSw); go_simp; (try with_reducible rfl))
 (try simp only [Act.put, List.setIfInBounds_toArray, List.set_cons_zero, List.set_cons_succ])
 (try rw [HD.out])
 (try rw [HW.out])
 (try rw [HW2.out])
 refine wpAnyH_take (i := 2) (oi := { dst := some 11, op := Op.move (Operand.tmp 1), type := 3, pos := "dyad.go:67", after := #[], guard := none }) (v := ?_) rfl (by kernel_rfl) (by kernel_rfl) (by kernel_rfl) (fun _ _ _ h => h) (Or.inl ⟨by rfl, ?_⟩) hHeld ?_
 rotate_left
 ·(intro w hSw; (try dsimp only at hSw); go_simp; (try with_reducible rfl))
 (try simp only [Act.put, List.setIfInBounds_toArray, List.set_cons_zero, List.set_cons_succ])
 (try rw [HD.out])
 (try rw [HW.out])
 (try rw [HW2.out])
 refine wpAnyH_take (i := 3) (oi := { dst := some 12, op := Op.binOp BinOp.quo 3 (Operand.tmp 11) (Operand.const (Value.int IntKind.i64 32)) 3, type := 3, pos := "dyad.go:67", after := #[{ on := 2, ground := Ground.data }], guard := none }) (v := ?_) rfl (by kernel_rfl) (by kernel_rfl) (by kernel_rfl) (fun _ _ _ h => h) (Or.inl ⟨by rfl, ?_⟩) hHeld ?_
 rotate_left
 ·(intro w hSw; (try dsimp only at hSw); go_simp; (try with_reducible rfl))
 (try simp only [Act.put, List.setIfInBounds_toArray, List.set_cons_zero, List.set_cons_succ])
 (try rw [HD.out])
 (try rw [HW.out])
 (try rw [HW2.out])
 refine wpAnyH_take (i := 4) (oi := { dst := some 13, op := Op.fieldAddr 24 (Operand.tmp 2) 1, type := 0, pos := "dyad.go:67", after := #[], guard := none }) (v := ?_) rfl (by kernel_rfl) (by kernel_rfl) (by kernel_rfl) (fun _ _ _ h => h) (Or.inl ⟨by rfl, ?_⟩) hHeld ?_
 rotate_left
 ·(intro w hSw; (try dsimp only at hSw); go_simp; (try with_reducible rfl))
 (try simp only [Act.put, List.setIfInBounds_toArray, List.set_cons_zero, List.set_cons_succ])
 (try rw [HD.out])
 (try rw [HW.out])
 (try rw [HW2.out])
 refine wpAnyH_take (i := 5) (oi := { dst := some 14, op := Op.load 22 (Operand.tmp 13), type := 22, pos := "dyad.go:67", after := #[{ on := 4, ground := Ground.data }], guard := none }) (v := ?_) rfl (by kernel_rfl) (by kernel_rfl) (by kernel_rfl) (fun _ _ _ h => h) (Or.inl ⟨by rfl, ?_⟩) hHeld ?_
 rotate_left
 ·(intro w hSw; (try dsimp only at hSw); go_simp; (try with_reducible rfl))
 (try simp only [Act.put, List.setIfInBounds_toArray, List.set_cons_zero, List.set_cons_succ])
 (try rw [HD.out])
 (try rw [HW.out])
 (try rw [HW2.out])
 refine wpAnyH_take (i := 6) (oi := { dst := some 15, op := Op.call { callee := Callee.builtin Builtin.len, args := #[Operand.tmp 14], argTypes := #[22] }, type := 3, pos := "dyad.go:67", after := #[{ on := 5, ground := Ground.data }], guard := none }) (v := ?_) rfl (by kernel_rfl) (by kernel_rfl) (by kernel_rfl) (fun _ _ _ h => h) (Or.inl ⟨by rfl, ?_⟩) hHeld ?_
 rotate_left
 ·(intro w hSw; (try dsimp only at hSw); go_simp; (try with_reducible rfl))
 (try simp only [Act.put, List.setIfInBounds_toArray, List.set_cons_zero, List.set_cons_succ])
 (try rw [HD.out])
 (try rw [HW.out])
 (try rw [HW2.out])
 refine wpAnyH_take (i := 7) (oi := { dst := some 16, op := Op.binOp BinOp.add 3 (Operand.tmp 12) (Operand.tmp 15) 3, type := 3, pos := "dyad.go:67", after := #[{ on := 3, ground := Ground.data }, { on := 6, ground := Ground.data }], guard := none }) (v := ?_) rfl (by kernel_rfl) (by kernel_rfl) (by kernel_rfl) (fun _ _ _ h => h) (Or.inl ⟨by rfl, ?_⟩) hHeld ?_
 rotate_left
 ·(intro w hSw; (try dsimp only at hSw); go_simp; (try with_reducible rfl))
 (try simp only [Act.put, List.setIfInBounds_toArray, List.set_cons_zero, List.set_cons_succ])
 (try rw [HD.out])
 (try rw [HW.out])
 (try rw [HW2.out])
 refine wpAnyH_take (i := 9) (oi := { dst := some 18, op := Op.fieldAddr 24 (Operand.tmp 2) 1, type := 0, pos := "dyad.go:67", after := #[], guard := none }) (v := ?_) rfl (by kernel_rfl) (by kernel_rfl) (by kernel_rfl) (fun _ _ _ h => h) (Or.inl ⟨by rfl, ?_⟩) hHeld ?_
 rotate_left
 ·(intro w hSw; (try dsimp only at hSw); go_simp; (try with_reducible rfl))
 (try simp only [Act.put, List.setIfInBounds_toArray, List.set_cons_zero, List.set_cons_succ])
 (try rw [HD.out])
 (try rw [HW.out])
 (try rw [HW2.out])
 refine wpAnyH_take (i := 10) (oi := { dst := some 19, op := Op.load 22 (Operand.tmp 18), type := 22, pos := "dyad.go:67", after := #[{ on := 9, ground := Ground.data }], guard := none }) (v := ?_) rfl (by kernel_rfl) (by kernel_rfl) (by kernel_rfl) (fun _ _ _ h => h) (Or.inl ⟨by rfl, ?_⟩) hHeld ?_
 rotate_left
 ·(intro w hSw; (try dsimp only at hSw); go_simp; (try with_reducible rfl))
 (try simp only [Act.put, List.setIfInBounds_toArray, List.set_cons_zero, List.set_cons_succ])
 (try rw [HD.out])
 (try rw [HW.out])
 (try rw [HW2.out])
 refine wpAnyH_ready (rs := [8]) (by kernel_rfl) (by simp) ?_
 refine AllReadyH.cons (o := { dst := some 17, op := Op.makeSlice 22 (Operand.tmp 10) (Operand.tmp 16), type := 22, pos := "dyad.go:67", after := #[{ on := 1, ground := Ground.data }, { on := 7, ground := Ground.data }], guard := none }) rfl (fun K hK => ?_) AllReadyH.nil
 clear hHeld
 rw [if_pos (by rfl)]
 obtain ⟨v1, x1, hr1, hz1, hg1⟩ := mk_row w1.drew q (q + na) HQ.out.1 HQ.out.2.1
 refine wp_make_run _ _ _ _ rfl _ _ rfl rfl v1 x1 hr1 ?_
 have y1 : Below w1.heap.size w1 x1 := (bel_drw y0).grown hg1 (bel_drw y0).size (fun k hk => by cases hk)
 refine hK.out _ _ ?_ (fun hHeld => ?_)
 ·((try dsimp only); (with_reducible refine keep10 ?_ hS0; (focus repeat' (first | with_reducible assumption | with_reducible refine bel_drw ?_ | with_reducible refine bel_al ?_ | with_reducible refine bel_put ?_ ?_ _ _ | omega))))
 clear hK K
 (try simp only [Act.put, List.setIfInBounds_toArray, List.set_cons_zero, List.set_cons_succ])
 refine wpAnyH_ready (rs := [11]) (by kernel_rfl) (by simp) ?_
 refine AllReadyH.cons (o := { dst := some 20, op := Op.call { callee := Callee.builtin Builtin.append, args := #[Operand.tmp 17, Operand.tmp 19], argTypes := #[22, 22] }, type := 22, pos := "dyad.go:67", after := #[{ on := 8, ground := Ground.data }, { on := 10, ground := Ground.data }], guard := none }) rfl (fun K hK => ?_) AllReadyH.nil
 clear hHeld
 rw [if_pos (by rfl)]
 obtain ⟨v2, x2, hr2, hz2, hg2⟩ := app4 x1 22 _ v1 _ hz1 Aa na ca xa (l_a1.bel y1) HLEN.out.1 HQ.out.2.2 y1.size
 rw [HYS.out] at hz2
 obtain ⟨A2, c2, rfl, hl2⟩ := hz2.lm HLEN.out.2.2.1 HLEN.out.2.1
 refine Lib.wp_append_run _ _ _ _ _ rfl _ _ rfl rfl _ x2 hr2 ?_
 have y2 : Below w1.heap.size w1 x2 := y1.grown hg2 y1.size (fun j hj => (hz1.own j hj).1)
 refine hK.out _ _ ?_ (fun hHeld => ?_)
 ·((try dsimp only); (with_reducible refine keep10 ?_ hS0; (focus repeat' (first | with_reducible assumption | with_reducible refine bel_drw ?_ | with_reducible refine bel_al ?_ | with_reducible refine bel_put ?_ ?_ _ _ | omega))))
 clear hK K
 (try simp only [Act.put, List.setIfInBounds_toArray, List.set_cons_zero, List.set_cons_succ])
 refine wpAnyH_ready (rs := [12]) (by kernel_rfl) (by simp) ?_
 refine AllReadyH.cons (o := { dst := some 5, op := Op.assign (Operand.tmp 20), type := 22, pos := "dyad.go:67", after := #[{ on := 11, ground := Ground.data }, { on := 11, ground := Ground.chain }, { on := 0, ground := Ground.phase }, { on := 1, ground := Ground.phase }, { on := 2, ground := Ground.phase }, { on := 3, ground := Ground.phase }, { on := 4, ground := Ground.phase }, { on := 5, ground := Ground.phase }, { on := 6, ground := Ground.phase }, { on := 7, ground := Ground.phase }, { on := 8, ground := Ground.phase }, { on := 9, ground := Ground.phase }, { on := 10, ground := Ground.phase }, { on := 11, ground := Ground.phase }], guard := none }) rfl (fun K hK => ?_) AllReadyH.nil
 clear hHeld
 go_simp
 refine hK.out _ _ ?_ (fun hHeld => ?_)
 ·((try dsimp only); (with_reducible refine keep10 ?_ hS0; (focus repeat' (first | with_reducible assumption | with_reducible refine bel_drw ?_ | with_reducible refine bel_al ?_ | with_reducible refine bel_put ?_ ?_ _ _ | omega))))
 clear hK K
 (try simp only [Act.put, List.setIfInBounds_toArray, List.set_cons_zero, List.set_cons_succ])
 refine wpAnyH_done (by kernel_rfl) ?_ _
 refine NoPanic.normal ?_
 clear hz1 hg1 hr1 hz2 hg2 hr2 y1 y0 hS0
 have b_a2 := b_a1.bel y2
 have t_r02 := t_r01.bel y2
 have l_a2 := l_a1.bel y2
 have bel2 := bel1.trans (y2.mono bel1.size)
 have c_a0_2 := b_a2.c0
 have c_a1_2 := b_a2.c1
 have f_r02 := t_r02.room.2
 clear y2 b_a1 c_a0_1 c_a1_1 t_r01 f_r01 l_a1 bel1
 rw [HNX.out] at hl2 ⊢
 have tm := HR.out
 have wr := HW3.out
 have wj : wrap64 (r : Int) = (r : Int) := by rw [← IntWalk.i64_left]; exact wr
 go_wp2_with fail
 have cc := Lib.hid (wshl_g x2 Y r sa A2 nx c2 ys hl2 HY.out (by have h := HLEN.out; omega) HYZ.out)
 refine cc.out.mono ?_
 clear cc
 rintro e v3 ⟨A5, m5, c5, rfl, h5, hm5, kb3⟩
 have b_a3 := b_a2.bel kb3
 have t_r03 := t_r02.bel kb3
 have l_a3 := l_a2.bel kb3
 have l_y3 := hl2.bel kb3
 have bel3 := bel2.trans (kb3.mono bel2.size)
 have c_a0_3 := b_a3.c0
 have c_a1_3 := b_a3.c1
 have f_r03 := t_r03.room.2
 clear kb3 b_a2 c_a0_2 c_a1_2 t_r02 f_r02 l_a2 hl2 bel2
 go_wp2
 have hx := t_r03.put (decide (Z < 0)) A5 m5 c5
 have hl := h5.put t_r03 (.bool (decide (Z < 0))) (.slice A5 m5 c5)
 have hbl := bel_put bel3 (g := r0) HG.out.2.1 (.bool (decide (Z < 0))) (.slice A5 m5 c5)
 generalize (v3.setCell ⟨r0, 0, none⟩ (.bool (decide (Z < 0)))).setCell ⟨r0, 1, none⟩ (.slice A5 m5 c5) = wz at *
 refine bodyPost_ret (v := .agg #[.bool (decide (Z < 0)), .slice A5 m5 c5]) (by simp [results, Tryz.results184, go_sem, hx.c0, hx.c1]) rfl ?_
 exact ⟨_, _, _, rfl, hl, Nat.le_trans hm5 HRL.out, hbl⟩
end Go.Proofs.YtnjjfakjnkhhjaaGreatDoor
