/- Contracts of the document's own numbers with a sign: ShlInt, ShrInt. -/
import Derived.Test.YtfnfbfiikkiliaaDoorRS
import Derived.Test.YtfnfbfiikkiliaaDoorRF
import Derived.Deep.RegionHeld3
import Derived.Deep.DeepCutAuto
namespace Go.Proofs.YtfnfbfiikkiliaaDoor
open Go.RowKit

theorem sgn_scale (s : Bool) (a p : Nat) : sgn s (a * p) = sgn s a * (p : Int) := by
  cases s
  · rw [sgn_false, sgn_false, Int.natCast_mul]
  · rw [sgn_true, sgn_true, Int.natCast_mul, Int.neg_mul]
theorem sgn_shl (s : Bool) (a k : Nat) : sgn s (a * 2 ^ k) = sgn s a * 2 ^ k := by
  rw [sgn_scale, Int.natCast_pow]; rfl
theorem rtrimT (w : World) (A : Option Addr) (n c : Nat) (xs : List Nat) (h : Lm w A n c xs) :
    Calls Tryd.prog 47 #[.slice A n c] w (Tells w (val xs) n) :=
  (rtrim_lm w A n c xs h).mono fun _ _ ⟨m, he, hl, hm, hw⟩ => ⟨A, m, c, he, by subst hw; exact hl, hm, by subst hw; exact Below.refl _ _⟩
theorem rshlT (w : World) (N : Nat) (A : Option Addr) (m c : Nat) (by_ : Int) (h : Lm w A m c (lim N)) (hm : m ≤ 10000000000) :
    Calls Tryd.prog 67 #[.slice A m c, .int .i64 by_] w (Tells w (N * 2 ^ heldN by_) (m + heldN by_ / 32 + 1)) := by
  have e := rshl_any w A m c (lim N) by_ h hm
  rw [val_lim] at e
  exact e
theorem bel_a3 {w w' : World} {o p q : Obj} (h : Below (((w.alloc o).alloc p).alloc q).heap.size (((w.alloc o).alloc p).alloc q) w') : Below w.heap.size w w' := bel_a1 (bel_a2 h)
theorem sz1 (w : World) (o : Obj) : (w.alloc o).heap.size = w.heap.size + 1 := Array.size_push ..
abbrev One1 : Obj := .cells #[.int .u32 1] 57
theorem litN (w : World) : Lm (w.alloc One1) (some ⟨w.heap.size, 0, none⟩) 1 1 [1] := (Own.list w [1]).lm (Ok.of_mem (fun x hx => by rw [Bs_eq]; simp at hx; omega)) (by simp)
theorem litN1 (w : World) (o : Obj) : Lm ((w.alloc o).alloc One1) (some ⟨w.heap.size + 1, 0, none⟩) 1 1 [1] := by
  have h := litN (w.alloc o); rw [sz1 w o] at h; exact h
theorem litN2 (w : World) (o p : Obj) : Lm (((w.alloc o).alloc p).alloc One1) (some ⟨w.heap.size + 2, 0, none⟩) 1 1 [1] := by
  have h := litN1 (w.alloc o) p; rw [sz1 w o] at h; exact h
theorem znZL {w w' : World} {o : Obj} (h : Below ((w.alloc Zero).alloc o).heap.size ((w.alloc Zero).alloc o) w') : Two w' w.heap.size := (((Box.new w false none 0 0).alloc _).two).bel h
theorem znLZ {w w' : World} {o : Obj} (h : Below ((w.alloc o).alloc Zero).heap.size ((w.alloc o).alloc Zero) w') : Two w' (w.heap.size + 1) := ((Box.at1 w _ false none 0 0).two).bel h
theorem znZZL {w w' : World} {o : Obj} (h : Below (((w.alloc Zero).alloc Zero).alloc o).heap.size (((w.alloc Zero).alloc Zero).alloc o) w') : Two w' w.heap.size ∧ Two w' (w.heap.size + 1) :=
  zn1 (bel_a1 (w := (w.alloc Zero).alloc Zero) h)
theorem znZLZ {w w' : World} {o : Obj} (h : Below (((w.alloc Zero).alloc o).alloc Zero).heap.size (((w.alloc Zero).alloc o).alloc Zero) w') : Two w' w.heap.size ∧ Two w' (w.heap.size + 2) :=
  ⟨znZL (bel_a1 (w := (w.alloc Zero).alloc o) h), by have e := znLZ (w := w.alloc Zero) h; rw [sz1 w Zero] at e; exact e⟩
theorem znLZZ {w w' : World} {o : Obj} (h : Below (((w.alloc o).alloc Zero).alloc Zero).heap.size (((w.alloc o).alloc Zero).alloc Zero) w') : Two w' (w.heap.size + 1) ∧ Two w' (w.heap.size + 2) := by
  have e := zn1 (w := w.alloc o) h
  rw [sz1 w o] at e
  exact e
set_option maxRecDepth 100000 in
set_option maxHeartbeats 4000000 in
theorem rshlI_g (w : World) (X : Int) (k : Int) (sa : Bool) (Aa : Option Addr) (na ca : Nat) (xa : List Nat) (La : Lm w Aa na ca xa) (ha : sgn sa (val xa) = X) (hna : na ≤ 100000) {Z : Int} (hZ : X * 2 ^ heldN k = Z) :
    Calls Tryd.prog 38 #[.agg #[.bool sa, .slice Aa na ca], .int .i64 k] w (TellsI w Z (na + heldN k / 32 + 1)) := by
  have HZ : Hid (sgn sa (val xa * 2 ^ heldN k) = Z) := (by rw [sgn_shl, ha]; exact hZ : sgn sa (val xa * 2 ^ heldN k) = Z)
  clear ha hZ
  go_enter Tryd.func38, Tryd.ntmps38
  go_wp2_with fail
  obtain ⟨ga, hga⟩ : ∃ g, g = w.heap.size := ⟨_, rfl⟩
  obtain ⟨r0, hr0⟩ : ∃ g, g = w.heap.size + 1 := ⟨_, rfl⟩
  obtain ⟨w1, hw1⟩ : ∃ v, v = ((w.alloc (.cells #[.bool sa, .slice Aa na ca] 24)).alloc (.cells #[.bool false, .slice none 0 0] 24)) := ⟨_, rfl⟩
  have bel1 : Below w.heap.size w w1 := by rw [hw1]; exact bel_alloc2 _ _ _
  have b_a1 : Box w1 ga sa Aa na ca := by rw [hw1, hga]; exact ((Box.new _ _ _ _ _).alloc _)
  have t_r01 : Two w1 r0 := by rw [hw1, hr0]; exact Box.two (Box.at1 _ _ _ _ _ _)
  rw [← hw1, ← hr0, ← hga]
  have hgs : w.heap.size ≤ ga ∧ w.heap.size ≤ r0 ∧ ga ≠ r0 ∧ r0 ≠ ga := by omega
  have HG := Lib.hid hgs
  clear hw1 hgs hga hr0
  have l_a1 := La.bel bel1
  have c_a0_1 := b_a1.c0
  have c_a1_1 := b_a1.c1
  have f_r01 := t_r01.room.2
  go_region_held3 (fun w' => (Box w' ga sa Aa na ca ∧ w'.cell? ⟨ga, 0, none⟩ = some (.bool sa) ∧ w'.cell? ⟨ga, 1, none⟩ = some (.slice Aa na ca)) ∧ (Two w' r0 ∧ w'.cell? ⟨r0, 0, none⟩ = some (lies w' r0 0) ∧ w'.cell? ⟨r0, 1, none⟩ = some (lies w' r0 1) ∧ w'.frozen? ⟨r0, 0, none⟩ = false ∧ w'.frozen? ⟨r0, 1, none⟩ = false))
    (first
      | exact ⟨held0 (w := w1.drew) b_a1, Two.room (w := w1.drew) t_r01⟩
      | exact keep11 (by assumption) (by assumption)
      | exact keep11s0 HG.out.2.2.1 (by assumption) rfl)
    (first
      | (go_at_call 47; refine (rtrimT _ Aa na ca xa ?_).mono ?_; exact l_a1.drew; rintro e w5 ⟨A5, m5, c5, rfl, h5, hm5, hb5⟩)
      | (go_at_call 67; refine (rshlT _ (val xa) A5 m5 c5 k ?_ ?_).mono ?_; exact h5; omega; rintro e w6 ⟨A6, m6, c6, rfl, h6, hm6, hb6⟩)
      | (go_at_call 19; refine (rnorm_m _ sa (val xa * 2 ^ heldN k) A6 m6 c6 ?_ HZ.out).mono ?_; exact h6; rintro e w7 ⟨A7, m7, c7, rfl, h7, hm7, hb7⟩))
  have hbx := bel_next (bel_next (bel_undrew hb5) hb6) hb7
  have b_a2 := b_a1.bel hbx
  have t_r02 := t_r01.bel hbx
  have l_a2 := l_a1.bel hbx
  have bel2 := bel1.trans (hbx.mono bel1.size)
  have c_a0_2 := b_a2.c0
  have c_a1_2 := b_a2.c1
  have f_r02 := t_r02.room.2
  clear hbx b_a1 c_a0_1 c_a1_1 t_r01 f_r01 l_a1 bel1
  clear hb5 hb6 hb7
  go_wp2
  have hx := t_r02.put (decide (Z < 0)) A7 m7 c7
  have hl := h7.put t_r02 (.bool (decide (Z < 0))) (.slice A7 m7 c7)
  have hbl := bel_put bel2 (g := r0) HG.out.2.1 (.bool (decide (Z < 0))) (.slice A7 m7 c7)
  generalize (w7.setCell ⟨r0, 0, none⟩ (.bool (decide (Z < 0)))).setCell ⟨r0, 1, none⟩ (.slice A7 m7 c7) = wz at *
  refine bodyPost_ret (v := .agg #[.bool (decide (Z < 0)), .slice A7 m7 c7]) (by simp [results, Tryd.results38, go_sem, hx.c0, hx.c1]) rfl ?_
  exact ⟨_, _, _, rfl, hl, by omega, hbl⟩
set_option maxRecDepth 100000 in
set_option maxHeartbeats 20000000 in
theorem rshrI_g (w : World) (X : Int) (k : Int) (sa : Bool) (Aa : Option Addr) (na ca : Nat) (xa : List Nat) (La : Lm w Aa na ca xa) (ha : sgn sa (val xa) = X) (hna : na ≤ 100000) {Z : Int} (hZ : X / 2 ^ heldN k = Z) :
    Calls Tryd.prog 35 #[.agg #[.bool sa, .slice Aa na ca], .int .i64 k] w (TellsI w Z 3000000) := by
  obtain ⟨P, hP⟩ : ∃ P : Int, 2 ^ heldN k = P := ⟨_, rfl⟩
  have hp : 0 < P := by rw [← hP]; exact Int.pow_pos (by decide)
  obtain ⟨R, hR⟩ : ∃ R : Int, dr X P = R := ⟨_, rfl⟩
  have HQ : Hid (dq X P = Z) := (by rw [dq_floor hp, ← hP]; exact hZ : dq X P = Z)
  have HT : Hid (decide (P ≠ 0) = true) := (decide_eq_true (by omega) : decide (P ≠ 0) = true)
  obtain ⟨N, hN⟩ : ∃ N : Nat, 2 ^ heldN k = N := ⟨_, rfl⟩
  have HP : Hid (sgn false (val (lim N)) = P) := (by rw [val_lim, ← hN, ← hP, sgn_false, Int.natCast_pow]; rfl : sgn false (val (lim N)) = P)
  have HK2 := heldN_le k
  obtain ⟨K, hK⟩ : ∃ K : Nat, 1 + heldN k / 32 + 1 = K := ⟨_, rfl⟩
  have HKK : Hid (K ≤ 4000) := (by omega : K ≤ 4000)
  have HS : Hid (∀ (w : World) (A : Option Addr), Lm w A 1 1 [1] → Calls Tryd.prog 67 #[.slice A 1 1, .int .i64 k] w (Tells w N K)) := (fun w A h => by
    have e := rshl_any w A 1 1 [1] k h (by omega)
    rw [val_single, Nat.one_mul, hN, hK] at e
    exact e : ∀ (w : World) (A : Option Addr), Lm w A 1 1 [1] → Calls Tryd.prog 67 #[.slice A 1 1, .int .i64 k] w (Tells w N K))
  have HM : Hid (ln Z.natAbs ≤ 100000 ∧ ln R.natAbs ≤ 100000) := (by
    have hv := val_lt La.ok
    rw [La.len] at hv
    have hx : X.natAbs = val xa := by rw [← ha, sgn_natAbs]
    have hz : Z.natAbs ≤ X.natAbs := by rw [← hZ]; exact Int.natAbs_ediv_le_natAbs _ _
    have h1 : ln Z.natAbs ≤ na := ln_le_of_lt (by omega)
    have hr : R.natAbs < N := by
      have h2 := (dqr X P (by omega)).2
      rw [hR] at h2
      have h3 : P = (N : Int) := by rw [← hP, ← hN, Int.natCast_pow]; rfl
      omega
    have h4 : N ≤ Bs ^ (heldN k) := by rw [← hN, Bs_pow_eq]; exact Nat.pow_le_pow_right (by decide) (by omega)
    have h5 : ln R.natAbs ≤ heldN k := ln_le_of_lt (Nat.lt_of_lt_of_le hr h4)
    exact ⟨by omega, by omega⟩ : ln Z.natAbs ≤ 100000 ∧ ln R.natAbs ≤ 100000)
  have HR := Lib.hid hR
  have HX := Lib.hid ha
  clear ha hZ hP hp hR hN hK HK2
  go_enter Tryd.func35, Tryd.ntmps35
  go_upto_region 1 with (fail)
  obtain ⟨ga, hga⟩ : ∃ g, g = w.heap.size := ⟨_, rfl⟩
  obtain ⟨r0, hr0⟩ : ∃ g, g = w.heap.size + 1 := ⟨_, rfl⟩
  obtain ⟨w1, hw1⟩ : ∃ v, v = ((w.alloc (.cells #[.bool sa, .slice Aa na ca] 24)).alloc (.cells #[.bool false, .slice none 0 0] 24)) := ⟨_, rfl⟩
  have bel1 : Below w.heap.size w w1 := by rw [hw1]; exact bel_alloc2 _ _ _
  have b_a1 : Box w1 ga sa Aa na ca := by rw [hw1, hga]; exact ((Box.new _ _ _ _ _).alloc _)
  have t_r01 : Two w1 r0 := by rw [hw1, hr0]; exact Box.two (Box.at1 _ _ _ _ _ _)
  rw [← hw1, ← hr0, ← hga]
  have hgs : w.heap.size ≤ ga ∧ w.heap.size ≤ r0 ∧ ga ≠ r0 ∧ r0 ≠ ga := by omega
  have HG := Lib.hid hgs
  clear hw1 hgs hga hr0
  have l_a1 := La.bel bel1
  have c_a0_1 := b_a1.c0
  have c_a1_1 := b_a1.c1
  have f_r01 := t_r01.room.2
  go_cut [5, 6, 7] (fun s5 s6 s7 wx => s7 = .bool true ∧ Laid2 w1 Z R s5 s6 wx)
  case first =>
    have hS0 := held0 b_a1
    have y0 : Below w1.heap.size w1 w1 := Below.refl _ _
    go_region_held3 (fun w' => (Box w' ga sa Aa na ca ∧ w'.cell? ⟨ga, 0, none⟩ = some (.bool sa) ∧ w'.cell? ⟨ga, 1, none⟩ = some (.slice Aa na ca)))
      ((with_reducible refine keep10 ?_ hS0; (focus repeat' (first | with_reducible assumption | with_reducible refine bel_drw ?_ | with_reducible refine bel_al ?_ | with_reducible refine bel_put ?_ ?_ _ _ | omega))))
      (first
        | (go_at_call 67; (fail_if_success (have hq := z1)); refine (HS.out _ _ ?_).mono ?_; (focus repeat' (first | with_reducible refine Lm.drew ?_ | with_reducible exact litN _ | with_reducible exact litN1 _ _ | with_reducible exact litN2 _ _ _ | with_reducible refine Lm.al ?_ _)); rintro e x1 ⟨A1, m1, c1, rfl, h1, hm1, e1⟩; have z1 : True := trivial; have hc := bel_undrew e1; have q1 : Below w1.heap.size w1 x1 := (by first | with_reducible exact hc | with_reducible exact bel_a1 hc | with_reducible exact bel_a2 hc | with_reducible exact bel_a3 hc); have y1 : Below w1.heap.size w1 x1 := bel_next y0 q1; have La_1 := l_a1.bel q1; have s1 := bel_size q1; (first | (with_reducible have tab : Two x1 w1.heap.size ∧ Two x1 (w1.heap.size + 1) := znZZL hc; have ta1_1 := tab.1; have tb1_1 := tab.2; clear tab) | (with_reducible have tab : Two x1 w1.heap.size ∧ Two x1 (w1.heap.size + 2) := znZLZ hc; have ta1_1 := tab.1; have tb1_1 := tab.2; clear tab) | (with_reducible have tab : Two x1 (w1.heap.size + 1) ∧ Two x1 (w1.heap.size + 2) := znLZZ hc; have ta1_1 := tab.1; have tb1_1 := tab.2; clear tab) | (with_reducible have ta1_1 : Two x1 w1.heap.size := znZL hc) | (with_reducible have ta1_1 : Two x1 (w1.heap.size + 1) := znLZ hc) | skip); (try (have hs1 := Two.lt ta1_1)))
        | (go_at_call 14; have hq := z1; (fail_if_success (have hq := z2)); refine (rdivI_g _ X P sa Aa na ca xa ?_ HX.out false A1 m1 c1 _ ?_ HP.out ?_ ?_ HT.out HQ.out HR.out).mono ?_; (focus repeat' (first | with_reducible exact La_1 | with_reducible refine Lm.drew ?_ | with_reducible refine Lm.al ?_ _ | with_reducible refine Lm.put ?_ ?_ _ _ | with_reducible assumption)); (focus repeat' (first | with_reducible exact h1 | with_reducible refine Lm.drew ?_ | with_reducible refine Lm.al ?_ _ | with_reducible refine Lm.put ?_ ?_ _ _ | with_reducible assumption)); omega; (have hkk := HKK.out; omega); rintro e x2 ⟨A3, m3, c3, A4, m4, c4, rfl, h3, h4, hm3, hm4, e2⟩; have z2 : True := trivial; have hc := e2; have q2 : Below x1.heap.size x1 x2 := (by first | with_reducible exact hc | with_reducible exact bel_a1 hc | with_reducible exact bel_a2 hc | with_reducible exact bel_a3 hc); have y2 : Below w1.heap.size w1 x2 := bel_next y1 q2; have La_2 := La_1.bel q2; have Lp_2 := h1.bel q2; have s2 := bel_size q2; (try with_reducible have ta1_2 := Two.bel ta1_1 q2); (try with_reducible have tb1_2 := Two.bel tb1_1 q2); (first | (with_reducible have tab : Two x2 x1.heap.size ∧ Two x2 (x1.heap.size + 1) := zn1 hc; have ta2_2 := tab.1; have tb2_2 := tab.2; clear tab) | (with_reducible have ta2_2 : Two x2 x1.heap.size := zn0 hc) | skip); (try (have hs2 : x1.heap.size < x2.heap.size := Two.lt ta2_2)); (try (have ra1 := ta1_2.room.2; have rl1 := ta1_2.lt)); (try (have rb1 := tb1_2.room.2)); (try (have hq1 := ta1_2; have hq2 := ta2_2; have na := Nat.ne_of_lt (show w1.heap.size + 1 < x1.heap.size from by omega); have nc := na.symm; have nd := Nat.ne_of_lt (show w1.heap.size < x1.heap.size from by omega); have ne := nd.symm; clear hq1 hq2)); (try (have ra2 := ta2_2.room.2; have rl2 := ta2_2.lt)); (try (have rb2 := tb2_2.room.2))))
    all_goals (go_wp2_with fail; go_meet)
    all_goals refine ⟨rfl, ?_⟩
    all_goals (have e3 : ln Z.natAbs = m3 := h3.len; have e4 : ln R.natAbs = m4 := h4.len; have hmm := HM.out)
    all_goals (first | ((with_reducible refine laidNN y2 h3 ?_ h4 ?_) <;> (first | with_reducible assumption | omega)) | ((with_reducible refine laidNNx y2 h3 ?_ h4 ?_) <;> (first | with_reducible assumption | omega)) | ((with_reducible refine laidON y2 h3 ?_ h4 ?_ ?_ ?_) <;> (first | with_reducible assumption | omega)) | ((with_reducible refine laidNO y2 h3 ?_ h4 ?_ ?_ ?_) <;> (first | with_reducible assumption | omega)) | ((with_reducible refine laidOO y2 h3 ?_ h4 ?_ ?_ ?_ ?_ ?_ ?_) <;> (first | with_reducible assumption | omega)))
  case rest =>
    obtain ⟨rfl, p, q, rfl, rfl, ⟨A1, m1, c1, bp, lp, hm1⟩, ⟨A2, m2, c2, bq, lq, hm2⟩, hp, hq, hbx⟩ := hcut
    clear bq lq
    have b_p2 := bp
    have l_p2 := lp
    clear bp lp
    have b_a2 := b_a1.bel hbx
    have t_r02 := t_r01.bel hbx
    have l_a2 := l_a1.bel hbx
    have bel2 := bel1.trans (hbx.mono bel1.size)
    have c_a0_2 := b_a2.c0
    have c_a1_2 := b_a2.c1
    have f_r02 := t_r02.room.2
    clear hbx b_a1 c_a0_1 c_a1_1 t_r01 f_r01 l_a1 bel1
    have c_p0_2 := b_p2.c0
    have c_p1_2 := b_p2.c1
    go_wp2
    have hx := t_r02.put (decide (Z < 0)) A1 m1 c1
    have hl := l_p2.put t_r02 (.bool (decide (Z < 0))) (.slice A1 m1 c1)
    have hbl := bel_put bel2 (g := r0) HG.out.2.1 (.bool (decide (Z < 0))) (.slice A1 m1 c1)
    generalize (wc.setCell ⟨r0, 0, none⟩ (.bool (decide (Z < 0)))).setCell ⟨r0, 1, none⟩ (.slice A1 m1 c1) = wz at *
    refine bodyPost_ret (v := .agg #[.bool (decide (Z < 0)), .slice A1 m1 c1]) (by simp [results, Tryd.results35, go_sem, hx.c0, hx.c1]) rfl ?_
    exact ⟨_, _, _, rfl, hl, by omega, hbl⟩
end Go.Proofs.YtfnfbfiikkiliaaDoor
