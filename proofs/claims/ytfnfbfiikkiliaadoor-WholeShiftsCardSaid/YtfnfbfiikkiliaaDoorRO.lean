/- Contracts of the document's own numbers with a sign: AddInt. -/
import Derived.Test.YtfnfbfiikkiliaaDoorRN
import Derived.Test.YtfnfbfiikkiliaaDoorLb
import Derived.Deep.RegionHeld3
import Derived.Deep.DeepCutAuto
namespace Go.Proofs.YtfnfbfiikkiliaaDoor
open Go.RowKit

theorem rnorm_g (w : World) (X : Int) (sa : Bool) (Aa : Option Addr) (na ca : Nat) (xa : List Nat) (La : Lm w Aa na ca xa) (ha : sgn sa (val xa) = X) :
    Calls Tryd.prog 19 #[.agg #[.bool sa, .slice Aa na ca]] w (TellsI w X na) := by
  subst ha; exact rnorm_any w sa Aa na ca xa La
theorem rnorm_m (w : World) (s : Bool) (N : Nat) (A : Option Addr) (m c : Nat) (h : Lm w A m c (lim N)) {Z : Int} (hZ : sgn s N = Z) :
    Calls Tryd.prog 19 #[.agg #[.bool s, .slice A m c]] w (TellsI w Z m) := by
  subst hZ
  have e := rnorm_any w s A m c (lim N) h
  rw [val_lim] at e
  exact e
theorem radd_m (w : World) (M N : Nat) (A : Option Addr) (n c : Nat) (h : Lm w A n c (lim M)) (A' : Option Addr) (n' c' : Nat) (h' : Lm w A' n' c' (lim N)) (hn : n ≤ 10000000000) (hn' : n' ≤ 10000000000) :
    Calls Tryd.prog 53 #[.slice A n c, .slice A' n' c'] w (Tells w (M + N) (max n n' + 1)) := by
  have e := radd_any w A n c _ A' n' c' _ h h' hn hn'
  rw [val_lim, val_lim] at e
  exact e
theorem rmul_m (w : World) (M N : Nat) (A : Option Addr) (n c : Nat) (h : Lm w A n c (lim M)) (A' : Option Addr) (n' c' : Nat) (h' : Lm w A' n' c' (lim N)) (hn : n ≤ 10000000000) (hn' : n' ≤ 10000000000) :
    Calls Tryd.prog 63 #[.slice A n c, .slice A' n' c'] w (Tells w (M * N) (n + n' + 1)) := by
  have e := rmul_any w A n c _ A' n' c' _ h h' hn hn'
  rw [val_lim, val_lim] at e
  exact e
theorem rsub_lt (w : World) (M N : Nat) (A : Option Addr) (n c : Nat) (h : Lm w A n c (lim M)) (A' : Option Addr) (n' c' : Nat) (h' : Lm w A' n' c' (lim N)) (hlt : M < N) :
    Calls Tryd.prog 54 #[.slice A n c, .slice A' n' c'] w fun e w' => e = .returned (.tuple #[.slice none 0 0, .bool false]) ∧ Below w.heap.size w w' :=
  (rsub_any w A n c _ A' n' c' _ h h').mono fun _ _ ht => ht.elim (fun h => h.2) fun h => absurd h.1 (by rw [val_lim, val_lim]; exact Nat.not_le.2 hlt)
theorem rsub_ge (w : World) (M N : Nat) (A : Option Addr) (n c : Nat) (h : Lm w A n c (lim M)) (A' : Option Addr) (n' c' : Nat) (h' : Lm w A' n' c' (lim N)) (hle : N ≤ M) :
    Calls Tryd.prog 54 #[.slice A n c, .slice A' n' c'] w fun e w' => ∃ B m d, e = .returned (.tuple #[.slice B m d, .bool true]) ∧ Lm w' B m d (lim (M - N)) ∧ m ≤ n ∧ Below w.heap.size w w' :=
  (rsub_any w A n c _ A' n' c' _ h h').mono fun _ _ ht => ht.elim (fun h => absurd hle (by have h1 := h.1; rw [val_lim, val_lim] at h1; exact Nat.not_le.2 h1)) fun h => by have h2 := h.2; rw [val_lim, val_lim] at h2; exact h2
set_option maxRecDepth 100000 in
set_option maxHeartbeats 20000000 in
theorem raddI_g (w : World) (X Y : Int) (sa : Bool) (Aa : Option Addr) (na ca : Nat) (xa : List Nat) (La : Lm w Aa na ca xa) (ha : sgn sa (val xa) = X) (sb : Bool) (Ab : Option Addr) (nb cb : Nat) (xb : List Nat) (Lb : Lm w Ab nb cb xb) (hb : sgn sb (val xb) = Y) (hna : na ≤ 100000) (hnb : nb ≤ 100000) {Z : Int} (hZ : X + Y = Z) :
    Calls Tryd.prog 25 #[.agg #[.bool sa, .slice Aa na ca], .agg #[.bool sb, .slice Ab nb cb]] w (TellsI w Z 3000000) := by
  have HX := Lib.hid ha
  have HY := Lib.hid hb
  have HZ := Lib.hid hZ
  clear ha hb hZ
  go_enter Tryd.func25, Tryd.ntmps25
  go_upto_region 1 with (fail)
  obtain ⟨ga, hga⟩ : ∃ g, g = w.heap.size := ⟨_, rfl⟩
  obtain ⟨gb, hgb⟩ : ∃ g, g = w.heap.size + 1 := ⟨_, rfl⟩
  obtain ⟨r0, hr0⟩ : ∃ g, g = w.heap.size + 2 := ⟨_, rfl⟩
  obtain ⟨w1, hw1⟩ : ∃ v, v = (((w.alloc (.cells #[.bool sa, .slice Aa na ca] 24)).alloc (.cells #[.bool sb, .slice Ab nb cb] 24)).alloc (.cells #[.bool false, .slice none 0 0] 24)) := ⟨_, rfl⟩
  have bel1 : Below w.heap.size w w1 := by rw [hw1]; exact bel_alloc3 _ _ _ _
  have b_a1 : Box w1 ga sa Aa na ca := by rw [hw1, hga]; exact (((Box.new _ _ _ _ _).alloc _).alloc _)
  have b_b1 : Box w1 gb sb Ab nb cb := by rw [hw1, hgb]; exact ((Box.at1 _ _ _ _ _ _).alloc _)
  have t_r01 : Two w1 r0 := by rw [hw1, hr0]; exact Box.two (Box.at2 _ _ _ _ _ _ _)
  rw [← hw1, ← hr0, ← hgb, ← hga]
  have hgs : w.heap.size ≤ ga ∧ w.heap.size ≤ gb ∧ w.heap.size ≤ r0 ∧ ga ≠ gb ∧ ga ≠ r0 ∧ gb ≠ ga ∧ gb ≠ r0 ∧ r0 ≠ ga ∧ r0 ≠ gb := by omega
  have HG := Lib.hid hgs
  clear hw1 hgs hga hgb hr0
  have l_a1 := La.bel bel1
  have l_b1 := Lb.bel bel1
  have c_a0_1 := b_a1.c0
  have c_a1_1 := b_a1.c1
  have c_b0_1 := b_b1.c0
  have c_b1_1 := b_b1.c1
  have f_r01 := t_r01.room.2
  go_cut [5, 6] (fun s5 s6 wx => Laid2 w1 X Y s5 s6 wx)
  case first =>
    have hS0 := And.intro (held0 b_a1) (held0 b_b1)
    have y0 : Below w1.heap.size w1 w1 := Below.refl _ _
    go_region_held3 (fun w' => (Box w' ga sa Aa na ca ∧ w'.cell? ⟨ga, 0, none⟩ = some (.bool sa) ∧ w'.cell? ⟨ga, 1, none⟩ = some (.slice Aa na ca)) ∧ (Box w' gb sb Ab nb cb ∧ w'.cell? ⟨gb, 0, none⟩ = some (.bool sb) ∧ w'.cell? ⟨gb, 1, none⟩ = some (.slice Ab nb cb)))
      (first
        | exact ⟨held0 (w := w1.drew) b_a1, held0 (w := w1.drew) b_b1⟩
        | with_reducible exact keep20 (bel_drw (bel_al y0)) hS0
        | with_reducible exact keep20 (bel_drw (bel_al (bel_al y0))) hS0
        | with_reducible exact keep20 (bel_al y0) hS0
        | with_reducible exact keep20 (bel_al (bel_al y0)) hS0
        | with_reducible exact keep20 (bel_al (by with_reducible assumption)) hS0
        | with_reducible exact keep20 (bel_al (bel_al (by with_reducible assumption))) hS0
        | with_reducible exact keep20 (bel_put (by with_reducible assumption) (by omega) _ _) hS0
        | with_reducible exact keep20 (bel_al (bel_put (by with_reducible assumption) (by omega) _ _)) hS0
        | with_reducible exact keep20 (bel_put (bel_put (by with_reducible assumption) (by omega) _ _) (by omega) _ _) hS0
        | with_reducible exact keep20 (by assumption) hS0)
      (first
        | (go_at_call 19; (fail_if_success (have hq := z1)); refine (rnorm_g _ X sa Aa na ca xa ?_ HX.out).mono ?_; (first | with_reducible exact (Lm.drew l_a1) | with_reducible exact (Lm.drew (Lm.al l_a1 _)) | with_reducible exact (Lm.drew (Lm.al (Lm.al l_a1 _) _))); rintro e x1 ⟨A1, m1, c1, rfl, h1, hm1, e1⟩; have z1 : True := trivial; have hc := bel_undrew e1; have q1 : Below w1.heap.size w1 x1 := (by first | with_reducible exact hc | with_reducible exact bel_a1 hc | with_reducible exact bel_a2 hc); have y1 : Below w1.heap.size w1 x1 := bel_next y0 q1; have La_1 := l_a1.bel q1; have Lb_1 := l_b1.bel q1; have s1 := bel_size q1; (first | (with_reducible have tab : Two x1 w1.heap.size ∧ Two x1 (w1.heap.size + 1) := zn1 hc; have ta1_1 := tab.1; have tb1_1 := tab.2; clear tab) | (with_reducible have ta1_1 : Two x1 w1.heap.size := zn0 hc) | skip); (try (have hs1 : w1.heap.size < x1.heap.size := Two.lt ta1_1)))
        | (go_at_call 19; have hq := z1; (fail_if_success (have hq := z2)); refine (rnorm_g _ Y sb Ab nb cb xb ?_ HY.out).mono ?_; (first | with_reducible exact (Lb_1) | with_reducible exact (Lm.al Lb_1 _) | with_reducible exact (Lm.al (Lm.al Lb_1 _) _)); rintro e x2 ⟨A2, m2, c2, rfl, h2, hm2, e2⟩; have z2 : True := trivial; have hc := e2; have q2 : Below x1.heap.size x1 x2 := (by first | with_reducible exact hc | with_reducible exact bel_a1 hc | with_reducible exact bel_a2 hc); have y2 : Below w1.heap.size w1 x2 := bel_next y1 q2; have La_2 := La_1.bel q2; have Lb_2 := Lb_1.bel q2; have Lp_2 := h1.bel q2; have s2 := bel_size q2; (try with_reducible have ta1_2 := Two.bel ta1_1 q2); (try with_reducible have tb1_2 := Two.bel tb1_1 q2); (first | (with_reducible have tab : Two x2 x1.heap.size ∧ Two x2 (x1.heap.size + 1) := zn1 hc; have ta2_2 := tab.1; have tb2_2 := tab.2; clear tab) | (with_reducible have ta2_2 : Two x2 x1.heap.size := zn0 hc) | skip); (try (have hs2 : x1.heap.size < x2.heap.size := Two.lt ta2_2)); (try (have ra1 := ta1_2.room.2; have rl1 := ta1_2.lt)); (try (have rb1 := tb1_2.room.2)); (try (have hq1 := ta1_2; have hq2 := ta2_2; have na := Nat.ne_of_lt (show w1.heap.size < x1.heap.size from by omega); have nc := na.symm)); (try (have ra2 := ta2_2.room.2; have rl2 := ta2_2.lt)); (try (have rb2 := tb2_2.room.2))))
    all_goals (go_wp2_with fail; go_meet)
    all_goals (first | with_reducible exact laidNN y2 Lp_2 (by omega) h2 (by omega) | with_reducible exact laidNNx y2 Lp_2 (by omega) h2 (by omega) | with_reducible exact laidON y2 Lp_2 (by omega) h2 (by omega) (by with_reducible assumption) (by omega) | with_reducible exact laidNO y2 Lp_2 (by omega) h2 (by omega) (by with_reducible assumption) (by omega) | with_reducible exact laidOO y2 Lp_2 (by omega) h2 (by omega) (by with_reducible assumption) (by with_reducible assumption) (by omega) (by omega) (by omega))
  case rest =>
    obtain ⟨p, q, rfl, rfl, ⟨A1, m1, c1, bp, lp, hm1⟩, ⟨A2, m2, c2, bq, lq, hm2⟩, hp, hq, hbx⟩ := hcut
    have b_p2 := bp
    have l_p2 := lp
    have b_q2 := bq
    have l_q2 := lq
    clear bp lp bq lq
    have rl_r0 : r0 < w1.heap.size := t_r01.lt
    have b_a2 := b_a1.bel hbx
    have b_b2 := b_b1.bel hbx
    have t_r02 := t_r01.bel hbx
    have l_a2 := l_a1.bel hbx
    have l_b2 := l_b1.bel hbx
    have bel2 := bel1.trans (hbx.mono bel1.size)
    have c_a0_2 := b_a2.c0
    have c_a1_2 := b_a2.c1
    have c_b0_2 := b_b2.c0
    have c_b1_2 := b_b2.c1
    have f_r02 := t_r02.room.2
    clear hbx b_a1 c_a0_1 c_a1_1 b_b1 c_b0_1 c_b1_1 t_r01 f_r01 l_a1 l_b1 bel1
    clear b_a2 c_a0_2 c_a1_2 l_a2 b_b2 c_b0_2 c_b1_2 l_b2
    have hpr0 : p ≠ r0 := by omega
    have hqr0 : q ≠ r0 := by omega
    have HNr0 := Lib.hid (And.intro hpr0 hqr0)
    clear hpr0 hqr0 rl_r0
    clear hp hq
    by_cases hX : X < 0
    · have dx : decide (X < 0) = true := decide_eq_true hX
      by_cases hY : Y < 0
      · have dy : decide (Y < 0) = true := decide_eq_true hY
        rw [dx] at b_p2
        rw [dy] at b_q2
        have HXX := Lib.hid hX
        have HYY := Lib.hid hY
        clear dx dy hX hY
        have c_p0_2 := b_p2.c0
        have c_p1_2 := b_p2.c1
        have c_q0_2 := b_q2.c0
        have c_q1_2 := b_q2.c1
        have f_r02 := t_r02.room.2
        have HR : Hid (sgn true (X.natAbs + Y.natAbs) = Z) := (by have h1 := HXX.out; have h2 := HYY.out; have h3 := HZ.out; rw [sgn_true]; omega : sgn true (X.natAbs + Y.natAbs) = Z)
        go_wp2_with fail
        go_region_held3 (fun w' => (Box w' p true A1 m1 c1 ∧ w'.cell? ⟨p, 0, none⟩ = some (.bool true) ∧ w'.cell? ⟨p, 1, none⟩ = some (.slice A1 m1 c1)) ∧ (Box w' q true A2 m2 c2 ∧ w'.cell? ⟨q, 0, none⟩ = some (.bool true) ∧ w'.cell? ⟨q, 1, none⟩ = some (.slice A2 m2 c2)) ∧ (Two w' r0 ∧ w'.cell? ⟨r0, 0, none⟩ = some (lies w' r0 0) ∧ w'.cell? ⟨r0, 1, none⟩ = some (lies w' r0 1) ∧ w'.frozen? ⟨r0, 0, none⟩ = false ∧ w'.frozen? ⟨r0, 1, none⟩ = false))
          (first
            | exact ⟨held0 (w := wc.drew) b_p2, held0 (w := wc.drew) b_q2, Two.room (w := wc.drew) t_r02⟩
            | exact keep21 (by assumption) (by assumption)
            | exact keep21s0 HNr0.out.1 HNr0.out.2 (by assumption) rfl)
          (first
            | (go_at_call 53; refine (radd_m _ X.natAbs Y.natAbs A1 m1 c1 ?_ A2 m2 c2 ?_ ?_ ?_).mono ?_; exact l_p2.drew; exact l_q2.drew; omega; omega; rintro e w5 ⟨A5, m5, c5, rfl, h5, hm5, hb5⟩)
            | (go_at_call 19; refine (rnorm_m _ true (X.natAbs + Y.natAbs) A5 m5 c5 ?_ HR.out).mono ?_; exact h5; rintro e w6 ⟨A6, m6, c6, rfl, h6, hm6, hb6⟩))
        have hbx := bel_next (bel_undrew hb5) hb6
        have b_p3 := b_p2.bel hbx
        have b_q3 := b_q2.bel hbx
        have t_r03 := t_r02.bel hbx
        have l_p3 := l_p2.bel hbx
        have l_q3 := l_q2.bel hbx
        have bel3 := bel2.trans (hbx.mono bel2.size)
        have c_p0_3 := b_p3.c0
        have c_p1_3 := b_p3.c1
        have c_q0_3 := b_q3.c0
        have c_q1_3 := b_q3.c1
        have f_r03 := t_r03.room.2
        clear hbx b_p2 c_p0_2 c_p1_2 b_q2 c_q0_2 c_q1_2 t_r02 f_r02 l_p2 l_q2 bel2
        clear hb5 hb6
        go_wp2
        have hx := t_r03.put (decide (Z < 0)) A6 m6 c6
        have hl := h6.put t_r03 (.bool (decide (Z < 0))) (.slice A6 m6 c6)
        have hbl := bel_put bel3 (g := r0) HG.out.2.2.1 (.bool (decide (Z < 0))) (.slice A6 m6 c6)
        generalize (w6.setCell ⟨r0, 0, none⟩ (.bool (decide (Z < 0)))).setCell ⟨r0, 1, none⟩ (.slice A6 m6 c6) = wz at *
        refine bodyPost_ret (v := .agg #[.bool (decide (Z < 0)), .slice A6 m6 c6]) (by simp [results, Tryd.results25, go_sem, hx.c0, hx.c1]) rfl ?_
        exact ⟨_, _, _, rfl, hl, by omega, hbl⟩
      · have dy : decide (Y < 0) = false := decide_eq_false hY
        rw [dx] at b_p2
        rw [dy] at b_q2
        have HXX := Lib.hid hX
        have HYY := Lib.hid hY
        clear dx dy hX hY
        have c_p0_2 := b_p2.c0
        have c_p1_2 := b_p2.c1
        have c_q0_2 := b_q2.c0
        have c_q1_2 := b_q2.c1
        have f_r02 := t_r02.room.2
        by_cases hle : Y.natAbs ≤ X.natAbs
        · have HR : Hid (sgn true (X.natAbs - Y.natAbs) = Z) := (by have h1 := HXX.out; have h2 := HYY.out; have h3 := HZ.out; rw [sgn_true]; omega : sgn true (X.natAbs - Y.natAbs) = Z)
          have HLE := Lib.hid hle
          clear hle
          go_wp2_with fail
          have cc := Lib.hid (rsub_ge wc X.natAbs Y.natAbs A1 m1 c1 l_p2 A2 m2 c2 l_q2 HLE.out)
          refine cc.out.mono ?_
          clear cc
          rintro e v3 ⟨A5, m5, c5, rfl, h5, hm5, kb3⟩
          have b_p3 := b_p2.bel kb3
          have b_q3 := b_q2.bel kb3
          have t_r03 := t_r02.bel kb3
          have l_p3 := l_p2.bel kb3
          have l_q3 := l_q2.bel kb3
          have bel3 := bel2.trans (kb3.mono bel2.size)
          have c_p0_3 := b_p3.c0
          have c_p1_3 := b_p3.c1
          have c_q0_3 := b_q3.c0
          have c_q1_3 := b_q3.c1
          have f_r03 := t_r03.room.2
          clear kb3 b_p2 c_p0_2 c_p1_2 b_q2 c_q0_2 c_q1_2 t_r02 f_r02 l_p2 l_q2 bel2
          go_wp2_with fail
          have cc := Lib.hid (rnorm_m v3 true (X.natAbs - Y.natAbs) A5 m5 c5 h5 HR.out)
          refine cc.out.mono ?_
          clear cc
          rintro e v4 ⟨A6, m6, c6, rfl, h6, hm6, kb4⟩
          have b_p4 := b_p3.bel kb4
          have b_q4 := b_q3.bel kb4
          have t_r04 := t_r03.bel kb4
          have l_p4 := l_p3.bel kb4
          have l_q4 := l_q3.bel kb4
          have l_m4 := h5.bel kb4
          have bel4 := bel3.trans (kb4.mono bel3.size)
          have c_p0_4 := b_p4.c0
          have c_p1_4 := b_p4.c1
          have c_q0_4 := b_q4.c0
          have c_q1_4 := b_q4.c1
          have f_r04 := t_r04.room.2
          clear kb4 b_p3 c_p0_3 c_p1_3 b_q3 c_q0_3 c_q1_3 t_r03 f_r03 l_p3 l_q3 h5 bel3
          go_wp2
          have hx := t_r04.put (decide (Z < 0)) A6 m6 c6
          have hl := h6.put t_r04 (.bool (decide (Z < 0))) (.slice A6 m6 c6)
          have hbl := bel_put bel4 (g := r0) HG.out.2.2.1 (.bool (decide (Z < 0))) (.slice A6 m6 c6)
          generalize (v4.setCell ⟨r0, 0, none⟩ (.bool (decide (Z < 0)))).setCell ⟨r0, 1, none⟩ (.slice A6 m6 c6) = wz at *
          refine bodyPost_ret (v := .agg #[.bool (decide (Z < 0)), .slice A6 m6 c6]) (by simp [results, Tryd.results25, go_sem, hx.c0, hx.c1]) rfl ?_
          exact ⟨_, _, _, rfl, hl, by omega, hbl⟩
        · have HR : Hid (sgn false (Y.natAbs - X.natAbs) = Z) := (by have h1 := HXX.out; have h2 := HYY.out; have h3 := HZ.out; rw [sgn_false]; omega : sgn false (Y.natAbs - X.natAbs) = Z)
          have HLE := Lib.hid hle
          clear hle
          go_wp2_with fail
          have cc := Lib.hid (rsub_lt wc X.natAbs Y.natAbs A1 m1 c1 l_p2 A2 m2 c2 l_q2 (Nat.lt_of_not_le HLE.out))
          refine cc.out.mono ?_
          clear cc
          rintro e v3 ⟨rfl, kb3⟩
          have b_p3 := b_p2.bel kb3
          have b_q3 := b_q2.bel kb3
          have t_r03 := t_r02.bel kb3
          have l_p3 := l_p2.bel kb3
          have l_q3 := l_q2.bel kb3
          have bel3 := bel2.trans (kb3.mono bel2.size)
          have c_p0_3 := b_p3.c0
          have c_p1_3 := b_p3.c1
          have c_q0_3 := b_q3.c0
          have c_q1_3 := b_q3.c1
          have f_r03 := t_r03.room.2
          clear kb3 b_p2 c_p0_2 c_p1_2 b_q2 c_q0_2 c_q1_2 t_r02 f_r02 l_p2 l_q2 bel2
          go_wp2_with fail
          have cc := Lib.hid (rsub_ge v3 Y.natAbs X.natAbs A2 m2 c2 l_q3 A1 m1 c1 l_p3 (Nat.le_of_lt (Nat.lt_of_not_le HLE.out)))
          refine cc.out.mono ?_
          clear cc
          rintro e v4 ⟨A5, m5, c5, rfl, h5, hm5, kb4⟩
          have b_p4 := b_p3.bel kb4
          have b_q4 := b_q3.bel kb4
          have t_r04 := t_r03.bel kb4
          have l_p4 := l_p3.bel kb4
          have l_q4 := l_q3.bel kb4
          have bel4 := bel3.trans (kb4.mono bel3.size)
          have c_p0_4 := b_p4.c0
          have c_p1_4 := b_p4.c1
          have c_q0_4 := b_q4.c0
          have c_q1_4 := b_q4.c1
          have f_r04 := t_r04.room.2
          clear kb4 b_p3 c_p0_3 c_p1_3 b_q3 c_q0_3 c_q1_3 t_r03 f_r03 l_p3 l_q3 bel3
          go_wp2_with fail
          have cc := Lib.hid (rnorm_m v4 false (Y.natAbs - X.natAbs) A5 m5 c5 h5 HR.out)
          refine cc.out.mono ?_
          clear cc
          rintro e v5 ⟨A6, m6, c6, rfl, h6, hm6, kb5⟩
          have b_p5 := b_p4.bel kb5
          have b_q5 := b_q4.bel kb5
          have t_r05 := t_r04.bel kb5
          have l_p5 := l_p4.bel kb5
          have l_q5 := l_q4.bel kb5
          have l_m5 := h5.bel kb5
          have bel5 := bel4.trans (kb5.mono bel4.size)
          have c_p0_5 := b_p5.c0
          have c_p1_5 := b_p5.c1
          have c_q0_5 := b_q5.c0
          have c_q1_5 := b_q5.c1
          have f_r05 := t_r05.room.2
          clear kb5 b_p4 c_p0_4 c_p1_4 b_q4 c_q0_4 c_q1_4 t_r04 f_r04 l_p4 l_q4 h5 bel4
          go_wp2
          have hx := t_r05.put (decide (Z < 0)) A6 m6 c6
          have hl := h6.put t_r05 (.bool (decide (Z < 0))) (.slice A6 m6 c6)
          have hbl := bel_put bel5 (g := r0) HG.out.2.2.1 (.bool (decide (Z < 0))) (.slice A6 m6 c6)
          generalize (v5.setCell ⟨r0, 0, none⟩ (.bool (decide (Z < 0)))).setCell ⟨r0, 1, none⟩ (.slice A6 m6 c6) = wz at *
          refine bodyPost_ret (v := .agg #[.bool (decide (Z < 0)), .slice A6 m6 c6]) (by simp [results, Tryd.results25, go_sem, hx.c0, hx.c1]) rfl ?_
          exact ⟨_, _, _, rfl, hl, by omega, hbl⟩
    · have dx : decide (X < 0) = false := decide_eq_false hX
      by_cases hY : Y < 0
      · have dy : decide (Y < 0) = true := decide_eq_true hY
        rw [dx] at b_p2
        rw [dy] at b_q2
        have HXX := Lib.hid hX
        have HYY := Lib.hid hY
        clear dx dy hX hY
        have c_p0_2 := b_p2.c0
        have c_p1_2 := b_p2.c1
        have c_q0_2 := b_q2.c0
        have c_q1_2 := b_q2.c1
        have f_r02 := t_r02.room.2
        by_cases hle : Y.natAbs ≤ X.natAbs
        · have HR : Hid (sgn false (X.natAbs - Y.natAbs) = Z) := (by have h1 := HXX.out; have h2 := HYY.out; have h3 := HZ.out; rw [sgn_false]; omega : sgn false (X.natAbs - Y.natAbs) = Z)
          have HLE := Lib.hid hle
          clear hle
          go_wp2_with fail
          have cc := Lib.hid (rsub_ge wc X.natAbs Y.natAbs A1 m1 c1 l_p2 A2 m2 c2 l_q2 HLE.out)
          refine cc.out.mono ?_
          clear cc
          rintro e v3 ⟨A5, m5, c5, rfl, h5, hm5, kb3⟩
          have b_p3 := b_p2.bel kb3
          have b_q3 := b_q2.bel kb3
          have t_r03 := t_r02.bel kb3
          have l_p3 := l_p2.bel kb3
          have l_q3 := l_q2.bel kb3
          have bel3 := bel2.trans (kb3.mono bel2.size)
          have c_p0_3 := b_p3.c0
          have c_p1_3 := b_p3.c1
          have c_q0_3 := b_q3.c0
          have c_q1_3 := b_q3.c1
          have f_r03 := t_r03.room.2
          clear kb3 b_p2 c_p0_2 c_p1_2 b_q2 c_q0_2 c_q1_2 t_r02 f_r02 l_p2 l_q2 bel2
          go_wp2_with fail
          have cc := Lib.hid (rnorm_m v3 false (X.natAbs - Y.natAbs) A5 m5 c5 h5 HR.out)
          refine cc.out.mono ?_
          clear cc
          rintro e v4 ⟨A6, m6, c6, rfl, h6, hm6, kb4⟩
          have b_p4 := b_p3.bel kb4
          have b_q4 := b_q3.bel kb4
          have t_r04 := t_r03.bel kb4
          have l_p4 := l_p3.bel kb4
          have l_q4 := l_q3.bel kb4
          have l_m4 := h5.bel kb4
          have bel4 := bel3.trans (kb4.mono bel3.size)
          have c_p0_4 := b_p4.c0
          have c_p1_4 := b_p4.c1
          have c_q0_4 := b_q4.c0
          have c_q1_4 := b_q4.c1
          have f_r04 := t_r04.room.2
          clear kb4 b_p3 c_p0_3 c_p1_3 b_q3 c_q0_3 c_q1_3 t_r03 f_r03 l_p3 l_q3 h5 bel3
          go_wp2
          have hx := t_r04.put (decide (Z < 0)) A6 m6 c6
          have hl := h6.put t_r04 (.bool (decide (Z < 0))) (.slice A6 m6 c6)
          have hbl := bel_put bel4 (g := r0) HG.out.2.2.1 (.bool (decide (Z < 0))) (.slice A6 m6 c6)
          generalize (v4.setCell ⟨r0, 0, none⟩ (.bool (decide (Z < 0)))).setCell ⟨r0, 1, none⟩ (.slice A6 m6 c6) = wz at *
          refine bodyPost_ret (v := .agg #[.bool (decide (Z < 0)), .slice A6 m6 c6]) (by simp [results, Tryd.results25, go_sem, hx.c0, hx.c1]) rfl ?_
          exact ⟨_, _, _, rfl, hl, by omega, hbl⟩
        · have HR : Hid (sgn true (Y.natAbs - X.natAbs) = Z) := (by have h1 := HXX.out; have h2 := HYY.out; have h3 := HZ.out; rw [sgn_true]; omega : sgn true (Y.natAbs - X.natAbs) = Z)
          have HLE := Lib.hid hle
          clear hle
          go_wp2_with fail
          have cc := Lib.hid (rsub_lt wc X.natAbs Y.natAbs A1 m1 c1 l_p2 A2 m2 c2 l_q2 (Nat.lt_of_not_le HLE.out))
          refine cc.out.mono ?_
          clear cc
          rintro e v3 ⟨rfl, kb3⟩
          have b_p3 := b_p2.bel kb3
          have b_q3 := b_q2.bel kb3
          have t_r03 := t_r02.bel kb3
          have l_p3 := l_p2.bel kb3
          have l_q3 := l_q2.bel kb3
          have bel3 := bel2.trans (kb3.mono bel2.size)
          have c_p0_3 := b_p3.c0
          have c_p1_3 := b_p3.c1
          have c_q0_3 := b_q3.c0
          have c_q1_3 := b_q3.c1
          have f_r03 := t_r03.room.2
          clear kb3 b_p2 c_p0_2 c_p1_2 b_q2 c_q0_2 c_q1_2 t_r02 f_r02 l_p2 l_q2 bel2
          go_wp2_with fail
          have cc := Lib.hid (rsub_ge v3 Y.natAbs X.natAbs A2 m2 c2 l_q3 A1 m1 c1 l_p3 (Nat.le_of_lt (Nat.lt_of_not_le HLE.out)))
          refine cc.out.mono ?_
          clear cc
          rintro e v4 ⟨A5, m5, c5, rfl, h5, hm5, kb4⟩
          have b_p4 := b_p3.bel kb4
          have b_q4 := b_q3.bel kb4
          have t_r04 := t_r03.bel kb4
          have l_p4 := l_p3.bel kb4
          have l_q4 := l_q3.bel kb4
          have bel4 := bel3.trans (kb4.mono bel3.size)
          have c_p0_4 := b_p4.c0
          have c_p1_4 := b_p4.c1
          have c_q0_4 := b_q4.c0
          have c_q1_4 := b_q4.c1
          have f_r04 := t_r04.room.2
          clear kb4 b_p3 c_p0_3 c_p1_3 b_q3 c_q0_3 c_q1_3 t_r03 f_r03 l_p3 l_q3 bel3
          go_wp2_with fail
          have cc := Lib.hid (rnorm_m v4 true (Y.natAbs - X.natAbs) A5 m5 c5 h5 HR.out)
          refine cc.out.mono ?_
          clear cc
          rintro e v5 ⟨A6, m6, c6, rfl, h6, hm6, kb5⟩
          have b_p5 := b_p4.bel kb5
          have b_q5 := b_q4.bel kb5
          have t_r05 := t_r04.bel kb5
          have l_p5 := l_p4.bel kb5
          have l_q5 := l_q4.bel kb5
          have l_m5 := h5.bel kb5
          have bel5 := bel4.trans (kb5.mono bel4.size)
          have c_p0_5 := b_p5.c0
          have c_p1_5 := b_p5.c1
          have c_q0_5 := b_q5.c0
          have c_q1_5 := b_q5.c1
          have f_r05 := t_r05.room.2
          clear kb5 b_p4 c_p0_4 c_p1_4 b_q4 c_q0_4 c_q1_4 t_r04 f_r04 l_p4 l_q4 h5 bel4
          go_wp2
          have hx := t_r05.put (decide (Z < 0)) A6 m6 c6
          have hl := h6.put t_r05 (.bool (decide (Z < 0))) (.slice A6 m6 c6)
          have hbl := bel_put bel5 (g := r0) HG.out.2.2.1 (.bool (decide (Z < 0))) (.slice A6 m6 c6)
          generalize (v5.setCell ⟨r0, 0, none⟩ (.bool (decide (Z < 0)))).setCell ⟨r0, 1, none⟩ (.slice A6 m6 c6) = wz at *
          refine bodyPost_ret (v := .agg #[.bool (decide (Z < 0)), .slice A6 m6 c6]) (by simp [results, Tryd.results25, go_sem, hx.c0, hx.c1]) rfl ?_
          exact ⟨_, _, _, rfl, hl, by omega, hbl⟩
      · have dy : decide (Y < 0) = false := decide_eq_false hY
        rw [dx] at b_p2
        rw [dy] at b_q2
        have HXX := Lib.hid hX
        have HYY := Lib.hid hY
        clear dx dy hX hY
        have c_p0_2 := b_p2.c0
        have c_p1_2 := b_p2.c1
        have c_q0_2 := b_q2.c0
        have c_q1_2 := b_q2.c1
        have f_r02 := t_r02.room.2
        have HR : Hid (sgn false (X.natAbs + Y.natAbs) = Z) := (by have h1 := HXX.out; have h2 := HYY.out; have h3 := HZ.out; rw [sgn_false]; omega : sgn false (X.natAbs + Y.natAbs) = Z)
        go_wp2_with fail
        go_region_held3 (fun w' => (Box w' p false A1 m1 c1 ∧ w'.cell? ⟨p, 0, none⟩ = some (.bool false) ∧ w'.cell? ⟨p, 1, none⟩ = some (.slice A1 m1 c1)) ∧ (Box w' q false A2 m2 c2 ∧ w'.cell? ⟨q, 0, none⟩ = some (.bool false) ∧ w'.cell? ⟨q, 1, none⟩ = some (.slice A2 m2 c2)) ∧ (Two w' r0 ∧ w'.cell? ⟨r0, 0, none⟩ = some (lies w' r0 0) ∧ w'.cell? ⟨r0, 1, none⟩ = some (lies w' r0 1) ∧ w'.frozen? ⟨r0, 0, none⟩ = false ∧ w'.frozen? ⟨r0, 1, none⟩ = false))
          (first
            | exact ⟨held0 (w := wc.drew) b_p2, held0 (w := wc.drew) b_q2, Two.room (w := wc.drew) t_r02⟩
            | exact keep21 (by assumption) (by assumption)
            | exact keep21s0 HNr0.out.1 HNr0.out.2 (by assumption) rfl)
          (first
            | (go_at_call 53; refine (radd_m _ X.natAbs Y.natAbs A1 m1 c1 ?_ A2 m2 c2 ?_ ?_ ?_).mono ?_; exact l_p2.drew; exact l_q2.drew; omega; omega; rintro e w5 ⟨A5, m5, c5, rfl, h5, hm5, hb5⟩)
            | (go_at_call 19; refine (rnorm_m _ false (X.natAbs + Y.natAbs) A5 m5 c5 ?_ HR.out).mono ?_; exact h5; rintro e w6 ⟨A6, m6, c6, rfl, h6, hm6, hb6⟩))
        have hbx := bel_next (bel_undrew hb5) hb6
        have b_p3 := b_p2.bel hbx
        have b_q3 := b_q2.bel hbx
        have t_r03 := t_r02.bel hbx
        have l_p3 := l_p2.bel hbx
        have l_q3 := l_q2.bel hbx
        have bel3 := bel2.trans (hbx.mono bel2.size)
        have c_p0_3 := b_p3.c0
        have c_p1_3 := b_p3.c1
        have c_q0_3 := b_q3.c0
        have c_q1_3 := b_q3.c1
        have f_r03 := t_r03.room.2
        clear hbx b_p2 c_p0_2 c_p1_2 b_q2 c_q0_2 c_q1_2 t_r02 f_r02 l_p2 l_q2 bel2
        clear hb5 hb6
        go_wp2
        have hx := t_r03.put (decide (Z < 0)) A6 m6 c6
        have hl := h6.put t_r03 (.bool (decide (Z < 0))) (.slice A6 m6 c6)
        have hbl := bel_put bel3 (g := r0) HG.out.2.2.1 (.bool (decide (Z < 0))) (.slice A6 m6 c6)
        generalize (w6.setCell ⟨r0, 0, none⟩ (.bool (decide (Z < 0)))).setCell ⟨r0, 1, none⟩ (.slice A6 m6 c6) = wz at *
        refine bodyPost_ret (v := .agg #[.bool (decide (Z < 0)), .slice A6 m6 c6]) (by simp [results, Tryd.results25, go_sem, hx.c0, hx.c1]) rfl ?_
        exact ⟨_, _, _, rfl, hl, by omega, hbl⟩
end Go.Proofs.YtfnfbfiikkiliaaDoor
