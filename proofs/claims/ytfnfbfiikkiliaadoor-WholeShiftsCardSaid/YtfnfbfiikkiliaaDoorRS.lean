/- Contracts of the document's own numbers with a sign: DivInt, IsInt. -/
import Derived.Test.YtfnfbfiikkiliaaDoorRO
import Derived.Deep.RegionHeld3
import Derived.Deep.DeepCutAuto
namespace Go.Proofs.YtfnfbfiikkiliaaDoor
open Go.RowKit

theorem dq_same {X Y : Int} (h : (X < 0 ∧ Y < 0) ∨ (¬ X < 0 ∧ 0 < Y)) : dq X Y = ((X.natAbs / Y.natAbs : Nat) : Int) ∧ dr X Y = sg Y * ((X.natAbs % Y.natAbs : Nat) : Int) := by
  have hY : Y ≠ 0 := by omega
  have hn : ¬ sg X * sg Y < 0 := by
    rcases h with ⟨h1, h2⟩ | ⟨h1, h2⟩
    · rw [sg_neg h1, sg_neg h2]; decide
    · rw [sg_pos h2]
      rcases sg_cases X with ⟨h3, e⟩ | ⟨h3, e⟩ | ⟨h3, e⟩ <;> rw [e] <;> first | omega | decide
  unfold dq dr
  rw [if_neg hY, if_neg hY, if_neg hn, if_neg (fun c => hn c.1)]
  exact ⟨rfl, rfl⟩
theorem dq_diff {X Y : Int} (h : (X < 0 ∧ 0 < Y) ∨ (¬ X < 0 ∧ Y < 0)) : (X.natAbs % Y.natAbs = 0 → dq X Y = -((X.natAbs / Y.natAbs : Nat) : Int) ∧ dr X Y = sg Y * ((X.natAbs % Y.natAbs : Nat) : Int)) ∧
    (X.natAbs % Y.natAbs ≠ 0 → dq X Y = -((X.natAbs / Y.natAbs + 1 : Nat) : Int) ∧ dr X Y = sg Y * ((Y.natAbs - X.natAbs % Y.natAbs : Nat) : Int)) := by
  have hY : Y ≠ 0 := by omega
  by_cases hX : X = 0
  · subst hX
    have e1 : (0 : Int).natAbs % Y.natAbs = 0 := Nat.zero_mod _
    have e2 : (0 : Int).natAbs / Y.natAbs = 0 := Nat.zero_div _
    refine ⟨fun _ => ?_, fun c => absurd e1 c⟩
    unfold dq dr
    rw [if_neg hY, if_neg hY, sg_zero rfl, Int.zero_mul, if_neg (by decide), if_neg (fun c => absurd c.1 (by decide)), e2]
    exact ⟨rfl, rfl⟩
  · have hn : sg X * sg Y < 0 := by
      rcases h with ⟨h1, h2⟩ | ⟨h1, h2⟩
      · rw [sg_neg h1, sg_pos h2]; decide
      · rw [sg_pos (X := X) (by omega), sg_neg h2]; decide
    unfold dq dr
    rw [if_neg hY, if_neg hY, if_pos hn]
    refine ⟨fun c => ?_, fun c => ?_⟩
    · rw [if_pos c, if_neg (fun d => d.2 c)]; exact ⟨rfl, rfl⟩
    · rw [if_neg c, if_pos ⟨hn, c⟩]; exact ⟨rfl, rfl⟩
theorem rdiv_no (w : World) (M : Nat) (A : Option Addr) (n c : Nat) (h : Lm w A n c (lim M)) (N : Nat) (A' : Option Addr) (n' c' : Nat) (h' : Lm w A' n' c' (lim N)) (hn : n ≤ 1000000000) (hn' : n' ≤ 1000000000) (h0 : N = 0) :
    Calls Tryd.prog 52 #[.slice A n c, .slice A' n' c'] w fun e w' => e = .returned (.tuple #[.slice none 0 0, .slice none 0 0, .bool false]) ∧ Below w.heap.size w w' :=
  (rdiv_any w A n c _ A' n' c' _ h h' hn hn').mono fun _ _ ht => ht.elim (fun h => h.2) fun h => absurd h0 (by have := h.1; rw [val_lim] at this; exact this)
theorem rdiv_yes (w : World) (M : Nat) (A : Option Addr) (n c : Nat) (h : Lm w A n c (lim M)) (N : Nat) (A' : Option Addr) (n' c' : Nat) (h' : Lm w A' n' c' (lim N)) (hn : n ≤ 1000000000) (hn' : n' ≤ 1000000000) (h0 : N ≠ 0) :
    Calls Tryd.prog 52 #[.slice A n c, .slice A' n' c'] w fun e w' => ∃ B m d B' m' d', e = .returned (.tuple #[.slice B m d, .slice B' m' d', .bool true]) ∧ Lm w' B m d (lim (M / N)) ∧ Lm w' B' m' d' (lim (M % N)) ∧ m ≤ n ∧ m' ≤ max n n' ∧ Below w.heap.size w w' :=
  (rdiv_any w A n c _ A' n' c' _ h h' hn hn').mono fun _ _ ht => ht.elim (fun h => absurd (by have := h.1; rw [val_lim] at this; exact this) h0) fun h => by have h2 := h.2; rw [val_lim, val_lim] at h2; exact h2
set_option maxRecDepth 100000 in
set_option maxHeartbeats 20000000 in
theorem rdivI_g (w : World) (X Y : Int) (sa : Bool) (Aa : Option Addr) (na ca : Nat) (xa : List Nat) (La : Lm w Aa na ca xa) (ha : sgn sa (val xa) = X) (sb : Bool) (Ab : Option Addr) (nb cb : Nat) (xb : List Nat) (Lb : Lm w Ab nb cb xb) (hb : sgn sb (val xb) = Y) (hna : na ≤ 100000) (hnb : nb ≤ 100000) {t : Bool} (ht : decide (Y ≠ 0) = t) {Q R : Int} (hQ : dq X Y = Q) (hR : dr X Y = R) :
    Calls Tryd.prog 14 #[.agg #[.bool sa, .slice Aa na ca], .agg #[.bool sb, .slice Ab nb cb]] w (DivZ w Q R 3000000 3000000 t) := by
  have HX := Lib.hid ha
  have HY := Lib.hid hb
  have HQ := Lib.hid hQ
  have HR := Lib.hid hR
  have Ht := Lib.hid ht
  clear ha hb hQ hR ht
  go_enter Tryd.func14, Tryd.ntmps14
  go_upto_region 1 with (fail)
  obtain ⟨ga, hga⟩ : ∃ g, g = w.heap.size := ⟨_, rfl⟩
  obtain ⟨gb, hgb⟩ : ∃ g, g = w.heap.size + 1 := ⟨_, rfl⟩
  obtain ⟨r0, hr0⟩ : ∃ g, g = w.heap.size + 2 := ⟨_, rfl⟩
  obtain ⟨r1, hr1⟩ : ∃ g, g = w.heap.size + 3 := ⟨_, rfl⟩
  obtain ⟨w1, hw1⟩ : ∃ v, v = ((((w.alloc (.cells #[.bool sa, .slice Aa na ca] 24)).alloc (.cells #[.bool sb, .slice Ab nb cb] 24)).alloc (.cells #[.bool false, .slice none 0 0] 24)).alloc (.cells #[.bool false, .slice none 0 0] 24)) := ⟨_, rfl⟩
  have bel1 : Below w.heap.size w w1 := by rw [hw1]; exact bel_alloc4 _ _ _ _ _
  have b_a1 : Box w1 ga sa Aa na ca := by rw [hw1, hga]; exact ((((Box.new _ _ _ _ _).alloc _).alloc _).alloc _)
  have b_b1 : Box w1 gb sb Ab nb cb := by rw [hw1, hgb]; exact (((Box.at1 _ _ _ _ _ _).alloc _).alloc _)
  have t_r01 : Two w1 r0 := by rw [hw1, hr0]; exact Box.two ((Box.at2 _ _ _ _ _ _ _).alloc _)
  have t_r11 : Two w1 r1 := by rw [hw1, hr1]; exact Box.two (Box.at3 _ _ _ _ _ _ _ _)
  rw [← hw1, ← hr1, ← hr0, ← hgb, ← hga]
  have hgs : w.heap.size ≤ ga ∧ w.heap.size ≤ gb ∧ w.heap.size ≤ r0 ∧ w.heap.size ≤ r1 ∧ ga ≠ gb ∧ ga ≠ r0 ∧ ga ≠ r1 ∧ gb ≠ ga ∧ gb ≠ r0 ∧ gb ≠ r1 ∧ r0 ≠ ga ∧ r0 ≠ gb ∧ r0 ≠ r1 ∧ r1 ≠ ga ∧ r1 ≠ gb ∧ r1 ≠ r0 := by omega
  have HG := Lib.hid hgs
  clear hw1 hgs hga hgb hr0 hr1
  have l_a1 := La.bel bel1
  have l_b1 := Lb.bel bel1
  have c_a0_1 := b_a1.c0
  have c_a1_1 := b_a1.c1
  have c_b0_1 := b_b1.c0
  have c_b1_1 := b_b1.c1
  have f_r01 := t_r01.room.2
  have f_r11 := t_r11.room.2
  go_cut [7, 8] (fun s5 s6 wx => Laid2 w1 X Y s5 s6 wx)
  case first =>
    have hS0 := And.intro (held0 b_a1) (held0 b_b1)
    have y0 : Below w1.heap.size w1 w1 := Below.refl _ _
    go_region_held3 (fun w' => (Box w' ga sa Aa na ca ∧ w'.cell? ⟨ga, 0, none⟩ = some (.bool sa) ∧ w'.cell? ⟨ga, 1, none⟩ = some (.slice Aa na ca)) ∧ (Box w' gb sb Ab nb cb ∧ w'.cell? ⟨gb, 0, none⟩ = some (.bool sb) ∧ w'.cell? ⟨gb, 1, none⟩ = some (.slice Ab nb cb)))
      (first
        | exact ⟨held0 (w := w1.drew) b_a1, held0 (w := w1.drew) b_b1⟩
        | with_reducible exact keep20 (bel_drw (bel_al y0)) hS0
        | with_reducible exact keep20 (bel_drw (bel_al (bel_al y0))) hS0
        | with_reducible exact keep20 (bel_al y0) hS0
        | with_reducible exact keep20 (bel_al (bel_al y0)) hS0
        | with_reducible exact keep20 (bel_al (by with_reducible assumption)) hS0
        | with_reducible exact keep20 (bel_al (bel_al (by with_reducible assumption))) hS0
        | with_reducible exact keep20 (bel_put (by with_reducible assumption) (by omega) _ _) hS0
        | with_reducible exact keep20 (bel_al (bel_put (by with_reducible assumption) (by omega) _ _)) hS0
        | with_reducible exact keep20 (bel_put (bel_put (by with_reducible assumption) (by omega) _ _) (by omega) _ _) hS0
        | with_reducible exact keep20 (by assumption) hS0)
      (first
        | (go_at_call 19; (fail_if_success (have hq := z1)); refine (rnorm_g _ X sa Aa na ca xa ?_ HX.out).mono ?_; (first | with_reducible exact (Lm.drew l_a1) | with_reducible exact (Lm.drew (Lm.al l_a1 _)) | with_reducible exact (Lm.drew (Lm.al (Lm.al l_a1 _) _))); rintro e x1 ⟨A1, m1, c1, rfl, h1, hm1, e1⟩; have z1 : True := trivial; have hc := bel_undrew e1; have q1 : Below w1.heap.size w1 x1 := (by first | with_reducible exact hc | with_reducible exact bel_a1 hc | with_reducible exact bel_a2 hc); have y1 : Below w1.heap.size w1 x1 := bel_next y0 q1; have La_1 := l_a1.bel q1; have Lb_1 := l_b1.bel q1; have s1 := bel_size q1; (first | (with_reducible have tab : Two x1 w1.heap.size ∧ Two x1 (w1.heap.size + 1) := zn1 hc; have ta1_1 := tab.1; have tb1_1 := tab.2; clear tab) | (with_reducible have ta1_1 : Two x1 w1.heap.size := zn0 hc) | skip); (try (have hs1 : w1.heap.size < x1.heap.size := Two.lt ta1_1)))
        | (go_at_call 19; have hq := z1; (fail_if_success (have hq := z2)); refine (rnorm_g _ Y sb Ab nb cb xb ?_ HY.out).mono ?_; (first | with_reducible exact (Lb_1) | with_reducible exact (Lm.al Lb_1 _) | with_reducible exact (Lm.al (Lm.al Lb_1 _) _)); rintro e x2 ⟨A2, m2, c2, rfl, h2, hm2, e2⟩; have z2 : True := trivial; have hc := e2; have q2 : Below x1.heap.size x1 x2 := (by first | with_reducible exact hc | with_reducible exact bel_a1 hc | with_reducible exact bel_a2 hc); have y2 : Below w1.heap.size w1 x2 := bel_next y1 q2; have La_2 := La_1.bel q2; have Lb_2 := Lb_1.bel q2; have Lp_2 := h1.bel q2; have s2 := bel_size q2; (try with_reducible have ta1_2 := Two.bel ta1_1 q2); (try with_reducible have tb1_2 := Two.bel tb1_1 q2); (first | (with_reducible have tab : Two x2 x1.heap.size ∧ Two x2 (x1.heap.size + 1) := zn1 hc; have ta2_2 := tab.1; have tb2_2 := tab.2; clear tab) | (with_reducible have ta2_2 : Two x2 x1.heap.size := zn0 hc) | skip); (try (have hs2 : x1.heap.size < x2.heap.size := Two.lt ta2_2)); (try (have ra1 := ta1_2.room.2; have rl1 := ta1_2.lt)); (try (have rb1 := tb1_2.room.2)); (try (have hq1 := ta1_2; have hq2 := ta2_2; have na := Nat.ne_of_lt (show w1.heap.size < x1.heap.size from by omega); have nc := na.symm)); (try (have ra2 := ta2_2.room.2; have rl2 := ta2_2.lt)); (try (have rb2 := tb2_2.room.2))))
    all_goals (go_wp2_with fail; go_meet)
    all_goals (first | with_reducible exact laidNN y2 Lp_2 (by omega) h2 (by omega) | with_reducible exact laidNNx y2 Lp_2 (by omega) h2 (by omega) | with_reducible exact laidON y2 Lp_2 (by omega) h2 (by omega) (by with_reducible assumption) (by omega) | with_reducible exact laidNO y2 Lp_2 (by omega) h2 (by omega) (by with_reducible assumption) (by omega) | with_reducible exact laidOO y2 Lp_2 (by omega) h2 (by omega) (by with_reducible assumption) (by with_reducible assumption) (by omega) (by omega) (by omega))
  case rest =>
    obtain ⟨p, q, rfl, rfl, ⟨A1, m1, c1, bp, lp, hm1⟩, ⟨A2, m2, c2, bq, lq, hm2⟩, hp, hq, hbx⟩ := hcut
    have b_p2 := bp
    have l_p2 := lp
    have b_q2 := bq
    have l_q2 := lq
    clear bp lp bq lq
    have rl_r0 : r0 < w1.heap.size := t_r01.lt
    have rl_r1 : r1 < w1.heap.size := t_r11.lt
    have b_a2 := b_a1.bel hbx
    have b_b2 := b_b1.bel hbx
    have t_r02 := t_r01.bel hbx
    have t_r12 := t_r11.bel hbx
    have l_a2 := l_a1.bel hbx
    have l_b2 := l_b1.bel hbx
    have bel2 := bel1.trans (hbx.mono bel1.size)
    have c_a0_2 := b_a2.c0
    have c_a1_2 := b_a2.c1
    have c_b0_2 := b_b2.c0
    have c_b1_2 := b_b2.c1
    have f_r02 := t_r02.room.2
    have f_r12 := t_r12.room.2
    clear hbx b_a1 c_a0_1 c_a1_1 b_b1 c_b0_1 c_b1_1 t_r01 f_r01 t_r11 f_r11 l_a1 l_b1 bel1
    clear b_a2 c_a0_2 c_a1_2 l_a2 b_b2 c_b0_2 c_b1_2 l_b2
    have hpr0 : p ≠ r0 := by omega
    have hqr0 : q ≠ r0 := by omega
    have HNr0 := Lib.hid (And.intro hpr0 hqr0)
    clear hpr0 hqr0 rl_r0
    have hpr1 : p ≠ r1 := by omega
    have hqr1 : q ≠ r1 := by omega
    have HNr1 := Lib.hid (And.intro hpr1 hqr1)
    clear hpr1 hqr1 rl_r1
    clear hp hq
    by_cases h0 : Y = 0
    · have c_p0_2 := b_p2.c0
      have c_p1_2 := b_p2.c1
      have c_q0_2 := b_q2.c0
      have c_q1_2 := b_q2.c1
      have f_r02 := t_r02.room.2
      have f_r12 := t_r12.room.2
      have HQ0 : Hid (Q = 0 ∧ R = 0 ∧ t = false) := (by
        refine ⟨?_, ?_, ?_⟩
        · rw [← HQ.out, h0]; rfl
        · rw [← HR.out, h0]; rfl
        · rw [← Ht.out, h0]; rfl : Q = 0 ∧ R = 0 ∧ t = false)
      have H0 : Hid (Y.natAbs = 0) := (by omega : Y.natAbs = 0)
      clear h0
      go_wp2_with fail
      have cc := Lib.hid (rdiv_no wc X.natAbs A1 m1 c1 l_p2 Y.natAbs A2 m2 c2 l_q2 (by omega) (by omega) H0.out)
      refine cc.out.mono ?_
      clear cc
      rintro e v3 ⟨rfl, kb3⟩
      have b_p3 := b_p2.bel kb3
      have b_q3 := b_q2.bel kb3
      have t_r03 := t_r02.bel kb3
      have t_r13 := t_r12.bel kb3
      have l_p3 := l_p2.bel kb3
      have l_q3 := l_q2.bel kb3
      have bel3 := bel2.trans (kb3.mono bel2.size)
      have c_p0_3 := b_p3.c0
      have c_p1_3 := b_p3.c1
      have c_q0_3 := b_q3.c0
      have c_q1_3 := b_q3.c1
      have f_r03 := t_r03.room.2
      have f_r13 := t_r13.room.2
      clear kb3 b_p2 c_p0_2 c_p1_2 b_q2 c_q0_2 c_q1_2 t_r02 f_r02 t_r12 f_r12 l_p2 l_q2 bel2
      have l_z := Lm.nil v3
      have hn01 : r0 ≠ r1 := HG.out.2.2.2.2.2.2.2.2.2.2.2.2.1
      have hn10 : r1 ≠ r0 := HG.out.2.2.2.2.2.2.2.2.2.2.2.2.2.2.2
      go_wp2
      have hx0 := t_r03.put false none 0 0
      have hy := (t_r13.far (p := ⟨r0, 0, none⟩) HG.out.2.2.2.2.2.2.2.2.2.2.2.2.2.2.2 (.bool false)).far (p := ⟨r0, 1, none⟩) HG.out.2.2.2.2.2.2.2.2.2.2.2.2.2.2.2 (.slice none 0 0)
      have hx := (hx0.far (p := ⟨r1, 0, none⟩) HG.out.2.2.2.2.2.2.2.2.2.2.2.2.1 (.bool false)).far (p := ⟨r1, 1, none⟩) HG.out.2.2.2.2.2.2.2.2.2.2.2.2.1 (.slice none 0 0)
      have hx1 := hy.put false none 0 0
      have hl1 := (l_z.put t_r03 (.bool false) (.slice none 0 0)).put hy (.bool false) (.slice none 0 0)
      have hl2 := (l_z.put t_r03 (.bool false) (.slice none 0 0)).put hy (.bool false) (.slice none 0 0)
      have hbl := bel_put (bel_put bel3 (g := r0) HG.out.2.2.1 (.bool false) (.slice none 0 0)) (g := r1) HG.out.2.2.2.1 (.bool false) (.slice none 0 0)
      generalize (((v3.setCell ⟨r0, 0, none⟩ (.bool false)).setCell ⟨r0, 1, none⟩ (.slice none 0 0)).setCell ⟨r1, 0, none⟩ (.bool false)).setCell ⟨r1, 1, none⟩ (.slice none 0 0) = wz at *
      refine bodyPost_ret (v := .tuple #[.agg #[.bool false, .slice none 0 0], .agg #[.bool false, .slice none 0 0], .bool false]) (by simp [results, Tryd.results14, go_sem, hx.c0, hx.c1, hx1.c0, hx1.c1]) rfl ?_
      rw [HQ0.out.1, HQ0.out.2.1, HQ0.out.2.2]
      exact ⟨_, _, _, _, _, _, rfl, by simpa [lim_zero] using hl1, by simpa [lim_zero] using hl2, Nat.zero_le _, Nat.zero_le _, hbl⟩
    · have c_p0_2 := b_p2.c0
      have c_p1_2 := b_p2.c1
      have c_q0_2 := b_q2.c0
      have c_q1_2 := b_q2.c1
      have f_r02 := t_r02.room.2
      have f_r12 := t_r12.room.2
      have H0 : Hid (Y.natAbs ≠ 0) := (by omega : Y.natAbs ≠ 0)
      have HYn := Lib.hid h0
      have Htt : Hid (t = true) := (by rw [← Ht.out]; exact decide_eq_true h0 : t = true)
      clear h0
      go_wp2_with fail
      have cc := Lib.hid (rdiv_yes wc X.natAbs A1 m1 c1 l_p2 Y.natAbs A2 m2 c2 l_q2 (by omega) (by omega) H0.out)
      refine cc.out.mono ?_
      clear cc
      rintro e v3 ⟨A3, m3, c3, A4, m4, c4, rfl, h3, h4, hm3, hm4, kb3⟩
      have b_p3 := b_p2.bel kb3
      have b_q3 := b_q2.bel kb3
      have t_r03 := t_r02.bel kb3
      have t_r13 := t_r12.bel kb3
      have l_p3 := l_p2.bel kb3
      have l_q3 := l_q2.bel kb3
      have bel3 := bel2.trans (kb3.mono bel2.size)
      have c_p0_3 := b_p3.c0
      have c_p1_3 := b_p3.c1
      have c_q0_3 := b_q3.c0
      have c_q1_3 := b_q3.c1
      have f_r03 := t_r03.room.2
      have f_r13 := t_r13.room.2
      clear kb3 b_p2 c_p0_2 c_p1_2 b_q2 c_q0_2 c_q1_2 t_r02 f_r02 t_r12 f_r12 l_p2 l_q2 bel2
      by_cases hX : X < 0
      · have dx : decide (X < 0) = true := decide_eq_true hX
        by_cases hY : Y < 0
        · have dy : decide (Y < 0) = true := decide_eq_true hY
          try clear c_p0_3 c_p1_3 c_q0_3 c_q1_3
          rw [dx] at b_p3
          rw [dy] at b_q3
          have HXX := Lib.hid hX
          have HYY := Lib.hid hY
          clear dx dy hX hY
          have c_p0_3 := b_p3.c0
          have c_p1_3 := b_p3.c1
          have c_q0_3 := b_q3.c0
          have c_q1_3 := b_q3.c1
          have f_r03 := t_r03.room.2
          have f_r13 := t_r13.room.2
          have HVV : Hid (sgn false (X.natAbs / Y.natAbs) = Q ∧ sgn true (X.natAbs % Y.natAbs) = R) := (by
            have h1 := dq_same (X := X) (Y := Y) (by have h2 := HXX.out; have h3 := HYY.out; have h4 := HYn.out; omega)
            rw [HQ.out, HR.out, sg_neg HYY.out] at h1
            rw [h1.1, h1.2]
            refine ⟨rfl, ?_⟩
            rw [sgn_true]; omega : sgn false (X.natAbs / Y.natAbs) = Q ∧ sgn true (X.natAbs % Y.natAbs) = R)
          go_wp2_with fail
          go_region_held3 (fun w' => (Box w' p true A1 m1 c1 ∧ w'.cell? ⟨p, 0, none⟩ = some (.bool true) ∧ w'.cell? ⟨p, 1, none⟩ = some (.slice A1 m1 c1)) ∧ (Box w' q true A2 m2 c2 ∧ w'.cell? ⟨q, 0, none⟩ = some (.bool true) ∧ w'.cell? ⟨q, 1, none⟩ = some (.slice A2 m2 c2)) ∧ (Two w' r0 ∧ w'.cell? ⟨r0, 0, none⟩ = some (lies w' r0 0) ∧ w'.cell? ⟨r0, 1, none⟩ = some (lies w' r0 1) ∧ w'.frozen? ⟨r0, 0, none⟩ = false ∧ w'.frozen? ⟨r0, 1, none⟩ = false) ∧ (Two w' r1 ∧ w'.cell? ⟨r1, 0, none⟩ = some (lies w' r1 0) ∧ w'.cell? ⟨r1, 1, none⟩ = some (lies w' r1 1) ∧ w'.frozen? ⟨r1, 0, none⟩ = false ∧ w'.frozen? ⟨r1, 1, none⟩ = false))
            (first
              | exact ⟨held0 (w := v3.drew) b_p3, held0 (w := v3.drew) b_q3, Two.room (w := v3.drew) t_r03, Two.room (w := v3.drew) t_r13⟩
              | exact keep22 (by assumption) (by assumption)
              | exact keep22s0 HNr0.out.1 HNr0.out.2 HG.out.2.2.2.2.2.2.2.2.2.2.2.2.2.2.2 (by assumption) rfl
              | exact keep22s1 HNr1.out.1 HNr1.out.2 HG.out.2.2.2.2.2.2.2.2.2.2.2.2.1 (by assumption) rfl)
            (first
              | (go_at_call 19; go_at_call_of 19 (Value.slice A3 m3 c3); refine (rnorm_m _ false (X.natAbs / Y.natAbs) A3 m3 c3 ?_ HVV.out.1).mono ?_; exact h3.drew; rintro e w9 ⟨A9, m9, c9, rfl, h9, hm9, hb9⟩)
              | (go_at_call 19; go_at_call_of 19 (Value.slice A4 m4 c4); refine (rnorm_m _ true (X.natAbs % Y.natAbs) A4 m4 c4 ?_ HVV.out.2).mono ?_; exact h4.drew.bel hb9; rintro e w10 ⟨A10, m10, c10, rfl, h10, hm10, hb10⟩))
          have h9' := h9.bel hb10
          have hbx := bel_next (bel_undrew hb9) hb10
          have b_p4 := b_p3.bel hbx
          have b_q4 := b_q3.bel hbx
          have t_r04 := t_r03.bel hbx
          have t_r14 := t_r13.bel hbx
          have l_p4 := l_p3.bel hbx
          have l_q4 := l_q3.bel hbx
          have l_d4 := h3.bel hbx
          have l_r4 := h4.bel hbx
          have bel4 := bel3.trans (hbx.mono bel3.size)
          have c_p0_4 := b_p4.c0
          have c_p1_4 := b_p4.c1
          have c_q0_4 := b_q4.c0
          have c_q1_4 := b_q4.c1
          have f_r04 := t_r04.room.2
          have f_r14 := t_r14.room.2
          clear hbx b_p3 c_p0_3 c_p1_3 b_q3 c_q0_3 c_q1_3 t_r03 f_r03 t_r13 f_r13 l_p3 l_q3 h3 h4 bel3
          clear hb9 hb10
          have hn01 : r0 ≠ r1 := HG.out.2.2.2.2.2.2.2.2.2.2.2.2.1
          have hn10 : r1 ≠ r0 := HG.out.2.2.2.2.2.2.2.2.2.2.2.2.2.2.2
          go_wp2
          have hx0 := t_r04.put (decide (Q < 0)) A9 m9 c9
          have hy := (t_r14.far (p := ⟨r0, 0, none⟩) HG.out.2.2.2.2.2.2.2.2.2.2.2.2.2.2.2 (.bool (decide (Q < 0)))).far (p := ⟨r0, 1, none⟩) HG.out.2.2.2.2.2.2.2.2.2.2.2.2.2.2.2 (.slice A9 m9 c9)
          have hx := (hx0.far (p := ⟨r1, 0, none⟩) HG.out.2.2.2.2.2.2.2.2.2.2.2.2.1 (.bool (decide (R < 0)))).far (p := ⟨r1, 1, none⟩) HG.out.2.2.2.2.2.2.2.2.2.2.2.2.1 (.slice A10 m10 c10)
          have hx1 := hy.put (decide (R < 0)) A10 m10 c10
          have hl1 := (h9'.put t_r04 (.bool (decide (Q < 0))) (.slice A9 m9 c9)).put hy (.bool (decide (R < 0))) (.slice A10 m10 c10)
          have hl2 := (h10.put t_r04 (.bool (decide (Q < 0))) (.slice A9 m9 c9)).put hy (.bool (decide (R < 0))) (.slice A10 m10 c10)
          have hbl := bel_put (bel_put bel4 (g := r0) HG.out.2.2.1 (.bool (decide (Q < 0))) (.slice A9 m9 c9)) (g := r1) HG.out.2.2.2.1 (.bool (decide (R < 0))) (.slice A10 m10 c10)
          generalize (((w10.setCell ⟨r0, 0, none⟩ (.bool (decide (Q < 0)))).setCell ⟨r0, 1, none⟩ (.slice A9 m9 c9)).setCell ⟨r1, 0, none⟩ (.bool (decide (R < 0)))).setCell ⟨r1, 1, none⟩ (.slice A10 m10 c10) = wz at *
          refine bodyPost_ret (v := .tuple #[.agg #[.bool (decide (Q < 0)), .slice A9 m9 c9], .agg #[.bool (decide (R < 0)), .slice A10 m10 c10], .bool true]) (by simp [results, Tryd.results14, go_sem, hx.c0, hx.c1, hx1.c0, hx1.c1]) rfl ?_
          rw [Htt.out]
          exact ⟨_, _, _, _, _, _, rfl, hl1, hl2, by omega, by omega, hbl⟩
        · have dy : decide (Y < 0) = false := decide_eq_false hY
          try clear c_p0_3 c_p1_3 c_q0_3 c_q1_3
          rw [dx] at b_p3
          rw [dy] at b_q3
          have HXX := Lib.hid hX
          have HYY := Lib.hid hY
          clear dx dy hX hY
          have c_p0_3 := b_p3.c0
          have c_p1_3 := b_p3.c1
          have c_q0_3 := b_q3.c0
          have c_q1_3 := b_q3.c1
          have f_r03 := t_r03.room.2
          have f_r13 := t_r13.room.2
          by_cases hr : X.natAbs % Y.natAbs = 0
          · have HVV : Hid (sgn true (X.natAbs / Y.natAbs) = Q ∧ sgn false (X.natAbs % Y.natAbs) = R) := (by
              have h1 := (dq_diff (X := X) (Y := Y) (by have h2 := HXX.out; have h3 := HYY.out; have h4 := HYn.out; omega)).1 hr
              rw [HQ.out, HR.out, sg_pos (by have h1 := HYY.out; have h2 := HYn.out; omega)] at h1
              rw [h1.1, h1.2]
              refine ⟨rfl, ?_⟩
              rw [sgn_false]; omega : sgn true (X.natAbs / Y.natAbs) = Q ∧ sgn false (X.natAbs % Y.natAbs) = R)
            have hlen := len_none' h4 hr
            have HRR := Lib.hid hr
            clear hr
            go_wp2_with fail
            go_region_held3 (fun w' => (Box w' p true A1 m1 c1 ∧ w'.cell? ⟨p, 0, none⟩ = some (.bool true) ∧ w'.cell? ⟨p, 1, none⟩ = some (.slice A1 m1 c1)) ∧ (Box w' q false A2 m2 c2 ∧ w'.cell? ⟨q, 0, none⟩ = some (.bool false) ∧ w'.cell? ⟨q, 1, none⟩ = some (.slice A2 m2 c2)) ∧ (Two w' r0 ∧ w'.cell? ⟨r0, 0, none⟩ = some (lies w' r0 0) ∧ w'.cell? ⟨r0, 1, none⟩ = some (lies w' r0 1) ∧ w'.frozen? ⟨r0, 0, none⟩ = false ∧ w'.frozen? ⟨r0, 1, none⟩ = false) ∧ (Two w' r1 ∧ w'.cell? ⟨r1, 0, none⟩ = some (lies w' r1 0) ∧ w'.cell? ⟨r1, 1, none⟩ = some (lies w' r1 1) ∧ w'.frozen? ⟨r1, 0, none⟩ = false ∧ w'.frozen? ⟨r1, 1, none⟩ = false))
              (first
                | exact ⟨held0 (w := v3.drew) b_p3, held0 (w := v3.drew) b_q3, Two.room (w := v3.drew) t_r03, Two.room (w := v3.drew) t_r13⟩
                | exact keep22 (by assumption) (by assumption)
                | exact keep22s0 HNr0.out.1 HNr0.out.2 HG.out.2.2.2.2.2.2.2.2.2.2.2.2.2.2.2 (by assumption) rfl
                | exact keep22s1 HNr1.out.1 HNr1.out.2 HG.out.2.2.2.2.2.2.2.2.2.2.2.2.1 (by assumption) rfl)
              (first
                | (go_at_call 19; go_at_call_of 19 (Value.slice A3 m3 c3); refine (rnorm_m _ true (X.natAbs / Y.natAbs) A3 m3 c3 ?_ HVV.out.1).mono ?_; exact h3.drew; rintro e w9 ⟨A9, m9, c9, rfl, h9, hm9, hb9⟩)
                | (go_at_call 19; go_at_call_of 19 (Value.slice A4 m4 c4); refine (rnorm_m _ false (X.natAbs % Y.natAbs) A4 m4 c4 ?_ HVV.out.2).mono ?_; exact h4.drew.bel hb9; rintro e w10 ⟨A10, m10, c10, rfl, h10, hm10, hb10⟩))
            have h9' := h9.bel hb10
            have hbx := bel_next (bel_undrew hb9) hb10
            have b_p4 := b_p3.bel hbx
            have b_q4 := b_q3.bel hbx
            have t_r04 := t_r03.bel hbx
            have t_r14 := t_r13.bel hbx
            have l_p4 := l_p3.bel hbx
            have l_q4 := l_q3.bel hbx
            have l_d4 := h3.bel hbx
            have l_r4 := h4.bel hbx
            have bel4 := bel3.trans (hbx.mono bel3.size)
            have c_p0_4 := b_p4.c0
            have c_p1_4 := b_p4.c1
            have c_q0_4 := b_q4.c0
            have c_q1_4 := b_q4.c1
            have f_r04 := t_r04.room.2
            have f_r14 := t_r14.room.2
            clear hbx b_p3 c_p0_3 c_p1_3 b_q3 c_q0_3 c_q1_3 t_r03 f_r03 t_r13 f_r13 l_p3 l_q3 h3 h4 bel3
            clear hb9 hb10
            have hn01 : r0 ≠ r1 := HG.out.2.2.2.2.2.2.2.2.2.2.2.2.1
            have hn10 : r1 ≠ r0 := HG.out.2.2.2.2.2.2.2.2.2.2.2.2.2.2.2
            go_wp2
            have hx0 := t_r04.put (decide (Q < 0)) A9 m9 c9
            have hy := (t_r14.far (p := ⟨r0, 0, none⟩) HG.out.2.2.2.2.2.2.2.2.2.2.2.2.2.2.2 (.bool (decide (Q < 0)))).far (p := ⟨r0, 1, none⟩) HG.out.2.2.2.2.2.2.2.2.2.2.2.2.2.2.2 (.slice A9 m9 c9)
            have hx := (hx0.far (p := ⟨r1, 0, none⟩) HG.out.2.2.2.2.2.2.2.2.2.2.2.2.1 (.bool (decide (R < 0)))).far (p := ⟨r1, 1, none⟩) HG.out.2.2.2.2.2.2.2.2.2.2.2.2.1 (.slice A10 m10 c10)
            have hx1 := hy.put (decide (R < 0)) A10 m10 c10
            have hl1 := (h9'.put t_r04 (.bool (decide (Q < 0))) (.slice A9 m9 c9)).put hy (.bool (decide (R < 0))) (.slice A10 m10 c10)
            have hl2 := (h10.put t_r04 (.bool (decide (Q < 0))) (.slice A9 m9 c9)).put hy (.bool (decide (R < 0))) (.slice A10 m10 c10)
            have hbl := bel_put (bel_put bel4 (g := r0) HG.out.2.2.1 (.bool (decide (Q < 0))) (.slice A9 m9 c9)) (g := r1) HG.out.2.2.2.1 (.bool (decide (R < 0))) (.slice A10 m10 c10)
            generalize (((w10.setCell ⟨r0, 0, none⟩ (.bool (decide (Q < 0)))).setCell ⟨r0, 1, none⟩ (.slice A9 m9 c9)).setCell ⟨r1, 0, none⟩ (.bool (decide (R < 0)))).setCell ⟨r1, 1, none⟩ (.slice A10 m10 c10) = wz at *
            refine bodyPost_ret (v := .tuple #[.agg #[.bool (decide (Q < 0)), .slice A9 m9 c9], .agg #[.bool (decide (R < 0)), .slice A10 m10 c10], .bool true]) (by simp [results, Tryd.results14, go_sem, hx.c0, hx.c1, hx1.c0, hx1.c1]) rfl ?_
            rw [Htt.out]
            exact ⟨_, _, _, _, _, _, rfl, hl1, hl2, by omega, by omega, hbl⟩
          · have HVV : Hid (sgn true (X.natAbs / Y.natAbs + 1) = Q ∧ sgn false (Y.natAbs - X.natAbs % Y.natAbs) = R) := (by
              have h1 := (dq_diff (X := X) (Y := Y) (by have h2 := HXX.out; have h3 := HYY.out; have h4 := HYn.out; omega)).2 hr
              rw [HQ.out, HR.out, sg_pos (by have h1 := HYY.out; have h2 := HYn.out; omega)] at h1
              rw [h1.1, h1.2]
              refine ⟨rfl, ?_⟩
              rw [sgn_false]; omega : sgn true (X.natAbs / Y.natAbs + 1) = Q ∧ sgn false (Y.natAbs - X.natAbs % Y.natAbs) = R)
            have hlen := len_pos' h4 hr
            have HRR := Lib.hid hr
            clear hr
            go_wp2_with fail
            obtain ⟨v4, hv4⟩ : ∃ v, v = v3.alloc (.cells #[.int .u32 1] 57) := ⟨_, rfl⟩
            rw [← hv4]
            have hb4 : Below v3.heap.size v3 v4 := by rw [hv4]; exact bel_alloc _ _
            have lit4 : Lm v4 (some ⟨v3.heap.size, 0, none⟩) 1 1 [1] := by rw [hv4]; exact (Own.list v3 [1]).lm (Ok.of_mem (fun x hx => by rw [Bs_eq]; simp at hx; omega)) (by simp)
            clear hv4
            have b_p4 := b_p3.bel hb4
            have b_q4 := b_q3.bel hb4
            have t_r04 := t_r03.bel hb4
            have t_r14 := t_r13.bel hb4
            have l_p4 := l_p3.bel hb4
            have l_q4 := l_q3.bel hb4
            have l_d4 := h3.bel hb4
            have l_r4 := h4.bel hb4
            have bel4 := bel3.trans (hb4.mono bel3.size)
            have c_p0_4 := b_p4.c0
            have c_p1_4 := b_p4.c1
            have c_q0_4 := b_q4.c0
            have c_q1_4 := b_q4.c1
            have f_r04 := t_r04.room.2
            have f_r14 := t_r14.room.2
            clear hb4 b_p3 c_p0_3 c_p1_3 b_q3 c_q0_3 c_q1_3 t_r03 f_r03 t_r13 f_r13 l_p3 l_q3 h3 h4 bel3
            go_wp2_with fail
            have cc := Lib.hid (radd_any v4 A3 m3 c3 _ _ _ _ _ l_d4 lit4 (by omega) (by omega))
            refine cc.out.mono ?_
            clear cc
            rw [val_lim, val_single]
            rintro e v5 ⟨A7, m7, c7, rfl, h7, hm7, kb5⟩
            have b_p5 := b_p4.bel kb5
            have b_q5 := b_q4.bel kb5
            have t_r05 := t_r04.bel kb5
            have t_r15 := t_r14.bel kb5
            have l_p5 := l_p4.bel kb5
            have l_q5 := l_q4.bel kb5
            have l_d5 := l_d4.bel kb5
            have l_r5 := l_r4.bel kb5
            have l_one5 := lit4.bel kb5
            have bel5 := bel4.trans (kb5.mono bel4.size)
            have c_p0_5 := b_p5.c0
            have c_p1_5 := b_p5.c1
            have c_q0_5 := b_q5.c0
            have c_q1_5 := b_q5.c1
            have f_r05 := t_r05.room.2
            have f_r15 := t_r15.room.2
            clear kb5 b_p4 c_p0_4 c_p1_4 b_q4 c_q0_4 c_q1_4 t_r04 f_r04 t_r14 f_r14 l_p4 l_q4 l_d4 l_r4 lit4 bel4
            go_wp2_with fail
            have cc := Lib.hid (rsub_ge v5 Y.natAbs (X.natAbs % Y.natAbs) A2 m2 c2 l_q5 A4 m4 c4 l_r5 (Nat.le_of_lt (Nat.mod_lt _ (Nat.pos_of_ne_zero H0.out))))
            refine cc.out.mono ?_
            clear cc
            rintro e v6 ⟨A8, m8, c8, rfl, h8, hm8, kb6⟩
            have b_p6 := b_p5.bel kb6
            have b_q6 := b_q5.bel kb6
            have t_r06 := t_r05.bel kb6
            have t_r16 := t_r15.bel kb6
            have l_p6 := l_p5.bel kb6
            have l_q6 := l_q5.bel kb6
            have l_d6 := h7.bel kb6
            have l_r6 := l_r5.bel kb6
            have l_one6 := l_one5.bel kb6
            have bel6 := bel5.trans (kb6.mono bel5.size)
            have c_p0_6 := b_p6.c0
            have c_p1_6 := b_p6.c1
            have c_q0_6 := b_q6.c0
            have c_q1_6 := b_q6.c1
            have f_r06 := t_r06.room.2
            have f_r16 := t_r16.room.2
            clear kb6 b_p5 c_p0_5 c_p1_5 b_q5 c_q0_5 c_q1_5 t_r05 f_r05 t_r15 f_r15 l_p5 l_q5 h7 l_r5 l_one5 bel5
            go_wp2_with fail
            go_region_held3 (fun w' => (Box w' p true A1 m1 c1 ∧ w'.cell? ⟨p, 0, none⟩ = some (.bool true) ∧ w'.cell? ⟨p, 1, none⟩ = some (.slice A1 m1 c1)) ∧ (Box w' q false A2 m2 c2 ∧ w'.cell? ⟨q, 0, none⟩ = some (.bool false) ∧ w'.cell? ⟨q, 1, none⟩ = some (.slice A2 m2 c2)) ∧ (Two w' r0 ∧ w'.cell? ⟨r0, 0, none⟩ = some (lies w' r0 0) ∧ w'.cell? ⟨r0, 1, none⟩ = some (lies w' r0 1) ∧ w'.frozen? ⟨r0, 0, none⟩ = false ∧ w'.frozen? ⟨r0, 1, none⟩ = false) ∧ (Two w' r1 ∧ w'.cell? ⟨r1, 0, none⟩ = some (lies w' r1 0) ∧ w'.cell? ⟨r1, 1, none⟩ = some (lies w' r1 1) ∧ w'.frozen? ⟨r1, 0, none⟩ = false ∧ w'.frozen? ⟨r1, 1, none⟩ = false))
              (first
                | exact ⟨held0 (w := v6.drew) b_p6, held0 (w := v6.drew) b_q6, Two.room (w := v6.drew) t_r06, Two.room (w := v6.drew) t_r16⟩
                | exact keep22 (by assumption) (by assumption)
                | exact keep22s0 HNr0.out.1 HNr0.out.2 HG.out.2.2.2.2.2.2.2.2.2.2.2.2.2.2.2 (by assumption) rfl
                | exact keep22s1 HNr1.out.1 HNr1.out.2 HG.out.2.2.2.2.2.2.2.2.2.2.2.2.1 (by assumption) rfl)
              (first
                | (go_at_call 19; go_at_call_of 19 (Value.slice A7 m7 c7); refine (rnorm_m _ true (X.natAbs / Y.natAbs + 1) A7 m7 c7 ?_ HVV.out.1).mono ?_; exact l_d6.drew; rintro e w9 ⟨A9, m9, c9, rfl, h9, hm9, hb9⟩)
                | (go_at_call 19; go_at_call_of 19 (Value.slice A8 m8 c8); refine (rnorm_m _ false (Y.natAbs - X.natAbs % Y.natAbs) A8 m8 c8 ?_ HVV.out.2).mono ?_; exact h8.drew.bel hb9; rintro e w10 ⟨A10, m10, c10, rfl, h10, hm10, hb10⟩))
            have h9' := h9.bel hb10
            have hbx := bel_next (bel_undrew hb9) hb10
            have b_p7 := b_p6.bel hbx
            have b_q7 := b_q6.bel hbx
            have t_r07 := t_r06.bel hbx
            have t_r17 := t_r16.bel hbx
            have l_p7 := l_p6.bel hbx
            have l_q7 := l_q6.bel hbx
            have l_d7 := l_d6.bel hbx
            have l_r7 := h8.bel hbx
            have l_one7 := l_one6.bel hbx
            have bel7 := bel6.trans (hbx.mono bel6.size)
            have c_p0_7 := b_p7.c0
            have c_p1_7 := b_p7.c1
            have c_q0_7 := b_q7.c0
            have c_q1_7 := b_q7.c1
            have f_r07 := t_r07.room.2
            have f_r17 := t_r17.room.2
            clear hbx b_p6 c_p0_6 c_p1_6 b_q6 c_q0_6 c_q1_6 t_r06 f_r06 t_r16 f_r16 l_p6 l_q6 l_d6 h8 l_one6 bel6
            clear hb9 hb10
            have hn01 : r0 ≠ r1 := HG.out.2.2.2.2.2.2.2.2.2.2.2.2.1
            have hn10 : r1 ≠ r0 := HG.out.2.2.2.2.2.2.2.2.2.2.2.2.2.2.2
            go_wp2
            have hx0 := t_r07.put (decide (Q < 0)) A9 m9 c9
            have hy := (t_r17.far (p := ⟨r0, 0, none⟩) HG.out.2.2.2.2.2.2.2.2.2.2.2.2.2.2.2 (.bool (decide (Q < 0)))).far (p := ⟨r0, 1, none⟩) HG.out.2.2.2.2.2.2.2.2.2.2.2.2.2.2.2 (.slice A9 m9 c9)
            have hx := (hx0.far (p := ⟨r1, 0, none⟩) HG.out.2.2.2.2.2.2.2.2.2.2.2.2.1 (.bool (decide (R < 0)))).far (p := ⟨r1, 1, none⟩) HG.out.2.2.2.2.2.2.2.2.2.2.2.2.1 (.slice A10 m10 c10)
            have hx1 := hy.put (decide (R < 0)) A10 m10 c10
            have hl1 := (h9'.put t_r07 (.bool (decide (Q < 0))) (.slice A9 m9 c9)).put hy (.bool (decide (R < 0))) (.slice A10 m10 c10)
            have hl2 := (h10.put t_r07 (.bool (decide (Q < 0))) (.slice A9 m9 c9)).put hy (.bool (decide (R < 0))) (.slice A10 m10 c10)
            have hbl := bel_put (bel_put bel7 (g := r0) HG.out.2.2.1 (.bool (decide (Q < 0))) (.slice A9 m9 c9)) (g := r1) HG.out.2.2.2.1 (.bool (decide (R < 0))) (.slice A10 m10 c10)
            generalize (((w10.setCell ⟨r0, 0, none⟩ (.bool (decide (Q < 0)))).setCell ⟨r0, 1, none⟩ (.slice A9 m9 c9)).setCell ⟨r1, 0, none⟩ (.bool (decide (R < 0)))).setCell ⟨r1, 1, none⟩ (.slice A10 m10 c10) = wz at *
            refine bodyPost_ret (v := .tuple #[.agg #[.bool (decide (Q < 0)), .slice A9 m9 c9], .agg #[.bool (decide (R < 0)), .slice A10 m10 c10], .bool true]) (by simp [results, Tryd.results14, go_sem, hx.c0, hx.c1, hx1.c0, hx1.c1]) rfl ?_
            rw [Htt.out]
            exact ⟨_, _, _, _, _, _, rfl, hl1, hl2, by omega, by omega, hbl⟩
      · have dx : decide (X < 0) = false := decide_eq_false hX
        by_cases hY : Y < 0
        · have dy : decide (Y < 0) = true := decide_eq_true hY
          try clear c_p0_3 c_p1_3 c_q0_3 c_q1_3
          rw [dx] at b_p3
          rw [dy] at b_q3
          have HXX := Lib.hid hX
          have HYY := Lib.hid hY
          clear dx dy hX hY
          have c_p0_3 := b_p3.c0
          have c_p1_3 := b_p3.c1
          have c_q0_3 := b_q3.c0
          have c_q1_3 := b_q3.c1
          have f_r03 := t_r03.room.2
          have f_r13 := t_r13.room.2
          by_cases hr : X.natAbs % Y.natAbs = 0
          · have HVV : Hid (sgn true (X.natAbs / Y.natAbs) = Q ∧ sgn true (X.natAbs % Y.natAbs) = R) := (by
              have h1 := (dq_diff (X := X) (Y := Y) (by have h2 := HXX.out; have h3 := HYY.out; have h4 := HYn.out; omega)).1 hr
              rw [HQ.out, HR.out, sg_neg HYY.out] at h1
              rw [h1.1, h1.2]
              refine ⟨rfl, ?_⟩
              rw [sgn_true]; omega : sgn true (X.natAbs / Y.natAbs) = Q ∧ sgn true (X.natAbs % Y.natAbs) = R)
            have hlen := len_none' h4 hr
            have HRR := Lib.hid hr
            clear hr
            go_wp2_with fail
            go_region_held3 (fun w' => (Box w' p false A1 m1 c1 ∧ w'.cell? ⟨p, 0, none⟩ = some (.bool false) ∧ w'.cell? ⟨p, 1, none⟩ = some (.slice A1 m1 c1)) ∧ (Box w' q true A2 m2 c2 ∧ w'.cell? ⟨q, 0, none⟩ = some (.bool true) ∧ w'.cell? ⟨q, 1, none⟩ = some (.slice A2 m2 c2)) ∧ (Two w' r0 ∧ w'.cell? ⟨r0, 0, none⟩ = some (lies w' r0 0) ∧ w'.cell? ⟨r0, 1, none⟩ = some (lies w' r0 1) ∧ w'.frozen? ⟨r0, 0, none⟩ = false ∧ w'.frozen? ⟨r0, 1, none⟩ = false) ∧ (Two w' r1 ∧ w'.cell? ⟨r1, 0, none⟩ = some (lies w' r1 0) ∧ w'.cell? ⟨r1, 1, none⟩ = some (lies w' r1 1) ∧ w'.frozen? ⟨r1, 0, none⟩ = false ∧ w'.frozen? ⟨r1, 1, none⟩ = false))
              (first
                | exact ⟨held0 (w := v3.drew) b_p3, held0 (w := v3.drew) b_q3, Two.room (w := v3.drew) t_r03, Two.room (w := v3.drew) t_r13⟩
                | exact keep22 (by assumption) (by assumption)
                | exact keep22s0 HNr0.out.1 HNr0.out.2 HG.out.2.2.2.2.2.2.2.2.2.2.2.2.2.2.2 (by assumption) rfl
                | exact keep22s1 HNr1.out.1 HNr1.out.2 HG.out.2.2.2.2.2.2.2.2.2.2.2.2.1 (by assumption) rfl)
              (first
                | (go_at_call 19; go_at_call_of 19 (Value.slice A3 m3 c3); refine (rnorm_m _ true (X.natAbs / Y.natAbs) A3 m3 c3 ?_ HVV.out.1).mono ?_; exact h3.drew; rintro e w9 ⟨A9, m9, c9, rfl, h9, hm9, hb9⟩)
                | (go_at_call 19; go_at_call_of 19 (Value.slice A4 m4 c4); refine (rnorm_m _ true (X.natAbs % Y.natAbs) A4 m4 c4 ?_ HVV.out.2).mono ?_; exact h4.drew.bel hb9; rintro e w10 ⟨A10, m10, c10, rfl, h10, hm10, hb10⟩))
            have h9' := h9.bel hb10
            have hbx := bel_next (bel_undrew hb9) hb10
            have b_p4 := b_p3.bel hbx
            have b_q4 := b_q3.bel hbx
            have t_r04 := t_r03.bel hbx
            have t_r14 := t_r13.bel hbx
            have l_p4 := l_p3.bel hbx
            have l_q4 := l_q3.bel hbx
            have l_d4 := h3.bel hbx
            have l_r4 := h4.bel hbx
            have bel4 := bel3.trans (hbx.mono bel3.size)
            have c_p0_4 := b_p4.c0
            have c_p1_4 := b_p4.c1
            have c_q0_4 := b_q4.c0
            have c_q1_4 := b_q4.c1
            have f_r04 := t_r04.room.2
            have f_r14 := t_r14.room.2
            clear hbx b_p3 c_p0_3 c_p1_3 b_q3 c_q0_3 c_q1_3 t_r03 f_r03 t_r13 f_r13 l_p3 l_q3 h3 h4 bel3
            clear hb9 hb10
            have hn01 : r0 ≠ r1 := HG.out.2.2.2.2.2.2.2.2.2.2.2.2.1
            have hn10 : r1 ≠ r0 := HG.out.2.2.2.2.2.2.2.2.2.2.2.2.2.2.2
            go_wp2
            have hx0 := t_r04.put (decide (Q < 0)) A9 m9 c9
            have hy := (t_r14.far (p := ⟨r0, 0, none⟩) HG.out.2.2.2.2.2.2.2.2.2.2.2.2.2.2.2 (.bool (decide (Q < 0)))).far (p := ⟨r0, 1, none⟩) HG.out.2.2.2.2.2.2.2.2.2.2.2.2.2.2.2 (.slice A9 m9 c9)
            have hx := (hx0.far (p := ⟨r1, 0, none⟩) HG.out.2.2.2.2.2.2.2.2.2.2.2.2.1 (.bool (decide (R < 0)))).far (p := ⟨r1, 1, none⟩) HG.out.2.2.2.2.2.2.2.2.2.2.2.2.1 (.slice A10 m10 c10)
            have hx1 := hy.put (decide (R < 0)) A10 m10 c10
            have hl1 := (h9'.put t_r04 (.bool (decide (Q < 0))) (.slice A9 m9 c9)).put hy (.bool (decide (R < 0))) (.slice A10 m10 c10)
            have hl2 := (h10.put t_r04 (.bool (decide (Q < 0))) (.slice A9 m9 c9)).put hy (.bool (decide (R < 0))) (.slice A10 m10 c10)
            have hbl := bel_put (bel_put bel4 (g := r0) HG.out.2.2.1 (.bool (decide (Q < 0))) (.slice A9 m9 c9)) (g := r1) HG.out.2.2.2.1 (.bool (decide (R < 0))) (.slice A10 m10 c10)
            generalize (((w10.setCell ⟨r0, 0, none⟩ (.bool (decide (Q < 0)))).setCell ⟨r0, 1, none⟩ (.slice A9 m9 c9)).setCell ⟨r1, 0, none⟩ (.bool (decide (R < 0)))).setCell ⟨r1, 1, none⟩ (.slice A10 m10 c10) = wz at *
            refine bodyPost_ret (v := .tuple #[.agg #[.bool (decide (Q < 0)), .slice A9 m9 c9], .agg #[.bool (decide (R < 0)), .slice A10 m10 c10], .bool true]) (by simp [results, Tryd.results14, go_sem, hx.c0, hx.c1, hx1.c0, hx1.c1]) rfl ?_
            rw [Htt.out]
            exact ⟨_, _, _, _, _, _, rfl, hl1, hl2, by omega, by omega, hbl⟩
          · have HVV : Hid (sgn true (X.natAbs / Y.natAbs + 1) = Q ∧ sgn true (Y.natAbs - X.natAbs % Y.natAbs) = R) := (by
              have h1 := (dq_diff (X := X) (Y := Y) (by have h2 := HXX.out; have h3 := HYY.out; have h4 := HYn.out; omega)).2 hr
              rw [HQ.out, HR.out, sg_neg HYY.out] at h1
              rw [h1.1, h1.2]
              refine ⟨rfl, ?_⟩
              rw [sgn_true]; omega : sgn true (X.natAbs / Y.natAbs + 1) = Q ∧ sgn true (Y.natAbs - X.natAbs % Y.natAbs) = R)
            have hlen := len_pos' h4 hr
            have HRR := Lib.hid hr
            clear hr
            go_wp2_with fail
            obtain ⟨v4, hv4⟩ : ∃ v, v = v3.alloc (.cells #[.int .u32 1] 57) := ⟨_, rfl⟩
            rw [← hv4]
            have hb4 : Below v3.heap.size v3 v4 := by rw [hv4]; exact bel_alloc _ _
            have lit4 : Lm v4 (some ⟨v3.heap.size, 0, none⟩) 1 1 [1] := by rw [hv4]; exact (Own.list v3 [1]).lm (Ok.of_mem (fun x hx => by rw [Bs_eq]; simp at hx; omega)) (by simp)
            clear hv4
            have b_p4 := b_p3.bel hb4
            have b_q4 := b_q3.bel hb4
            have t_r04 := t_r03.bel hb4
            have t_r14 := t_r13.bel hb4
            have l_p4 := l_p3.bel hb4
            have l_q4 := l_q3.bel hb4
            have l_d4 := h3.bel hb4
            have l_r4 := h4.bel hb4
            have bel4 := bel3.trans (hb4.mono bel3.size)
            have c_p0_4 := b_p4.c0
            have c_p1_4 := b_p4.c1
            have c_q0_4 := b_q4.c0
            have c_q1_4 := b_q4.c1
            have f_r04 := t_r04.room.2
            have f_r14 := t_r14.room.2
            clear hb4 b_p3 c_p0_3 c_p1_3 b_q3 c_q0_3 c_q1_3 t_r03 f_r03 t_r13 f_r13 l_p3 l_q3 h3 h4 bel3
            go_wp2_with fail
            have cc := Lib.hid (radd_any v4 A3 m3 c3 _ _ _ _ _ l_d4 lit4 (by omega) (by omega))
            refine cc.out.mono ?_
            clear cc
            rw [val_lim, val_single]
            rintro e v5 ⟨A7, m7, c7, rfl, h7, hm7, kb5⟩
            have b_p5 := b_p4.bel kb5
            have b_q5 := b_q4.bel kb5
            have t_r05 := t_r04.bel kb5
            have t_r15 := t_r14.bel kb5
            have l_p5 := l_p4.bel kb5
            have l_q5 := l_q4.bel kb5
            have l_d5 := l_d4.bel kb5
            have l_r5 := l_r4.bel kb5
            have l_one5 := lit4.bel kb5
            have bel5 := bel4.trans (kb5.mono bel4.size)
            have c_p0_5 := b_p5.c0
            have c_p1_5 := b_p5.c1
            have c_q0_5 := b_q5.c0
            have c_q1_5 := b_q5.c1
            have f_r05 := t_r05.room.2
            have f_r15 := t_r15.room.2
            clear kb5 b_p4 c_p0_4 c_p1_4 b_q4 c_q0_4 c_q1_4 t_r04 f_r04 t_r14 f_r14 l_p4 l_q4 l_d4 l_r4 lit4 bel4
            go_wp2_with fail
            have cc := Lib.hid (rsub_ge v5 Y.natAbs (X.natAbs % Y.natAbs) A2 m2 c2 l_q5 A4 m4 c4 l_r5 (Nat.le_of_lt (Nat.mod_lt _ (Nat.pos_of_ne_zero H0.out))))
            refine cc.out.mono ?_
            clear cc
            rintro e v6 ⟨A8, m8, c8, rfl, h8, hm8, kb6⟩
            have b_p6 := b_p5.bel kb6
            have b_q6 := b_q5.bel kb6
            have t_r06 := t_r05.bel kb6
            have t_r16 := t_r15.bel kb6
            have l_p6 := l_p5.bel kb6
            have l_q6 := l_q5.bel kb6
            have l_d6 := h7.bel kb6
            have l_r6 := l_r5.bel kb6
            have l_one6 := l_one5.bel kb6
            have bel6 := bel5.trans (kb6.mono bel5.size)
            have c_p0_6 := b_p6.c0
            have c_p1_6 := b_p6.c1
            have c_q0_6 := b_q6.c0
            have c_q1_6 := b_q6.c1
            have f_r06 := t_r06.room.2
            have f_r16 := t_r16.room.2
            clear kb6 b_p5 c_p0_5 c_p1_5 b_q5 c_q0_5 c_q1_5 t_r05 f_r05 t_r15 f_r15 l_p5 l_q5 h7 l_r5 l_one5 bel5
            go_wp2_with fail
            go_region_held3 (fun w' => (Box w' p false A1 m1 c1 ∧ w'.cell? ⟨p, 0, none⟩ = some (.bool false) ∧ w'.cell? ⟨p, 1, none⟩ = some (.slice A1 m1 c1)) ∧ (Box w' q true A2 m2 c2 ∧ w'.cell? ⟨q, 0, none⟩ = some (.bool true) ∧ w'.cell? ⟨q, 1, none⟩ = some (.slice A2 m2 c2)) ∧ (Two w' r0 ∧ w'.cell? ⟨r0, 0, none⟩ = some (lies w' r0 0) ∧ w'.cell? ⟨r0, 1, none⟩ = some (lies w' r0 1) ∧ w'.frozen? ⟨r0, 0, none⟩ = false ∧ w'.frozen? ⟨r0, 1, none⟩ = false) ∧ (Two w' r1 ∧ w'.cell? ⟨r1, 0, none⟩ = some (lies w' r1 0) ∧ w'.cell? ⟨r1, 1, none⟩ = some (lies w' r1 1) ∧ w'.frozen? ⟨r1, 0, none⟩ = false ∧ w'.frozen? ⟨r1, 1, none⟩ = false))
              (first
                | exact ⟨held0 (w := v6.drew) b_p6, held0 (w := v6.drew) b_q6, Two.room (w := v6.drew) t_r06, Two.room (w := v6.drew) t_r16⟩
                | exact keep22 (by assumption) (by assumption)
                | exact keep22s0 HNr0.out.1 HNr0.out.2 HG.out.2.2.2.2.2.2.2.2.2.2.2.2.2.2.2 (by assumption) rfl
                | exact keep22s1 HNr1.out.1 HNr1.out.2 HG.out.2.2.2.2.2.2.2.2.2.2.2.2.1 (by assumption) rfl)
              (first
                | (go_at_call 19; go_at_call_of 19 (Value.slice A7 m7 c7); refine (rnorm_m _ true (X.natAbs / Y.natAbs + 1) A7 m7 c7 ?_ HVV.out.1).mono ?_; exact l_d6.drew; rintro e w9 ⟨A9, m9, c9, rfl, h9, hm9, hb9⟩)
                | (go_at_call 19; go_at_call_of 19 (Value.slice A8 m8 c8); refine (rnorm_m _ true (Y.natAbs - X.natAbs % Y.natAbs) A8 m8 c8 ?_ HVV.out.2).mono ?_; exact h8.drew.bel hb9; rintro e w10 ⟨A10, m10, c10, rfl, h10, hm10, hb10⟩))
            have h9' := h9.bel hb10
            have hbx := bel_next (bel_undrew hb9) hb10
            have b_p7 := b_p6.bel hbx
            have b_q7 := b_q6.bel hbx
            have t_r07 := t_r06.bel hbx
            have t_r17 := t_r16.bel hbx
            have l_p7 := l_p6.bel hbx
            have l_q7 := l_q6.bel hbx
            have l_d7 := l_d6.bel hbx
            have l_r7 := h8.bel hbx
            have l_one7 := l_one6.bel hbx
            have bel7 := bel6.trans (hbx.mono bel6.size)
            have c_p0_7 := b_p7.c0
            have c_p1_7 := b_p7.c1
            have c_q0_7 := b_q7.c0
            have c_q1_7 := b_q7.c1
            have f_r07 := t_r07.room.2
            have f_r17 := t_r17.room.2
            clear hbx b_p6 c_p0_6 c_p1_6 b_q6 c_q0_6 c_q1_6 t_r06 f_r06 t_r16 f_r16 l_p6 l_q6 l_d6 h8 l_one6 bel6
            clear hb9 hb10
            have hn01 : r0 ≠ r1 := HG.out.2.2.2.2.2.2.2.2.2.2.2.2.1
            have hn10 : r1 ≠ r0 := HG.out.2.2.2.2.2.2.2.2.2.2.2.2.2.2.2
            go_wp2
            have hx0 := t_r07.put (decide (Q < 0)) A9 m9 c9
            have hy := (t_r17.far (p := ⟨r0, 0, none⟩) HG.out.2.2.2.2.2.2.2.2.2.2.2.2.2.2.2 (.bool (decide (Q < 0)))).far (p := ⟨r0, 1, none⟩) HG.out.2.2.2.2.2.2.2.2.2.2.2.2.2.2.2 (.slice A9 m9 c9)
            have hx := (hx0.far (p := ⟨r1, 0, none⟩) HG.out.2.2.2.2.2.2.2.2.2.2.2.2.1 (.bool (decide (R < 0)))).far (p := ⟨r1, 1, none⟩) HG.out.2.2.2.2.2.2.2.2.2.2.2.2.1 (.slice A10 m10 c10)
            have hx1 := hy.put (decide (R < 0)) A10 m10 c10
            have hl1 := (h9'.put t_r07 (.bool (decide (Q < 0))) (.slice A9 m9 c9)).put hy (.bool (decide (R < 0))) (.slice A10 m10 c10)
            have hl2 := (h10.put t_r07 (.bool (decide (Q < 0))) (.slice A9 m9 c9)).put hy (.bool (decide (R < 0))) (.slice A10 m10 c10)
            have hbl := bel_put (bel_put bel7 (g := r0) HG.out.2.2.1 (.bool (decide (Q < 0))) (.slice A9 m9 c9)) (g := r1) HG.out.2.2.2.1 (.bool (decide (R < 0))) (.slice A10 m10 c10)
            generalize (((w10.setCell ⟨r0, 0, none⟩ (.bool (decide (Q < 0)))).setCell ⟨r0, 1, none⟩ (.slice A9 m9 c9)).setCell ⟨r1, 0, none⟩ (.bool (decide (R < 0)))).setCell ⟨r1, 1, none⟩ (.slice A10 m10 c10) = wz at *
            refine bodyPost_ret (v := .tuple #[.agg #[.bool (decide (Q < 0)), .slice A9 m9 c9], .agg #[.bool (decide (R < 0)), .slice A10 m10 c10], .bool true]) (by simp [results, Tryd.results14, go_sem, hx.c0, hx.c1, hx1.c0, hx1.c1]) rfl ?_
            rw [Htt.out]
            exact ⟨_, _, _, _, _, _, rfl, hl1, hl2, by omega, by omega, hbl⟩
        · have dy : decide (Y < 0) = false := decide_eq_false hY
          try clear c_p0_3 c_p1_3 c_q0_3 c_q1_3
          rw [dx] at b_p3
          rw [dy] at b_q3
          have HXX := Lib.hid hX
          have HYY := Lib.hid hY
          clear dx dy hX hY
          have c_p0_3 := b_p3.c0
          have c_p1_3 := b_p3.c1
          have c_q0_3 := b_q3.c0
          have c_q1_3 := b_q3.c1
          have f_r03 := t_r03.room.2
          have f_r13 := t_r13.room.2
          have HVV : Hid (sgn false (X.natAbs / Y.natAbs) = Q ∧ sgn false (X.natAbs % Y.natAbs) = R) := (by
            have h1 := dq_same (X := X) (Y := Y) (by have h2 := HXX.out; have h3 := HYY.out; have h4 := HYn.out; omega)
            rw [HQ.out, HR.out, sg_pos (by have h1 := HYY.out; have h2 := HYn.out; omega)] at h1
            rw [h1.1, h1.2]
            refine ⟨rfl, ?_⟩
            rw [sgn_false]; omega : sgn false (X.natAbs / Y.natAbs) = Q ∧ sgn false (X.natAbs % Y.natAbs) = R)
          go_wp2_with fail
          go_region_held3 (fun w' => (Box w' p false A1 m1 c1 ∧ w'.cell? ⟨p, 0, none⟩ = some (.bool false) ∧ w'.cell? ⟨p, 1, none⟩ = some (.slice A1 m1 c1)) ∧ (Box w' q false A2 m2 c2 ∧ w'.cell? ⟨q, 0, none⟩ = some (.bool false) ∧ w'.cell? ⟨q, 1, none⟩ = some (.slice A2 m2 c2)) ∧ (Two w' r0 ∧ w'.cell? ⟨r0, 0, none⟩ = some (lies w' r0 0) ∧ w'.cell? ⟨r0, 1, none⟩ = some (lies w' r0 1) ∧ w'.frozen? ⟨r0, 0, none⟩ = false ∧ w'.frozen? ⟨r0, 1, none⟩ = false) ∧ (Two w' r1 ∧ w'.cell? ⟨r1, 0, none⟩ = some (lies w' r1 0) ∧ w'.cell? ⟨r1, 1, none⟩ = some (lies w' r1 1) ∧ w'.frozen? ⟨r1, 0, none⟩ = false ∧ w'.frozen? ⟨r1, 1, none⟩ = false))
            (first
              | exact ⟨held0 (w := v3.drew) b_p3, held0 (w := v3.drew) b_q3, Two.room (w := v3.drew) t_r03, Two.room (w := v3.drew) t_r13⟩
              | exact keep22 (by assumption) (by assumption)
              | exact keep22s0 HNr0.out.1 HNr0.out.2 HG.out.2.2.2.2.2.2.2.2.2.2.2.2.2.2.2 (by assumption) rfl
              | exact keep22s1 HNr1.out.1 HNr1.out.2 HG.out.2.2.2.2.2.2.2.2.2.2.2.2.1 (by assumption) rfl)
            (first
              | (go_at_call 19; go_at_call_of 19 (Value.slice A3 m3 c3); refine (rnorm_m _ false (X.natAbs / Y.natAbs) A3 m3 c3 ?_ HVV.out.1).mono ?_; exact h3.drew; rintro e w9 ⟨A9, m9, c9, rfl, h9, hm9, hb9⟩)
              | (go_at_call 19; go_at_call_of 19 (Value.slice A4 m4 c4); refine (rnorm_m _ false (X.natAbs % Y.natAbs) A4 m4 c4 ?_ HVV.out.2).mono ?_; exact h4.drew.bel hb9; rintro e w10 ⟨A10, m10, c10, rfl, h10, hm10, hb10⟩))
          have h9' := h9.bel hb10
          have hbx := bel_next (bel_undrew hb9) hb10
          have b_p4 := b_p3.bel hbx
          have b_q4 := b_q3.bel hbx
          have t_r04 := t_r03.bel hbx
          have t_r14 := t_r13.bel hbx
          have l_p4 := l_p3.bel hbx
          have l_q4 := l_q3.bel hbx
          have l_d4 := h3.bel hbx
          have l_r4 := h4.bel hbx
          have bel4 := bel3.trans (hbx.mono bel3.size)
          have c_p0_4 := b_p4.c0
          have c_p1_4 := b_p4.c1
          have c_q0_4 := b_q4.c0
          have c_q1_4 := b_q4.c1
          have f_r04 := t_r04.room.2
          have f_r14 := t_r14.room.2
          clear hbx b_p3 c_p0_3 c_p1_3 b_q3 c_q0_3 c_q1_3 t_r03 f_r03 t_r13 f_r13 l_p3 l_q3 h3 h4 bel3
          clear hb9 hb10
          have hn01 : r0 ≠ r1 := HG.out.2.2.2.2.2.2.2.2.2.2.2.2.1
          have hn10 : r1 ≠ r0 := HG.out.2.2.2.2.2.2.2.2.2.2.2.2.2.2.2
          go_wp2
          have hx0 := t_r04.put (decide (Q < 0)) A9 m9 c9
          have hy := (t_r14.far (p := ⟨r0, 0, none⟩) HG.out.2.2.2.2.2.2.2.2.2.2.2.2.2.2.2 (.bool (decide (Q < 0)))).far (p := ⟨r0, 1, none⟩) HG.out.2.2.2.2.2.2.2.2.2.2.2.2.2.2.2 (.slice A9 m9 c9)
          have hx := (hx0.far (p := ⟨r1, 0, none⟩) HG.out.2.2.2.2.2.2.2.2.2.2.2.2.1 (.bool (decide (R < 0)))).far (p := ⟨r1, 1, none⟩) HG.out.2.2.2.2.2.2.2.2.2.2.2.2.1 (.slice A10 m10 c10)
          have hx1 := hy.put (decide (R < 0)) A10 m10 c10
          have hl1 := (h9'.put t_r04 (.bool (decide (Q < 0))) (.slice A9 m9 c9)).put hy (.bool (decide (R < 0))) (.slice A10 m10 c10)
          have hl2 := (h10.put t_r04 (.bool (decide (Q < 0))) (.slice A9 m9 c9)).put hy (.bool (decide (R < 0))) (.slice A10 m10 c10)
          have hbl := bel_put (bel_put bel4 (g := r0) HG.out.2.2.1 (.bool (decide (Q < 0))) (.slice A9 m9 c9)) (g := r1) HG.out.2.2.2.1 (.bool (decide (R < 0))) (.slice A10 m10 c10)
          generalize (((w10.setCell ⟨r0, 0, none⟩ (.bool (decide (Q < 0)))).setCell ⟨r0, 1, none⟩ (.slice A9 m9 c9)).setCell ⟨r1, 0, none⟩ (.bool (decide (R < 0)))).setCell ⟨r1, 1, none⟩ (.slice A10 m10 c10) = wz at *
          refine bodyPost_ret (v := .tuple #[.agg #[.bool (decide (Q < 0)), .slice A9 m9 c9], .agg #[.bool (decide (R < 0)), .slice A10 m10 c10], .bool true]) (by simp [results, Tryd.results14, go_sem, hx.c0, hx.c1, hx1.c0, hx1.c1]) rfl ?_
          rw [Htt.out]
          exact ⟨_, _, _, _, _, _, rfl, hl1, hl2, by omega, by omega, hbl⟩
end Go.Proofs.YtfnfbfiikkiliaaDoor
