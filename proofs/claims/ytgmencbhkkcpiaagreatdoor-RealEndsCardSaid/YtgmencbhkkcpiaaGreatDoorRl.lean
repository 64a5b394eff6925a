/- Contracts of package whole: Div, whole. -/
import Derived.Test.YtgmencbhkkcpiaaGreatDoorWJ0
import Derived.Test.YtgmencbhkkcpiaaGreatDoorWJ1
import Derived.Test.YtgmencbhkkcpiaaGreatDoorWJ2
import Derived.Test.YtgmencbhkkcpiaaGreatDoorWJ3
import Derived.Deep.RegionHeld3
import Derived.Test.YtgmencbhkkcpiaaGreatDoorWb
import Derived.Test.YtgmencbhkkcpiaaGreatDoorLb
namespace Go.Proofs.YtgmencbhkkcpiaaGreatDoor
open Go.RowKit

end Go.Proofs.YtgmencbhkkcpiaaGreatDoor
/- Contracts of the document's own numbers with a sign: Norm, SameInt, Of. -/
namespace Go.Proofs.YtgmencbhkkcpiaaGreatDoor
open Go.RowKit

theorem len_pos' {w : World} {A : Option Addr} {m c N : Nat} (h : Lm w A m c (lim N)) (hN : N ≠ 0) : (m : Int) > 0 := by have := (ln_pos_iff h).2 hN; omega
theorem len_none' {w : World} {A : Option Addr} {m c N : Nat} (h : Lm w A m c (lim N)) (hN : N = 0) : ¬ (m : Int) > 0 := by have := ln_pos_iff h; omega
set_option maxHeartbeats 1000000 in
theorem rnorm_p (w : World) (Aa : Option Addr) (na ca : Nat) (xa : List Nat) (La : Lm w Aa na ca xa) :
    Calls Tryz.prog 68 #[.agg #[.bool false, .slice Aa na ca]] w (TellsI w (sgn false (val xa)) na) := by
  obtain ⟨Z, hZ, hZn, hZd⟩ : ∃ Z, sgn false (val xa) = Z ∧ Z.natAbs = val xa ∧ decide (Z < 0) = false := ⟨_, rfl, sgn_natAbs _ _, by rw [sgn_false]; exact decide_eq_false (by omega)⟩
  rw [hZ]
  have HZ := Lib.hid (And.intro hZn hZd)
  clear hZ hZn hZd
  go_enter Tryz.func68, Tryz.ntmps68
  go_wp2_with fail
  obtain ⟨ga, hga⟩ : ∃ g, g = w.heap.size := ⟨_, rfl⟩
  obtain ⟨r0, hr0⟩ : ∃ g, g = w.heap.size + 1 := ⟨_, rfl⟩
  obtain ⟨w1, hw1⟩ : ∃ v, v = ((w.alloc (.cells #[.bool false, .slice Aa na ca] 24)).alloc (.cells #[.bool false, .slice none 0 0] 24)) := ⟨_, rfl⟩
  have bel1 : Below w.heap.size w w1 := by rw [hw1]; exact bel_alloc2 _ _ _
  have b_a1 : Box w1 ga false Aa na ca := by rw [hw1, hga]; exact ((Box.new _ _ _ _ _).alloc _)
  have t_r01 : Two w1 r0 := by rw [hw1, hr0]; exact Box.two (Box.at1 _ _ _ _ _ _)
  rw [← hw1, ← hr0, ← hga]
  have hgs : w.heap.size ≤ ga ∧ w.heap.size ≤ r0 ∧ ga ≠ r0 ∧ r0 ≠ ga := by omega
  have HG := Lib.hid hgs
  clear hw1 hgs hga hr0
  have l_a1 := La.bel bel1
  have c_a0_1 := b_a1.c0
  have c_a1_1 := b_a1.c1
  have f_r01 := t_r01.room.2
  have cc := Lib.hid (rtrim_lm w1 Aa na ca xa l_a1)
  refine cc.out.mono ?_
  clear cc
  rintro e w' ⟨m3, rfl, h3, hm3, rfl⟩
  go_wp2
  have hx := t_r01.put false Aa m3 ca
  have hl := h3.put t_r01 (.bool false) (.slice Aa m3 ca)
  have hbl := bel_put bel1 (g := r0) HG.out.2.1 (.bool false) (.slice Aa m3 ca)
  generalize (w1.setCell ⟨r0, 0, none⟩ (.bool false)).setCell ⟨r0, 1, none⟩ (.slice Aa m3 ca) = wz at *
  refine bodyPost_ret (v := .agg #[.bool false, .slice Aa m3 ca]) (by simp [results, Tryz.results68, go_sem, hx.c0, hx.c1]) rfl ?_
  exact ⟨_, _, _, by rw [HZ.out.2], by rw [HZ.out.1]; exact hl, hm3, hbl⟩
set_option maxHeartbeats 1000000 in
theorem rnorm_z (w : World) (Aa : Option Addr) (na ca : Nat) (xa : List Nat) (La : Lm w Aa na ca xa) (h0 : val xa = 0) :
    Calls Tryz.prog 68 #[.agg #[.bool true, .slice Aa na ca]] w (TellsI w (sgn true (val xa)) na) := by
  obtain ⟨Z, hZ, hZn, hZd⟩ : ∃ Z, sgn true (val xa) = Z ∧ Z.natAbs = val xa ∧ decide (Z < 0) = false := ⟨_, rfl, sgn_natAbs _ _, by rw [h0, sgn_zero]; rfl⟩
  rw [hZ]
  have HZ := Lib.hid (And.intro hZn hZd)
  clear hZ hZn hZd
  have H0 := Lib.hid h0
  clear h0
  go_enter Tryz.func68, Tryz.ntmps68
  go_wp2_with fail
  obtain ⟨ga, hga⟩ : ∃ g, g = w.heap.size := ⟨_, rfl⟩
  obtain ⟨r0, hr0⟩ : ∃ g, g = w.heap.size + 1 := ⟨_, rfl⟩
  obtain ⟨w1, hw1⟩ : ∃ v, v = ((w.alloc (.cells #[.bool true, .slice Aa na ca] 24)).alloc (.cells #[.bool false, .slice none 0 0] 24)) := ⟨_, rfl⟩
  have bel1 : Below w.heap.size w w1 := by rw [hw1]; exact bel_alloc2 _ _ _
  have b_a1 : Box w1 ga true Aa na ca := by rw [hw1, hga]; exact ((Box.new _ _ _ _ _).alloc _)
  have t_r01 : Two w1 r0 := by rw [hw1, hr0]; exact Box.two (Box.at1 _ _ _ _ _ _)
  rw [← hw1, ← hr0, ← hga]
  have hgs : w.heap.size ≤ ga ∧ w.heap.size ≤ r0 ∧ ga ≠ r0 ∧ r0 ≠ ga := by omega
  have HG := Lib.hid hgs
  clear hw1 hgs hga hr0
  have l_a1 := La.bel bel1
  have c_a0_1 := b_a1.c0
  have c_a1_1 := b_a1.c1
  have f_r01 := t_r01.room.2
  have cc := Lib.hid (rtrim_lm w1 Aa na ca xa l_a1)
  refine cc.out.mono ?_
  clear cc
  rintro e w' ⟨m3, rfl, h3, hm3, rfl⟩
  have hlen := len_none' h3 H0.out
  have HD : Hid (decide (0 < m3) = decide (Z < 0)) := (by rw [HZ.out.2]; exact decide_eq_false (by omega) : decide (0 < m3) = decide (Z < 0))
  go_wp2
  have hx := t_r01.put (decide (0 < m3)) Aa m3 ca
  have hl := h3.put t_r01 (.bool (decide (0 < m3))) (.slice Aa m3 ca)
  have hbl := bel_put bel1 (g := r0) HG.out.2.1 (.bool (decide (0 < m3))) (.slice Aa m3 ca)
  generalize (w1.setCell ⟨r0, 0, none⟩ (.bool (decide (0 < m3)))).setCell ⟨r0, 1, none⟩ (.slice Aa m3 ca) = wz at *
  refine bodyPost_ret (v := .agg #[.bool (decide (0 < m3)), .slice Aa m3 ca]) (by simp [results, Tryz.results68, go_sem, hx.c0, hx.c1]) rfl ?_
  exact ⟨_, _, _, by rw [HD.out], by rw [HZ.out.1]; exact hl, hm3, hbl⟩
set_option maxHeartbeats 1000000 in
theorem rnorm_n (w : World) (Aa : Option Addr) (na ca : Nat) (xa : List Nat) (La : Lm w Aa na ca xa) (h0 : val xa ≠ 0) :
    Calls Tryz.prog 68 #[.agg #[.bool true, .slice Aa na ca]] w (TellsI w (sgn true (val xa)) na) := by
  obtain ⟨Z, hZ, hZn, hZd⟩ : ∃ Z, sgn true (val xa) = Z ∧ Z.natAbs = val xa ∧ decide (Z < 0) = true := ⟨_, rfl, sgn_natAbs _ _, by rw [sgn_true]; exact decide_eq_true (by omega)⟩
  rw [hZ]
  have HZ := Lib.hid (And.intro hZn hZd)
  clear hZ hZn hZd
  have H0 := Lib.hid h0
  clear h0
  go_enter Tryz.func68, Tryz.ntmps68
  go_wp2_with fail
  obtain ⟨ga, hga⟩ : ∃ g, g = w.heap.size := ⟨_, rfl⟩
  obtain ⟨r0, hr0⟩ : ∃ g, g = w.heap.size + 1 := ⟨_, rfl⟩
  obtain ⟨w1, hw1⟩ : ∃ v, v = ((w.alloc (.cells #[.bool true, .slice Aa na ca] 24)).alloc (.cells #[.bool false, .slice none 0 0] 24)) := ⟨_, rfl⟩
  have bel1 : Below w.heap.size w w1 := by rw [hw1]; exact bel_alloc2 _ _ _
  have b_a1 : Box w1 ga true Aa na ca := by rw [hw1, hga]; exact ((Box.new _ _ _ _ _).alloc _)
  have t_r01 : Two w1 r0 := by rw [hw1, hr0]; exact Box.two (Box.at1 _ _ _ _ _ _)
  rw [← hw1, ← hr0, ← hga]
  have hgs : w.heap.size ≤ ga ∧ w.heap.size ≤ r0 ∧ ga ≠ r0 ∧ r0 ≠ ga := by omega
  have HG := Lib.hid hgs
  clear hw1 hgs hga hr0
  have l_a1 := La.bel bel1
  have c_a0_1 := b_a1.c0
  have c_a1_1 := b_a1.c1
  have f_r01 := t_r01.room.2
  have cc := Lib.hid (rtrim_lm w1 Aa na ca xa l_a1)
  refine cc.out.mono ?_
  clear cc
  rintro e w' ⟨m3, rfl, h3, hm3, rfl⟩
  have hlen := len_pos' h3 H0.out
  have HD : Hid (decide (0 < m3) = decide (Z < 0)) := (by rw [HZ.out.2]; exact decide_eq_true (by omega) : decide (0 < m3) = decide (Z < 0))
  go_wp2
  have hx := t_r01.put (decide (0 < m3)) Aa m3 ca
  have hl := h3.put t_r01 (.bool (decide (0 < m3))) (.slice Aa m3 ca)
  have hbl := bel_put bel1 (g := r0) HG.out.2.1 (.bool (decide (0 < m3))) (.slice Aa m3 ca)
  generalize (w1.setCell ⟨r0, 0, none⟩ (.bool (decide (0 < m3)))).setCell ⟨r0, 1, none⟩ (.slice Aa m3 ca) = wz at *
  refine bodyPost_ret (v := .agg #[.bool (decide (0 < m3)), .slice Aa m3 ca]) (by simp [results, Tryz.results68, go_sem, hx.c0, hx.c1]) rfl ?_
  exact ⟨_, _, _, by rw [HD.out], by rw [HZ.out.1]; exact hl, hm3, hbl⟩
theorem rnorm_any (w : World) (sa : Bool) (Aa : Option Addr) (na ca : Nat) (xa : List Nat) (La : Lm w Aa na ca xa) :
    Calls Tryz.prog 68 #[.agg #[.bool sa, .slice Aa na ca]] w (TellsI w (sgn sa (val xa)) na) := by
  cases sa
  · exact rnorm_p w Aa na ca xa La
  · by_cases h0 : val xa = 0
    · exact rnorm_z w Aa na ca xa La h0
    · exact rnorm_n w Aa na ca xa La h0
set_option maxHeartbeats 1000000 in
theorem rof_p (w : World) (N : Nat) (hN : N < 9223372036854775808) : Calls Tryz.prog 42 #[.int .i64 ((N : Int))] w (TellsI w ((N : Int)) 2) := by
  have hlt : ¬ (N : Int) < 0 := by omega
  obtain ⟨lo, hlo, e1⟩ : ∃ lo, lo = N % 4294967296 ∧ (N : Int) % 4294967296 = (lo : Int) := ⟨_, rfl, by omega⟩
  obtain ⟨hi', hhi, e2⟩ : ∃ h, h = N / 4294967296 ∧ (N : Int) / 4294967296 = (h : Int) := ⟨_, rfl, by omega⟩
  have hhb : hi' < 4294967296 := by omega
  have hlb : lo < 4294967296 := by omega
  have e3 : (hi' : Int) % 4294967296 = (hi' : Int) := by omega
  have hv : val [lo, hi'] = N := by rw [val_cons, val_single, Bs_eq]; omega
  have hz : sgn false (val [lo, hi']) = (N : Int) := by rw [hv]; rfl
  obtain ⟨Z, hZ⟩ : ∃ Z, (N : Int) = Z := ⟨_, rfl⟩
  have hzz : sgn false (val [lo, hi']) = Z := hz.trans hZ
  have HH := Lib.hid (And.intro hzz (And.intro hlb hhb))
  have HZ := Lib.hid hZ
  clear hv hz hzz hlo hhi hZ
  go_enter Tryz.func42, Tryz.ntmps42
  go_wp2_with fail
  obtain ⟨r0, hr0⟩ : ∃ g, g = w.heap.size := ⟨_, rfl⟩
  obtain ⟨w1, hw1⟩ : ∃ v, v = w.alloc (.cells #[.bool false, .slice none 0 0] 24) := ⟨_, rfl⟩
  obtain ⟨w2, hw2⟩ : ∃ v, v = w1.alloc (.cells #[.int .u32 (lo : Nat), .int .u32 (hi' : Nat)] 87) := ⟨_, rfl⟩
  have hsz : w1.heap.size = w.heap.size + 1 := by rw [hw1, size_alloc]
  have bel2 : Below w.heap.size w w2 := by rw [hw2, hw1]; exact bel_alloc2 _ _ _
  have t_r02 : Two w2 r0 := by rw [hw2, hw1, hr0]; exact ((Box.new _ _ _ _ _).alloc _).two
  have l2 : Lm w2 (some ⟨w.heap.size + 1, 0, none⟩) 2 2 [lo, hi'] := by
    rw [hw2, ← hsz]; exact (Own.list w1 [lo, hi']).lm (Ok.of_mem (fun x hx => by have := HH.out.2; rw [Bs_eq]; simp at hx; omega)) (by simp)
  have hle : w.heap.size ≤ r0 := by omega
  rw [← hr0] at l2
  rw [← hw1, ← hw2, ← hr0]
  have HG := Lib.hid hle
  clear hw1 hw2 hsz hle
  have HR := Lib.hid hr0
  clear hr0
  have f_r02 := t_r02.room.2
  have cc := Lib.hid (rnorm_any w2 false _ 2 2 _ l2)
  refine cc.out.mono ?_
  clear cc
  rw [HH.out.1]
  rintro e v3 ⟨A4, m4, c4, rfl, h4, hm4, kb3⟩
  have t_r03 := t_r02.bel kb3
  have l_l3 := l2.bel kb3
  have bel3 := bel2.trans (kb3.mono bel2.size)
  have f_r03 := t_r03.room.2
  clear kb3 t_r02 f_r02 l2 bel2
  go_wp2
  have hx := t_r03.put (decide (Z < 0)) A4 m4 c4
  have hl := h4.put t_r03 (.bool (decide (Z < 0))) (.slice A4 m4 c4)
  have hbl := bel_put bel3 (g := r0) HG.out (.bool (decide (Z < 0))) (.slice A4 m4 c4)
  generalize (v3.setCell ⟨r0, 0, none⟩ (.bool (decide (Z < 0)))).setCell ⟨r0, 1, none⟩ (.slice A4 m4 c4) = wz at *
  refine bodyPost_ret (v := .agg #[.bool (decide (Z < 0)), .slice A4 m4 c4]) (by simp [results, Tryz.results42, go_sem, hx.c0, hx.c1]) rfl ?_
  rw [HZ.out]
  exact ⟨_, _, _, rfl, hl, hm4, hbl⟩
set_option maxHeartbeats 1000000 in
theorem rof_n (w : World) (N : Nat) (hN : 0 < N ∧ N ≤ 9223372036854775808) : Calls Tryz.prog 42 #[.int .i64 (-(N : Int))] w (TellsI w (-(N : Int)) 2) := by
  have hlt : -(N : Int) < 0 := by omega
  have eu : IntKind.u64.wrap (-IntKind.u64.wrap (-(N : Int))) = (N : Int) := by rw [IntKind.wrap_u64, IntKind.wrap_u64]; omega
  obtain ⟨lo, hlo, e1⟩ : ∃ lo, lo = N % 4294967296 ∧ (N : Int) % 4294967296 = (lo : Int) := ⟨_, rfl, by omega⟩
  obtain ⟨hi', hhi, e2⟩ : ∃ h, h = N / 4294967296 ∧ (N : Int) / 4294967296 = (h : Int) := ⟨_, rfl, by omega⟩
  have hhb : hi' < 4294967296 := by omega
  have hlb : lo < 4294967296 := by omega
  have e3 : (hi' : Int) % 4294967296 = (hi' : Int) := by omega
  have hv : val [lo, hi'] = N := by rw [val_cons, val_single, Bs_eq]; omega
  have hz : sgn true (val [lo, hi']) = -(N : Int) := by rw [hv]; rfl
  obtain ⟨Z, hZ⟩ : ∃ Z, -(N : Int) = Z := ⟨_, rfl⟩
  have hzz : sgn true (val [lo, hi']) = Z := hz.trans hZ
  have HH := Lib.hid (And.intro hzz (And.intro hlb hhb))
  have HZ := Lib.hid hZ
  clear hv hz hzz hlo hhi hZ
  go_enter Tryz.func42, Tryz.ntmps42
  go_wp2_with fail
  obtain ⟨r0, hr0⟩ : ∃ g, g = w.heap.size := ⟨_, rfl⟩
  obtain ⟨w1, hw1⟩ : ∃ v, v = w.alloc (.cells #[.bool false, .slice none 0 0] 24) := ⟨_, rfl⟩
  obtain ⟨w2, hw2⟩ : ∃ v, v = w1.alloc (.cells #[.int .u32 (lo : Nat), .int .u32 (hi' : Nat)] 87) := ⟨_, rfl⟩
  have hsz : w1.heap.size = w.heap.size + 1 := by rw [hw1, size_alloc]
  have bel2 : Below w.heap.size w w2 := by rw [hw2, hw1]; exact bel_alloc2 _ _ _
  have t_r02 : Two w2 r0 := by rw [hw2, hw1, hr0]; exact ((Box.new _ _ _ _ _).alloc _).two
  have l2 : Lm w2 (some ⟨w.heap.size + 1, 0, none⟩) 2 2 [lo, hi'] := by
    rw [hw2, ← hsz]; exact (Own.list w1 [lo, hi']).lm (Ok.of_mem (fun x hx => by have := HH.out.2; rw [Bs_eq]; simp at hx; omega)) (by simp)
  have hle : w.heap.size ≤ r0 := by omega
  rw [← hr0] at l2
  rw [← hw1, ← hw2, ← hr0]
  have HG := Lib.hid hle
  clear hw1 hw2 hsz hle
  have HR := Lib.hid hr0
  clear hr0
  have f_r02 := t_r02.room.2
  have cc := Lib.hid (rnorm_any w2 true _ 2 2 _ l2)
  refine cc.out.mono ?_
  clear cc
  rw [HH.out.1]
  rintro e v3 ⟨A4, m4, c4, rfl, h4, hm4, kb3⟩
  have t_r03 := t_r02.bel kb3
  have l_l3 := l2.bel kb3
  have bel3 := bel2.trans (kb3.mono bel2.size)
  have f_r03 := t_r03.room.2
  clear kb3 t_r02 f_r02 l2 bel2
  go_wp2
  have hx := t_r03.put (decide (Z < 0)) A4 m4 c4
  have hl := h4.put t_r03 (.bool (decide (Z < 0))) (.slice A4 m4 c4)
  have hbl := bel_put bel3 (g := r0) HG.out (.bool (decide (Z < 0))) (.slice A4 m4 c4)
  generalize (v3.setCell ⟨r0, 0, none⟩ (.bool (decide (Z < 0)))).setCell ⟨r0, 1, none⟩ (.slice A4 m4 c4) = wz at *
  refine bodyPost_ret (v := .agg #[.bool (decide (Z < 0)), .slice A4 m4 c4]) (by simp [results, Tryz.results42, go_sem, hx.c0, hx.c1]) rfl ?_
  rw [HZ.out]
  exact ⟨_, _, _, rfl, hl, hm4, hbl⟩
theorem rof_any (w : World) (n : Int) (hn : -9223372036854775808 ≤ n ∧ n ≤ 9223372036854775807) : Calls Tryz.prog 42 #[.int .i64 n] w (TellsI w n 2) := by
  by_cases h : n < 0
  · obtain ⟨N, rfl⟩ : ∃ N : Nat, n = -(N : Int) := ⟨n.natAbs, by omega⟩
    exact rof_n w N (by omega)
  · obtain ⟨N, rfl⟩ : ∃ N : Nat, n = (N : Int) := ⟨n.natAbs, by omega⟩
    exact rof_p w N (by omega)
theorem rsame_bel (w : World) (A : Option Addr) (n c : Nat) (xs : List Nat) (A' : Option Addr) (n' c' : Nat) (ys : List Nat) (h : Lm w A n c xs) (h' : Lm w A' n' c' ys) {t : Bool} (ht : decide (xs = ys) = t) :
    Calls Tryz.prog 48 #[.slice A n c, .slice A' n' c'] w fun e w' => e = .returned (.bool t) ∧ Below w.heap.size w w' :=
  (same_any w A n c xs A' n' c' ys h h').mono fun _ _ ⟨he, hw⟩ => ⟨by rw [← ht]; exact he, by obtain ⟨nq, rfl⟩ := hw; exact below_drewN (Below.refl _ _) nq⟩
end Go.Proofs.YtgmencbhkkcpiaaGreatDoor
/- Regions that lay new variables. -/
namespace Go.Proofs.YtgmencbhkkcpiaaGreatDoor
open Go.RowKit

theorem Two.alloc {w : World} {g : Nat} (h : Two w g) (o : Obj) : Two (w.alloc o) g := h.bel (bel_alloc _ _)
/-- block g holds the number Z, as it is meant. -/
def NumAt (w : World) (g : Nat) (Z : Int) : Prop := ∃ A m c, Box w g (decide (Z < 0)) A m c ∧ Lm w A m c (lim Z.natAbs) ∧ m ≤ 1000000
theorem NumAt.bel {w w' : World} {g : Nat} {Z : Int} (h : NumAt w g Z) (hb : Below w.heap.size w w') : NumAt w' g Z := by
  obtain ⟨A, m, c, h1, h2, h3⟩ := h
  exact ⟨A, m, c, h1.bel hb, h2.bel hb, h3⟩
end Go.Proofs.YtgmencbhkkcpiaaGreatDoor
/- Contracts by the numbers themselves. -/
namespace Go.Proofs.YtgmencbhkkcpiaaGreatDoor
open Go.RowKit

theorem wadd_g (w : World) (X Y : Int) (sa : Bool) (Aa : Option Addr) (na ca : Nat) (xa : List Nat) (La : Lm w Aa na ca xa) (ha : sgn sa (val xa) = X) (sb : Bool) (Ab : Option Addr) (nb cb : Nat) (xb : List Nat) (Lb : Lm w Ab nb cb xb) (hb : sgn sb (val xb) = Y) (hT : SumsT w) (hna : na ≤ 1000000000) (hnb : nb ≤ 1000000000) {Z : Int} (hZ : X + Y = Z) :
    Calls Tryz.prog 78 #[.agg #[.bool sa, .slice Aa na ca], .agg #[.bool sb, .slice Ab nb cb]] w (TellsI w Z (max na nb + 1)) := by
  subst ha; subst hb; subst hZ; exact wadd_any w sa Aa na ca xa La sb Ab nb cb xb Lb hT hna hnb
theorem wmul_g (w : World) (X Y : Int) (sa : Bool) (Aa : Option Addr) (na ca : Nat) (xa : List Nat) (La : Lm w Aa na ca xa) (ha : sgn sa (val xa) = X) (sb : Bool) (Ab : Option Addr) (nb cb : Nat) (xb : List Nat) (Lb : Lm w Ab nb cb xb) (hb : sgn sb (val xb) = Y) (hT : ProductsT w) (hna : na ≤ 1000000000) (hnb : nb ≤ 1000000000) {Z : Int} (hZ : X * Y = Z) :
    Calls Tryz.prog 51 #[.agg #[.bool sa, .slice Aa na ca], .agg #[.bool sb, .slice Ab nb cb]] w (TellsI w Z (na + nb)) := by
  subst ha; subst hb; subst hZ; exact wmul_any w sa Aa na ca xa La sb Ab nb cb xb Lb hT hna hnb
theorem wcmp_g (w : World) (X Y : Int) (sa : Bool) (Aa : Option Addr) (na ca : Nat) (xa : List Nat) (La : Lm w Aa na ca xa) (ha : sgn sa (val xa) = X) (sb : Bool) (Ab : Option Addr) (nb cb : Nat) (xb : List Nat) (Lb : Lm w Ab nb cb xb) (hb : sgn sb (val xb) = Y) {ρ : Int} (hZ : sg (X - Y) = ρ) :
    Calls Tryz.prog 66 #[.agg #[.bool sa, .slice Aa na ca], .agg #[.bool sb, .slice Ab nb cb]] w (fun e w' => e = .returned (.int .i64 ρ) ∧ Below w.heap.size w w') := by
  subst ha; subst hb; subst hZ; exact wcmp_any w sa Aa na ca xa La sb Ab nb cb xb Lb
theorem wneg_g (w : World) (X : Int) (sa : Bool) (Aa : Option Addr) (na ca : Nat) (xa : List Nat) (La : Lm w Aa na ca xa) (ha : sgn sa (val xa) = X) {Z : Int} (hZ : -X = Z) :
    Calls Tryz.prog 79 #[.agg #[.bool sa, .slice Aa na ca]] w (TellsI w Z na) := by
  subst ha; subst hZ; exact wneg_any w sa Aa na ca xa La
theorem wnorm_g (w : World) (X : Int) (sa : Bool) (Aa : Option Addr) (na ca : Nat) (xa : List Nat) (La : Lm w Aa na ca xa) (ha : sgn sa (val xa) = X) :
    Calls Tryz.prog 72 #[.agg #[.bool sa, .slice Aa na ca]] w (TellsI w X na) := by
  subst ha; exact wnorm_any w sa Aa na ca xa La
theorem wsign_g (w : World) (X : Int) (sa : Bool) (Aa : Option Addr) (na ca : Nat) (xa : List Nat) (La : Lm w Aa na ca xa) (ha : sgn sa (val xa) = X) {ρ : Int} (hZ : sg X = ρ) :
    Calls Tryz.prog 71 #[.agg #[.bool sa, .slice Aa na ca]] w (fun e w' => e = .returned (.int .i64 ρ) ∧ Below w.heap.size w w') := by
  subst ha; subst hZ; exact wsign_any w sa Aa na ca xa La
theorem wshl_g (w : World) (X : Int) (k : Int) (sa : Bool) (Aa : Option Addr) (na ca : Nat) (xa : List Nat) (La : Lm w Aa na ca xa) (ha : sgn sa (val xa) = X) (hna : na ≤ 1000000000) {Z : Int} (hZ : X * 2 ^ heldN k = Z) :
    Calls Tryz.prog 110 #[.agg #[.bool sa, .slice Aa na ca], .int .i64 k] w (TellsI w Z (na + heldN k / 32 + 1)) := by
  subst ha; subst hZ; exact wshl_any w sa Aa na ca xa La k hna
theorem wshr_g (w : World) (X : Int) (k : Int) (sa : Bool) (Aa : Option Addr) (na ca : Nat) (xa : List Nat) (La : Lm w Aa na ca xa) (ha : sgn sa (val xa) = X) (hna : na ≤ 1000000000) (hT : Tab w) {Z : Int} (hZ : X / 2 ^ heldN k = Z) :
    Calls Tryz.prog 98 #[.agg #[.bool sa, .slice Aa na ca], .int .i64 k] w (TellsI w Z (na + 2)) := by
  subst ha; subst hZ; exact wshr_any w sa Aa na ca xa La k hna hT
theorem wof_g (w : World) (n : Int) (hn : -9223372036854775808 ≤ n ∧ n ≤ 9223372036854775807) {Z : Int} (hZ : n = Z) :
    Calls Tryz.prog 50 #[.int .i64 n] w (TellsI w Z 2) := by
  subst hZ; exact wof_any w n hn
theorem rof_g (w : World) (n : Int) (hn : -9223372036854775808 ≤ n ∧ n ≤ 9223372036854775807) {Z : Int} (hZ : n = Z) :
    Calls Tryz.prog 42 #[.int .i64 n] w (TellsI w Z 2) := by
  subst hZ; exact rof_any w n hn
end Go.Proofs.YtgmencbhkkcpiaaGreatDoor
