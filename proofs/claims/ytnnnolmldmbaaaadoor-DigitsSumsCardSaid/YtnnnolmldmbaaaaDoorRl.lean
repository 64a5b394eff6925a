/- Contracts of package whole: Div, whole. -/
import Derived.Test.YtnnnolmldmbaaaaDoorWJ0
import Derived.Test.YtnnnolmldmbaaaaDoorWJ1
import Derived.Test.YtnnnolmldmbaaaaDoorWJ2
import Derived.Test.YtnnnolmldmbaaaaDoorWJ3
import Derived.Deep.RegionHeld3
import Derived.Test.YtnnnolmldmbaaaaDoorWb
import Derived.Test.YtnnnolmldmbaaaaDoorLb
namespace Go.Proofs.YtnnnolmldmbaaaaDoor
open Go.RowKit

end Go.Proofs.YtnnnolmldmbaaaaDoor
/- Contracts of the document's own numbers with a sign: Norm, SameInt, Of. -/
namespace Go.Proofs.YtnnnolmldmbaaaaDoor
open Go.RowKit

theorem len_pos' {w : World} {A : Option Addr} {m c N : Nat} (h : Lm w A m c (lim N)) (hN : N ≠ 0) : (m : Int) > 0 := by have := (ln_pos_iff h).2 hN; omega
theorem len_none' {w : World} {A : Option Addr} {m c N : Nat} (h : Lm w A m c (lim N)) (hN : N = 0) : ¬ (m : Int) > 0 := by have := ln_pos_iff h; omega
set_option maxHeartbeats 1000000 in
theorem rnorm_p (w : World) (Aa : Option Addr) (na ca : Nat) (xa : List Nat) (La : Lm w Aa na ca xa) :
    Calls Tryd.prog 15 #[.agg #[.bool false, .slice Aa na ca]] w (TellsI w (sgn false (val xa)) na) := by
  obtain ⟨Z, hZ, hZn, hZd⟩ : ∃ Z, sgn false (val xa) = Z ∧ Z.natAbs = val xa ∧ decide (Z < 0) = false := ⟨_, rfl, sgn_natAbs _ _, by rw [sgn_false]; exact decide_eq_false (by omega)⟩
  rw [hZ]
  have HZ := Lib.hid (And.intro hZn hZd)
  clear hZ hZn hZd
  go_enter Tryd.func15, Tryd.ntmps15
  go_wp2_with fail
  obtain ⟨ga, hga⟩ : ∃ g, g = w.heap.size := ⟨_, rfl⟩
  obtain ⟨r0, hr0⟩ : ∃ g, g = w.heap.size + 1 := ⟨_, rfl⟩
  obtain ⟨w1, hw1⟩ : ∃ v, v = ((w.alloc (.cells #[.bool false, .slice Aa na ca] 24)).alloc (.cells #[.bool false, .slice none 0 0] 24)) := ⟨_, rfl⟩
  have bel1 : Below w.heap.size w w1 := by rw [hw1]; exact bel_alloc2 _ _ _
  have b_a1 : Box w1 ga false Aa na ca := by rw [hw1, hga]; exact ((Box.new _ _ _ _ _).alloc _)
  have t_r01 : Two w1 r0 := by rw [hw1, hr0]; exact Box.two (Box.at1 _ _ _ _ _ _)
  rw [← hw1, ← hr0, ← hga]
  have hgs : w.heap.size ≤ ga ∧ w.heap.size ≤ r0 ∧ ga ≠ r0 ∧ r0 ≠ ga := by omega
  have HG := Lib.hid hgs
  clear hw1 hgs hga hr0
  have l_a1 := La.bel bel1
  have c_a0_1 := b_a1.c0
  have c_a1_1 := b_a1.c1
  have f_r01 := t_r01.room.2
  have cc := Lib.hid (rtrim_lm w1 Aa na ca xa l_a1)
  refine cc.out.mono ?_
  clear cc
  rintro e w' ⟨m3, rfl, h3, hm3, rfl⟩
  go_wp2
  have hx := t_r01.put false Aa m3 ca
  have hl := h3.put t_r01 (.bool false) (.slice Aa m3 ca)
  have hbl := bel_put bel1 (g := r0) HG.out.2.1 (.bool false) (.slice Aa m3 ca)
  generalize (w1.setCell ⟨r0, 0, none⟩ (.bool false)).setCell ⟨r0, 1, none⟩ (.slice Aa m3 ca) = wz at *
  refine bodyPost_ret (v := .agg #[.bool false, .slice Aa m3 ca]) (by simp [results, Tryd.results15, go_sem, hx.c0, hx.c1]) rfl ?_
  exact ⟨_, _, _, by rw [HZ.out.2], by rw [HZ.out.1]; exact hl, hm3, hbl⟩
set_option maxHeartbeats 1000000 in
theorem rnorm_z (w : World) (Aa : Option Addr) (na ca : Nat) (xa : List Nat) (La : Lm w Aa na ca xa) (h0 : val xa = 0) :
    Calls Tryd.prog 15 #[.agg #[.bool true, .slice Aa na ca]] w (TellsI w (sgn true (val xa)) na) := by
  obtain ⟨Z, hZ, hZn, hZd⟩ : ∃ Z, sgn true (val xa) = Z ∧ Z.natAbs = val xa ∧ decide (Z < 0) = false := ⟨_, rfl, sgn_natAbs _ _, by rw [h0, sgn_zero]; rfl⟩
  rw [hZ]
  have HZ := Lib.hid (And.intro hZn hZd)
  clear hZ hZn hZd
  have H0 := Lib.hid h0
  clear h0
  go_enter Tryd.func15, Tryd.ntmps15
  go_wp2_with fail
  obtain ⟨ga, hga⟩ : ∃ g, g = w.heap.size := ⟨_, rfl⟩
  obtain ⟨r0, hr0⟩ : ∃ g, g = w.heap.size + 1 := ⟨_, rfl⟩
  obtain ⟨w1, hw1⟩ : ∃ v, v = ((w.alloc (.cells #[.bool true, .slice Aa na ca] 24)).alloc (.cells #[.bool false, .slice none 0 0] 24)) := ⟨_, rfl⟩
  have bel1 : Below w.heap.size w w1 := by rw [hw1]; exact bel_alloc2 _ _ _
  have b_a1 : Box w1 ga true Aa na ca := by rw [hw1, hga]; exact ((Box.new _ _ _ _ _).alloc _)
  have t_r01 : Two w1 r0 := by rw [hw1, hr0]; exact Box.two (Box.at1 _ _ _ _ _ _)
  rw [← hw1, ← hr0, ← hga]
  have hgs : w.heap.size ≤ ga ∧ w.heap.size ≤ r0 ∧ ga ≠ r0 ∧ r0 ≠ ga := by omega
  have HG := Lib.hid hgs
  clear hw1 hgs hga hr0
  have l_a1 := La.bel bel1
  have c_a0_1 := b_a1.c0
  have c_a1_1 := b_a1.c1
  have f_r01 := t_r01.room.2
  have cc := Lib.hid (rtrim_lm w1 Aa na ca xa l_a1)
  refine cc.out.mono ?_
  clear cc
  rintro e w' ⟨m3, rfl, h3, hm3, rfl⟩
  have hlen := len_none' h3 H0.out
  have HD : Hid (decide (0 < m3) = decide (Z < 0)) := (by rw [HZ.out.2]; exact decide_eq_false (by omega) : decide (0 < m3) = decide (Z < 0))
  go_wp2
  have hx := t_r01.put (decide (0 < m3)) Aa m3 ca
  have hl := h3.put t_r01 (.bool (decide (0 < m3))) (.slice Aa m3 ca)
  have hbl := bel_put bel1 (g := r0) HG.out.2.1 (.bool (decide (0 < m3))) (.slice Aa m3 ca)
  generalize (w1.setCell ⟨r0, 0, none⟩ (.bool (decide (0 < m3)))).setCell ⟨r0, 1, none⟩ (.slice Aa m3 ca) = wz at *
  refine bodyPost_ret (v := .agg #[.bool (decide (0 < m3)), .slice Aa m3 ca]) (by simp [results, Tryd.results15, go_sem, hx.c0, hx.c1]) rfl ?_
  exact ⟨_, _, _, by rw [HD.out], by rw [HZ.out.1]; exact hl, hm3, hbl⟩
set_option maxHeartbeats 1000000 in
theorem rnorm_n (w : World) (Aa : Option Addr) (na ca : Nat) (xa : List Nat) (La : Lm w Aa na ca xa) (h0 : val xa ≠ 0) :
    Calls Tryd.prog 15 #[.agg #[.bool true, .slice Aa na ca]] w (TellsI w (sgn true (val xa)) na) := by
  obtain ⟨Z, hZ, hZn, hZd⟩ : ∃ Z, sgn true (val xa) = Z ∧ Z.natAbs = val xa ∧ decide (Z < 0) = true := ⟨_, rfl, sgn_natAbs _ _, by rw [sgn_true]; exact decide_eq_true (by omega)⟩
  rw [hZ]
  have HZ := Lib.hid (And.intro hZn hZd)
  clear hZ hZn hZd
  have H0 := Lib.hid h0
  clear h0
  go_enter Tryd.func15, Tryd.ntmps15
  go_wp2_with fail
  obtain ⟨ga, hga⟩ : ∃ g, g = w.heap.size := ⟨_, rfl⟩
  obtain ⟨r0, hr0⟩ : ∃ g, g = w.heap.size + 1 := ⟨_, rfl⟩
  obtain ⟨w1, hw1⟩ : ∃ v, v = ((w.alloc (.cells #[.bool true, .slice Aa na ca] 24)).alloc (.cells #[.bool false, .slice none 0 0] 24)) := ⟨_, rfl⟩
  have bel1 : Below w.heap.size w w1 := by rw [hw1]; exact bel_alloc2 _ _ _
  have b_a1 : Box w1 ga true Aa na ca := by rw [hw1, hga]; exact ((Box.new _ _ _ _ _).alloc _)
  have t_r01 : Two w1 r0 := by rw [hw1, hr0]; exact Box.two (Box.at1 _ _ _ _ _ _)
  rw [← hw1, ← hr0, ← hga]
  have hgs : w.heap.size ≤ ga ∧ w.heap.size ≤ r0 ∧ ga ≠ r0 ∧ r0 ≠ ga := by omega
  have HG := Lib.hid hgs
  clear hw1 hgs hga hr0
  have l_a1 := La.bel bel1
  have c_a0_1 := b_a1.c0
  have c_a1_1 := b_a1.c1
  have f_r01 := t_r01.room.2
  have cc := Lib.hid (rtrim_lm w1 Aa na ca xa l_a1)
  refine cc.out.mono ?_
  clear cc
  rintro e w' ⟨m3, rfl, h3, hm3, rfl⟩
  have hlen := len_pos' h3 H0.out
  have HD : Hid (decide (0 < m3) = decide (Z < 0)) := (by rw [HZ.out.2]; exact decide_eq_true (by omega) : decide (0 < m3) = decide (Z < 0))
  go_wp2
  have hx := t_r01.put (decide (0 < m3)) Aa m3 ca
  have hl := h3.put t_r01 (.bool (decide (0 < m3))) (.slice Aa m3 ca)
  have hbl := bel_put bel1 (g := r0) HG.out.2.1 (.bool (decide (0 < m3))) (.slice Aa m3 ca)
  generalize (w1.setCell ⟨r0, 0, none⟩ (.bool (decide (0 < m3)))).setCell ⟨r0, 1, none⟩ (.slice Aa m3 ca) = wz at *
  refine bodyPost_ret (v := .agg #[.bool (decide (0 < m3)), .slice Aa m3 ca]) (by simp [results, Tryd.results15, go_sem, hx.c0, hx.c1]) rfl ?_
  exact ⟨_, _, _, by rw [HD.out], by rw [HZ.out.1]; exact hl, hm3, hbl⟩
theorem rnorm_any (w : World) (sa : Bool) (Aa : Option Addr) (na ca : Nat) (xa : List Nat) (La : Lm w Aa na ca xa) :
    Calls Tryd.prog 15 #[.agg #[.bool sa, .slice Aa na ca]] w (TellsI w (sgn sa (val xa)) na) := by
  cases sa
  · exact rnorm_p w Aa na ca xa La
  · by_cases h0 : val xa = 0
    · exact rnorm_z w Aa na ca xa La h0
    · exact rnorm_n w Aa na ca xa La h0
set_option maxHeartbeats 1000000 in
theorem rof_p (w : World) (N : Nat) (hN : N < 9223372036854775808) : Calls Tryd.prog 23 #[.int .i64 ((N : Int))] w (TellsI w ((N : Int)) 2) := by
  have hlt : ¬ (N : Int) < 0 := by omega
  obtain ⟨lo, hlo, e1⟩ : ∃ lo, lo = N % 4294967296 ∧ (N : Int) % 4294967296 = (lo : Int) := ⟨_, rfl, by omega⟩
  obtain ⟨hi', hhi, e2⟩ : ∃ h, h = N / 4294967296 ∧ (N : Int) / 4294967296 = (h : Int) := ⟨_, rfl, by omega⟩
  have hhb : hi' < 4294967296 := by omega
  have hlb : lo < 4294967296 := by omega
  have e3 : (hi' : Int) % 4294967296 = (hi' : Int) := by omega
  have hv : val [lo, hi'] = N := by rw [val_cons, val_single, Bs_eq]; omega
  have hz : sgn false (val [lo, hi']) = (N : Int) := by rw [hv]; rfl
  obtain ⟨Z, hZ⟩ : ∃ Z, (N : Int) = Z := ⟨_, rfl⟩
  have hzz : sgn false (val [lo, hi']) = Z := hz.trans hZ
  have HH := Lib.hid (And.intro hzz (And.intro hlb hhb))
  have HZ := Lib.hid hZ
  clear hv hz hzz hlo hhi hZ
  go_enter Tryd.func23, Tryd.ntmps23
  go_wp2_with fail
  obtain ⟨r0, hr0⟩ : ∃ g, g = w.heap.size := ⟨_, rfl⟩
  obtain ⟨w1, hw1⟩ : ∃ v, v = w.alloc (.cells #[.bool false, .slice none 0 0] 24) := ⟨_, rfl⟩
  obtain ⟨w2, hw2⟩ : ∃ v, v = w1.alloc (.cells #[.int .u32 (lo : Nat), .int .u32 (hi' : Nat)] 54) := ⟨_, rfl⟩
  have hsz : w1.heap.size = w.heap.size + 1 := by rw [hw1, size_alloc]
  have bel2 : Below w.heap.size w w2 := by rw [hw2, hw1]; exact bel_alloc2 _ _ _
  have t_r02 : Two w2 r0 := by rw [hw2, hw1, hr0]; exact ((Box.new _ _ _ _ _).alloc _).two
  have l2 : Lm w2 (some ⟨w.heap.size + 1, 0, none⟩) 2 2 [lo, hi'] := by
    rw [hw2, ← hsz]; exact (Own.list w1 [lo, hi']).lm (Ok.of_mem (fun x hx => by have := HH.out.2; rw [Bs_eq]; simp at hx; omega)) (by simp)
  have hle : w.heap.size ≤ r0 := by omega
  rw [← hr0] at l2
  rw [← hw1, ← hw2, ← hr0]
  have HG := Lib.hid hle
  clear hw1 hw2 hsz hle
  have HR := Lib.hid hr0
  clear hr0
  have f_r02 := t_r02.room.2
  have cc := Lib.hid (rnorm_any w2 false _ 2 2 _ l2)
  refine cc.out.mono ?_
  clear cc
  rw [HH.out.1]
  rintro e v3 ⟨A4, m4, c4, rfl, h4, hm4, kb3⟩
  have t_r03 := t_r02.bel kb3
  have l_l3 := l2.bel kb3
  have bel3 := bel2.trans (kb3.mono bel2.size)
  have f_r03 := t_r03.room.2
  clear kb3 t_r02 f_r02 l2 bel2
  go_wp2
  have hx := t_r03.put (decide (Z < 0)) A4 m4 c4
  have hl := h4.put t_r03 (.bool (decide (Z < 0))) (.slice A4 m4 c4)
  have hbl := bel_put bel3 (g := r0) HG.out (.bool (decide (Z < 0))) (.slice A4 m4 c4)
  generalize (v3.setCell ⟨r0, 0, none⟩ (.bool (decide (Z < 0)))).setCell ⟨r0, 1, none⟩ (.slice A4 m4 c4) = wz at *
  refine bodyPost_ret (v := .agg #[.bool (decide (Z < 0)), .slice A4 m4 c4]) (by simp [results, Tryd.results23, go_sem, hx.c0, hx.c1]) rfl ?_
  rw [HZ.out]
  exact ⟨_, _, _, rfl, hl, hm4, hbl⟩
set_option maxHeartbeats 1000000 in
theorem rof_n (w : World) (N : Nat) (hN : 0 < N ∧ N ≤ 9223372036854775808) : Calls Tryd.prog 23 #[.int .i64 (-(N : Int))] w (TellsI w (-(N : Int)) 2) := by
  have hlt : -(N : Int) < 0 := by omega
  have eu : IntKind.u64.wrap (-IntKind.u64.wrap (-(N : Int))) = (N : Int) := by rw [IntKind.wrap_u64, IntKind.wrap_u64]; omega
  obtain ⟨lo, hlo, e1⟩ : ∃ lo, lo = N % 4294967296 ∧ (N : Int) % 4294967296 = (lo : Int) := ⟨_, rfl, by omega⟩
  obtain ⟨hi', hhi, e2⟩ : ∃ h, h = N / 4294967296 ∧ (N : Int) / 4294967296 = (h : Int) := ⟨_, rfl, by omega⟩
  have hhb : hi' < 4294967296 := by omega
  have hlb : lo < 4294967296 := by omega
  have e3 : (hi' : Int) % 4294967296 = (hi' : Int) := by omega
  have hv : val [lo, hi'] = N := by rw [val_cons, val_single, Bs_eq]; omega
  have hz : sgn true (val [lo, hi']) = -(N : Int) := by rw [hv]; rfl
  obtain ⟨Z, hZ⟩ : ∃ Z, -(N : Int) = Z := ⟨_, rfl⟩
  have hzz : sgn true (val [lo, hi']) = Z := hz.trans hZ
  have HH := Lib.hid (And.intro hzz (And.intro hlb hhb))
  have HZ := Lib.hid hZ
  clear hv hz hzz hlo hhi hZ
  go_enter Tryd.func23, Tryd.ntmps23
  go_wp2_with fail
  obtain ⟨r0, hr0⟩ : ∃ g, g = w.heap.size := ⟨_, rfl⟩
  obtain ⟨w1, hw1⟩ : ∃ v, v = w.alloc (.cells #[.bool false, .slice none 0 0] 24) := ⟨_, rfl⟩
  obtain ⟨w2, hw2⟩ : ∃ v, v = w1.alloc (.cells #[.int .u32 (lo : Nat), .int .u32 (hi' : Nat)] 54) := ⟨_, rfl⟩
  have hsz : w1.heap.size = w.heap.size + 1 := by rw [hw1, size_alloc]
  have bel2 : Below w.heap.size w w2 := by rw [hw2, hw1]; exact bel_alloc2 _ _ _
  have t_r02 : Two w2 r0 := by rw [hw2, hw1, hr0]; exact ((Box.new _ _ _ _ _).alloc _).two
  have l2 : Lm w2 (some ⟨w.heap.size + 1, 0, none⟩) 2 2 [lo, hi'] := by
    rw [hw2, ← hsz]; exact (Own.list w1 [lo, hi']).lm (Ok.of_mem (fun x hx => by have := HH.out.2; rw [Bs_eq]; simp at hx; omega)) (by simp)
  have hle : w.heap.size ≤ r0 := by omega
  rw [← hr0] at l2
  rw [← hw1, ← hw2, ← hr0]
  have HG := Lib.hid hle
  clear hw1 hw2 hsz hle
  have HR := Lib.hid hr0
  clear hr0
  have f_r02 := t_r02.room.2
  have cc := Lib.hid (rnorm_any w2 true _ 2 2 _ l2)
  refine cc.out.mono ?_
  clear cc
  rw [HH.out.1]
  rintro e v3 ⟨A4, m4, c4, rfl, h4, hm4, kb3⟩
  have t_r03 := t_r02.bel kb3
  have l_l3 := l2.bel kb3
  have bel3 := bel2.trans (kb3.mono bel2.size)
  have f_r03 := t_r03.room.2
  clear kb3 t_r02 f_r02 l2 bel2
  go_wp2
  have hx := t_r03.put (decide (Z < 0)) A4 m4 c4
  have hl := h4.put t_r03 (.bool (decide (Z < 0))) (.slice A4 m4 c4)
  have hbl := bel_put bel3 (g := r0) HG.out (.bool (decide (Z < 0))) (.slice A4 m4 c4)
  generalize (v3.setCell ⟨r0, 0, none⟩ (.bool (decide (Z < 0)))).setCell ⟨r0, 1, none⟩ (.slice A4 m4 c4) = wz at *
  refine bodyPost_ret (v := .agg #[.bool (decide (Z < 0)), .slice A4 m4 c4]) (by simp [results, Tryd.results23, go_sem, hx.c0, hx.c1]) rfl ?_
  rw [HZ.out]
  exact ⟨_, _, _, rfl, hl, hm4, hbl⟩
theorem rof_any (w : World) (n : Int) (hn : -9223372036854775808 ≤ n ∧ n ≤ 9223372036854775807) : Calls Tryd.prog 23 #[.int .i64 n] w (TellsI w n 2) := by
  by_cases h : n < 0
  · obtain ⟨N, rfl⟩ : ∃ N : Nat, n = -(N : Int) := ⟨n.natAbs, by omega⟩
    exact rof_n w N (by omega)
  · obtain ⟨N, rfl⟩ : ∃ N : Nat, n = (N : Int) := ⟨n.natAbs, by omega⟩
    exact rof_p w N (by omega)
theorem rsame_bel (w : World) (A : Option Addr) (n c : Nat) (xs : List Nat) (A' : Option Addr) (n' c' : Nat) (ys : List Nat) (h : Lm w A n c xs) (h' : Lm w A' n' c' ys) {t : Bool} (ht : decide (xs = ys) = t) :
    Calls Tryd.prog 36 #[.slice A n c, .slice A' n' c'] w fun e w' => e = .returned (.bool t) ∧ Below w.heap.size w w' :=
  (same_any w A n c xs A' n' c' ys h h').mono fun _ _ ⟨he, hw⟩ => ⟨by rw [← ht]; exact he, by obtain ⟨nq, rfl⟩ := hw; exact below_drewN (Below.refl _ _) nq⟩
set_option maxHeartbeats 1000000 in
theorem rsameI_ff (w : World) (Aa : Option Addr) (na ca : Nat) (xa : List Nat) (La : Lm w Aa na ca xa) (Ab : Option Addr) (nb cb : Nat) (xb : List Nat) (Lb : Lm w Ab nb cb xb) {t : Bool} (ht : decide (xa = xb) = t) :
    Calls Tryd.prog 14 #[.agg #[.bool false, .slice Aa na ca], .agg #[.bool false, .slice Ab nb cb]] w fun e w' => e = .returned (.bool t) ∧ Below w.heap.size w w' := by
  have Ht := Lib.hid ht
  clear ht
  go_enter Tryd.func14, Tryd.ntmps14
  go_wp2_with fail
  obtain ⟨ga, hga⟩ : ∃ g, g = w.heap.size := ⟨_, rfl⟩
  obtain ⟨gb, hgb⟩ : ∃ g, g = w.heap.size + 1 := ⟨_, rfl⟩
  obtain ⟨w1, hw1⟩ : ∃ v, v = ((w.alloc (.cells #[.bool false, .slice Aa na ca] 24)).alloc (.cells #[.bool false, .slice Ab nb cb] 24)) := ⟨_, rfl⟩
  have bel1 : Below w.heap.size w w1 := by rw [hw1]; exact bel_alloc2 _ _ _
  have b_a1 : Box w1 ga false Aa na ca := by rw [hw1, hga]; exact ((Box.new _ _ _ _ _).alloc _)
  have b_b1 : Box w1 gb false Ab nb cb := by rw [hw1, hgb]; exact (Box.at1 _ _ _ _ _ _)
  rw [← hw1, ← hgb, ← hga]
  have hgs : w.heap.size ≤ ga ∧ w.heap.size ≤ gb ∧ ga ≠ gb ∧ gb ≠ ga := by omega
  have HG := Lib.hid hgs
  clear hw1 hgs hga hgb
  have l_a1 := La.bel bel1
  have l_b1 := Lb.bel bel1
  have c_a0_1 := b_a1.c0
  have c_a1_1 := b_a1.c1
  have c_b0_1 := b_b1.c0
  have c_b1_1 := b_b1.c1
  have cc := Lib.hid (rsame_bel w1 Aa na ca xa Ab nb cb xb l_a1 l_b1 Ht.out)
  refine cc.out.mono ?_
  clear cc
  rintro e v2 ⟨rfl, kb2⟩
  have b_a2 := b_a1.bel kb2
  have b_b2 := b_b1.bel kb2
  have l_a2 := l_a1.bel kb2
  have l_b2 := l_b1.bel kb2
  have bel2 := bel1.trans (kb2.mono bel1.size)
  have c_a0_2 := b_a2.c0
  have c_a1_2 := b_a2.c1
  have c_b0_2 := b_b2.c0
  have c_b1_2 := b_b2.c1
  clear kb2 b_a1 c_a0_1 c_a1_1 b_b1 c_b0_1 c_b1_1 l_a1 l_b1 bel1
  go_wp2
  go_ret
  exact ⟨rfl, bel2⟩
set_option maxHeartbeats 1000000 in
theorem rsameI_ft (w : World) (Aa : Option Addr) (na ca : Nat) (xa : List Nat) (La : Lm w Aa na ca xa) (Ab : Option Addr) (nb cb : Nat) (xb : List Nat) (Lb : Lm w Ab nb cb xb) {t : Bool} (ht : decide (xa = xb) = t) :
    Calls Tryd.prog 14 #[.agg #[.bool false, .slice Aa na ca], .agg #[.bool true, .slice Ab nb cb]] w fun e w' => e = .returned (.bool false) ∧ Below w.heap.size w w' := by
  have Ht := Lib.hid ht
  clear ht
  have hu := And.intro Ht (And.intro La Lb)
  clear hu
  have hbel := bel_alloc2 w (.cells #[.bool false, .slice Aa na ca] 24) (.cells #[.bool true, .slice Ab nb cb] 24)
  go_enter Tryd.func14, Tryd.ntmps14
  go_wp2
  go_ret
  exact ⟨rfl, hbel⟩
set_option maxHeartbeats 1000000 in
theorem rsameI_tf (w : World) (Aa : Option Addr) (na ca : Nat) (xa : List Nat) (La : Lm w Aa na ca xa) (Ab : Option Addr) (nb cb : Nat) (xb : List Nat) (Lb : Lm w Ab nb cb xb) {t : Bool} (ht : decide (xa = xb) = t) :
    Calls Tryd.prog 14 #[.agg #[.bool true, .slice Aa na ca], .agg #[.bool false, .slice Ab nb cb]] w fun e w' => e = .returned (.bool false) ∧ Below w.heap.size w w' := by
  have Ht := Lib.hid ht
  clear ht
  have hu := And.intro Ht (And.intro La Lb)
  clear hu
  have hbel := bel_alloc2 w (.cells #[.bool true, .slice Aa na ca] 24) (.cells #[.bool false, .slice Ab nb cb] 24)
  go_enter Tryd.func14, Tryd.ntmps14
  go_wp2
  go_ret
  exact ⟨rfl, hbel⟩
set_option maxHeartbeats 1000000 in
theorem rsameI_tt (w : World) (Aa : Option Addr) (na ca : Nat) (xa : List Nat) (La : Lm w Aa na ca xa) (Ab : Option Addr) (nb cb : Nat) (xb : List Nat) (Lb : Lm w Ab nb cb xb) {t : Bool} (ht : decide (xa = xb) = t) :
    Calls Tryd.prog 14 #[.agg #[.bool true, .slice Aa na ca], .agg #[.bool true, .slice Ab nb cb]] w fun e w' => e = .returned (.bool t) ∧ Below w.heap.size w w' := by
  have Ht := Lib.hid ht
  clear ht
  go_enter Tryd.func14, Tryd.ntmps14
  go_wp2_with fail
  obtain ⟨ga, hga⟩ : ∃ g, g = w.heap.size := ⟨_, rfl⟩
  obtain ⟨gb, hgb⟩ : ∃ g, g = w.heap.size + 1 := ⟨_, rfl⟩
  obtain ⟨w1, hw1⟩ : ∃ v, v = ((w.alloc (.cells #[.bool true, .slice Aa na ca] 24)).alloc (.cells #[.bool true, .slice Ab nb cb] 24)) := ⟨_, rfl⟩
  have bel1 : Below w.heap.size w w1 := by rw [hw1]; exact bel_alloc2 _ _ _
  have b_a1 : Box w1 ga true Aa na ca := by rw [hw1, hga]; exact ((Box.new _ _ _ _ _).alloc _)
  have b_b1 : Box w1 gb true Ab nb cb := by rw [hw1, hgb]; exact (Box.at1 _ _ _ _ _ _)
  rw [← hw1, ← hgb, ← hga]
  have hgs : w.heap.size ≤ ga ∧ w.heap.size ≤ gb ∧ ga ≠ gb ∧ gb ≠ ga := by omega
  have HG := Lib.hid hgs
  clear hw1 hgs hga hgb
  have l_a1 := La.bel bel1
  have l_b1 := Lb.bel bel1
  have c_a0_1 := b_a1.c0
  have c_a1_1 := b_a1.c1
  have c_b0_1 := b_b1.c0
  have c_b1_1 := b_b1.c1
  have cc := Lib.hid (rsame_bel w1 Aa na ca xa Ab nb cb xb l_a1 l_b1 Ht.out)
  refine cc.out.mono ?_
  clear cc
  rintro e v2 ⟨rfl, kb2⟩
  have b_a2 := b_a1.bel kb2
  have b_b2 := b_b1.bel kb2
  have l_a2 := l_a1.bel kb2
  have l_b2 := l_b1.bel kb2
  have bel2 := bel1.trans (kb2.mono bel1.size)
  have c_a0_2 := b_a2.c0
  have c_a1_2 := b_a2.c1
  have c_b0_2 := b_b2.c0
  have c_b1_2 := b_b2.c1
  clear kb2 b_a1 c_a0_1 c_a1_1 b_b1 c_b0_1 c_b1_1 l_a1 l_b1 bel1
  go_wp2
  go_ret
  exact ⟨rfl, bel2⟩
theorem rsameI_any (w : World) (sa : Bool) (Aa : Option Addr) (na ca : Nat) (xa : List Nat) (La : Lm w Aa na ca xa) (sb : Bool) (Ab : Option Addr) (nb cb : Nat) (xb : List Nat) (Lb : Lm w Ab nb cb xb) {t : Bool} (ht : (sa == sb && decide (xa = xb)) = t) :
    Calls Tryd.prog 14 #[.agg #[.bool sa, .slice Aa na ca], .agg #[.bool sb, .slice Ab nb cb]] w fun e w' => e = .returned (.bool t) ∧ Below w.heap.size w w' := by
  subst ht
  cases sa <;> cases sb
  · exact rsameI_ff w Aa na ca xa La Ab nb cb xb Lb rfl
  · exact rsameI_ft w Aa na ca xa La Ab nb cb xb Lb rfl
  · exact rsameI_tf w Aa na ca xa La Ab nb cb xb Lb rfl
  · exact rsameI_tt w Aa na ca xa La Ab nb cb xb Lb rfl
/-- of two numbers as they are meant. -/
theorem rsameZ (w : World) (X Y : Int) (Aa : Option Addr) (na ca : Nat) (La : Lm w Aa na ca (lim X.natAbs)) (Ab : Option Addr) (nb cb : Nat) (Lb : Lm w Ab nb cb (lim Y.natAbs)) {t : Bool} (ht : decide (X = Y) = t) :
    Calls Tryd.prog 14 #[.agg #[.bool (decide (X < 0)), .slice Aa na ca], .agg #[.bool (decide (Y < 0)), .slice Ab nb cb]] w fun e w' => e = .returned (.bool t) ∧ Below w.heap.size w w' :=
  rsameI_any w _ Aa na ca _ La _ Ab nb cb _ Lb (by
    rw [← ht, Bool.eq_iff_iff, Bool.and_eq_true, beq_iff_eq, decide_eq_true_iff, decide_eq_true_iff]
    constructor
    · rintro ⟨h1, h2⟩
      have h3 := lim_inj h2
      have h4 : (X < 0) ↔ (Y < 0) := by rw [← decide_eq_true_iff (p := X < 0), h1, decide_eq_true_iff]
      omega
    · rintro rfl; exact ⟨rfl, rfl⟩)
end Go.Proofs.YtnnnolmldmbaaaaDoor
/- Regions that lay new variables. -/
namespace Go.Proofs.YtnnnolmldmbaaaaDoor
open Go.RowKit

theorem Lm.al {w : World} {A : Option Addr} {n c : Nat} {xs : List Nat} (h : Lm w A n c xs) (o : Obj) : Lm (w.alloc o) A n c xs := h.bel (bel_alloc _ _)
theorem bel_a1 {w w' : World} {o : Obj} (h : Below (w.alloc o).heap.size (w.alloc o) w') : Below w.heap.size w w' := bel_next (bel_alloc w o) h
theorem bel_a2 {w w' : World} {o p : Obj} (h : Below ((w.alloc o).alloc p).heap.size ((w.alloc o).alloc p) w') : Below w.heap.size w w' := bel_a1 (bel_a1 h)
abbrev Zero : Obj := .cells #[.bool false, .slice none 0 0] 24
theorem zn0 {w w' : World} (h : Below (w.alloc Zero).heap.size (w.alloc Zero) w') : Two w' w.heap.size := ((Box.new w false none 0 0).two).bel h
theorem zn1 {w w' : World} (h : Below ((w.alloc Zero).alloc Zero).heap.size ((w.alloc Zero).alloc Zero) w') : Two w' w.heap.size ∧ Two w' (w.heap.size + 1) :=
  ⟨(((Box.new w false none 0 0).alloc _).two).bel h, ((Box.at1 w _ false none 0 0).two).bel h⟩
theorem Two.alloc {w : World} {g : Nat} (h : Two w g) (o : Obj) : Two (w.alloc o) g := h.bel (bel_alloc _ _)
/-- block g holds the number Z, as it is meant. -/
def NumAt (w : World) (g : Nat) (Z : Int) : Prop := ∃ A m c, Box w g (decide (Z < 0)) A m c ∧ Lm w A m c (lim Z.natAbs) ∧ m ≤ 1000000
theorem NumAt.bel {w w' : World} {g : Nat} {Z : Int} (h : NumAt w g Z) (hb : Below w.heap.size w w') : NumAt w' g Z := by
  obtain ⟨A, m, c, h1, h2, h3⟩ := h
  exact ⟨A, m, c, h1.bel hb, h2.bel hb, h3⟩
theorem keep10x {w : World} {g q : Nat} {s : Bool} {A : Option Addr} {n c : Nat} {P : Prop} {u v : Value} (hne : g ≠ q) (h : Box w g s A n c ∧ P) : Box ((w.setCell ⟨q, 0, none⟩ u).setCell ⟨q, 1, none⟩ v) g s A n c ∧ ((w.setCell ⟨q, 0, none⟩ u).setCell ⟨q, 1, none⟩ v).cell? ⟨g, 0, none⟩ = some (.bool s) ∧ ((w.setCell ⟨q, 0, none⟩ u).setCell ⟨q, 1, none⟩ v).cell? ⟨g, 1, none⟩ = some (.slice A n c) :=
  held0 ((h.1.far (p := ⟨q, 0, none⟩) hne _).far (p := ⟨q, 1, none⟩) hne _)
theorem bdrew {w : World} {g : Nat} {s : Bool} {A : Option Addr} {n c : Nat} (h : Box w g s A n c) : Box w.drew g s A n c := h
theorem nb1 {w : World} {g : Nat} {s : Bool} {A : Option Addr} {n c : Nat} (hs : w.heap.size = g) : Box (w.alloc (.cells #[.bool s, .slice A n c] 24)) g s A n c := by subst hs; exact Box.new _ _ _ _ _
theorem nb2 {w : World} {g : Nat} {s : Bool} {A : Option Addr} {n c : Nat} {o : Obj} (hs : w.heap.size = g) : Box ((w.alloc (.cells #[.bool s, .slice A n c] 24)).alloc o) g s A n c := (nb1 hs).alloc _
theorem nb3 {w : World} {g : Nat} {s : Bool} {A : Option Addr} {n c : Nat} {o : Obj} (hs : w.heap.size + 1 = g) : Box ((w.alloc o).alloc (.cells #[.bool s, .slice A n c] 24)) g s A n c := by subst hs; exact Box.at1 _ _ _ _ _ _
theorem bxp {w : World} {g q : Nat} {s : Bool} {A : Option Addr} {n c : Nat} {u v : Value} (h : Box w g s A n c) (hne : g ≠ q) : Box ((w.setCell ⟨q, 0, none⟩ u).setCell ⟨q, 1, none⟩ v) g s A n c :=
  (h.far (p := ⟨q, 0, none⟩) hne _).far (p := ⟨q, 1, none⟩) hne _
theorem twp {w : World} {g q : Nat} {u v : Value} (h : Two w g) (hne : g ≠ q) : Two ((w.setCell ⟨q, 0, none⟩ u).setCell ⟨q, 1, none⟩ v) g :=
  (h.far (p := ⟨q, 0, none⟩) hne _).far (p := ⟨q, 1, none⟩) hne _
theorem size_put (w : World) (q : Nat) (u v : Value) : ((w.setCell ⟨q, 0, none⟩ u).setCell ⟨q, 1, none⟩ v).heap.size = w.heap.size := by simp [World.setCell]
/-- two new variables, laid since B: the one holds Q, the other R. -/
def Laid2 (B : World) (Q R : Int) (s t : Value) (wx : World) : Prop := ∃ q r, s = .pointer (some ⟨q, 0, none⟩) ∧ t = .pointer (some ⟨r, 0, none⟩) ∧ NumAt wx q Q ∧ NumAt wx r R ∧ B.heap.size ≤ q ∧ B.heap.size ≤ r ∧ Below B.heap.size B wx
theorem laidNN {B P : World} {Q R : Int} {A A' : Option Addr} {m c m' c' : Nat} (k : Below B.heap.size B P) (h : Lm P A m c (lim Q.natAbs)) (hm : m ≤ 1000000) (h' : Lm P A' m' c' (lim R.natAbs)) (hm' : m' ≤ 1000000) : Laid2 B Q R (.pointer (some ⟨P.heap.size, 0, none⟩)) (.pointer (some ⟨P.heap.size + 1, 0, none⟩)) ((P.alloc (.cells #[.bool (decide (Q < 0)), .slice A m c] 24)).alloc (.cells #[.bool (decide (R < 0)), .slice A' m' c'] 24)) :=
  ⟨_, _, rfl, rfl, ⟨_, _, _, nb2 rfl, (h.al _).al _, hm⟩, ⟨_, _, _, nb3 rfl, (h'.al _).al _, hm'⟩, k.size, Nat.le_succ_of_le k.size, bel_next k (bel_alloc2 _ _ _)⟩
theorem laidNNx {B P : World} {Q R : Int} {A A' : Option Addr} {m c m' c' : Nat} (k : Below B.heap.size B P) (h : Lm P A m c (lim Q.natAbs)) (hm : m ≤ 1000000) (h' : Lm P A' m' c' (lim R.natAbs)) (hm' : m' ≤ 1000000) : Laid2 B Q R (.pointer (some ⟨P.heap.size + 1, 0, none⟩)) (.pointer (some ⟨P.heap.size, 0, none⟩)) ((P.alloc (.cells #[.bool (decide (R < 0)), .slice A' m' c'] 24)).alloc (.cells #[.bool (decide (Q < 0)), .slice A m c] 24)) :=
  ⟨_, _, rfl, rfl, ⟨_, _, _, nb3 rfl, (h.al _).al _, hm⟩, ⟨_, _, _, nb2 rfl, (h'.al _).al _, hm'⟩, Nat.le_succ_of_le k.size, k.size, bel_next k (bel_alloc2 _ _ _)⟩
theorem laidON {B P : World} {Q R : Int} {A A' : Option Addr} {m c m' c' : Nat} (k : Below B.heap.size B P) (h : Lm P A m c (lim Q.natAbs)) (hm : m ≤ 1000000) (h' : Lm P A' m' c' (lim R.natAbs)) (hm' : m' ≤ 1000000) {q : Nat} (t : Two P q) (hq : B.heap.size ≤ q) : Laid2 B Q R (.pointer (some ⟨q, 0, none⟩)) (.pointer (some ⟨P.heap.size, 0, none⟩)) (((P.setCell ⟨q, 0, none⟩ (.bool (decide (Q < 0)))).setCell ⟨q, 1, none⟩ (.slice A m c)).alloc (.cells #[.bool (decide (R < 0)), .slice A' m' c'] 24)) :=
  ⟨_, _, rfl, rfl, ⟨_, _, _, (t.put _ _ _ _).alloc _, (h.put t _ _).al _, hm⟩, ⟨_, _, _, nb1 (size_put _ _ _ _), (h'.put t _ _).al _, hm'⟩, hq, k.size, bel_next (bel_put k hq _ _) (bel_alloc _ _)⟩
theorem laidNO {B P : World} {Q R : Int} {A A' : Option Addr} {m c m' c' : Nat} (k : Below B.heap.size B P) (h : Lm P A m c (lim Q.natAbs)) (hm : m ≤ 1000000) (h' : Lm P A' m' c' (lim R.natAbs)) (hm' : m' ≤ 1000000) {r : Nat} (t : Two P r) (hr : B.heap.size ≤ r) : Laid2 B Q R (.pointer (some ⟨P.heap.size, 0, none⟩)) (.pointer (some ⟨r, 0, none⟩)) (((P.setCell ⟨r, 0, none⟩ (.bool (decide (R < 0)))).setCell ⟨r, 1, none⟩ (.slice A' m' c')).alloc (.cells #[.bool (decide (Q < 0)), .slice A m c] 24)) :=
  ⟨_, _, rfl, rfl, ⟨_, _, _, nb1 (size_put _ _ _ _), (h.put t _ _).al _, hm⟩, ⟨_, _, _, (t.put _ _ _ _).alloc _, (h'.put t _ _).al _, hm'⟩, k.size, hr, bel_next (bel_put k hr _ _) (bel_alloc _ _)⟩
theorem laidOO {B P : World} {Q R : Int} {A A' : Option Addr} {m c m' c' : Nat} (k : Below B.heap.size B P) (h : Lm P A m c (lim Q.natAbs)) (hm : m ≤ 1000000) (h' : Lm P A' m' c' (lim R.natAbs)) (hm' : m' ≤ 1000000) {q r : Nat} (t : Two P q) (t' : Two P r) (hq : B.heap.size ≤ q) (hr : B.heap.size ≤ r) (hne : q ≠ r) : Laid2 B Q R (.pointer (some ⟨q, 0, none⟩)) (.pointer (some ⟨r, 0, none⟩)) ((((P.setCell ⟨q, 0, none⟩ (.bool (decide (Q < 0)))).setCell ⟨q, 1, none⟩ (.slice A m c)).setCell ⟨r, 0, none⟩ (.bool (decide (R < 0)))).setCell ⟨r, 1, none⟩ (.slice A' m' c')) :=
  ⟨_, _, rfl, rfl, ⟨_, _, _, bxp (t.put _ _ _ _) hne, (h.put t _ _).put (twp t' hne.symm) _ _, hm⟩, ⟨_, _, _, (twp t' hne.symm).put _ _ _ _, (h'.put t _ _).put (twp t' hne.symm) _ _, hm'⟩, hq, hr, bel_put (bel_put k hq _ _) hr _ _⟩
/-- the quotient and the rest, as they are told. -/
def DivZ (w : World) (Q R : Int) (len len' : Nat) (t : Bool) (e : Ending) (w' : World) : Prop :=
  ∃ A m c A' m' c', e = .returned (.tuple #[.agg #[.bool (decide (Q < 0)), .slice A m c], .agg #[.bool (decide (R < 0)), .slice A' m' c'], .bool t]) ∧ Lm w' A m c (lim Q.natAbs) ∧ Lm w' A' m' c' (lim R.natAbs) ∧ m ≤ len ∧ m' ≤ len' ∧ Below w.heap.size w w'
theorem ProductsT.al {w : World} (h : ProductsT w) (o : Obj) : ProductsT (w.alloc o) := h.bel (bel_alloc _ _)
end Go.Proofs.YtnnnolmldmbaaaaDoor
/- Contracts by the numbers themselves. -/
namespace Go.Proofs.YtnnnolmldmbaaaaDoor
open Go.RowKit

theorem keep30 {w w' : World} {g0 : Nat} {s0 : Bool} {A0 : Option Addr} {n0 c0 : Nat} {g1 : Nat} {s1 : Bool} {A1 : Option Addr} {n1 c1 : Nat} {g2 : Nat} {s2 : Bool} {A2 : Option Addr} {n2 c2 : Nat}  {P0 : Prop} {P1 : Prop} {P2 : Prop} (hb : Below w.heap.size w w') (h : (Box w g0 s0 A0 n0 c0 ∧ P0) ∧ (Box w g1 s1 A1 n1 c1 ∧ P1) ∧ (Box w g2 s2 A2 n2 c2 ∧ P2)) : (Box w' g0 s0 A0 n0 c0 ∧ w'.cell? ⟨g0, 0, none⟩ = some (.bool s0) ∧ w'.cell? ⟨g0, 1, none⟩ = some (.slice A0 n0 c0)) ∧ (Box w' g1 s1 A1 n1 c1 ∧ w'.cell? ⟨g1, 0, none⟩ = some (.bool s1) ∧ w'.cell? ⟨g1, 1, none⟩ = some (.slice A1 n1 c1)) ∧ (Box w' g2 s2 A2 n2 c2 ∧ w'.cell? ⟨g2, 0, none⟩ = some (.bool s2) ∧ w'.cell? ⟨g2, 1, none⟩ = some (.slice A2 n2 c2)) :=
  ⟨held0 (h.1.1.bel hb), held0 (h.2.1.1.bel hb), held0 (h.2.2.1.bel hb)⟩
theorem wmul_g (w : World) (X Y : Int) (sa : Bool) (Aa : Option Addr) (na ca : Nat) (xa : List Nat) (La : Lm w Aa na ca xa) (ha : sgn sa (val xa) = X) (sb : Bool) (Ab : Option Addr) (nb cb : Nat) (xb : List Nat) (Lb : Lm w Ab nb cb xb) (hb : sgn sb (val xb) = Y) (hT : ProductsT w) (hna : na ≤ 1000000000) (hnb : nb ≤ 1000000000) {Z : Int} (hZ : X * Y = Z) :
    Calls Tryd.prog 21 #[.agg #[.bool sa, .slice Aa na ca], .agg #[.bool sb, .slice Ab nb cb]] w (TellsI w Z (na + nb)) := by
  subst ha; subst hb; subst hZ; exact wmul_any w sa Aa na ca xa La sb Ab nb cb xb Lb hT hna hnb
theorem wnorm_g (w : World) (X : Int) (sa : Bool) (Aa : Option Addr) (na ca : Nat) (xa : List Nat) (La : Lm w Aa na ca xa) (ha : sgn sa (val xa) = X) :
    Calls Tryd.prog 17 #[.agg #[.bool sa, .slice Aa na ca]] w (TellsI w X na) := by
  subst ha; exact wnorm_any w sa Aa na ca xa La
theorem wsign_g (w : World) (X : Int) (sa : Bool) (Aa : Option Addr) (na ca : Nat) (xa : List Nat) (La : Lm w Aa na ca xa) (ha : sgn sa (val xa) = X) {ρ : Int} (hZ : sg X = ρ) :
    Calls Tryd.prog 20 #[.agg #[.bool sa, .slice Aa na ca]] w (fun e w' => e = .returned (.int .i64 ρ) ∧ Below w.heap.size w w') := by
  subst ha; subst hZ; exact wsign_any w sa Aa na ca xa La
theorem wshl_g (w : World) (X : Int) (k : Int) (sa : Bool) (Aa : Option Addr) (na ca : Nat) (xa : List Nat) (La : Lm w Aa na ca xa) (ha : sgn sa (val xa) = X) (hna : na ≤ 1000000000) {Z : Int} (hZ : X * 2 ^ heldN k = Z) :
    Calls Tryd.prog 22 #[.agg #[.bool sa, .slice Aa na ca], .int .i64 k] w (TellsI w Z (na + heldN k / 32 + 1)) := by
  subst ha; subst hZ; exact wshl_any w sa Aa na ca xa La k hna
theorem wof_g (w : World) (n : Int) (hn : -9223372036854775808 ≤ n ∧ n ≤ 9223372036854775807) {Z : Int} (hZ : n = Z) :
    Calls Tryd.prog 18 #[.int .i64 n] w (TellsI w Z 2) := by
  subst hZ; exact wof_any w n hn
theorem rof_g (w : World) (n : Int) (hn : -9223372036854775808 ≤ n ∧ n ≤ 9223372036854775807) {Z : Int} (hZ : n = Z) :
    Calls Tryd.prog 23 #[.int .i64 n] w (TellsI w Z 2) := by
  subst hZ; exact rof_any w n hn
end Go.Proofs.YtnnnolmldmbaaaaDoor
