/- Contracts of package whole: Div. -/
import Derived.Test.YtopkndkicdgafaaDoorWI
import Derived.Test.YtopkndkicdgafaaDoorDiv
import Derived.Deep.RegionHeld3
namespace Go.Proofs.YtopkndkicdgafaaDoor
open Go.RowKit

/-- the floor of a quotient, and the rest: 0 of a divisor 0. -/
def dq (X Y : Int) : Int := if Y = 0 then 0 else if sg X * sg Y < 0 then (if X.natAbs % Y.natAbs = 0 then -((X.natAbs / Y.natAbs : Nat) : Int) else -((X.natAbs / Y.natAbs + 1 : Nat) : Int)) else ((X.natAbs / Y.natAbs : Nat) : Int)
def dr (X Y : Int) : Int := if Y = 0 then 0 else sg Y * (if sg X * sg Y < 0 ∧ X.natAbs % Y.natAbs ≠ 0 then ((Y.natAbs - X.natAbs % Y.natAbs : Nat) : Int) else ((X.natAbs % Y.natAbs : Nat) : Int))
def TellsD (w : World) (X Y : Int) (len len' : Nat) (t : Bool) (e : Ending) (w' : World) : Prop :=
  ∃ A m c A' m' c', e = .returned (.tuple #[.agg #[.bool (decide (dq X Y < 0)), .slice A m c], .agg #[.bool (decide (dr X Y < 0)), .slice A' m' c'], .bool t]) ∧ Lm w' A m c (lim (dq X Y).natAbs) ∧ Lm w' A' m' c' (lim (dr X Y).natAbs) ∧ m ≤ len ∧ m' ≤ len' ∧ Below w.heap.size w w'
theorem div_no (w : World) (A : Option Addr) (n c : Nat) (xs : List Nat) (A' : Option Addr) (n' c' : Nat) (ys : List Nat) (h : Lm w A n c xs) (h' : Lm w A' n' c' ys) (hn : n ≤ 10000000000) (h0 : val ys = 0) :
    Calls Tryd.prog 21 #[.slice A n c, .slice A' n' c'] w fun e w' => e = .returned (.tuple #[.slice none 0 0, .slice none 0 0, .bool false]) ∧ Below w.heap.size w w' :=
  (div_any w A n c xs A' n' c' ys h h' hn).mono fun _ _ ht => ht.elim (fun h => h.2) fun h => absurd h0 h.1
theorem div_yes (w : World) (A : Option Addr) (n c : Nat) (xs : List Nat) (A' : Option Addr) (n' c' : Nat) (ys : List Nat) (h : Lm w A n c xs) (h' : Lm w A' n' c' ys) (hn : n ≤ 10000000000) (h0 : val ys ≠ 0) :
    Calls Tryd.prog 21 #[.slice A n c, .slice A' n' c'] w fun e w' => ∃ B m d B' m' d', e = .returned (.tuple #[.slice B m d, .slice B' m' d', .bool true]) ∧ Lm w' B m d (lim (val xs / val ys)) ∧ Lm w' B' m' d' (lim (val xs % val ys)) ∧ m ≤ n ∧ m' ≤ max n n' ∧ Below w.heap.size w w' :=
  (div_any w A n c xs A' n' c' ys h h' hn).mono fun _ _ ht => ht.elim (fun h => absurd h.1 h0) fun h => h.2
theorem dq_zero (X : Int) : dq X 0 = 0 := rfl
theorem dr_zero (X : Int) : dr X 0 = 0 := rfl
theorem qs_neg {q : Nat} {Q c : Int} (h : Q = -(q : Int)) (hc : c < 0) : Q.natAbs = q ∧ (Q ≠ 0 → (c < 0 ↔ Q < 0)) := by subst h; exact ⟨Int.natAbs_neg _, fun h => by omega⟩
theorem qs_pos {q : Nat} {Q c : Int} (h : Q = (q : Int)) (hc : 0 < c) : Q.natAbs = q ∧ (Q ≠ 0 → (c < 0 ↔ Q < 0)) := by subst h; exact ⟨rfl, fun h => by omega⟩
theorem qs_zero {q : Nat} {Q c : Int} (h : Q = (q : Int)) (hq : q = 0) : Q.natAbs = q ∧ (Q ≠ 0 → (c < 0 ↔ Q < 0)) := by subst h; exact ⟨rfl, fun h => by omega⟩
theorem rs_any {r : Nat} {R t : Int} (h : R = t * (r : Int)) (ht : t = 1 ∨ t = -1) : R.natAbs = r ∧ (R ≠ 0 → (t < 0 ↔ R < 0)) := by
  subst h
  rcases ht with rfl | rfl
  · exact ⟨by omega, fun h => by omega⟩
  · exact ⟨by omega, fun h => by omega⟩
theorem len_pos {w : World} {A : Option Addr} {m c N : Nat} (h : Lm w A m c (lim N)) (hN : N ≠ 0) : (m : Int) > 0 := by have := (ln_pos_iff h).2 hN; omega
theorem len_none {w : World} {A : Option Addr} {m c N : Nat} (h : Lm w A m c (lim N)) (hN : N = 0) : ¬ (m : Int) > 0 := by have := ln_pos_iff h; omega
set_option maxHeartbeats 2000000 in
theorem wdiv_no (w : World) (sa : Bool) (Aa : Option Addr) (na ca : Nat) (xa : List Nat) (La : Lm w Aa na ca xa) (sb : Bool) (Ab : Option Addr) (nb cb : Nat) (xb : List Nat) (Lb : Lm w Ab nb cb xb) (hna : na ≤ 1000000000) (h0 : val xb = 0) :
    Calls Tryd.prog 46 #[.agg #[.bool sa, .slice Aa na ca], .agg #[.bool sb, .slice Ab nb cb]] w (TellsD w (sgn sa (val xa)) (sgn sb (val xb)) (na + 1) (max na nb) false) := by
  rw [show sgn sb (val xb) = 0 from by rw [h0, sgn_zero]]
  have H0 := Lib.hid h0
  clear h0
  go_enter Tryd.func46, Tryd.ntmps46
  go_wp2_with fail
  obtain ⟨ga, hga⟩ : ∃ g, g = w.heap.size := ⟨_, rfl⟩
  obtain ⟨gb, hgb⟩ : ∃ g, g = w.heap.size + 1 := ⟨_, rfl⟩
  obtain ⟨r0, hr0⟩ : ∃ g, g = w.heap.size + 2 := ⟨_, rfl⟩
  obtain ⟨r1, hr1⟩ : ∃ g, g = w.heap.size + 3 := ⟨_, rfl⟩
  obtain ⟨w1, hw1⟩ : ∃ v, v = ((((w.alloc (.cells #[.bool sa, .slice Aa na ca] 43)).alloc (.cells #[.bool sb, .slice Ab nb cb] 43)).alloc (.cells #[.bool false, .slice none 0 0] 43)).alloc (.cells #[.bool false, .slice none 0 0] 43)) := ⟨_, rfl⟩
  have bel1 : Below w.heap.size w w1 := by rw [hw1]; exact bel_alloc4 _ _ _ _ _
  have b_a1 : Box w1 ga sa Aa na ca := by rw [hw1, hga]; exact ((((Box.new _ _ _ _ _).alloc _).alloc _).alloc _)
  have b_b1 : Box w1 gb sb Ab nb cb := by rw [hw1, hgb]; exact (((Box.at1 _ _ _ _ _ _).alloc _).alloc _)
  have t_r01 : Two w1 r0 := by rw [hw1, hr0]; exact Box.two ((Box.at2 _ _ _ _ _ _ _).alloc _)
  have t_r11 : Two w1 r1 := by rw [hw1, hr1]; exact Box.two (Box.at3 _ _ _ _ _ _ _ _)
  rw [← hw1, ← hr1, ← hr0, ← hgb, ← hga]
  have hgs : w.heap.size ≤ ga ∧ w.heap.size ≤ gb ∧ w.heap.size ≤ r0 ∧ w.heap.size ≤ r1 ∧ ga ≠ gb ∧ ga ≠ r0 ∧ ga ≠ r1 ∧ gb ≠ ga ∧ gb ≠ r0 ∧ gb ≠ r1 ∧ r0 ≠ ga ∧ r0 ≠ gb ∧ r0 ≠ r1 ∧ r1 ≠ ga ∧ r1 ≠ gb ∧ r1 ≠ r0 := by omega
  have HG := Lib.hid hgs
  clear hw1 hgs hga hgb hr0 hr1
  have l_a1 := La.bel bel1
  have l_b1 := Lb.bel bel1
  have c_a0_1 := b_a1.c0
  have c_a1_1 := b_a1.c1
  have c_b0_1 := b_b1.c0
  have c_b1_1 := b_b1.c1
  have f_r01 := t_r01.room.2
  have f_r11 := t_r11.room.2
  have cc := Lib.hid (div_no w1 Aa na ca xa Ab nb cb xb l_a1 l_b1 (by omega) H0.out)
  refine cc.out.mono ?_
  clear cc
  rintro e v2 ⟨rfl, kb2⟩
  have b_a2 := b_a1.bel kb2
  have b_b2 := b_b1.bel kb2
  have t_r02 := t_r01.bel kb2
  have t_r12 := t_r11.bel kb2
  have l_a2 := l_a1.bel kb2
  have l_b2 := l_b1.bel kb2
  have bel2 := bel1.trans (kb2.mono bel1.size)
  have c_a0_2 := b_a2.c0
  have c_a1_2 := b_a2.c1
  have c_b0_2 := b_b2.c0
  have c_b1_2 := b_b2.c1
  have f_r02 := t_r02.room.2
  have f_r12 := t_r12.room.2
  clear kb2 b_a1 c_a0_1 c_a1_1 b_b1 c_b0_1 c_b1_1 t_r01 f_r01 t_r11 f_r11 l_a1 l_b1 bel1
  have l_z := Lm.nil v2
  have hn01 : r0 ≠ r1 := HG.out.2.2.2.2.2.2.2.2.2.2.2.2.1
  have hn10 : r1 ≠ r0 := HG.out.2.2.2.2.2.2.2.2.2.2.2.2.2.2.2
  go_wp2
  have hx0 := t_r02.put false none 0 0
  have hy := (t_r12.far (p := ⟨r0, 0, none⟩) HG.out.2.2.2.2.2.2.2.2.2.2.2.2.2.2.2 (.bool false)).far (p := ⟨r0, 1, none⟩) HG.out.2.2.2.2.2.2.2.2.2.2.2.2.2.2.2 (.slice none 0 0)
  have hx := (hx0.far (p := ⟨r1, 0, none⟩) HG.out.2.2.2.2.2.2.2.2.2.2.2.2.1 (.bool false)).far (p := ⟨r1, 1, none⟩) HG.out.2.2.2.2.2.2.2.2.2.2.2.2.1 (.slice none 0 0)
  have hx1 := hy.put false none 0 0
  have hl1 := (l_z.put t_r02 (.bool false) (.slice none 0 0)).put hy (.bool false) (.slice none 0 0)
  have hl2 := (l_z.put t_r02 (.bool false) (.slice none 0 0)).put hy (.bool false) (.slice none 0 0)
  have hbl := bel_put (bel_put bel2 (g := r0) HG.out.2.2.1 (.bool false) (.slice none 0 0)) (g := r1) HG.out.2.2.2.1 (.bool false) (.slice none 0 0)
  generalize (((v2.setCell ⟨r0, 0, none⟩ (.bool false)).setCell ⟨r0, 1, none⟩ (.slice none 0 0)).setCell ⟨r1, 0, none⟩ (.bool false)).setCell ⟨r1, 1, none⟩ (.slice none 0 0) = wz at *
  refine bodyPost_ret (v := .tuple #[.agg #[.bool false, .slice none 0 0], .agg #[.bool false, .slice none 0 0], .bool false]) (by simp [results, Tryd.results46, go_sem, hx.c0, hx.c1, hx1.c0, hx1.c1]) rfl ?_
  exact ⟨_, _, _, _, _, _, rfl, by rw [dq_zero]; simpa [lim_zero] using hl1, by rw [dr_zero]; simpa [lim_zero] using hl2, Nat.zero_le _, Nat.zero_le _, hbl⟩
end Go.Proofs.YtopkndkicdgafaaDoor
