import Derived.Test.YtnjjfakjnkhhjaaGreatDoorLa
import Derived.Test.YtnjjfakjnkhhjaaGreatDoorLb
import Derived.Deep.RegionHeld3
set_option maxHeartbeats 2000000
set_option linter.all false
namespace Go.Proofs.YtnjjfakjnkhhjaaGreatDoor
open Go.RowKit
def sgn (s : Bool) (N : Nat) : Int := if s then -(N : Int) else (N : Int)
theorem sgn_natAbs (s : Bool) (N : Nat) : (sgn s N).natAbs = N := by unfold sgn; cases s <;> simp
theorem sgn_zero (s : Bool) : sgn s 0 = 0 := by unfold sgn; cases s <;> rfl
theorem sgn_true (N : Nat) : sgn true N = -(N : Int) := rfl
theorem sgn_false (N : Nat) : sgn false N = (N : Int) := rfl
theorem sgn_of (Z : Int) : sgn (decide (Z < 0)) Z.natAbs = Z := by
 unfold sgn
 by_cases h : Z < 0
 ·rw [decide_eq_true h, if_pos rfl]; omega
 ·rw [decide_eq_false h, if_neg (by decide)]; omega
theorem sgn_lim (Z : Int) : sgn (decide (Z < 0)) (val (lim Z.natAbs)) = Z := by rw [val_lim, sgn_of]
def sg (X : Int) : Int := if X < 0 then -1 else if X = 0 then 0 else 1
theorem sg_neg {X : Int} (h : X < 0) : sg X = -1 := by unfold sg; rw [if_pos h]
theorem sg_zero {X : Int} (h : X = 0) : sg X = 0 := by unfold sg; rw [if_neg (by omega), if_pos h]
theorem sg_pos {X : Int} (h : 0 < X) : sg X = 1 := by unfold sg; rw [if_neg (by omega), if_neg (by omega)]
theorem sg_cases (X : Int) : (X < 0 ∧ sg X = -1) ∨ (X = 0 ∧ sg X = 0) ∨ (0 < X ∧ sg X = 1) := by
 rcases Int.lt_trichotomy X 0 with h | h | h
 ·exact .inl ⟨h, sg_neg h⟩
 ·exact .inr (.inl ⟨h, sg_zero h⟩)
 ·exact .inr (.inr ⟨h, sg_pos h⟩)
theorem sg_sign (X : Int) : sg X < 0 ↔ X < 0 := by unfold sg; split <;> (try split) <;> omega
theorem sg_mul (X Y : Int) : sg (X * Y) = sg X * sg Y := by
 rcases sg_cases X with ⟨h, e⟩ | ⟨h, e⟩ | ⟨h, e⟩ <;> rcases sg_cases Y with ⟨h', e'⟩ | ⟨h', e'⟩ | ⟨h', e'⟩ <;> rw [e, e']
 ·exact sg_pos (Int.mul_pos_of_neg_of_neg h h')
 ·rw [h', Int.mul_zero]; exact sg_zero rfl
 ·exact sg_neg (Int.mul_neg_of_neg_of_pos h h')
 ·rw [h, Int.zero_mul]; exact sg_zero rfl
 ·rw [h, Int.zero_mul]; exact sg_zero rfl
 ·rw [h, Int.zero_mul]; exact sg_zero rfl
 ·exact sg_neg (Int.mul_neg_of_pos_of_neg h h')
 ·rw [h', Int.mul_zero]; exact sg_zero rfl
 ·exact sg_pos (Int.mul_pos h h')
def TellsI (w : World) (Z : Int) (len : Nat) (e : Ending) (w' : World) : Prop :=
 ∃ A m c, e = .returned (.agg #[.bool (decide (Z < 0)), .slice A m c]) ∧ Lm w' A m c (lim Z.natAbs) ∧ m ≤ len ∧ Below w.heap.size w w'
theorem TellsI.mk {w w' : World} {Z : Int} {len : Nat} {e : Ending} {t : Bool} {N : Nat} {A : Option Addr} {m c : Nat} (he : e = .returned (.agg #[.bool t, .slice A m c])) (hl : Lm w' A m c (lim N)) (hm : m ≤ len) (hb : Below w.heap.size w w')
  (hN : Z.natAbs = N) (ht : t = true ↔ Z < 0) : TellsI w Z len e w' := by
 refine ⟨A, m, c, ?_, by rw [hN]; exact hl, hm, hb⟩
 have e1 : t = decide (Z < 0) := by rw [Bool.eq_iff_iff, ht, decide_eq_true_iff]
 rw [he, e1]
theorem ln_pos_iff {N m : Nat} {w : World} {A : Option Addr} {c : Nat} (h : Lm w A m c (lim N)) : 0 < m ↔ N ≠ 0 := by
 have h1 : ln N = m := h.len
 rw [← h1]
 constructor
 ·intro h2 h3; rw [h3, ln_zero] at h2; omega
 ·intro h2; exact Nat.pos_of_ne_zero fun h3 => h2 (ln_zero_iff.1 h3)
end Go.Proofs.YtnjjfakjnkhhjaaGreatDoor
namespace Go.Proofs.YtnjjfakjnkhhjaaGreatDoor
open Go.RowKit
def Box (w : World) (g : Nat) (s : Bool) (A : Option Addr) (n c : Nat) : Prop := w.heap[g]? = some (.cells #[.bool s, .slice A n c] 24 (0, 0))
section
variable {w w' : World} {g : Nat} {s : Bool} {A : Option Addr} {n c : Nat}
theorem Box.lt (h : Box w g s A n c) : g < w.heap.size := by
 apply Nat.lt_of_not_le; intro c; unfold Box at h; rw [Array.getElem?_eq_none c] at h; cases h
theorem Box.c0 (h : Box w g s A n c) : w.cell? ⟨g, 0, none⟩ = some (.bool s) := by
 rw [cell_of_row w g 0 _ _ _ h]; rfl
theorem Box.c1 (h : Box w g s A n c) : w.cell? ⟨g, 1, none⟩ = some (.slice A n c) := by
 rw [cell_of_row w g 1 _ _ _ h]; rfl
theorem Box.free (h : Box w g s A n c) (i : Nat) : w.frozen? ⟨g, i, none⟩ = false := by
 unfold Box at h; simp [World.frozen?, h]
theorem Box.bel (h : Box w g s A n c) (hb : Below w.heap.size w w') : Box w' g s A n c := (hb.block g h.lt).trans h
theorem Box.alloc (h : Box w g s A n c) (o : Obj) : Box (w.alloc o) g s A n c := (Below.heap_alloc w o g h.lt).trans h
theorem Box.new (w : World) (s : Bool) (A : Option Addr) (n c : Nat) : Box (w.alloc (.cells #[.bool s, .slice A n c] 24)) w.heap.size s A n c := heap_alloc_new w _
theorem held1 {P Q : Prop} (h : Box w g s A n c ∧ P ∧ Q) (hb : Below w.heap.size w w') : Box w' g s A n c ∧ w'.cell? ⟨g, 0, none⟩ = some (.bool s) ∧ w'.cell? ⟨g, 1, none⟩ = some (.slice A n c) :=
 ⟨h.1.bel hb, (h.1.bel hb).c0, (h.1.bel hb).c1⟩
theorem held0 (h : Box w g s A n c) : Box w g s A n c ∧ w.cell? ⟨g, 0, none⟩ = some (.bool s) ∧ w.cell? ⟨g, 1, none⟩ = some (.slice A n c) := ⟨h, h.c0, h.c1⟩
def Two (w : World) (g : Nat) : Prop := ∃ s A n c, Box w g s A n c
theorem Box.two (h : Box w g s A n c) : Two w g := ⟨_, _, _, _, h⟩
theorem Two.bel (h : Two w g) (hb : Below w.heap.size w w') : Two w' g := by obtain ⟨s, A, n, c, h⟩ := h; exact (h.bel hb).two
theorem Two.far (h : Two w g) {p : Addr} (hp : g ≠ p.block) (u : Value) : Two (w.setCell p u) g := by obtain ⟨s, A, n, c, h⟩ := h; exact ⟨s, A, n, c, (Below.heap_setCell w p u g hp).trans h⟩
theorem Two.lt (h : Two w g) : g < w.heap.size := by obtain ⟨s, A, n, c, h⟩ := h; exact h.lt
def lies (w : World) (g i : Nat) : Value := (w.cell? ⟨g, i, none⟩).getD undef
theorem Two.room (h : Two w g) : Two w g ∧ w.cell? ⟨g, 0, none⟩ = some (lies w g 0) ∧ w.cell? ⟨g, 1, none⟩ = some (lies w g 1) ∧ w.frozen? ⟨g, 0, none⟩ = false ∧ w.frozen? ⟨g, 1, none⟩ = false := by
 obtain ⟨s, A, n, c, h⟩ := h; exact ⟨h.two, by unfold lies; rw [h.c0]; rfl, by unfold lies; rw [h.c1]; rfl, h.free 0, h.free 1⟩
theorem Two.put (h : Two w g) (t : Bool) (B : Option Addr) (m d : Nat) : Box ((w.setCell ⟨g, 0, none⟩ (.bool t)).setCell ⟨g, 1, none⟩ (.slice B m d)) g t B m d := by
 obtain ⟨s, A, n, c, h⟩ := h
 unfold Box at h ⊢
 simp [World.setCell, Array.getElem?_modify, h]
theorem Box.far (h : Box w g s A n c) {p : Addr} (hp : g ≠ p.block) (u : Value) : Box (w.setCell p u) g s A n c := (Below.heap_setCell w p u g hp).trans h
theorem Lm.apart {xs : List Nat} {A' : Option Addr} {n' c' : Nat} (h : Lm w A' n' c' xs) (h2 : Two w g) : ∀ b o, A' = some ⟨b, o, none⟩ → 0 < n' → b ≠ g := by
 rintro b o e hn rfl
 obtain ⟨s, A, n, c, h2⟩ := h2
 obtain ⟨b', o', e', _, hc⟩ := h.2.2 hn
 rw [e] at e'
 injection e' with e'
 injection e' with e1 e2
 subst e1; subst e2
 have h3 := hc 0 hn
 unfold Box at h2
 rw [Nat.add_zero, cell_of_row w b o _ _ _ h2] at h3
 match o, h3 with
 | 0, h3 => simp at h3
 | 1, h3 => simp at h3
 | (o + 2), h3 => simp at h3
theorem Lm.put {xs : List Nat} {A' : Option Addr} {n' c' : Nat} (h : Lm w A' n' c' xs) (h2 : Two w g) (u v : Value) : Lm ((w.setCell ⟨g, 0, none⟩ u).setCell ⟨g, 1, none⟩ v) A' n' c' xs :=
 (h.far (p := ⟨g, 0, none⟩) (h.apart h2) u).far (p := ⟨g, 1, none⟩) (h.apart h2) v
theorem bel_put {B : Nat} (hb : Below B w w') (h : B ≤ g) (u v : Value) : Below B w ((w'.setCell ⟨g, 0, none⟩ u).setCell ⟨g, 1, none⟩ v) := (hb.setCell (by exact h) u).setCell (by exact h) v
end
theorem size_alloc (w : World) (o : Obj) : (w.alloc o).heap.size = w.heap.size + 1 := by
 show (w.heap.push _).size = _
 exact Array.size_push _
theorem bel_alloc (w : World) (o : Obj) : Below w.heap.size w (w.alloc o) := (Below.refl _ _).alloc (Nat.le_refl _) _
theorem signed_any (w : World) (s : Int) (A : Option Addr) (n c : Nat) :
  Calls Tryz.prog 188 #[.int .i64 s, .slice A n c] w fun e w' => e = .returned (.agg #[.bool (decide (s < 0 ∧ 0 < n)), .slice A n c]) ∧ Below w.heap.size w w' := by
 by_cases h1 : s < 0
 ·by_cases h2 : 0 < n
  ·have e1 : decide (s < 0 ∧ 0 < n) = true := by simp [h1, h2]
   rw [e1]
   have e2 : (n : Int) > 0 := by omega
   clear h2 e1
   go_enter Tryz.func188, Tryz.ntmps188
   go_wp2
   refine bodyPost_ret (v := .agg #[.bool true, .slice A n c]) (by simp [results, Tryz.results188, go_sem]; omega) rfl ⟨rfl, bel_alloc _ _⟩
  ·have e1 : decide (s < 0 ∧ 0 < n) = false := by simp [h2]
   rw [e1]
   have e2 : ¬ (n : Int) > 0 := by omega
   clear h2 e1
   go_enter Tryz.func188, Tryz.ntmps188
   go_wp2
   refine bodyPost_ret (v := .agg #[.bool false, .slice A n c]) (by simp [results, Tryz.results188, go_sem]; omega) rfl ⟨rfl, bel_alloc _ _⟩
 ·have e1 : decide (s < 0 ∧ 0 < n) = false := by simp [h1]
  rw [e1]
  have e2 : ¬ s < 0 := h1
  clear e1
  go_enter Tryz.func188, Tryz.ntmps188
  go_wp2
  refine bodyPost_ret (v := .agg #[.bool false, .slice A n c]) (by simp [results, Tryz.results188, go_sem]) rfl ⟨rfl, bel_alloc _ _⟩
theorem signed_z (w : World) (Z s : Int) (A : Option Addr) (m c len : Nat) (h : Lm w A m c (lim Z.natAbs)) (hm : m ≤ len) (hs : Z ≠ 0 → (s < 0 ↔ Z < 0)) :
  Calls Tryz.prog 188 #[.int .i64 s, .slice A m c] w (TellsI w Z len) :=
 (signed_any w s A m c).mono fun e w' ⟨he, hb⟩ => TellsI.mk he (h.bel hb) hm hb rfl (by
  have h1 := ln_pos_iff h
  rw [decide_eq_true_iff, h1]
  constructor
  ·rintro ⟨h2, h3⟩; exact (hs (by omega)).1 h2
  ·intro h2; exact ⟨(hs (by omega)).2 h2, by omega⟩)
theorem wsign_any (w : World) (s : Bool) (A : Option Addr) (n c : Nat) (xs : List Nat) (h : Lm w A n c xs) :
  Calls Tryz.prog 145 #[.agg #[.bool s, .slice A n c]] w fun e w' => e = .returned (.int .i64 (sg (sgn s (val xs)))) ∧ Below w.heap.size w w' := by
 have hb := Lib.hid (bel_alloc w (.cells #[.bool s, .slice A n c] 24))
 have hbit := Lib.hid (bits_any _ A n c xs (h.bel hb.out))
 by_cases h0 : val xs = 0
 ·rw [h0, sgn_zero, sg_zero rfl]
  rw [h0, nb_zero] at hbit
  go_enter Tryz.func145, Tryz.ntmps145
  go_wp2_with fail
  refine hbit.out.mono ?_
  clear hbit
  rintro e w1 ⟨rfl, rfl⟩
  go_wp2
  go_ret
  exact ⟨rfl, hb.out⟩
 ·obtain ⟨b, hbv, hb0⟩ : ∃ b : Nat, nb (val xs) = b ∧ ((b : Int) == 0) = false := ⟨_, rfl, by rw [beq_eq_false_iff_ne]; intro e; exact h0 (nb_zero_iff.1 (by omega))⟩
  rw [hbv] at hbit
  have h0' := Lib.hid h0
  clear hbv h0
  cases s
  ·rw [sgn_false, sg_pos (by have := h0'.out; omega)]
   go_enter Tryz.func145, Tryz.ntmps145
   go_wp2_with fail
   refine hbit.out.mono ?_
   clear hbit
   rintro e w1 ⟨rfl, rfl⟩
   go_wp2
   go_ret
   exact ⟨rfl, hb.out⟩
  ·rw [sgn_true, sg_neg (by have := h0'.out; omega)]
   go_enter Tryz.func145, Tryz.ntmps145
   go_wp2_with fail
   refine hbit.out.mono ?_
   clear hbit
   rintro e w1 ⟨rfl, rfl⟩
   go_wp2
   go_ret
   exact ⟨rfl, hb.out⟩
end Go.Proofs.YtnjjfakjnkhhjaaGreatDoor
namespace Go.Proofs.YtnjjfakjnkhhjaaGreatDoor
open Go.RowKit
theorem keep11 {w w' : World} {g0 : Nat} {s0 : Bool} {A0 : Option Addr} {n0 c0 : Nat} {r0 : Nat} {P0 : Prop} {P1 : Prop} (hb : Below w.heap.size w w') (h : (Box w g0 s0 A0 n0 c0 ∧ P0) ∧ (Two w r0 ∧ P1)) : (Box w' g0 s0 A0 n0 c0 ∧ w'.cell? ⟨g0, 0, none⟩ = some (.bool s0) ∧ w'.cell? ⟨g0, 1, none⟩ = some (.slice A0 n0 c0)) ∧ (Two w' r0 ∧ w'.cell? ⟨r0, 0, none⟩ = some (lies w' r0 0) ∧ w'.cell? ⟨r0, 1, none⟩ = some (lies w' r0 1) ∧ w'.frozen? ⟨r0, 0, none⟩ = false ∧ w'.frozen? ⟨r0, 1, none⟩ = false) :=
 ⟨held0 (h.1.1.bel hb), (h.2.1.bel hb).room⟩
theorem keep11s0 {w w' : World} {g0 : Nat} {s0 : Bool} {A0 : Option Addr} {n0 c0 : Nat} {r0 : Nat} {P0 : Prop} {P1 : Prop} (e0 : g0 ≠ r0)  {t : Bool} {B : Option Addr} {m d : Nat} (h : (Box w g0 s0 A0 n0 c0 ∧ P0) ∧ (Two w r0 ∧ P1)) (hw : w' = (w.setCell ⟨r0, 0, none⟩ (.bool t)).setCell ⟨r0, 1, none⟩ (.slice B m d)) : (Box w' g0 s0 A0 n0 c0 ∧ w'.cell? ⟨g0, 0, none⟩ = some (.bool s0) ∧ w'.cell? ⟨g0, 1, none⟩ = some (.slice A0 n0 c0)) ∧ (Two w' r0 ∧ w'.cell? ⟨r0, 0, none⟩ = some (lies w' r0 0) ∧ w'.cell? ⟨r0, 1, none⟩ = some (lies w' r0 1) ∧ w'.frozen? ⟨r0, 0, none⟩ = false ∧ w'.frozen? ⟨r0, 1, none⟩ = false) := by
 subst hw
 exact ⟨held0 ((h.1.1.far (p := ⟨r0, 0, none⟩) e0 _).far (p := ⟨r0, 1, none⟩) e0 _), (h.2.1.put _ _ _ _).two.room⟩
theorem keep10 {w w' : World} {g0 : Nat} {s0 : Bool} {A0 : Option Addr} {n0 c0 : Nat}  {P0 : Prop} (hb : Below w.heap.size w w') (h : (Box w g0 s0 A0 n0 c0 ∧ P0)) : (Box w' g0 s0 A0 n0 c0 ∧ w'.cell? ⟨g0, 0, none⟩ = some (.bool s0) ∧ w'.cell? ⟨g0, 1, none⟩ = some (.slice A0 n0 c0)) :=
 held0 (h.1.bel hb)
theorem bel_alloc2 (w : World) (a b : Obj) : Below w.heap.size w ((w.alloc a).alloc b) := (bel_alloc _ _).trans ((bel_alloc _ _).mono (bel_alloc _ _).size)
theorem Box.at1 (w : World) (a : Obj) (s : Bool) (A : Option Addr) (n c : Nat) : Box ((w.alloc a).alloc (.cells #[.bool s, .slice A n c] 24)) (w.heap.size + 1) s A n c := by
 have h := Box.new (w.alloc a) s A n c; rw [size_alloc] at h; exact h
theorem bel_undrew {w w' : World} (h : Below w.drew.heap.size w.drew w') : Below w.heap.size w w' := (Below.refl _ w).drew.trans h
theorem bel_next {w w' w'' : World} (h : Below w.heap.size w w') (k : Below w'.heap.size w' w'') : Below w.heap.size w w'' := h.trans (k.mono h.size)
theorem wsign_at (w : World) (s : Bool) (A : Option Addr) (n c : Nat) (xs : List Nat) (h : Lm w A n c xs) {σ : Int} (hσ : sg (sgn s (val xs)) = σ) :
  Calls Tryz.prog 145 #[.agg #[.bool s, .slice A n c]] w fun e w' => e = .returned (.int .i64 σ) ∧ Below w.heap.size w w' := by
 subst hσ; exact wsign_any w s A n c xs h
theorem sg_range (X : Int) : -1 ≤ sg X ∧ sg X ≤ 1 := by rcases sg_cases X with ⟨_, h⟩ | ⟨_, h⟩ | ⟨_, h⟩ <;> omega
end Go.Proofs.YtnjjfakjnkhhjaaGreatDoor
namespace Go.Proofs.YtnjjfakjnkhhjaaGreatDoor
open Go.RowKit
end Go.Proofs.YtnjjfakjnkhhjaaGreatDoor
namespace Go.Proofs.YtnjjfakjnkhhjaaGreatDoor
open Go.RowKit
theorem sum_pp (w : World) (X Y : Int) (Aa : Option Addr) (na ca : Nat) (xa : List Nat) (La : Lm w Aa na ca xa) (Ab : Option Addr) (nb cb : Nat) (xb : List Nat) (Lb : Lm w Ab nb cb xb) (hX : X.natAbs = val xa) (hY : Y.natAbs = val xb) (hs : 0 < X) (ht : 0 < Y) (hT : SumsT w) (hna : na ≤ 1000000000) (hnb : nb ≤ 1000000000) :
  Calls Tryz.prog 192 #[.slice Aa na ca, .slice Ab nb cb, .int .i64 1, .int .i64 1] w (TellsI w (X + Y) (max na nb + 1)) := by
 have hu := And.intro hX (And.intro hY (And.intro hs (And.intro ht (And.intro hna hnb))))
 clear hu
 have hcell := (hT.bel (bel_alloc w (.cells #[.bool false, .slice none 0 0] 24))) 8 (by omega)
 rw [show sumsT.getD 8 0 = 2 from rfl] at hcell
 obtain ⟨Z, hZ, hZn, hZs⟩ : ∃ Z, X + Y = Z ∧ Z.natAbs = val xa + val xb ∧ (Z ≠ 0 → (1 < (0 : Int) ↔ Z < 0)) := ⟨_, rfl, by omega, fun _ => by omega⟩
 rw [hZ]
 have HZ := Lib.hid (And.intro hZn hZs)
 clear hZ hZn hZs hX hY hs ht hT
 go_enter Tryz.func192, Tryz.ntmps192
 go_wp2_with fail
 obtain ⟨r0, hr0⟩ : ∃ g, g = w.heap.size := ⟨_, rfl⟩
 obtain ⟨w1, hw1⟩ : ∃ v, v = (w.alloc (.cells #[.bool false, .slice none 0 0] 24)) := ⟨_, rfl⟩
 have bel1 : Below w.heap.size w w1 := by rw [hw1]; exact bel_alloc _ _
 have t_r01 : Two w1 r0 := by rw [hw1, hr0]; exact Box.two (Box.new _ _ _ _ _)
 rw [← hw1, ← hr0]
 have hgs : w.heap.size ≤ r0 := by omega
 have HG := Lib.hid hgs
 clear hw1 hgs hr0
 have l_a1 := La.bel bel1
 have l_b1 := Lb.bel bel1
 have f_r01 := t_r01.room.2
 go_wp2_with fail
 have cc := Lib.hid (add_any w1 Aa na ca xa Ab nb cb xb l_a1 l_b1 (by omega) (by omega))
 refine cc.out.mono ?_
 clear cc
 rintro e v2 ⟨A3, m3, c3, rfl, h3, hm3, kb2⟩
 have t_r02 := t_r01.bel kb2
 have l_a2 := l_a1.bel kb2
 have l_b2 := l_b1.bel kb2
 have bel2 := bel1.trans (kb2.mono bel1.size)
 have f_r02 := t_r02.room.2
 clear kb2 t_r01 f_r01 l_a1 l_b1 bel1
 rw [← HZ.out.1] at h3
 go_wp2_with fail
 have cc := Lib.hid (signed_z v2 Z 1 A3 m3 c3 (max na nb + 1) h3 (by omega) HZ.out.2)
 refine cc.out.mono ?_
 clear cc
 rintro e v3 ⟨A4, m4, c4, rfl, h4, hm4, kb3⟩
 have t_r03 := t_r02.bel kb3
 have l_a3 := l_a2.bel kb3
 have l_b3 := l_b2.bel kb3
 have l_z3 := h3.bel kb3
 have bel3 := bel2.trans (kb3.mono bel2.size)
 have f_r03 := t_r03.room.2
 clear kb3 t_r02 f_r02 l_a2 l_b2 h3 bel2
 go_wp2
 have hx := t_r03.put (decide (Z < 0)) A4 m4 c4
 have hl := h4.put t_r03 (.bool (decide (Z < 0))) (.slice A4 m4 c4)
 have hbl := bel_put bel3 (g := r0) HG.out (.bool (decide (Z < 0))) (.slice A4 m4 c4)
 generalize (v3.setCell ⟨r0, 0, none⟩ (.bool (decide (Z < 0)))).setCell ⟨r0, 1, none⟩ (.slice A4 m4 c4) = wz at *
 refine bodyPost_ret (v := .agg #[.bool (decide (Z < 0)), .slice A4 m4 c4]) (by simp [results, Tryz.results192, go_sem, hx.c0, hx.c1]) rfl ?_
 exact ⟨_, _, _, rfl, hl, hm4, hbl⟩
end Go.Proofs.YtnjjfakjnkhhjaaGreatDoor
namespace Go.Proofs.YtnjjfakjnkhhjaaGreatDoor
open Go.RowKit
theorem sgn_mul_pow (s : Bool) (N p : Nat) : (sgn s N * 2 ^ p).natAbs = N * 2 ^ p ∧ (sgn s N * 2 ^ p ≠ 0 → (sg (sgn s N) < 0 ↔ sgn s N * 2 ^ p < 0)) := by
 have hp : (0 : Int) < 2 ^ p := Int.pow_pos (by decide)
 refine ⟨by rw [Int.natAbs_mul, sgn_natAbs, Int.natAbs_pow]; rfl, fun _ => ?_⟩
 rw [sg_sign]
 constructor
 ·intro h; exact Int.mul_neg_of_neg_of_pos h hp
 ·intro h; exact Int.not_le.1 fun h2 => absurd (Int.mul_nonneg h2 (Int.le_of_lt hp)) (by omega)
theorem wshl_any (w : World) (sa : Bool) (Aa : Option Addr) (na ca : Nat) (xa : List Nat) (La : Lm w Aa na ca xa) (k : Int) (hna : na ≤ 1000000000) :
  Calls Tryz.prog 210 #[.agg #[.bool sa, .slice Aa na ca], .int .i64 k] w (TellsI w (sgn sa (val xa) * 2 ^ heldN k) (na + heldN k / 32 + 1)) := by
 obtain ⟨σ, hσ, hσr⟩ : ∃ σ, sg (sgn sa (val xa)) = σ ∧ (-1 ≤ σ ∧ σ ≤ 1) := ⟨_, rfl, sg_range _⟩
 have Hσ := Lib.hid hσ
 clear hσ
 have hf := sgn_mul_pow sa (val xa) (heldN k)
 rw [Hσ.out] at hf
 obtain ⟨Z, hZ⟩ : ∃ Z, sgn sa (val xa) * 2 ^ heldN k = Z := ⟨_, rfl⟩
 rw [hZ] at hf
 rw [hZ]
 have HZ := Lib.hid hf
 clear hZ hf
 go_enter Tryz.func210, Tryz.ntmps210
 go_wp2_with fail
 obtain ⟨ga, hga⟩ : ∃ g, g = w.heap.size := ⟨_, rfl⟩
 obtain ⟨r0, hr0⟩ : ∃ g, g = w.heap.size + 1 := ⟨_, rfl⟩
 obtain ⟨w1, hw1⟩ : ∃ v, v = ((w.alloc (.cells #[.bool sa, .slice Aa na ca] 24)).alloc (.cells #[.bool false, .slice none 0 0] 24)) := ⟨_, rfl⟩
 have bel1 : Below w.heap.size w w1 := by rw [hw1]; exact bel_alloc2 _ _ _
 have b_a1 : Box w1 ga sa Aa na ca := by rw [hw1, hga]; exact ((Box.new _ _ _ _ _).alloc _)
 have t_r01 : Two w1 r0 := by rw [hw1, hr0]; exact Box.two (Box.at1 _ _ _ _ _ _)
 rw [← hw1, ← hr0, ← hga]
 have hgs : w.heap.size ≤ ga ∧ w.heap.size ≤ r0 ∧ ga ≠ r0 ∧ r0 ≠ ga := by omega
 have HG := Lib.hid hgs
 clear hw1 hgs hga hr0
 have l_a1 := La.bel bel1
 have c_a0_1 := b_a1.c0
 have c_a1_1 := b_a1.c1
 have f_r01 := t_r01.room.2
 go_region_held3 (fun w' => (Box w' ga sa Aa na ca ∧ w'.cell? ⟨ga, 0, none⟩ = some (.bool sa) ∧ w'.cell? ⟨ga, 1, none⟩ = some (.slice Aa na ca)) ∧ (Two w' r0 ∧ w'.cell? ⟨r0, 0, none⟩ = some (lies w' r0 0) ∧ w'.cell? ⟨r0, 1, none⟩ = some (lies w' r0 1) ∧ w'.frozen? ⟨r0, 0, none⟩ = false ∧ w'.frozen? ⟨r0, 1, none⟩ = false))
  (first
    | exact ⟨held0 (w := w1.drew) b_a1, Two.room (w := w1.drew) t_r01⟩
    | exact keep11 (by assumption) (by assumption)
    | exact keep11s0 HG.out.2.2.1 (by assumption) rfl)
  (first
    | (go_at_call 145; refine (wsign_at _ sa Aa na ca xa ?_ Hσ.out).mono ?_; exact l_a1.drew; rintro e w2 ⟨rfl, hb2⟩)
    | (go_at_call 229; refine (shl_any _ Aa na ca xa k ?_ ?_).mono ?_; exact l_a1.drew.bel hb2; omega; rintro e w3 ⟨A3, m3, c3, rfl, h3, hm3, hb3⟩)
    | (go_at_call 188; refine (signed_z _ Z _ _ _ _ _ ?_ hm3 ?_).mono ?_; (rw [HZ.out.1]; exact h3); exact HZ.out.2; rintro e w4 ⟨A4, m4, c4, rfl, h4, hm4, hb4⟩))
 have hbx := bel_next (bel_next (bel_undrew hb2) hb3) hb4
 have b_a2 := b_a1.bel hbx
 have t_r02 := t_r01.bel hbx
 have l_a2 := l_a1.bel hbx
 have bel2 := bel1.trans (hbx.mono bel1.size)
 have c_a0_2 := b_a2.c0
 have c_a1_2 := b_a2.c1
 have f_r02 := t_r02.room.2
 clear hbx b_a1 c_a0_1 c_a1_1 t_r01 f_r01 l_a1 bel1
 clear hb2 hb3 hb4
 go_wp2
 have hx := t_r02.put (decide (Z < 0)) A4 m4 c4
 have hl := h4.put t_r02 (.bool (decide (Z < 0))) (.slice A4 m4 c4)
 have hbl := bel_put bel2 (g := r0) HG.out.2.1 (.bool (decide (Z < 0))) (.slice A4 m4 c4)
 generalize (w4.setCell ⟨r0, 0, none⟩ (.bool (decide (Z < 0)))).setCell ⟨r0, 1, none⟩ (.slice A4 m4 c4) = wz at *
 refine bodyPost_ret (v := .agg #[.bool (decide (Z < 0)), .slice A4 m4 c4]) (by simp [results, Tryz.results210, go_sem, hx.c0, hx.c1]) rfl ?_
 exact ⟨_, _, _, rfl, hl, hm4, hbl⟩
end Go.Proofs.YtnjjfakjnkhhjaaGreatDoor
