/- Numbers with a sign: plain facts, and what a call tells of them. -/
import Derived.Test.YtgmencbhkkcpiaaDoorLa
import Derived.Test.YtgmencbhkkcpiaaDoorLb
import Derived.Deep.RegionHeld3
namespace Go.Proofs.YtgmencbhkkcpiaaDoor
open Go.RowKit

/-- the number of such a sign and size. -/
def sgn (s : Bool) (N : Nat) : Int := if s then -(N : Int) else (N : Int)
theorem sgn_natAbs (s : Bool) (N : Nat) : (sgn s N).natAbs = N := by unfold sgn; cases s <;> simp
theorem sgn_zero (s : Bool) : sgn s 0 = 0 := by unfold sgn; cases s <;> rfl
theorem sgn_true (N : Nat) : sgn true N = -(N : Int) := rfl
theorem sgn_false (N : Nat) : sgn false N = (N : Int) := rfl
theorem sgn_of (Z : Int) : sgn (decide (Z < 0)) Z.natAbs = Z := by
  unfold sgn
  by_cases h : Z < 0
  · rw [decide_eq_true h, if_pos rfl]; omega
  · rw [decide_eq_false h, if_neg (by decide)]; omega
theorem sgn_lim (Z : Int) : sgn (decide (Z < 0)) (val (lim Z.natAbs)) = Z := by rw [val_lim, sgn_of]
/-- -1, 0, 1. -/
def sg (X : Int) : Int := if X < 0 then -1 else if X = 0 then 0 else 1
theorem sg_neg {X : Int} (h : X < 0) : sg X = -1 := by unfold sg; rw [if_pos h]
theorem sg_zero {X : Int} (h : X = 0) : sg X = 0 := by unfold sg; rw [if_neg (by omega), if_pos h]
theorem sg_pos {X : Int} (h : 0 < X) : sg X = 1 := by unfold sg; rw [if_neg (by omega), if_neg (by omega)]
theorem sg_sign (X : Int) : sg X < 0 ↔ X < 0 := by unfold sg; split <;> (try split) <;> omega
/-- What a call tells: the number as it is meant. -/
def TellsI (w : World) (Z : Int) (len : Nat) (e : Ending) (w' : World) : Prop :=
  ∃ A m c, e = .returned (.agg #[.bool (decide (Z < 0)), .slice A m c]) ∧ Lm w' A m c (lim Z.natAbs) ∧ m ≤ len ∧ Below w.heap.size w w'
theorem TellsI.mk {w w' : World} {Z : Int} {len : Nat} {e : Ending} {t : Bool} {N : Nat} {A : Option Addr} {m c : Nat} (he : e = .returned (.agg #[.bool t, .slice A m c])) (hl : Lm w' A m c (lim N)) (hm : m ≤ len) (hb : Below w.heap.size w w')
    (hN : Z.natAbs = N) (ht : t = true ↔ Z < 0) : TellsI w Z len e w' := by
  refine ⟨A, m, c, ?_, by rw [hN]; exact hl, hm, hb⟩
  have e1 : t = decide (Z < 0) := by rw [Bool.eq_iff_iff, ht, decide_eq_true_iff]
  rw [he, e1]
theorem ln_pos_iff {N m : Nat} {w : World} {A : Option Addr} {c : Nat} (h : Lm w A m c (lim N)) : 0 < m ↔ N ≠ 0 := by
  have h1 : ln N = m := h.len
  rw [← h1]
  constructor
  · intro h2 h3; rw [h3, ln_zero] at h2; omega
  · intro h2; exact Nat.pos_of_ne_zero fun h3 => h2 (ln_zero_iff.1 h3)
end Go.Proofs.YtgmencbhkkcpiaaDoor
/- Contracts of package whole: signed, Sign, Is, Norm, Neg. -/
namespace Go.Proofs.YtgmencbhkkcpiaaDoor
open Go.RowKit

/-- block g holds just this number, whole. -/
def Box (w : World) (g : Nat) (s : Bool) (A : Option Addr) (n c : Nat) : Prop := w.heap[g]? = some (.cells #[.bool s, .slice A n c] 24 (0, 0))
section
variable {w w' : World} {g : Nat} {s : Bool} {A : Option Addr} {n c : Nat}
theorem Box.lt (h : Box w g s A n c) : g < w.heap.size := by
  apply Nat.lt_of_not_le; intro c; unfold Box at h; rw [Array.getElem?_eq_none c] at h; cases h
theorem Box.c0 (h : Box w g s A n c) : w.cell? ⟨g, 0, none⟩ = some (.bool s) := by
  rw [cell_of_row w g 0 _ _ _ h]; rfl
theorem Box.c1 (h : Box w g s A n c) : w.cell? ⟨g, 1, none⟩ = some (.slice A n c) := by
  rw [cell_of_row w g 1 _ _ _ h]; rfl
theorem Box.free (h : Box w g s A n c) (i : Nat) : w.frozen? ⟨g, i, none⟩ = false := by
  unfold Box at h; simp [World.frozen?, h]
theorem Box.bel (h : Box w g s A n c) (hb : Below w.heap.size w w') : Box w' g s A n c := (hb.block g h.lt).trans h
theorem Box.alloc (h : Box w g s A n c) (o : Obj) : Box (w.alloc o) g s A n c := (Below.heap_alloc w o g h.lt).trans h
theorem Box.new (w : World) (s : Bool) (A : Option Addr) (n c : Nat) : Box (w.alloc (.cells #[.bool s, .slice A n c] 24)) w.heap.size s A n c := heap_alloc_new w _
/-- block g holds a number. -/
def Two (w : World) (g : Nat) : Prop := ∃ s A n c, Box w g s A n c
theorem Box.two (h : Box w g s A n c) : Two w g := ⟨_, _, _, _, h⟩
theorem Two.bel (h : Two w g) (hb : Below w.heap.size w w') : Two w' g := by obtain ⟨s, A, n, c, h⟩ := h; exact (h.bel hb).two
theorem Two.far (h : Two w g) {p : Addr} (hp : g ≠ p.block) (u : Value) : Two (w.setCell p u) g := by obtain ⟨s, A, n, c, h⟩ := h; exact ⟨s, A, n, c, (Below.heap_setCell w p u g hp).trans h⟩
theorem Two.lt (h : Two w g) : g < w.heap.size := by obtain ⟨s, A, n, c, h⟩ := h; exact h.lt
/-- what lies there. -/
def lies (w : World) (g i : Nat) : Value := (w.cell? ⟨g, i, none⟩).getD undef
theorem Two.room (h : Two w g) : Two w g ∧ w.cell? ⟨g, 0, none⟩ = some (lies w g 0) ∧ w.cell? ⟨g, 1, none⟩ = some (lies w g 1) ∧ w.frozen? ⟨g, 0, none⟩ = false ∧ w.frozen? ⟨g, 1, none⟩ = false := by
  obtain ⟨s, A, n, c, h⟩ := h; exact ⟨h.two, by unfold lies; rw [h.c0]; rfl, by unfold lies; rw [h.c1]; rfl, h.free 0, h.free 1⟩
theorem Two.put (h : Two w g) (t : Bool) (B : Option Addr) (m d : Nat) : Box ((w.setCell ⟨g, 0, none⟩ (.bool t)).setCell ⟨g, 1, none⟩ (.slice B m d)) g t B m d := by
  obtain ⟨s, A, n, c, h⟩ := h
  unfold Box at h ⊢
  simp [World.setCell, Array.getElem?_modify, h]
theorem Box.far (h : Box w g s A n c) {p : Addr} (hp : g ≠ p.block) (u : Value) : Box (w.setCell p u) g s A n c := (Below.heap_setCell w p u g hp).trans h
theorem Lm.apart {xs : List Nat} {A' : Option Addr} {n' c' : Nat} (h : Lm w A' n' c' xs) (h2 : Two w g) : ∀ b o, A' = some ⟨b, o, none⟩ → 0 < n' → b ≠ g := by
  rintro b o e hn rfl
  obtain ⟨s, A, n, c, h2⟩ := h2
  obtain ⟨b', o', e', _, hc⟩ := h.2.2 hn
  rw [e] at e'
  injection e' with e'
  injection e' with e1 e2
  subst e1; subst e2
  have h3 := hc 0 hn
  unfold Box at h2
  rw [Nat.add_zero, cell_of_row w b o _ _ _ h2] at h3
  match o, h3 with
  | 0, h3 => simp at h3
  | 1, h3 => simp at h3
  | (o + 2), h3 => simp at h3
theorem Lm.put {xs : List Nat} {A' : Option Addr} {n' c' : Nat} (h : Lm w A' n' c' xs) (h2 : Two w g) (u v : Value) : Lm ((w.setCell ⟨g, 0, none⟩ u).setCell ⟨g, 1, none⟩ v) A' n' c' xs :=
  (h.far (p := ⟨g, 0, none⟩) (h.apart h2) u).far (p := ⟨g, 1, none⟩) (h.apart h2) v
theorem bel_put {B : Nat} (hb : Below B w w') (h : B ≤ g) (u v : Value) : Below B w ((w'.setCell ⟨g, 0, none⟩ u).setCell ⟨g, 1, none⟩ v) := (hb.setCell (by exact h) u).setCell (by exact h) v
end
theorem size_alloc (w : World) (o : Obj) : (w.alloc o).heap.size = w.heap.size + 1 := by
  show (w.heap.push _).size = _
  exact Array.size_push _
theorem bel_alloc (w : World) (o : Obj) : Below w.heap.size w (w.alloc o) := (Below.refl _ _).alloc (Nat.le_refl _) _
set_option maxHeartbeats 400000 in
theorem wsign_any (w : World) (s : Bool) (A : Option Addr) (n c : Nat) (xs : List Nat) (h : Lm w A n c xs) :
    Calls Tryd.prog 35 #[.agg #[.bool s, .slice A n c]] w fun e w' => e = .returned (.int .i64 (sg (sgn s (val xs)))) ∧ Below w.heap.size w w' := by
  have hb := Lib.hid (bel_alloc w (.cells #[.bool s, .slice A n c] 24))
  have hbit := Lib.hid (bits_any _ A n c xs (h.bel hb.out))
  by_cases h0 : val xs = 0
  · rw [h0, sgn_zero, sg_zero rfl]
    rw [h0, nb_zero] at hbit
    go_enter Tryd.func35, Tryd.ntmps35
    go_wp2_with fail
    refine hbit.out.mono ?_
    clear hbit
    rintro e w1 ⟨rfl, rfl⟩
    go_wp2
    go_ret
    exact ⟨rfl, hb.out⟩
  · obtain ⟨b, hbv, hb0⟩ : ∃ b : Nat, nb (val xs) = b ∧ ((b : Int) == 0) = false := ⟨_, rfl, by rw [beq_eq_false_iff_ne]; intro e; exact h0 (nb_zero_iff.1 (by omega))⟩
    rw [hbv] at hbit
    have h0' := Lib.hid h0
    clear hbv h0
    cases s
    · rw [sgn_false, sg_pos (by have := h0'.out; omega)]
      go_enter Tryd.func35, Tryd.ntmps35
      go_wp2_with fail
      refine hbit.out.mono ?_
      clear hbit
      rintro e w1 ⟨rfl, rfl⟩
      go_wp2
      go_ret
      exact ⟨rfl, hb.out⟩
    · rw [sgn_true, sg_neg (by have := h0'.out; omega)]
      go_enter Tryd.func35, Tryd.ntmps35
      go_wp2_with fail
      refine hbit.out.mono ?_
      clear hbit
      rintro e w1 ⟨rfl, rfl⟩
      go_wp2
      go_ret
      exact ⟨rfl, hb.out⟩
end Go.Proofs.YtgmencbhkkcpiaaDoor
/- Regions over boxes and rooms. -/
namespace Go.Proofs.YtgmencbhkkcpiaaDoor
open Go.RowKit

theorem bel_alloc2 (w : World) (a b : Obj) : Below w.heap.size w ((w.alloc a).alloc b) := (bel_alloc _ _).trans ((bel_alloc _ _).mono (bel_alloc _ _).size)
theorem Box.at1 (w : World) (a : Obj) (s : Bool) (A : Option Addr) (n c : Nat) : Box ((w.alloc a).alloc (.cells #[.bool s, .slice A n c] 24)) (w.heap.size + 1) s A n c := by
  have h := Box.new (w.alloc a) s A n c; rw [size_alloc] at h; exact h
theorem bel_undrew {w w' : World} (h : Below w.drew.heap.size w.drew w') : Below w.heap.size w w' := (Below.refl _ w).drew.trans h
theorem bel_next {w w' w'' : World} (h : Below w.heap.size w w') (k : Below w'.heap.size w' w'') : Below w.heap.size w w'' := h.trans (k.mono h.size)
end Go.Proofs.YtgmencbhkkcpiaaDoor
/- Contracts of package whole: Norm, Neg. -/
namespace Go.Proofs.YtgmencbhkkcpiaaDoor
open Go.RowKit

end Go.Proofs.YtgmencbhkkcpiaaDoor
/- Contracts of package whole: sum. -/
namespace Go.Proofs.YtgmencbhkkcpiaaDoor
open Go.RowKit

end Go.Proofs.YtgmencbhkkcpiaaDoor
/- Contracts of package whole: Add, Sub, Shl. -/
namespace Go.Proofs.YtgmencbhkkcpiaaDoor
open Go.RowKit

end Go.Proofs.YtgmencbhkkcpiaaDoor
