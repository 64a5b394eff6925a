/- Contracts of package whole: signed, Sign, Is, Norm, Neg. -/
import Derived.Test.YtopkndkicdgafaaDoorSgn
import Derived.Test.YtopkndkicdgafaaDoorShl
namespace Go.Proofs.YtopkndkicdgafaaDoor
open Go.RowKit

/-- block g holds just this number, whole. -/
def Box (w : World) (g : Nat) (s : Bool) (A : Option Addr) (n c : Nat) : Prop := w.heap[g]? = some (.cells #[.bool s, .slice A n c] 43 (0, 0))
section
variable {w w' : World} {g : Nat} {s : Bool} {A : Option Addr} {n c : Nat}
theorem Box.lt (h : Box w g s A n c) : g < w.heap.size := by
  apply Nat.lt_of_not_le; intro c; unfold Box at h; rw [Array.getElem?_eq_none c] at h; cases h
theorem Box.c0 (h : Box w g s A n c) : w.cell? ⟨g, 0, none⟩ = some (.bool s) := by
  rw [cell_of_row w g 0 _ _ _ h]; rfl
theorem Box.c1 (h : Box w g s A n c) : w.cell? ⟨g, 1, none⟩ = some (.slice A n c) := by
  rw [cell_of_row w g 1 _ _ _ h]; rfl
theorem Box.free (h : Box w g s A n c) (i : Nat) : w.frozen? ⟨g, i, none⟩ = false := by
  unfold Box at h; simp [World.frozen?, h]
theorem Box.bel (h : Box w g s A n c) (hb : Below w.heap.size w w') : Box w' g s A n c := (hb.block g h.lt).trans h
theorem Box.alloc (h : Box w g s A n c) (o : Obj) : Box (w.alloc o) g s A n c := (Below.heap_alloc w o g h.lt).trans h
theorem Box.new (w : World) (s : Bool) (A : Option Addr) (n c : Nat) : Box (w.alloc (.cells #[.bool s, .slice A n c] 43)) w.heap.size s A n c := heap_alloc_new w _
/-- what is known of a box, spelt out for a region. -/
theorem held1 {P Q : Prop} (h : Box w g s A n c ∧ P ∧ Q) (hb : Below w.heap.size w w') : Box w' g s A n c ∧ w'.cell? ⟨g, 0, none⟩ = some (.bool s) ∧ w'.cell? ⟨g, 1, none⟩ = some (.slice A n c) :=
  ⟨h.1.bel hb, (h.1.bel hb).c0, (h.1.bel hb).c1⟩
theorem held0 (h : Box w g s A n c) : Box w g s A n c ∧ w.cell? ⟨g, 0, none⟩ = some (.bool s) ∧ w.cell? ⟨g, 1, none⟩ = some (.slice A n c) := ⟨h, h.c0, h.c1⟩
/-- block g holds a number. -/
def Two (w : World) (g : Nat) : Prop := ∃ s A n c, Box w g s A n c
theorem Box.two (h : Box w g s A n c) : Two w g := ⟨_, _, _, _, h⟩
theorem Two.bel (h : Two w g) (hb : Below w.heap.size w w') : Two w' g := by obtain ⟨s, A, n, c, h⟩ := h; exact (h.bel hb).two
theorem Two.far (h : Two w g) {p : Addr} (hp : g ≠ p.block) (u : Value) : Two (w.setCell p u) g := by obtain ⟨s, A, n, c, h⟩ := h; exact ⟨s, A, n, c, (Below.heap_setCell w p u g hp).trans h⟩
theorem Two.lt (h : Two w g) : g < w.heap.size := by obtain ⟨s, A, n, c, h⟩ := h; exact h.lt
/-- what lies there. -/
def lies (w : World) (g i : Nat) : Value := (w.cell? ⟨g, i, none⟩).getD undef
theorem Two.room (h : Two w g) : Two w g ∧ w.cell? ⟨g, 0, none⟩ = some (lies w g 0) ∧ w.cell? ⟨g, 1, none⟩ = some (lies w g 1) ∧ w.frozen? ⟨g, 0, none⟩ = false ∧ w.frozen? ⟨g, 1, none⟩ = false := by
  obtain ⟨s, A, n, c, h⟩ := h; exact ⟨h.two, by unfold lies; rw [h.c0]; rfl, by unfold lies; rw [h.c1]; rfl, h.free 0, h.free 1⟩
theorem heldr {P : Prop} (h : Two w g ∧ P) (hb : Below w.heap.size w w') : Two w' g ∧ w'.cell? ⟨g, 0, none⟩ = some (lies w' g 0) ∧ w'.cell? ⟨g, 1, none⟩ = some (lies w' g 1) ∧ w'.frozen? ⟨g, 0, none⟩ = false ∧ w'.frozen? ⟨g, 1, none⟩ = false := (h.1.bel hb).room
theorem keep1 {P Q : Prop} {g1 : Nat} (hb : Below w.heap.size w w') (h : (Box w g s A n c ∧ P) ∧ (Two w g1 ∧ Q)) : (Box w' g s A n c ∧ w'.cell? ⟨g, 0, none⟩ = some (.bool s) ∧ w'.cell? ⟨g, 1, none⟩ = some (.slice A n c)) ∧ (Two w' g1 ∧ w'.cell? ⟨g1, 0, none⟩ = some (lies w' g1 0) ∧ w'.cell? ⟨g1, 1, none⟩ = some (lies w' g1 1) ∧ w'.frozen? ⟨g1, 0, none⟩ = false ∧ w'.frozen? ⟨g1, 1, none⟩ = false) :=
  ⟨held0 (h.1.1.bel hb), (h.2.1.bel hb).room⟩
theorem Two.put (h : Two w g) (t : Bool) (B : Option Addr) (m d : Nat) : Box ((w.setCell ⟨g, 0, none⟩ (.bool t)).setCell ⟨g, 1, none⟩ (.slice B m d)) g t B m d := by
  obtain ⟨s, A, n, c, h⟩ := h
  unfold Box at h ⊢
  simp [World.setCell, Array.getElem?_modify, h]
theorem Box.far (h : Box w g s A n c) {p : Addr} (hp : g ≠ p.block) (u : Value) : Box (w.setCell p u) g s A n c := (Below.heap_setCell w p u g hp).trans h
theorem keep1s {P Q : Prop} {g1 : Nat} (hne : g ≠ g1) {t : Bool} {B : Option Addr} {m d : Nat} (h : (Box w g s A n c ∧ P) ∧ (Two w g1 ∧ Q)) (hw : w' = (w.setCell ⟨g1, 0, none⟩ (.bool t)).setCell ⟨g1, 1, none⟩ (.slice B m d)) : (Box w' g s A n c ∧ w'.cell? ⟨g, 0, none⟩ = some (.bool s) ∧ w'.cell? ⟨g, 1, none⟩ = some (.slice A n c)) ∧ (Two w' g1 ∧ w'.cell? ⟨g1, 0, none⟩ = some (lies w' g1 0) ∧ w'.cell? ⟨g1, 1, none⟩ = some (lies w' g1 1) ∧ w'.frozen? ⟨g1, 0, none⟩ = false ∧ w'.frozen? ⟨g1, 1, none⟩ = false) := by
  subst hw
  exact ⟨held0 ((h.1.1.far (p := ⟨g1, 0, none⟩) hne _).far (p := ⟨g1, 1, none⟩) hne _), (h.2.1.put _ _ _ _).two.room⟩
theorem Lm.apart {xs : List Nat} {A' : Option Addr} {n' c' : Nat} (h : Lm w A' n' c' xs) (h2 : Two w g) : ∀ b o, A' = some ⟨b, o, none⟩ → 0 < n' → b ≠ g := by
  rintro b o e hn rfl
  obtain ⟨s, A, n, c, h2⟩ := h2
  obtain ⟨b', o', e', _, hc⟩ := h.2.2 hn
  rw [e] at e'
  injection e' with e'
  injection e' with e1 e2
  subst e1; subst e2
  have h3 := hc 0 hn
  unfold Box at h2
  rw [Nat.add_zero, cell_of_row w b o _ _ _ h2] at h3
  match o, h3 with
  | 0, h3 => simp at h3
  | 1, h3 => simp at h3
  | (o + 2), h3 => simp at h3
theorem Lm.put {xs : List Nat} {A' : Option Addr} {n' c' : Nat} (h : Lm w A' n' c' xs) (h2 : Two w g) (u v : Value) : Lm ((w.setCell ⟨g, 0, none⟩ u).setCell ⟨g, 1, none⟩ v) A' n' c' xs :=
  (h.far (p := ⟨g, 0, none⟩) (h.apart h2) u).far (p := ⟨g, 1, none⟩) (h.apart h2) v
theorem bel_put {B : Nat} (hb : Below B w w') (h : B ≤ g) (u v : Value) : Below B w ((w'.setCell ⟨g, 0, none⟩ u).setCell ⟨g, 1, none⟩ v) := (hb.setCell (by exact h) u).setCell (by exact h) v
end
theorem size_alloc (w : World) (o : Obj) : (w.alloc o).heap.size = w.heap.size + 1 := by
  show (w.heap.push _).size = _
  exact Array.size_push _
theorem bel_alloc (w : World) (o : Obj) : Below w.heap.size w (w.alloc o) := (Below.refl _ _).alloc (Nat.le_refl _) _
set_option maxHeartbeats 400000 in
theorem signed_any (w : World) (s : Int) (A : Option Addr) (n c : Nat) :
    Calls Tryd.prog 90 #[.int .i64 s, .slice A n c] w fun e w' => e = .returned (.agg #[.bool (decide (s < 0 ∧ 0 < n)), .slice A n c]) ∧ Below w.heap.size w w' := by
  by_cases h1 : s < 0
  · by_cases h2 : 0 < n
    · have e1 : decide (s < 0 ∧ 0 < n) = true := by simp [h1, h2]
      rw [e1]
      have e2 : (n : Int) > 0 := by omega
      clear h2 e1
      go_enter Tryd.func90, Tryd.ntmps90
      go_wp2
      refine bodyPost_ret (v := .agg #[.bool true, .slice A n c]) (by simp [results, Tryd.results90, go_sem]; omega) rfl ⟨rfl, bel_alloc _ _⟩
    · have e1 : decide (s < 0 ∧ 0 < n) = false := by simp [h2]
      rw [e1]
      have e2 : ¬ (n : Int) > 0 := by omega
      clear h2 e1
      go_enter Tryd.func90, Tryd.ntmps90
      go_wp2
      refine bodyPost_ret (v := .agg #[.bool false, .slice A n c]) (by simp [results, Tryd.results90, go_sem]; omega) rfl ⟨rfl, bel_alloc _ _⟩
  · have e1 : decide (s < 0 ∧ 0 < n) = false := by simp [h1]
    rw [e1]
    have e2 : ¬ s < 0 := h1
    clear e1
    go_enter Tryd.func90, Tryd.ntmps90
    go_wp2
    refine bodyPost_ret (v := .agg #[.bool false, .slice A n c]) (by simp [results, Tryd.results90, go_sem]) rfl ⟨rfl, bel_alloc _ _⟩
/-- signed, of a number Z whose sign is s and whose size lies there. -/
theorem signed_z (w : World) (Z s : Int) (A : Option Addr) (m c len : Nat) (h : Lm w A m c (lim Z.natAbs)) (hm : m ≤ len) (hs : Z ≠ 0 → (s < 0 ↔ Z < 0)) :
    Calls Tryd.prog 90 #[.int .i64 s, .slice A m c] w (TellsI w Z len) :=
  (signed_any w s A m c).mono fun e w' ⟨he, hb⟩ => TellsI.mk he (h.bel hb) hm hb rfl (by
    have h1 := ln_pos_iff h
    rw [decide_eq_true_iff, h1]
    constructor
    · rintro ⟨h2, h3⟩; exact (hs (by omega)).1 h2
    · intro h2; exact ⟨(hs (by omega)).2 h2, by omega⟩)
set_option maxHeartbeats 400000 in
theorem wsign_any (w : World) (s : Bool) (A : Option Addr) (n c : Nat) (xs : List Nat) (h : Lm w A n c xs) :
    Calls Tryd.prog 53 #[.agg #[.bool s, .slice A n c]] w fun e w' => e = .returned (.int .i64 (sg (sgn s (val xs)))) ∧ Below w.heap.size w w' := by
  have hb := Lib.hid (bel_alloc w (.cells #[.bool s, .slice A n c] 43))
  have hbit := Lib.hid (bits_any _ A n c xs (h.bel hb.out))
  by_cases h0 : val xs = 0
  · rw [h0, sgn_zero, sg_zero rfl]
    rw [h0, nb_zero] at hbit
    go_enter Tryd.func53, Tryd.ntmps53
    go_wp2_with fail
    refine hbit.out.mono ?_
    clear hbit
    rintro e w1 ⟨rfl, rfl⟩
    go_wp2
    go_ret
    exact ⟨rfl, hb.out⟩
  · obtain ⟨b, hbv, hb0⟩ : ∃ b : Nat, nb (val xs) = b ∧ ((b : Int) == 0) = false := ⟨_, rfl, by rw [beq_eq_false_iff_ne]; intro e; exact h0 (nb_zero_iff.1 (by omega))⟩
    rw [hbv] at hbit
    have h0' := Lib.hid h0
    clear hbv h0
    cases s
    · rw [sgn_false, sg_pos (by have := h0'.out; omega)]
      go_enter Tryd.func53, Tryd.ntmps53
      go_wp2_with fail
      refine hbit.out.mono ?_
      clear hbit
      rintro e w1 ⟨rfl, rfl⟩
      go_wp2
      go_ret
      exact ⟨rfl, hb.out⟩
    · rw [sgn_true, sg_neg (by have := h0'.out; omega)]
      go_enter Tryd.func53, Tryd.ntmps53
      go_wp2_with fail
      refine hbit.out.mono ?_
      clear hbit
      rintro e w1 ⟨rfl, rfl⟩
      go_wp2
      go_ret
      exact ⟨rfl, hb.out⟩
set_option maxHeartbeats 1000000 in
theorem wis_any (w : World) (s : Bool) (A : Option Addr) (n c : Nat) (xs : List Nat) (h : Lm w A n c xs) :
    Calls Tryd.prog 48 #[.agg #[.bool s, .slice A n c]] w fun e w' => e = .returned (.bool (decide (lim (val xs) = xs) && !(s && decide (n = 0)))) ∧ Below w.heap.size w w' := by
  have hb := Lib.hid (bel_alloc w (.cells #[.bool s, .slice A n c] 43))
  have his := Lib.hid (is_any _ A n c xs (h.bel hb.out))
  obtain ⟨t, ht⟩ : ∃ t, decide (lim (val xs) = xs) = t := ⟨_, rfl⟩
  obtain ⟨z, hz, hz'⟩ : ∃ z, decide (n = 0) = z ∧ ((n : Int) == 0) = z := ⟨_, rfl, by rw [Bool.eq_iff_iff, beq_iff_eq, decide_eq_true_iff]; omega⟩
  rw [ht] at his
  rw [ht, hz]
  clear ht hz
  cases t <;> cases s <;> cases z
  all_goals
    go_enter Tryd.func48, Tryd.ntmps48
    go_wp2_with fail
    refine his.out.mono ?_
    clear his
    rintro e w1 ⟨rfl, rfl⟩
    go_wp2
    go_ret
    exact ⟨rfl, hb.out⟩
end Go.Proofs.YtopkndkicdgafaaDoor
