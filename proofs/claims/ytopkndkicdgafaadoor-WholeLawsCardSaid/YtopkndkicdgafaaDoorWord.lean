/- Words for memory: a slice that reads as a list of digits; a block of the call's own that is known whole. -/
import Derived.Test.YtopkndkicdgafaaDoorNum
import Derived.Test.YtopkndkicdgafaaDoorRows
import Derived.WalkKit
import Derived.WalkSpells
import Derived.WalkLawsBesides
import Derived.Lib.Hide
namespace Go.Proofs.YtopkndkicdgafaaDoor
open Go.RowKit

/-- a number of 32 bits as a cell holds it. -/
abbrev d32 (x : Nat) : Value := .int .u32 (x : Int)
/-- The slice (A, n, c) reads as the digits xs in w. -/
def Lm (w : World) (A : Option Addr) (n c : Nat) (xs : List Nat) : Prop :=
  (xs.length = n ∧ n ≤ c ∧ n ≤ 1000000000000) ∧ Ok xs ∧ (0 < n → ∃ b o, A = some ⟨b, o, none⟩ ∧ b < w.heap.size ∧ ∀ j, j < n → w.cell? ⟨b, o + j, none⟩ = some (d32 (dig xs j)))

section
variable {w w' : World} {A : Option Addr} {n c : Nat} {xs : List Nat}
theorem Lm.len (h : Lm w A n c xs) : xs.length = n := h.1.1
theorem Lm.ok (h : Lm w A n c xs) : Ok xs := h.2.1
theorem Lm.cap (h : Lm w A n c xs) : n ≤ c := h.1.2.1
theorem Lm.big (h : Lm w A n c xs) : n ≤ 1000000000000 := h.1.2.2
theorem Lm.at_ (h : Lm w A n c xs) {k : Nat} (hk : k < n) : ∃ b o, A = some ⟨b, o, none⟩ ∧ b < w.heap.size ∧ ∀ j, j < n → w.cell? ⟨b, o + j, none⟩ = some (d32 (dig xs j)) := h.2.2 (by omega)
theorem Lm.nil (w : World) : Lm w none 0 0 [] := ⟨⟨rfl, Nat.le_refl _, by omega⟩, fun i => by rw [dig_nil]; exact Bs_pos, fun h => absurd h (by omega)⟩
theorem Lm.keep (h : Lm w A n c xs) (hs : w.heap.size ≤ w'.heap.size) (hk : ∀ b o, b < w.heap.size → w'.cell? ⟨b, o, none⟩ = w.cell? ⟨b, o, none⟩) : Lm w' A n c xs :=
  ⟨h.1, h.2.1, fun hn => by
    obtain ⟨b, o, e, hb, hc⟩ := h.2.2 hn
    exact ⟨b, o, e, by omega, fun j hj => (hk _ _ hb).trans (hc j hj)⟩⟩
theorem Lm.below {B : Nat} (h : Lm w A n c xs) (hb : Below B w w') (hB : w.heap.size ≤ B) : Lm w' A n c xs := h.keep hb.size fun b o h => hb.cell (p := ⟨b, o, none⟩) (by show b < B; omega)
theorem Lm.bel (h : Lm w A n c xs) (hb : Below w.heap.size w w') : Lm w' A n c xs := h.below hb (Nat.le_refl _)
theorem Lm.take (h : Lm w A n c xs) {m : Nat} (hm : m ≤ n) : Lm w A m c (xs.take m) := by
  refine ⟨⟨by rw [List.length_take, h.len]; omega, by have := h.cap; omega, by have := h.big; omega⟩, h.ok.take m, fun hn => ?_⟩
  obtain ⟨b, o, e, hb, hc⟩ := h.2.2 (by omega)
  exact ⟨b, o, e, hb, fun j hj => by rw [dig_take, if_pos hj]; exact hc j (by omega)⟩
theorem Lm.under (h : Lm w A n c xs) : 0 < n → ∀ b o, A = some ⟨b, o, none⟩ → b < w.heap.size := by
  intro hn b o e
  obtain ⟨b', o', e', hb, _⟩ := h.2.2 hn
  rw [e'] at e
  injection e with e
  injection e with e1
  omega
/-- trimmed. -/
theorem Lm.cut (h : Lm w A n c xs) : Lm w A (ln (val xs)) c (lim (val xs)) := by
  rw [lim_val_take h.ok]
  exact h.take (by have := ln_val_le h.ok; rw [h.len] at this; exact this)
end
end Go.Proofs.YtopkndkicdgafaaDoor
