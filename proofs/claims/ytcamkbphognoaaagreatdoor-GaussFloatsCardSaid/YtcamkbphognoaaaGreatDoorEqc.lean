/- slices.Grow of none, slices.Concat of two rows of limbs: a new row. -/
import Derived.Test.YtcamkbphognoaaaGreatDoorNormsA
import Derived.LoopN
namespace Go.Proofs.YtcamkbphognoaaaGreatDoor
open Go.RowKit
set_option linter.unusedSimpArgs false
set_option linter.unusedVariables false
/-- a slice of two rows of limbs. -/
def Pair (w : World) (b o : Nat) (A : Option Addr) (n c : Nat) (xs : List Nat) (A' : Option Addr) (m c' : Nat) (ys : List Nat) : Prop :=
  b < w.heap.size ∧ w.cell? ⟨b, o, none⟩ = some (.slice A n c) ∧ w.cell? ⟨b, o + 1, none⟩ = some (.slice A' m c') ∧ Lm w A n c xs ∧ Lm w A' m c' ys
theorem Pair.bel {w w' : World} {b o : Nat} {A : Option Addr} {n c : Nat} {xs : List Nat} {A' : Option Addr} {m c' : Nat} {ys : List Nat} (h : Pair w b o A n c xs A' m c' ys) (hb : Below w.heap.size w w') : Pair w' b o A n c xs A' m c' ys := by
  obtain ⟨h1, h2, h3, h4, h5⟩ := h
  exact ⟨Nat.lt_of_lt_of_le h1 hb.size, by rw [hb.cell (p := ⟨b, o, none⟩) h1]; exact h2, by rw [hb.cell (p := ⟨b, o + 1, none⟩) h1]; exact h3, h4.bel hb, h5.bel hb⟩
end Go.Proofs.YtcamkbphognoaaaGreatDoor
