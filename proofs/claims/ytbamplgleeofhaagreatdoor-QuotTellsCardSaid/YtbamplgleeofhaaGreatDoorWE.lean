/- Contracts of package whole: Mul. -/
import Derived.Test.YtbamplgleeofhaaGreatDoorWa
import Derived.Test.YtbamplgleeofhaaGreatDoorLa
import Derived.Deep.RegionHeld3
namespace Go.Proofs.YtbamplgleeofhaaGreatDoor
open Go.RowKit

theorem keepc {w w' : World} {p : Addr} {v : Value} {R R' : Prop} (hb : Below w.heap.size w w') (h : w.cell? p = some v ∧ R) (k : R → R') : w'.cell? p = some v ∧ R' :=
  ⟨(hb.cell (p := p) (World.block_lt_of_cell? w _ h.1)).trans h.1, k h.2⟩
theorem keepcs {w w' : World} {p : Addr} {r : Nat} {u u' v : Value} {R R' : Prop} (hne : p.block ≠ r) (h : w.cell? p = some v ∧ R) (hw : w' = (w.setCell ⟨r, 0, none⟩ u).setCell ⟨r, 1, none⟩ u') (k : R → R') : w'.cell? p = some v ∧ R' := by
  refine ⟨?_, k h.2⟩
  rw [hw, World.cell?_of_block (w := w.setCell ⟨r, 0, none⟩ u) (Below.heap_setCell _ _ _ _ hne), World.cell?_of_block (w := w) (Below.heap_setCell _ _ _ _ hne)]
  exact h.1
end Go.Proofs.YtbamplgleeofhaaGreatDoor
