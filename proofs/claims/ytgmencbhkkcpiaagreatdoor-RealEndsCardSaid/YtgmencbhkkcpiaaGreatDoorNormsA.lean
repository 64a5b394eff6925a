/- Noughts appended to an own row. -/
import Derived.Test.YtgmencbhkkcpiaaGreatDoorWb
import Derived.Deep.RegionHeld3
import Derived.Lib.AppendZeros
import Derived.Lib.AppendZerosOnto
namespace Go.Proofs.YtgmencbhkkcpiaaGreatDoor
open Go.RowKit

/-- a row of the call's own: v is it, from block b on, it reads xs. -/
def RowZ (w : World) (b : Nat) (v : Value) (xs : List Nat) : Prop := w.ownsRow b 87 1 v xs.length (xs.map d32)
theorem RowZ.own {w : World} {b : Nat} {v : Value} {xs : List Nat} (h : RowZ w b v xs) : ∀ k, v.ownBlock = some k → b ≤ k ∧ k < w.heap.size := World.ownsRow.lt h
theorem RowZ.alloc {w : World} {b : Nat} {v : Value} {xs : List Nat} (h : RowZ w b v xs) (o : Obj) : RowZ (w.alloc o) b v xs := World.ownsRow.alloc h o
theorem RowZ.drew {w : World} {b : Nat} {v : Value} {xs : List Nat} (h : RowZ w b v xs) : RowZ w.drew b v xs := h
theorem RowZ.lm {w : World} {b : Nat} {v : Value} {xs : List Nat} (h : RowZ w b v xs) (hok : Ok xs) (hb : xs.length ≤ 1000000) : ∃ A c, v = .slice A xs.length c ∧ Lm w A xs.length c xs := by
  rcases h.2 with ⟨rfl, h0⟩ | ⟨g, cap, cur, rfl, hge, hh, hnc, hcm, hcs, hct⟩
  · have hx : xs = [] := List.eq_nil_of_length_eq_zero h0
    subst hx
    exact ⟨none, 0, rfl, Lm.nil w⟩
  · refine ⟨_, cap, rfl, ⟨rfl, hnc, by omega⟩, hok, fun _ => ⟨g, 0, rfl, ?_, fun j hj => ?_⟩⟩
    · apply Nat.lt_of_not_le; intro cc; rw [Array.getElem?_eq_none cc] at hh; cases hh
    · rw [cell_of_row w g _ _ _ _ hh, Nat.zero_add]
      have h2 : (cur.toList.take (xs.length * 1))[j]? = some (d32 (dig xs j)) := by
        rw [hct, List.getElem?_map, dig_get hj, List.getElem?_eq_getElem hj]; rfl
      rw [List.getElem?_take, if_pos (by omega)] at h2
      simpa using h2
end Go.Proofs.YtgmencbhkkcpiaaGreatDoor
