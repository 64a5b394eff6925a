/- What the table of modes reads as. -/
import Derived.Test.YtkijhcflomjdbaaDoorArgD
namespace Go.Proofs.YtkijhcflomjdbaaDoor.Ev
open Go Go.RowKit Go.ChangeShapes Go.WideShapes Go.ChangeAt
set_option linter.unusedSimpArgs false
set_option linter.unusedVariables false
theorem cells24 {H : Type} {enc : TypeId × Value → H} {P : Program} {w : World} {base : Nat} {sp : Nat → Bool} {held : Bool} {fuel : Nat} {t e e' : TypeId} {k : IntKind} {cs : List Value} {r0 r1 : List Int} {p : List MemPlace}
    (ht : P.underlying t = some (.array 2 e)) (hte : P.underlying e = some (.array 4 e')) (he : P.underlying e' = some (.int k)) (hc1 : P.cellsOf e' = 1) (hc4 : P.cellsOf e = 4) (hc8 : P.cellsOf t = 8)
    (h : DataW.trod enc P w base sp held fuel t cs = some (.agg [Lib.tabData k r0, Lib.tabData k r1], p)) : cs = (r0 ++ r1).map fun z => Value.int k z := by
  obtain ⟨xs, m, _, hx, hl, hxl, hall⟩ := DataW.trod_array ht h
  rw [hc8] at hl
  rw [hc4] at hall
  match xs, hxl with
  | [x0, x1], _ =>
  simp only [Prod.mk.injEq, DataW.agg.injEq, List.map_cons, List.map_nil, List.cons.injEq, and_true] at hx
  obtain ⟨⟨e0, e1⟩, _⟩ := hx
  obtain ⟨x0a, x0b⟩ := x0
  obtain ⟨x1a, x1b⟩ := x1
  subst e0; subst e1
  have a0 := Lib.cells_of_tab hte he hc1 hc4 (hall 0 (by omega))
  have a1 := Lib.cells_of_tab hte he hc1 hc4 (hall 1 (by omega))
  match cs, hl with
  | [c0, c1, c2, c3, c4, c5, c6, c7], _ =>
  simp only [Nat.zero_mul, Nat.one_mul, List.drop_zero, List.drop_succ_cons, List.take_succ_cons, List.take_zero] at a0 a1
  rw [List.map_append, ← a0, ← a1]
  rfl
theorem cells324 {H : Type} {enc : TypeId × Value → H} {P : Program} {w : World} {base : Nat} {sp : Nat → Bool} {held : Bool} {fuel : Nat} {t u e e' : TypeId} {k : IntKind} {cs : List Value} {r0 r1 r2 r3 r4 r5 : List Int} {p : List MemPlace}
    (ht : P.underlying t = some (.array 3 u)) (hu : P.underlying u = some (.array 2 e)) (hte : P.underlying e = some (.array 4 e')) (he : P.underlying e' = some (.int k)) (hc1 : P.cellsOf e' = 1) (hc4 : P.cellsOf e = 4) (hc8 : P.cellsOf u = 8) (hc24 : P.cellsOf t = 24)
    (h : DataW.trod enc P w base sp held fuel t cs = some (.agg [.agg [Lib.tabData k r0, Lib.tabData k r1], .agg [Lib.tabData k r2, Lib.tabData k r3], .agg [Lib.tabData k r4, Lib.tabData k r5]], p)) : cs = (r0 ++ r1 ++ (r2 ++ r3) ++ (r4 ++ r5)).map fun z => Value.int k z := by
  obtain ⟨xs, m, _, hx, hl, hxl, hall⟩ := DataW.trod_array ht h
  rw [hc24] at hl
  rw [hc8] at hall
  match xs, hxl with
  | [x0, x1, x2], _ =>
  simp only [Prod.mk.injEq, DataW.agg.injEq, List.map_cons, List.map_nil, List.cons.injEq, and_true] at hx
  obtain ⟨⟨e0, e1, e2⟩, _⟩ := hx
  obtain ⟨x0a, x0b⟩ := x0
  obtain ⟨x1a, x1b⟩ := x1
  obtain ⟨x2a, x2b⟩ := x2
  subst e0; subst e1; subst e2
  have a0 := cells24 hu hte he hc1 hc4 hc8 (hall 0 (by omega))
  have a1 := cells24 hu hte he hc1 hc4 hc8 (hall 1 (by omega))
  have a2 := cells24 hu hte he hc1 hc4 hc8 (hall 2 (by omega))
  rw [List.map_append, List.map_append, ← a0, ← a1, ← a2]
  simp only [Nat.zero_mul, Nat.one_mul, List.drop_zero]
  have hd : cs = cs.take 8 ++ ((cs.drop 8).take 8 ++ (cs.drop 16).take 8) := by
    have h2 : (cs.drop 16).take 8 = cs.drop 16 := List.take_of_length_le (by rw [List.length_drop, hl]; omega)
    rw [h2]
    have h3 : cs.drop 16 = (cs.drop 8).drop 8 := by rw [List.drop_drop]
    rw [h3, List.take_append_drop, List.take_append_drop]
  rw [List.append_assoc]
  exact hd
end Go.Proofs.YtkijhcflomjdbaaDoor.Ev
