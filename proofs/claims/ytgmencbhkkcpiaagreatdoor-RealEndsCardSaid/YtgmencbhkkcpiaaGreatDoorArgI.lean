/- What an argument that is an Int reads as; the tables of package whole as a row lists them. -/
import Derived.Test.YtgmencbhkkcpiaaGreatDoorLb
import Derived.Test.YtgmencbhkkcpiaaGreatDoorWa
import Derived.Lib.LaidTab
import Derived.OpenShut
import Derived.ProofKit
import Derived.LaidMore
import Derived.Stop.Joined
import Derived.SevenTiedAt
namespace Go.Proofs.YtgmencbhkkcpiaaGreatDoor
open Go Go.RowKit Go.ChangeShapes Go.WideShapes Go.ChangeAt

theorem vars_read {P : Program} {w : World} : ∀ {l : List (String × DataW Unit)} {ps : List MemPlace}, DataW.LaidVars P w l ps → ∀ n d, (n, d) ∈ l →
    ∃ g t cs fuel p, P.globalNamed n = some g ∧ (P.globals[g]?).map (·.type) = some t ∧ w.var? P n = some cs ∧ DataW.trod (fun _ => ()) P w 0 (fun _ => true) false fuel t cs.toList = some (d, p)
  | [], _, _, _, _, hm => by cases hm
  | (n', d') :: r, ps, h, n, d, hm => by
    obtain ⟨g, t, cs, fuel, p, q, h1, h2, h3, h4, h5, _⟩ := h
    rcases List.mem_cons.1 hm with e | e
    · cases e
      exact ⟨g, t, cs, fuel, p, h1, h2, h3, h4⟩
    · exact vars_read h5 n d e
theorem cells3 {H : Type} {enc : TypeId × Value → H} {P : Program} {w : World} {base : Nat} {sp : Nat → Bool} {held : Bool} {fuel : Nat} {t e e' : TypeId} {k : IntKind} {cs : List Value} {r0 r1 r2 : List Int} {p : List MemPlace}
    (ht : P.underlying t = some (.array 3 e)) (hte : P.underlying e = some (.array 3 e')) (he : P.underlying e' = some (.int k)) (hc1 : P.cellsOf e' = 1) (hc3 : P.cellsOf e = 3) (hc9 : P.cellsOf t = 9)
    (h : DataW.trod enc P w base sp held fuel t cs = some (.agg [Lib.tabData k r0, Lib.tabData k r1, Lib.tabData k r2], p)) : cs = (r0 ++ r1 ++ r2).map fun z => Value.int k z := by
  obtain ⟨xs, m, _, hx, hl, hxl, hall⟩ := DataW.trod_array ht h
  rw [hc9] at hl
  rw [hc3] at hall
  match xs, hxl with
  | [x0, x1, x2], _ =>
  simp only [Prod.mk.injEq, DataW.agg.injEq, List.map_cons, List.map_nil, List.cons.injEq, and_true] at hx
  obtain ⟨⟨e0, e1, e2⟩, _⟩ := hx
  obtain ⟨x0a, x0b⟩ := x0
  obtain ⟨x1a, x1b⟩ := x1
  obtain ⟨x2a, x2b⟩ := x2
  subst e0; subst e1; subst e2
  have a0 := Lib.cells_of_tab hte he hc1 hc3 (hall 0 (by omega))
  have a1 := Lib.cells_of_tab hte he hc1 hc3 (hall 1 (by omega))
  have a2 := Lib.cells_of_tab hte he hc1 hc3 (hall 2 (by omega))
  match cs, hl with
  | [c0, c1, c2, c3, c4, c5, c6, c7, c8], _ =>
  simp only [Nat.zero_mul, Nat.one_mul, List.drop_zero, List.drop_succ_cons, List.take_succ_cons, List.take_zero] at a0 a1 a2
  rw [List.map_append, List.map_append, ← a0, ← a1, ← a2]
  rfl
end Go.Proofs.YtgmencbhkkcpiaaGreatDoor
