/- What an argument that is an Int reads as; the tables of package whole as a row lists them. -/
import Derived.Test.YtgmencbhkkcpiaaDoorLb
import Derived.Test.YtgmencbhkkcpiaaDoorWa
import Derived.Lib.LaidTab
import Derived.OpenShut
import Derived.ProofKit
import Derived.LaidMore
import Derived.Stop.Joined
import Derived.SevenTiedAt
namespace Go.Proofs.YtgmencbhkkcpiaaDoor
open Go Go.RowKit Go.ChangeShapes Go.WideShapes Go.ChangeAt

set_option maxRecDepth 100000 in
theorem open_I {H : Type} {enc : TypeId × Value → H} {W : World} {base : Nat} {v : Value} {d : DataW H} {p : List MemPlace} (hval : Value.okWide Tryd.prog W .any base 24 v) (h : DataW.Trod enc Tryd.prog W 0 (fun _ => true) true 24 v d p) :
    ∃ s A n c zs, v = .agg #[.bool s, .slice A n c] ∧ Arg W A n c zs := by
  obtain ⟨cs, rfl, hsz⟩ := okWide_struct Tryd.underlying24 hval
  rw [show Tryd.prog.cellsOf 24 = 2 from by kernel_rfl] at hsz
  obtain ⟨l⟩ := cs
  match l, hsz with
  | [c0, c1], _ =>
  obtain ⟨fuel, hf⟩ := h
  obtain ⟨y0, y1, m, hx, _, hy0, hy1⟩ := trod_struct2 Tryd.underlying24 hf
  obtain ⟨b, e0, _⟩ := DataW.trod_bool Tryd.underlying4 hy0
  have hc0 : Tryd.prog.cellsOf 4 = 1 := by kernel_rfl
  have hc1 : Tryd.prog.cellsOf 22 = 1 := by kernel_rfl
  rw [hc0] at e0
  simp [Value.cells] at e0
  subst e0
  rcases open_ints Tryd.underlying22 Tryd.underlying49 (by kernel_rfl) hy1 with ⟨hcs, _⟩ | ⟨x, ln, c, zs, hcs, _, hl, hm, hz, _, hcell, hwz⟩
  · rw [hc1] at hcs
    simp [Value.cells] at hcs
    subst hcs
    exact ⟨b, none, 0, 0, [], rfl, Arg.none W⟩
  · rw [hc1] at hcs
    simp [Value.cells] at hcs
    subst hcs
    exact ⟨b, some x, ln, c, _, rfl, Arg.of_ints hl (by simpa using hz) hcell hwz⟩

theorem vars_read {P : Program} {w : World} : ∀ {l : List (String × DataW Unit)} {ps : List MemPlace}, DataW.LaidVars P w l ps → ∀ n d, (n, d) ∈ l →
    ∃ g t cs fuel p, P.globalNamed n = some g ∧ (P.globals[g]?).map (·.type) = some t ∧ w.var? P n = some cs ∧ DataW.trod (fun _ => ()) P w 0 (fun _ => true) false fuel t cs.toList = some (d, p)
  | [], _, _, _, _, hm => by cases hm
  | (n', d') :: r, ps, h, n, d, hm => by
    obtain ⟨g, t, cs, fuel, p, q, h1, h2, h3, h4, h5, _⟩ := h
    rcases List.mem_cons.1 hm with e | e
    · cases e
      exact ⟨g, t, cs, fuel, p, h1, h2, h3, h4⟩
    · exact vars_read h5 n d e
end Go.Proofs.YtgmencbhkkcpiaaDoor
