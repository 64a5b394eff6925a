import Derived.Test.YtkfojbelnemhbaaGreatDoorXa
import Derived.Test.YtkfojbelnemhbaaGreatDoorEw1
set_option maxRecDepth 100000
set_option linter.all false
namespace Go.Proofs.YtkfojbelnemhbaaGreatDoor.Ev
open Go Go.RowKit Go.ChangeShapes Go.WideShapes Go.ChangeAt
theorem argX_den {w : World} {A B : Option Addr} {n c m d : Nat} {zs ys : List Nat} (h : Arg w A n c zs) (k : Arg w B m d ys) (s t : Bool) (e f : Int) :
  den ⟨w, fun _ => False, fun _ => none⟩ (.agg [.bool s, .sl n (argC n zs), .int .i64 e, .bool t, .sl m (argC m ys), .int .i64 f]) (.agg #[.bool s, .slice A n c, .int .i64 e, .bool t, .slice B m d, .int .i64 f]) := by
 rw [den_agg]
 refine ⟨_, rfl, ?_⟩
 simp only [denL]
 exact ⟨_, _, rfl, by simp only [den], _, _, rfl, argC_den h, _, _, rfl, by simp only [den], _, _, rfl, by simp only [den], _, _, rfl, argC_den k, _, _, rfl, by simp only [den], rfl⟩
theorem open_Dc {H : Type} {enc : TypeId × Value → H} {W : World} {fuel : Nat} {c0 c1 c2 : Value} {x : DataW H × List MemPlace} (hf : DataW.trod enc Tryz.prog W 0 (fun _ => true) true fuel 26 [c0, c1, c2] = some x) :
  ∃ s A n c zs e, [c0, c1, c2] = [.bool s, .slice A n c, .int .i64 e] ∧ Arg W A n c zs ∧ -9223372036854775808 ≤ e ∧ e ≤ 9223372036854775807 := by
 obtain ⟨z0, z1, m0, hx0, _, hz0, hz1⟩ := trod_struct2 Tryz.underlying26 hf
 have hcI : Tryz.prog.cellsOf 24 = 2 := by kernel_rfl
 have hcE : Tryz.prog.cellsOf 3 = 1 := by kernel_rfl
 obtain ⟨ee, e2, _, hw⟩ := DataW.trod_int Tryz.underlying3 hz1
 rw [hcE] at e2
 simp at e2
 subst e2
 rw [hcI] at hz0
 obtain ⟨y0, y1, m, hx, _, hy0, hy1⟩ := trod_struct2 Tryz.underlying24 hz0
 obtain ⟨b, e0, _⟩ := DataW.trod_bool Tryz.underlying4 hy0
 have hc0 : Tryz.prog.cellsOf 4 = 1 := by kernel_rfl
 have hc1 : Tryz.prog.cellsOf 22 = 1 := by kernel_rfl
 rw [hc0] at e0
 simp at e0
 subst e0
 have hbd := bounds_i64 hw
 rcases open_ints Tryz.underlying22 Tryz.underlying145 (by kernel_rfl) hy1 with ⟨hcs, _⟩ | ⟨x, ln, c, zs, hcs, _, hl, hm, hz, _, hcell, hwz⟩
 ·rw [hc1] at hcs
  simp at hcs
  subst hcs
  exact ⟨b, none, 0, 0, [], _, rfl, Arg.none W, hbd⟩
 ·rw [hc1] at hcs
  simp at hcs
  subst hcs
  exact ⟨b, some x, ln, c, _, _, rfl, Arg.of_ints hl (by simpa using hz) hcell hwz, hbd⟩
section
variable {H : Type} {enc : TypeId × Value → H} {P : Program} {w : World} {base : Nat} {sp : Nat → Bool} {held : Bool} {fuel : Nat} {cs : List Value} {p : List MemPlace}
theorem cells_c {t e : TypeId} {f0 f1 : Field} {k : IntKind} {a b : Int} (ht : P.underlying t = some (.struct #[f0, f1])) (h0 : f0.type = e) (h1 : f1.type = e) (o0 : f0.offset = 0) (o1 : f1.offset = 1) (he : P.underlying e = some (.int k)) (hc : P.cellsOf e = 1) (hct : P.cellsOf t = 2)
  (h : DataW.trod enc P w base sp held fuel t cs = some (.agg [.lit (.int k a), .lit (.int k b)], p)) : cs = [.int k a, .int k b] := by
 obtain ⟨z0, z1, m0, hx, hl, hz0, hz1⟩ := trod_struct2 ht h
 rw [h0, o0, hc] at hz0
 rw [h1, o1, hc] at hz1
 rw [hct] at hl
 obtain ⟨x, e1, e2, _⟩ := DataW.trod_int he hz0
 obtain ⟨y, e3, e4, _⟩ := DataW.trod_int he hz1
 subst e2; subst e4
 simp only [Prod.mk.injEq, DataW.agg.injEq, List.cons.injEq, and_true, DataW.lit.injEq, Lit.int.injEq, true_and] at hx
 obtain ⟨⟨rfl, rfl⟩, _⟩ := hx
 match cs, hl with
 | [c0, c1], _ =>
  simp at e1 e3
  rw [e1, e3]
theorem cells_cs {t u e : TypeId} {f0 f1 g0 g1 : Field} {k : IntKind} {a b c d : Int} (ht : P.underlying t = some (.struct #[g0, g1])) (h2 : g0.type = u) (h3 : g1.type = u) (q0 : g0.offset = 0) (q1 : g1.offset = 2) (hu : P.underlying u = some (.struct #[f0, f1])) (h0 : f0.type = e) (h1 : f1.type = e) (o0 : f0.offset = 0) (o1 : f1.offset = 1) (he : P.underlying e = some (.int k)) (hc : P.cellsOf e = 1) (hcu : P.cellsOf u = 2) (hct : P.cellsOf t = 4)
  (h : DataW.trod enc P w base sp held fuel t cs = some (.agg [.agg [.lit (.int k a), .lit (.int k b)], .agg [.lit (.int k c), .lit (.int k d)]], p)) : cs = [.int k a, .int k b, .int k c, .int k d] := by
 obtain ⟨z0, z1, m0, hx, hl, hz0, hz1⟩ := trod_struct2 ht h
 rw [h2, q0, hcu] at hz0
 rw [h3, q1, hcu] at hz1
 rw [hct] at hl
 obtain ⟨y0, j0⟩ := z0
 obtain ⟨y1, j1⟩ := z1
 simp only [Prod.mk.injEq, DataW.agg.injEq, List.cons.injEq, and_true] at hx
 obtain ⟨⟨rfl, rfl⟩, _⟩ := hx
 have a0 := cells_c hu h0 h1 o0 o1 he hc hcu hz0
 have a1 := cells_c hu h0 h1 o0 o1 he hc hcu hz1
 match cs, hl with
 | [c0, c1, c2, c3], _ =>
  simp at a0 a1
  obtain ⟨rfl, rfl⟩ := a0
  obtain ⟨rfl, rfl⟩ := a1
  rfl
theorem cells_a3 {t u : TypeId} {n : Nat} {d0 d1 d2 : DataW H} {l0 l1 l2 : List Value} (ht : P.underlying t = some (.array 3 u)) (hcu : P.cellsOf u = n) (hct : P.cellsOf t = 3 * n)
  (k : ∀ {fuel : Nat} {cs : List Value} {p : List MemPlace}, (DataW.trod enc P w base sp held fuel u cs = some (d0, p) → cs = l0) ∧ (DataW.trod enc P w base sp held fuel u cs = some (d1, p) → cs = l1) ∧ (DataW.trod enc P w base sp held fuel u cs = some (d2, p) → cs = l2))
  (h : DataW.trod enc P w base sp held fuel t cs = some (.agg [d0, d1, d2], p)) : cs = l0 ++ l1 ++ l2 := by
 obtain ⟨xs, m, _, hx, hl, hxl, hall⟩ := DataW.trod_array ht h
 rw [hct] at hl
 rw [hcu] at hall
 match xs, hxl with
 | [x0, x1, x2], _ =>
 simp only [Prod.mk.injEq, DataW.agg.injEq, List.map_cons, List.map_nil, List.cons.injEq, and_true] at hx
 obtain ⟨⟨e0, e1, e2⟩, _⟩ := hx
 obtain ⟨x0a, x0b⟩ := x0
 obtain ⟨x1a, x1b⟩ := x1
 obtain ⟨x2a, x2b⟩ := x2
 subst e0; subst e1; subst e2
 have a0 := k.1 (hall 0 (by omega))
 have a1 := k.2.1 (hall 1 (by omega))
 have a2 := k.2.2 (hall 2 (by omega))
 simp only [Nat.zero_mul, Nat.one_mul, List.drop_zero] at a0 a1 a2
 rw [← a0, ← a1, ← a2]
 have h2 : (cs.drop (2 * n)).take n = cs.drop (2 * n) := List.take_of_length_le (by rw [List.length_drop, hl]; omega)
 rw [h2, show cs.drop (2 * n) = (cs.drop n).drop n by rw [List.drop_drop]; congr 1; omega, List.append_assoc, List.take_append_drop, List.take_append_drop]
end
end Go.Proofs.YtkfojbelnemhbaaGreatDoor.Ev
