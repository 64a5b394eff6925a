import Derived.Test.YtkfojbelnemhbaaGreatDoorArgX
import Derived.Deep.Strs
import Derived.Test.YtkfojbelnemhbaaGreatDoorHe
set_option maxRecDepth 100000
set_option linter.all false
namespace Go.Proofs.YtkfojbelnemhbaaGreatDoor.Ev
open Go Go.RowKit Go.ChangeShapes Go.WideShapes Go.ChangeAt Go.Deep
theorem okXP_mk {s1 s2 s3 s4 : Bool} {n1 n2 n3 n4 : Nat} {c1 c2 c3 c4 : List D} {e1 e2 e3 e4 : Int} (g1 : n1 ≤ 100000 → okC n1 c1) (h1 : -9223372036854775808 ≤ e1 ∧ e1 ≤ 9223372036854775807) (g2 : n2 ≤ 100000 → okC n2 c2) (h2 : -9223372036854775808 ≤ e2 ∧ e2 ≤ 9223372036854775807)
  (g3 : n3 ≤ 100000 → okC n3 c3) (h3 : -9223372036854775808 ≤ e3 ∧ e3 ≤ 9223372036854775807) (g4 : n4 ≤ 100000 → okC n4 c4) (h4 : -9223372036854775808 ≤ e4 ∧ e4 ≤ 9223372036854775807) :
  okXP (.agg [.bool s1, .sl n1 c1, .int .i64 e1, .bool s2, .sl n2 c2, .int .i64 e2, .bool s3, .sl n3 c3, .int .i64 e3, .bool s4, .sl n4 c4, .int .i64 e4]) := by
 unfold okXP; exact ⟨⟨⟨g1, h1⟩, g2, h2⟩, ⟨g3, h3⟩, g4, h4⟩
theorem argP_den {w : World} {A B A' B' : Option Addr} {n c m d n' c' m' d' : Nat} {zs ys zs' ys' : List Nat} (h : Arg w A n c zs) (k : Arg w B m d ys) (h' : Arg w A' n' c' zs') (k' : Arg w B' m' d' ys') (s t s' t' : Bool) (e f e' f' : Int) :
  den ⟨w, fun _ => False, fun _ => none⟩ (.agg [.bool s, .sl n (argC n zs), .int .i64 e, .bool t, .sl m (argC m ys), .int .i64 f, .bool s', .sl n' (argC n' zs'), .int .i64 e', .bool t', .sl m' (argC m' ys'), .int .i64 f'])
   (.agg #[.bool s, .slice A n c, .int .i64 e, .bool t, .slice B m d, .int .i64 f, .bool s', .slice A' n' c', .int .i64 e', .bool t', .slice B' m' d', .int .i64 f']) := by
 rw [den_agg]
 refine ⟨_, rfl, ?_⟩
 simp only [denL]
 exact ⟨_, _, rfl, by simp only [den], _, _, rfl, argC_den h, _, _, rfl, by simp only [den], _, _, rfl, by simp only [den], _, _, rfl, argC_den k, _, _, rfl, by simp only [den],
  _, _, rfl, by simp only [den], _, _, rfl, argC_den h', _, _, rfl, by simp only [den], _, _, rfl, by simp only [den], _, _, rfl, argC_den k', _, _, rfl, by simp only [den], rfl⟩
theorem open_G {H : Type} {enc : TypeId × Value → H} {W : World} {base : Nat} {v : Value} {d : DataW H} {p : List MemPlace} (hval : Value.okWide Tryz.prog W .any base 32 v) (h : DataW.Trod enc Tryz.prog W 0 (fun _ => true) true 32 v d p) :
  ∃ s A n c zs e t B m k ys f, v = .agg #[.bool s, .slice A n c, .int .i64 e, .bool t, .slice B m k, .int .i64 f] ∧ Arg W A n c zs ∧ (-9223372036854775808 ≤ e ∧ e ≤ 9223372036854775807) ∧ Arg W B m k ys ∧ -9223372036854775808 ≤ f ∧ f ≤ 9223372036854775807 := by
 obtain ⟨cs, rfl, hsz⟩ := okWide_struct Tryz.underlying32 hval
 rw [show Tryz.prog.cellsOf 32 = 6 from by kernel_rfl] at hsz
 obtain ⟨l⟩ := cs
 match l, hsz with
 | [c0, c1, c2, c3, c4, c5], _ =>
 obtain ⟨fuel, hf⟩ := h
 obtain ⟨z0, z1, m0, hx0, _, hz0, hz1⟩ := trod_struct2 Tryz.underlying32 hf
 have hcD : Tryz.prog.cellsOf 26 = 3 := by kernel_rfl
 rw [hcD] at hz0 hz1
 obtain ⟨s, A, n, c, zs, e, e1, w1, b1⟩ := open_Dc hz0
 obtain ⟨t, B, m, k, ys, f, e2, w2, b2⟩ := open_Dc hz1
 simp only [List.cons.injEq, and_true] at e1 e2
 obtain ⟨rfl, rfl, rfl⟩ := e1
 obtain ⟨rfl, rfl, rfl⟩ := e2
 exact ⟨_, _, _, _, _, _, _, _, _, _, _, _, rfl, w1, b1, w2, b2⟩
theorem open_Rc {H : Type} {enc : TypeId × Value → H} {W : World} {fuel : Nat} {c0 c1 c2 c3 c4 c5 : Value} {x : DataW H × List MemPlace} (hf : DataW.trod enc Tryz.prog W 0 (fun _ => true) true fuel 28 [c0, c1, c2, c3, c4, c5] = some x) :
  ∃ s A n c zs e t B m k ys f, [c0, c1, c2, c3, c4, c5] = [.bool s, .slice A n c, .int .i64 e, .bool t, .slice B m k, .int .i64 f] ∧ Arg W A n c zs ∧ (-9223372036854775808 ≤ e ∧ e ≤ 9223372036854775807) ∧ Arg W B m k ys ∧ -9223372036854775808 ≤ f ∧ f ≤ 9223372036854775807 := by
 obtain ⟨z0, z1, m0, hx0, _, hz0, hz1⟩ := trod_struct2 Tryz.underlying28 hf
 have hcD : Tryz.prog.cellsOf 26 = 3 := by kernel_rfl
 rw [hcD] at hz0 hz1
 obtain ⟨s, A, n, c, zs, e, e1, w1, b1⟩ := open_Dc hz0
 obtain ⟨t, B, m, k, ys, f, e2, w2, b2⟩ := open_Dc hz1
 simp only [List.cons.injEq, and_true] at e1 e2
 obtain ⟨rfl, rfl, rfl⟩ := e1
 obtain ⟨rfl, rfl, rfl⟩ := e2
 exact ⟨_, _, _, _, _, _, _, _, _, _, _, _, rfl, w1, b1, w2, b2⟩
theorem open_P {H : Type} {enc : TypeId × Value → H} {W : World} {base : Nat} {v : Value} {d : DataW H} {p : List MemPlace} (hval : Value.okWide Tryz.prog W .any base 30 v) (h : DataW.Trod enc Tryz.prog W 0 (fun _ => true) true 30 v d p) :
  ∃ s A n c zs e t B m k ys f s' A' n' c' zs' e' t' B' m' k' ys' f', v = .agg #[.bool s, .slice A n c, .int .i64 e, .bool t, .slice B m k, .int .i64 f, .bool s', .slice A' n' c', .int .i64 e', .bool t', .slice B' m' k', .int .i64 f'] ∧
   (Arg W A n c zs ∧ (-9223372036854775808 ≤ e ∧ e ≤ 9223372036854775807) ∧ Arg W B m k ys ∧ -9223372036854775808 ≤ f ∧ f ≤ 9223372036854775807) ∧
   Arg W A' n' c' zs' ∧ (-9223372036854775808 ≤ e' ∧ e' ≤ 9223372036854775807) ∧ Arg W B' m' k' ys' ∧ -9223372036854775808 ≤ f' ∧ f' ≤ 9223372036854775807 := by
 obtain ⟨cs, rfl, hsz⟩ := okWide_struct Tryz.underlying30 hval
 rw [show Tryz.prog.cellsOf 30 = 12 from by kernel_rfl] at hsz
 obtain ⟨l⟩ := cs
 match l, hsz with
 | [c0, c1, c2, c3, c4, c5, c6, c7, c8, c9, c10, c11], _ =>
 obtain ⟨fuel, hf⟩ := h
 obtain ⟨z0, z1, m0, hx0, _, hz0, hz1⟩ := trod_struct2 Tryz.underlying30 hf
 have hcR : Tryz.prog.cellsOf 28 = 6 := by kernel_rfl
 rw [hcR] at hz0 hz1
 obtain ⟨s, A, n, c, zs, e, t, B, m, k, ys, f, e1, w1⟩ := open_Rc hz0
 obtain ⟨s', A', n', c', zs', e', t', B', m', k', ys', f', e2, w2⟩ := open_Rc hz1
 simp only [List.cons.injEq, and_true] at e1 e2
 obtain ⟨rfl, rfl, rfl, rfl, rfl, rfl⟩ := e1
 obtain ⟨rfl, rfl, rfl, rfl, rfl, rfl⟩ := e2
 exact ⟨_, _, _, _, _, _, _, _, _, _, _, _, _, _, _, _, _, _, _, _, _, _, _, _, rfl, w1, w2⟩
section
variable {H : Type} {enc : TypeId × Value → H} {w : World} {base : Nat} {sp : Nat → Bool} {held : Bool} {fuel : Nat} {cs : List Value} {p : List MemPlace}
theorem cells_sum {a b c d : Int} {e : Bool} (h : DataW.trod enc Tryz.prog w base sp held fuel 103 cs = some (.agg [.agg [.lit (.int .i64 a), .lit (.int .i64 b)], .agg [.lit (.int .i64 c), .lit (.int .i64 d)], .lit (.bool e)], p)) : cs = [.int .i64 a, .int .i64 b, .int .i64 c, .int .i64 d, .bool e] := by
 obtain ⟨y0, y1, y2, m, hx, hl, h0, h1, h2⟩ := trod_struct3 Tryz.underlying103 h
 obtain ⟨y0, j0⟩ := y0
 obtain ⟨y1, j1⟩ := y1
 obtain ⟨y2, j2⟩ := y2
 simp only [Prod.mk.injEq, DataW.agg.injEq, List.cons.injEq, and_true] at hx
 obtain ⟨⟨rfl, rfl, rfl⟩, _⟩ := hx
 have cT : Tryz.prog.cellsOf 101 = 2 := by kernel_rfl
 have cB : Tryz.prog.cellsOf 4 = 1 := by kernel_rfl
 have cS : Tryz.prog.cellsOf 103 = 5 := by kernel_rfl
 rw [cS] at hl
 rw [cT] at h0 h1
 rw [cB] at h2
 have a0 := cells_c Tryz.underlying101 rfl rfl rfl rfl Tryz.underlying3 (by kernel_rfl) (by kernel_rfl) h0
 have a1 := cells_c Tryz.underlying101 rfl rfl rfl rfl Tryz.underlying3 (by kernel_rfl) (by kernel_rfl) h1
 obtain ⟨bb, e0, e1⟩ := DataW.trod_bool Tryz.underlying4 h2
 simp only [Prod.mk.injEq, DataW.lit.injEq, Lit.bool.injEq] at e1
 obtain ⟨rfl, _⟩ := e1
 match cs, hl with
 | [c0, c1, c2, c3, c4], _ =>
  simp at a0 a1 e0
  obtain ⟨rfl, rfl⟩ := a0
  obtain ⟨rfl, rfl⟩ := a1
  subst e0
  rfl
theorem cells_rp (h : DataW.trod enc Tryz.prog w base sp held fuel 104 cs = some (.agg [.agg [.agg [.lit (.int .i64 0), .lit (.int .i64 0)], .agg [.lit (.int .i64 1), .lit (.int .i64 1)], .lit (.bool true)], .agg [.agg [.lit (.int .i64 0), .lit (.int .i64 1)], .agg [.lit (.int .i64 1), .lit (.int .i64 0)], .lit (.bool false)]], p)) : cs = rectL := by
 obtain ⟨xs, m, _, hx, hl, hxl, hall⟩ := DataW.trod_array Tryz.underlying104 h
 rw [show Tryz.prog.cellsOf 104 = 10 by kernel_rfl] at hl
 rw [show Tryz.prog.cellsOf 103 = 5 by kernel_rfl] at hall
 match xs, hxl with
 | [x0, x1], _ =>
 simp only [Prod.mk.injEq, DataW.agg.injEq, List.map_cons, List.map_nil, List.cons.injEq, and_true] at hx
 obtain ⟨⟨e0, e1⟩, _⟩ := hx
 obtain ⟨x0a, x0b⟩ := x0
 obtain ⟨x1a, x1b⟩ := x1
 subst e0; subst e1
 have a0 := cells_sum (hall 0 (by omega))
 have a1 := cells_sum (hall 1 (by omega))
 match cs, hl with
 | [c0, c1, c2, c3, c4, c5, c6, c7, c8, c9], _ =>
  simp at a0 a1
  obtain ⟨rfl, rfl, rfl, rfl, rfl⟩ := a0
  obtain ⟨rfl, rfl, rfl, rfl, rfl⟩ := a1
  rfl
end
end Go.Proofs.YtkfojbelnemhbaaGreatDoor.Ev
