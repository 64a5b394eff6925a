import Derived.Test.YtnjjfakjnkhhjaaGreatDoorJs
import Derived.Test.YtnjjfakjnkhhjaaGreatDoorJk
set_option maxRecDepth 100000
set_option linter.all false
namespace Go.Proofs.YtnjjfakjnkhhjaaGreatDoor.Ev
open Go Go.RowKit Go.ChangeShapes Go.WideShapes Go.ChangeAt
theorem argX_den {w : World} {A B : Option Addr} {n c m d : Nat} {zs ys : List Nat} (h : Arg w A n c zs) (k : Arg w B m d ys) (s t : Bool) (e f : Int) :
  den ⟨w, fun _ => False, fun _ => none⟩ (.agg [.bool s, .sl n (argC n zs), .int .i64 e, .bool t, .sl m (argC m ys), .int .i64 f]) (.agg #[.bool s, .slice A n c, .int .i64 e, .bool t, .slice B m d, .int .i64 f]) := by
 rw [den_agg]
 refine ⟨_, rfl, ?_⟩
 simp only [denL]
 exact ⟨_, _, rfl, by simp only [den], _, _, rfl, argC_den h, _, _, rfl, by simp only [den], _, _, rfl, by simp only [den], _, _, rfl, argC_den k, _, _, rfl, by simp only [den], rfl⟩
theorem open_Dc {H : Type} {enc : TypeId × Value → H} {W : World} {fuel : Nat} {c0 c1 c2 : Value} {x : DataW H × List MemPlace} (hf : DataW.trod enc Tryz.prog W 0 (fun _ => true) true fuel 26 [c0, c1, c2] = some x) :
  ∃ s A n c zs e, [c0, c1, c2] = [.bool s, .slice A n c, .int .i64 e] ∧ Arg W A n c zs ∧ -9223372036854775808 ≤ e ∧ e ≤ 9223372036854775807 := by
 obtain ⟨z0, z1, m0, hx0, _, hz0, hz1⟩ := trod_struct2 Tryz.underlying26 hf
 have hcI : Tryz.prog.cellsOf 24 = 2 := by kernel_rfl
 have hcE : Tryz.prog.cellsOf 3 = 1 := by kernel_rfl
 obtain ⟨ee, e2, _, hw⟩ := DataW.trod_int Tryz.underlying3 hz1
 rw [hcE] at e2
 simp at e2
 subst e2
 rw [hcI] at hz0
 obtain ⟨y0, y1, m, hx, _, hy0, hy1⟩ := trod_struct2 Tryz.underlying24 hz0
 obtain ⟨b, e0, _⟩ := DataW.trod_bool Tryz.underlying4 hy0
 have hc0 : Tryz.prog.cellsOf 4 = 1 := by kernel_rfl
 have hc1 : Tryz.prog.cellsOf 22 = 1 := by kernel_rfl
 rw [hc0] at e0
 simp at e0
 subst e0
 have hbd := bounds_i64 hw
 rcases open_ints Tryz.underlying22 Tryz.underlying124 (by kernel_rfl) hy1 with ⟨hcs, _⟩ | ⟨x, ln, c, zs, hcs, _, hl, hm, hz, _, hcell, hwz⟩
 ·rw [hc1] at hcs
  simp at hcs
  subst hcs
  exact ⟨b, none, 0, 0, [], _, rfl, Arg.none W, hbd⟩
 ·rw [hc1] at hcs
  simp at hcs
  subst hcs
  exact ⟨b, some x, ln, c, _, _, rfl, Arg.of_ints hl (by simpa using hz) hcell hwz, hbd⟩
theorem open_G {H : Type} {enc : TypeId × Value → H} {W : World} {base : Nat} {v : Value} {d : DataW H} {p : List MemPlace} (hval : Value.okWide Tryz.prog W .any base 28 v) (h : DataW.Trod enc Tryz.prog W 0 (fun _ => true) true 28 v d p) :
  ∃ s A n c zs e t B m k ys f, v = .agg #[.bool s, .slice A n c, .int .i64 e, .bool t, .slice B m k, .int .i64 f] ∧ Arg W A n c zs ∧ (-9223372036854775808 ≤ e ∧ e ≤ 9223372036854775807) ∧ Arg W B m k ys ∧ -9223372036854775808 ≤ f ∧ f ≤ 9223372036854775807 := by
 obtain ⟨cs, rfl, hsz⟩ := okWide_struct Tryz.underlying28 hval
 rw [show Tryz.prog.cellsOf 28 = 6 from by kernel_rfl] at hsz
 obtain ⟨l⟩ := cs
 match l, hsz with
 | [c0, c1, c2, c3, c4, c5], _ =>
 obtain ⟨fuel, hf⟩ := h
 obtain ⟨z0, z1, m0, hx0, _, hz0, hz1⟩ := trod_struct2 Tryz.underlying28 hf
 have hcD : Tryz.prog.cellsOf 26 = 3 := by kernel_rfl
 rw [hcD] at hz0 hz1
 obtain ⟨s, A, n, c, zs, e, e1, w1, b1⟩ := open_Dc hz0
 obtain ⟨t, B, m, k, ys, f, e2, w2, b2⟩ := open_Dc hz1
 simp only [List.cons.injEq, and_true] at e1 e2
 obtain ⟨rfl, rfl, rfl⟩ := e1
 obtain ⟨rfl, rfl, rfl⟩ := e2
 exact ⟨_, _, _, _, _, _, _, _, _, _, _, _, rfl, w1, b1, w2, b2⟩
section
variable {H : Type} {enc : TypeId × Value → H} {P : Program} {w : World} {base : Nat} {sp : Nat → Bool} {held : Bool} {fuel : Nat} {cs : List Value} {p : List MemPlace}
theorem cells_c {t e : TypeId} {f0 f1 : Field} {k : IntKind} {a b : Int} (ht : P.underlying t = some (.struct #[f0, f1])) (h0 : f0.type = e) (h1 : f1.type = e) (o0 : f0.offset = 0) (o1 : f1.offset = 1) (he : P.underlying e = some (.int k)) (hc : P.cellsOf e = 1) (hct : P.cellsOf t = 2)
  (h : DataW.trod enc P w base sp held fuel t cs = some (.agg [.lit (.int k a), .lit (.int k b)], p)) : cs = [.int k a, .int k b] := by
 obtain ⟨z0, z1, m0, hx, hl, hz0, hz1⟩ := trod_struct2 ht h
 rw [h0, o0, hc] at hz0
 rw [h1, o1, hc] at hz1
 rw [hct] at hl
 obtain ⟨x, e1, e2, _⟩ := DataW.trod_int he hz0
 obtain ⟨y, e3, e4, _⟩ := DataW.trod_int he hz1
 subst e2; subst e4
 simp only [Prod.mk.injEq, DataW.agg.injEq, List.cons.injEq, and_true, DataW.lit.injEq, Lit.int.injEq, true_and] at hx
 obtain ⟨⟨rfl, rfl⟩, _⟩ := hx
 match cs, hl with
 | [c0, c1], _ =>
  simp at e1 e3
  rw [e1, e3]
theorem cells_a3 {t u : TypeId} {n : Nat} {d0 d1 d2 : DataW H} {l0 l1 l2 : List Value} (ht : P.underlying t = some (.array 3 u)) (hcu : P.cellsOf u = n) (hct : P.cellsOf t = 3 * n)
  (k : ∀ {fuel : Nat} {cs : List Value} {p : List MemPlace}, (DataW.trod enc P w base sp held fuel u cs = some (d0, p) → cs = l0) ∧ (DataW.trod enc P w base sp held fuel u cs = some (d1, p) → cs = l1) ∧ (DataW.trod enc P w base sp held fuel u cs = some (d2, p) → cs = l2))
  (h : DataW.trod enc P w base sp held fuel t cs = some (.agg [d0, d1, d2], p)) : cs = l0 ++ l1 ++ l2 := by
 obtain ⟨xs, m, _, hx, hl, hxl, hall⟩ := DataW.trod_array ht h
 rw [hct] at hl
 rw [hcu] at hall
 match xs, hxl with
 | [x0, x1, x2], _ =>
 simp only [Prod.mk.injEq, DataW.agg.injEq, List.map_cons, List.map_nil, List.cons.injEq, and_true] at hx
 obtain ⟨⟨e0, e1, e2⟩, _⟩ := hx
 obtain ⟨x0a, x0b⟩ := x0
 obtain ⟨x1a, x1b⟩ := x1
 obtain ⟨x2a, x2b⟩ := x2
 subst e0; subst e1; subst e2
 have a0 := k.1 (hall 0 (by omega))
 have a1 := k.2.1 (hall 1 (by omega))
 have a2 := k.2.2 (hall 2 (by omega))
 simp only [Nat.zero_mul, Nat.one_mul, List.drop_zero] at a0 a1 a2
 rw [← a0, ← a1, ← a2]
 have h2 : (cs.drop (2 * n)).take n = cs.drop (2 * n) := List.take_of_length_le (by rw [List.length_drop, hl]; omega)
 rw [h2, show cs.drop (2 * n) = (cs.drop n).drop n by rw [List.drop_drop]; congr 1; omega, List.append_assoc, List.take_append_drop, List.take_append_drop]
end
theorem okXD_mk {s1 s2 s3 : Bool} {n1 n2 n3 : Nat} {c1 c2 c3 : List D} {e1 e2 e3 : Int} (g1 : n1 ≤ 100000 → okC n1 c1) (h1 : -9223372036854775808 ≤ e1 ∧ e1 ≤ 9223372036854775807) (g2 : n2 ≤ 100000 → okC n2 c2) (h2 : -9223372036854775808 ≤ e2 ∧ e2 ≤ 9223372036854775807)
  (g3 : n3 ≤ 100000 → okC n3 c3) (h3 : -9223372036854775808 ≤ e3 ∧ e3 ≤ 9223372036854775807) : okXD (.agg [.bool s1, .sl n1 c1, .int .i64 e1, .bool s2, .sl n2 c2, .int .i64 e2, .bool s3, .sl n3 c3, .int .i64 e3]) := by
 unfold okXD; exact ⟨⟨g1, h1⟩, ⟨g2, h2⟩, g3, h3⟩
theorem argE_den {w : World} {A B A' : Option Addr} {n c m d n' c' : Nat} {zs ys zs' : List Nat} (h : Arg w A n c zs) (k : Arg w B m d ys) (h' : Arg w A' n' c' zs') (s t s' : Bool) (e f e' : Int) :
  den ⟨w, fun _ => False, fun _ => none⟩ (.agg [.bool s, .sl n (argC n zs), .int .i64 e, .bool t, .sl m (argC m ys), .int .i64 f, .bool s', .sl n' (argC n' zs'), .int .i64 e'])
   (.agg #[.bool s, .slice A n c, .int .i64 e, .bool t, .slice B m d, .int .i64 f, .bool s', .slice A' n' c', .int .i64 e']) := by
 rw [den_agg]
 refine ⟨_, rfl, ?_⟩
 simp only [denL]
 exact ⟨_, _, rfl, by simp only [den], _, _, rfl, argC_den h, _, _, rfl, by simp only [den], _, _, rfl, by simp only [den], _, _, rfl, argC_den k, _, _, rfl, by simp only [den],
  _, _, rfl, by simp only [den], _, _, rfl, argC_den h', _, _, rfl, by simp only [den], rfl⟩
theorem open_Gc {H : Type} {enc : TypeId × Value → H} {W : World} {fuel : Nat} {c0 c1 c2 c3 c4 c5 : Value} {x : DataW H × List MemPlace} (hf : DataW.trod enc Tryz.prog W 0 (fun _ => true) true fuel 28 [c0, c1, c2, c3, c4, c5] = some x) :
  ∃ s A n c zs e t B m k ys f, [c0, c1, c2, c3, c4, c5] = [.bool s, .slice A n c, .int .i64 e, .bool t, .slice B m k, .int .i64 f] ∧ Arg W A n c zs ∧ (-9223372036854775808 ≤ e ∧ e ≤ 9223372036854775807) ∧ Arg W B m k ys ∧ -9223372036854775808 ≤ f ∧ f ≤ 9223372036854775807 := by
 obtain ⟨z0, z1, m0, hx0, _, hz0, hz1⟩ := trod_struct2 Tryz.underlying28 hf
 have hcD : Tryz.prog.cellsOf 26 = 3 := by kernel_rfl
 rw [hcD] at hz0 hz1
 obtain ⟨s, A, n, c, zs, e, e1, w1, b1⟩ := open_Dc hz0
 obtain ⟨t, B, m, k, ys, f, e2, w2, b2⟩ := open_Dc hz1
 simp only [List.cons.injEq, and_true] at e1 e2
 obtain ⟨rfl, rfl, rfl⟩ := e1
 obtain ⟨rfl, rfl, rfl⟩ := e2
 exact ⟨_, _, _, _, _, _, _, _, _, _, _, _, rfl, w1, b1, w2, b2⟩
theorem open_E {H : Type} {enc : TypeId × Value → H} {W : World} {base : Nat} {v : Value} {d : DataW H} {p : List MemPlace} (hval : Value.okWide Tryz.prog W .any base 30 v) (h : DataW.Trod enc Tryz.prog W 0 (fun _ => true) true 30 v d p) :
  ∃ s A n c zs e t B m k ys f s' A' n' c' zs' e', v = .agg #[.bool s, .slice A n c, .int .i64 e, .bool t, .slice B m k, .int .i64 f, .bool s', .slice A' n' c', .int .i64 e'] ∧
   (Arg W A n c zs ∧ (-9223372036854775808 ≤ e ∧ e ≤ 9223372036854775807) ∧ Arg W B m k ys ∧ -9223372036854775808 ≤ f ∧ f ≤ 9223372036854775807) ∧
   Arg W A' n' c' zs' ∧ -9223372036854775808 ≤ e' ∧ e' ≤ 9223372036854775807 := by
 obtain ⟨cs, rfl, hsz⟩ := okWide_struct Tryz.underlying30 hval
 rw [show Tryz.prog.cellsOf 30 = 9 from by kernel_rfl] at hsz
 obtain ⟨l⟩ := cs
 match l, hsz with
 | [c0, c1, c2, c3, c4, c5, c6, c7, c8], _ =>
 obtain ⟨fuel, hf⟩ := h
 obtain ⟨z0, z1, m0, hx0, _, hz0, hz1⟩ := trod_struct2 Tryz.underlying30 hf
 have hcR : Tryz.prog.cellsOf 28 = 6 := by kernel_rfl
 have hcD : Tryz.prog.cellsOf 26 = 3 := by kernel_rfl
 rw [hcR] at hz0
 rw [hcD] at hz1
 obtain ⟨s, A, n, c, zs, e, t, B, m, k, ys, f, e1, w1⟩ := open_Gc hz0
 obtain ⟨s', A', n', c', zs', e', e2, w2⟩ := open_Dc hz1
 simp only [List.cons.injEq, and_true] at e1 e2
 obtain ⟨rfl, rfl, rfl, rfl, rfl, rfl⟩ := e1
 obtain ⟨rfl, rfl, rfl⟩ := e2
 exact ⟨_, _, _, _, _, _, _, _, _, _, _, _, _, _, _, _, _, _, rfl, w1, w2⟩
end Go.Proofs.YtnjjfakjnkhhjaaGreatDoor.Ev
namespace Go.Proofs.YtnjjfakjnkhhjaaGreatDoor.Ev
open Go Go.RowKit Go.ChangeShapes Go.WideShapes Go.ChangeAt
theorem okXP_mk {s1 s2 s3 s4 : Bool} {n1 n2 n3 n4 : Nat} {c1 c2 c3 c4 : List D} {e1 e2 e3 e4 : Int} (g1 : n1 ≤ 100000 → okC n1 c1) (h1 : -9223372036854775808 ≤ e1 ∧ e1 ≤ 9223372036854775807) (g2 : n2 ≤ 100000 → okC n2 c2) (h2 : -9223372036854775808 ≤ e2 ∧ e2 ≤ 9223372036854775807)
  (g3 : n3 ≤ 100000 → okC n3 c3) (h3 : -9223372036854775808 ≤ e3 ∧ e3 ≤ 9223372036854775807) (g4 : n4 ≤ 100000 → okC n4 c4) (h4 : -9223372036854775808 ≤ e4 ∧ e4 ≤ 9223372036854775807) :
  okXP (.agg [.bool s1, .sl n1 c1, .int .i64 e1, .bool s2, .sl n2 c2, .int .i64 e2, .bool s3, .sl n3 c3, .int .i64 e3, .bool s4, .sl n4 c4, .int .i64 e4]) := by
 unfold okXP; exact ⟨⟨⟨g1, h1⟩, g2, h2⟩, ⟨g3, h3⟩, g4, h4⟩
theorem argP_den {w : World} {A B A' B' : Option Addr} {n c m d n' c' m' d' : Nat} {zs ys zs' ys' : List Nat} (h : Arg w A n c zs) (k : Arg w B m d ys) (h' : Arg w A' n' c' zs') (k' : Arg w B' m' d' ys') (s t s' t' : Bool) (e f e' f' : Int) :
  den ⟨w, fun _ => False, fun _ => none⟩ (.agg [.bool s, .sl n (argC n zs), .int .i64 e, .bool t, .sl m (argC m ys), .int .i64 f, .bool s', .sl n' (argC n' zs'), .int .i64 e', .bool t', .sl m' (argC m' ys'), .int .i64 f'])
   (.agg #[.bool s, .slice A n c, .int .i64 e, .bool t, .slice B m d, .int .i64 f, .bool s', .slice A' n' c', .int .i64 e', .bool t', .slice B' m' d', .int .i64 f']) := by
 rw [den_agg]
 refine ⟨_, rfl, ?_⟩
 simp only [denL]
 exact ⟨_, _, rfl, by simp only [den], _, _, rfl, argC_den h, _, _, rfl, by simp only [den], _, _, rfl, by simp only [den], _, _, rfl, argC_den k, _, _, rfl, by simp only [den],
  _, _, rfl, by simp only [den], _, _, rfl, argC_den h', _, _, rfl, by simp only [den], _, _, rfl, by simp only [den], _, _, rfl, argC_den k', _, _, rfl, by simp only [den], rfl⟩
theorem open_Rc {H : Type} {enc : TypeId × Value → H} {W : World} {fuel : Nat} {c0 c1 c2 c3 c4 c5 : Value} {x : DataW H × List MemPlace} (hf : DataW.trod enc Tryz.prog W 0 (fun _ => true) true fuel 52 [c0, c1, c2, c3, c4, c5] = some x) :
  ∃ s A n c zs e t B m k ys f, [c0, c1, c2, c3, c4, c5] = [.bool s, .slice A n c, .int .i64 e, .bool t, .slice B m k, .int .i64 f] ∧ Arg W A n c zs ∧ (-9223372036854775808 ≤ e ∧ e ≤ 9223372036854775807) ∧ Arg W B m k ys ∧ -9223372036854775808 ≤ f ∧ f ≤ 9223372036854775807 := by
 obtain ⟨z0, z1, m0, hx0, _, hz0, hz1⟩ := trod_struct2 Tryz.underlying52 hf
 have hcD : Tryz.prog.cellsOf 26 = 3 := by kernel_rfl
 rw [hcD] at hz0 hz1
 obtain ⟨s, A, n, c, zs, e, e1, w1, b1⟩ := open_Dc hz0
 obtain ⟨t, B, m, k, ys, f, e2, w2, b2⟩ := open_Dc hz1
 simp only [List.cons.injEq, and_true] at e1 e2
 obtain ⟨rfl, rfl, rfl⟩ := e1
 obtain ⟨rfl, rfl, rfl⟩ := e2
 exact ⟨_, _, _, _, _, _, _, _, _, _, _, _, rfl, w1, b1, w2, b2⟩
theorem open_P {H : Type} {enc : TypeId × Value → H} {W : World} {base : Nat} {v : Value} {d : DataW H} {p : List MemPlace} (hval : Value.okWide Tryz.prog W .any base 54 v) (h : DataW.Trod enc Tryz.prog W 0 (fun _ => true) true 54 v d p) :
  ∃ s A n c zs e t B m k ys f s' A' n' c' zs' e' t' B' m' k' ys' f', v = .agg #[.bool s, .slice A n c, .int .i64 e, .bool t, .slice B m k, .int .i64 f, .bool s', .slice A' n' c', .int .i64 e', .bool t', .slice B' m' k', .int .i64 f'] ∧
   (Arg W A n c zs ∧ (-9223372036854775808 ≤ e ∧ e ≤ 9223372036854775807) ∧ Arg W B m k ys ∧ -9223372036854775808 ≤ f ∧ f ≤ 9223372036854775807) ∧
   Arg W A' n' c' zs' ∧ (-9223372036854775808 ≤ e' ∧ e' ≤ 9223372036854775807) ∧ Arg W B' m' k' ys' ∧ -9223372036854775808 ≤ f' ∧ f' ≤ 9223372036854775807 := by
 obtain ⟨cs, rfl, hsz⟩ := okWide_struct Tryz.underlying54 hval
 rw [show Tryz.prog.cellsOf 54 = 12 from by kernel_rfl] at hsz
 obtain ⟨l⟩ := cs
 match l, hsz with
 | [c0, c1, c2, c3, c4, c5, c6, c7, c8, c9, c10, c11], _ =>
 obtain ⟨fuel, hf⟩ := h
 obtain ⟨z0, z1, m0, hx0, _, hz0, hz1⟩ := trod_struct2 Tryz.underlying54 hf
 have hcR : Tryz.prog.cellsOf 52 = 6 := by kernel_rfl
 rw [hcR] at hz0 hz1
 obtain ⟨s, A, n, c, zs, e, t, B, m, k, ys, f, e1, w1⟩ := open_Rc hz0
 obtain ⟨s', A', n', c', zs', e', t', B', m', k', ys', f', e2, w2⟩ := open_Rc hz1
 simp only [List.cons.injEq, and_true] at e1 e2
 obtain ⟨rfl, rfl, rfl, rfl, rfl, rfl⟩ := e1
 obtain ⟨rfl, rfl, rfl, rfl, rfl, rfl⟩ := e2
 exact ⟨_, _, _, _, _, _, _, _, _, _, _, _, _, _, _, _, _, _, _, _, _, _, _, _, rfl, w1, w2⟩
end Go.Proofs.YtnjjfakjnkhhjaaGreatDoor.Ev
