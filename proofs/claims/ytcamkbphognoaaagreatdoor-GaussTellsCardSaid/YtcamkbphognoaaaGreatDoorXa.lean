/- What an argument that is a dyad reads as, as data. -/
import Derived.Test.YtcamkbphognoaaaGreatDoorArgI
import Derived.Test.YtcamkbphognoaaaGreatDoorXp
namespace Go.Proofs.YtcamkbphognoaaaGreatDoor.Ev
open Go Go.RowKit Go.ChangeShapes Go.WideShapes Go.ChangeAt
set_option linter.unusedSimpArgs false
set_option linter.unusedVariables false

def argC (n : Nat) (zs : List Nat) : List D := if n ≤ 100000 then u32s zs else []
theorem argC_ok {w : World} {A : Option Addr} {n c : Nat} {zs : List Nat} (h : Arg w A n c zs) (hn : n ≤ 100000) : okC n (argC n zs) := by
  unfold argC
  rw [if_pos hn]
  refine ⟨by rw [nums_u32s], by unfold u32s; rw [List.length_map]; exact h.1.1, by rw [nums_u32s]; exact h.2.1, hn⟩
theorem argC_den {w : World} {A : Option Addr} {n c : Nat} {zs : List Nat} (h : Arg w A n c zs) : den ⟨w, fun _ => False, fun _ => none⟩ (.sl n (argC n zs)) (.slice A n c) := by
  simp only [den]
  refine ⟨A, c, rfl, h.1.2, fun h0 => ?_⟩
  unfold argC at h0 ⊢
  by_cases hn : n ≤ 100000
  · rw [if_pos hn] at h0 ⊢
    have hl : (u32s zs).length = n := by unfold u32s; rw [List.length_map]; exact h.1.1
    obtain ⟨b, o, rfl, hlt, hc⟩ := h.2.2 (by omega)
    exact ⟨b, o, rfl, hlt, fun hx => hx, nums_denC fun j hj => hc j (by rw [h.1.1] at hj; exact hj)⟩
  · rw [if_neg hn] at h0
    exact absurd h0 (by simp)
theorem argD_den {w : World} {A : Option Addr} {n c : Nat} {zs : List Nat} (h : Arg w A n c zs) (s : Bool) (e : Int) : den ⟨w, fun _ => False, fun _ => none⟩ (.agg [.bool s, .sl n (argC n zs), .int .i64 e]) (.agg #[.bool s, .slice A n c, .int .i64 e]) := by
  rw [den_agg]
  refine ⟨_, rfl, ?_⟩
  simp only [denL]
  exact ⟨_, _, rfl, by simp only [den], _, _, rfl, argC_den h, _, _, rfl, by simp only [den], rfl⟩
theorem denL0 {E : Env} : denL E [] [] := by simp only [denL]
theorem denL1 {E : Env} {d : D} {v : Value} {ds : List D} {vs : List Value} (h : den E d v) (k : denL E ds vs) : denL E (d :: ds) (v :: vs) := by
  simp only [denL]; exact ⟨_, _, rfl, h, k⟩
theorem den_i {E : Env} (k : IntKind) (z : Int) : den E (.int k z) (.int k z) := by simp only [den]
set_option maxRecDepth 100000 in
theorem open_D {H : Type} {enc : TypeId × Value → H} {W : World} {base : Nat} {v : Value} {d : DataW H} {p : List MemPlace} (hval : Value.okWide Tryz.prog W .any base 26 v) (h : DataW.Trod enc Tryz.prog W 0 (fun _ => true) true 26 v d p) :
    ∃ s A n c zs e, v = .agg #[.bool s, .slice A n c, .int .i64 e] ∧ Arg W A n c zs ∧ -9223372036854775808 ≤ e ∧ e ≤ 9223372036854775807 := by
  obtain ⟨cs, rfl, hsz⟩ := okWide_struct Tryz.underlying26 hval
  rw [show Tryz.prog.cellsOf 26 = 3 from by kernel_rfl] at hsz
  obtain ⟨l⟩ := cs
  match l, hsz with
  | [c0, c1, c2], _ =>
  obtain ⟨fuel, hf⟩ := h
  obtain ⟨z0, z1, m0, hx0, _, hz0, hz1⟩ := trod_struct2 Tryz.underlying26 hf
  have hcI : Tryz.prog.cellsOf 24 = 2 := by kernel_rfl
  have hcE : Tryz.prog.cellsOf 3 = 1 := by kernel_rfl
  obtain ⟨ee, e2, _, hw⟩ := DataW.trod_int Tryz.underlying3 hz1
  rw [hcE] at e2
  simp [Value.cells] at e2
  subst e2
  rw [hcI] at hz0
  obtain ⟨y0, y1, m, hx, _, hy0, hy1⟩ := trod_struct2 Tryz.underlying24 hz0
  obtain ⟨b, e0, _⟩ := DataW.trod_bool Tryz.underlying4 hy0
  have hc0 : Tryz.prog.cellsOf 4 = 1 := by kernel_rfl
  have hc1 : Tryz.prog.cellsOf 22 = 1 := by kernel_rfl
  rw [hc0] at e0
  simp [Value.cells] at e0
  subst e0
  have hbd := bounds_i64 hw
  rcases open_ints Tryz.underlying22 Tryz.underlying103 (by kernel_rfl) hy1 with ⟨hcs, _⟩ | ⟨x, ln, c, zs, hcs, _, hl, hm, hz, _, hcell, hwz⟩
  · rw [hc1] at hcs
    simp [Value.cells] at hcs
    subst hcs
    exact ⟨b, none, 0, 0, [], _, rfl, Arg.none W, hbd⟩
  · rw [hc1] at hcs
    simp [Value.cells] at hcs
    subst hcs
    exact ⟨b, some x, ln, c, _, _, rfl, Arg.of_ints hl (by simpa using hz) hcell hwz, hbd⟩
end Go.Proofs.YtcamkbphognoaaaGreatDoor.Ev
/- What the table of modes reads as. -/
namespace Go.Proofs.YtcamkbphognoaaaGreatDoor.Ev
open Go Go.RowKit Go.ChangeShapes Go.WideShapes Go.ChangeAt
set_option linter.unusedSimpArgs false
set_option linter.unusedVariables false
theorem cells24 {H : Type} {enc : TypeId × Value → H} {P : Program} {w : World} {base : Nat} {sp : Nat → Bool} {held : Bool} {fuel : Nat} {t e e' : TypeId} {k : IntKind} {cs : List Value} {r0 r1 : List Int} {p : List MemPlace}
    (ht : P.underlying t = some (.array 2 e)) (hte : P.underlying e = some (.array 4 e')) (he : P.underlying e' = some (.int k)) (hc1 : P.cellsOf e' = 1) (hc4 : P.cellsOf e = 4) (hc8 : P.cellsOf t = 8)
    (h : DataW.trod enc P w base sp held fuel t cs = some (.agg [Lib.tabData k r0, Lib.tabData k r1], p)) : cs = (r0 ++ r1).map fun z => Value.int k z := by
  obtain ⟨xs, m, _, hx, hl, hxl, hall⟩ := DataW.trod_array ht h
  rw [hc8] at hl
  rw [hc4] at hall
  match xs, hxl with
  | [x0, x1], _ =>
  simp only [Prod.mk.injEq, DataW.agg.injEq, List.map_cons, List.map_nil, List.cons.injEq, and_true] at hx
  obtain ⟨⟨e0, e1⟩, _⟩ := hx
  obtain ⟨x0a, x0b⟩ := x0
  obtain ⟨x1a, x1b⟩ := x1
  subst e0; subst e1
  have a0 := Lib.cells_of_tab hte he hc1 hc4 (hall 0 (by omega))
  have a1 := Lib.cells_of_tab hte he hc1 hc4 (hall 1 (by omega))
  match cs, hl with
  | [c0, c1, c2, c3, c4, c5, c6, c7], _ =>
  simp only [Nat.zero_mul, Nat.one_mul, List.drop_zero, List.drop_succ_cons, List.take_succ_cons, List.take_zero] at a0 a1
  rw [List.map_append, ← a0, ← a1]
  rfl
theorem cells324 {H : Type} {enc : TypeId × Value → H} {P : Program} {w : World} {base : Nat} {sp : Nat → Bool} {held : Bool} {fuel : Nat} {t u e e' : TypeId} {k : IntKind} {cs : List Value} {r0 r1 r2 r3 r4 r5 : List Int} {p : List MemPlace}
    (ht : P.underlying t = some (.array 3 u)) (hu : P.underlying u = some (.array 2 e)) (hte : P.underlying e = some (.array 4 e')) (he : P.underlying e' = some (.int k)) (hc1 : P.cellsOf e' = 1) (hc4 : P.cellsOf e = 4) (hc8 : P.cellsOf u = 8) (hc24 : P.cellsOf t = 24)
    (h : DataW.trod enc P w base sp held fuel t cs = some (.agg [.agg [Lib.tabData k r0, Lib.tabData k r1], .agg [Lib.tabData k r2, Lib.tabData k r3], .agg [Lib.tabData k r4, Lib.tabData k r5]], p)) : cs = (r0 ++ r1 ++ (r2 ++ r3) ++ (r4 ++ r5)).map fun z => Value.int k z := by
  obtain ⟨xs, m, _, hx, hl, hxl, hall⟩ := DataW.trod_array ht h
  rw [hc24] at hl
  rw [hc8] at hall
  match xs, hxl with
  | [x0, x1, x2], _ =>
  simp only [Prod.mk.injEq, DataW.agg.injEq, List.map_cons, List.map_nil, List.cons.injEq, and_true] at hx
  obtain ⟨⟨e0, e1, e2⟩, _⟩ := hx
  obtain ⟨x0a, x0b⟩ := x0
  obtain ⟨x1a, x1b⟩ := x1
  obtain ⟨x2a, x2b⟩ := x2
  subst e0; subst e1; subst e2
  have a0 := cells24 hu hte he hc1 hc4 hc8 (hall 0 (by omega))
  have a1 := cells24 hu hte he hc1 hc4 hc8 (hall 1 (by omega))
  have a2 := cells24 hu hte he hc1 hc4 hc8 (hall 2 (by omega))
  rw [List.map_append, List.map_append, ← a0, ← a1, ← a2]
  simp only [Nat.zero_mul, Nat.one_mul, List.drop_zero]
  have hd : cs = cs.take 8 ++ ((cs.drop 8).take 8 ++ (cs.drop 16).take 8) := by
    have h2 : (cs.drop 16).take 8 = cs.drop 16 := List.take_of_length_le (by rw [List.length_drop, hl]; omega)
    rw [h2]
    have h3 : cs.drop 16 = (cs.drop 8).drop 8 := by rw [List.drop_drop]
    rw [h3, List.take_append_drop, List.take_append_drop]
  rw [List.append_assoc]
  exact hd
end Go.Proofs.YtcamkbphognoaaaGreatDoor.Ev
