import Derived.Test.YtkfojbelnemhbaaGreatDoorEvd
import Derived.Test.YtkfojbelnemhbaaGreatDoorXp
set_option linter.all false
namespace Go.Proofs.YtkfojbelnemhbaaGreatDoor.Ev
open Go Go.RowKit Go.ChangeShapes Go.WideShapes Go.ChangeAt
def argC (n : Nat) (zs : List Nat) : List D := if n ≤ 100000 then u32s zs else []
theorem argC_ok {w : World} {A : Option Addr} {n c : Nat} {zs : List Nat} (h : Arg w A n c zs) (hn : n ≤ 100000) : okC n (argC n zs) := by
 unfold argC
 rw [if_pos hn]
 refine ⟨by rw [nums_u32s], by unfold u32s; rw [List.length_map]; exact h.1.1, by rw [nums_u32s]; exact h.2.1, hn⟩
theorem argC_den {w : World} {A : Option Addr} {n c : Nat} {zs : List Nat} (h : Arg w A n c zs) : den ⟨w, fun _ => False, fun _ => none⟩ (.sl n (argC n zs)) (.slice A n c) := by
 simp only [den]
 refine ⟨A, c, rfl, h.1.2, fun h0 => ?_⟩
 unfold argC at h0 ⊢
 by_cases hn : n ≤ 100000
 ·rw [if_pos hn] at h0 ⊢
  have hl : (u32s zs).length = n := by unfold u32s; rw [List.length_map]; exact h.1.1
  obtain ⟨b, o, rfl, hlt, hc⟩ := h.2.2 (by omega)
  exact ⟨b, o, rfl, hlt, fun hx => hx, nums_denC fun j hj => hc j (by rw [h.1.1] at hj; exact hj)⟩
 ·rw [if_neg hn] at h0
  exact absurd h0 (by simp)
theorem denL0 {E : Env} : denL E [] [] := by simp only [denL]
theorem denL1 {E : Env} {d : D} {v : Value} {ds : List D} {vs : List Value} (h : den E d v) (k : denL E ds vs) : denL E (d :: ds) (v :: vs) := by
 simp only [denL]; exact ⟨_, _, rfl, h, k⟩
theorem den_i {E : Env} (k : IntKind) (z : Int) : den E (.int k z) (.int k z) := by simp only [den]
end Go.Proofs.YtkfojbelnemhbaaGreatDoor.Ev
namespace Go.Proofs.YtkfojbelnemhbaaGreatDoor.Ev
open Go Go.RowKit Go.ChangeShapes Go.WideShapes Go.ChangeAt
theorem cells24 {H : Type} {enc : TypeId × Value → H} {P : Program} {w : World} {base : Nat} {sp : Nat → Bool} {held : Bool} {fuel : Nat} {t e e' : TypeId} {k : IntKind} {cs : List Value} {r0 r1 : List Int} {p : List MemPlace}
  (ht : P.underlying t = some (.array 2 e)) (hte : P.underlying e = some (.array 4 e')) (he : P.underlying e' = some (.int k)) (hc1 : P.cellsOf e' = 1) (hc4 : P.cellsOf e = 4) (hc8 : P.cellsOf t = 8)
  (h : DataW.trod enc P w base sp held fuel t cs = some (.agg [Lib.tabData k r0, Lib.tabData k r1], p)) : cs = (r0 ++ r1).map fun z => Value.int k z := by
 obtain ⟨xs, m, _, hx, hl, hxl, hall⟩ := DataW.trod_array ht h
 rw [hc8] at hl
 rw [hc4] at hall
 match xs, hxl with
 | [x0, x1], _ =>
 simp only [Prod.mk.injEq, DataW.agg.injEq, List.map_cons, List.map_nil, List.cons.injEq, and_true] at hx
 obtain ⟨⟨e0, e1⟩, _⟩ := hx
 obtain ⟨x0a, x0b⟩ := x0
 obtain ⟨x1a, x1b⟩ := x1
 subst e0; subst e1
 have a0 := Lib.cells_of_tab hte he hc1 hc4 (hall 0 (by omega))
 have a1 := Lib.cells_of_tab hte he hc1 hc4 (hall 1 (by omega))
 match cs, hl with
 | [c0, c1, c2, c3, c4, c5, c6, c7], _ =>
 simp only [Nat.zero_mul, Nat.one_mul, List.drop_zero, List.drop_succ_cons, List.take_succ_cons, List.take_zero] at a0 a1
 rw [List.map_append, ← a0, ← a1]
 rfl
theorem cells324 {H : Type} {enc : TypeId × Value → H} {P : Program} {w : World} {base : Nat} {sp : Nat → Bool} {held : Bool} {fuel : Nat} {t u e e' : TypeId} {k : IntKind} {cs : List Value} {r0 r1 r2 r3 r4 r5 : List Int} {p : List MemPlace}
  (ht : P.underlying t = some (.array 3 u)) (hu : P.underlying u = some (.array 2 e)) (hte : P.underlying e = some (.array 4 e')) (he : P.underlying e' = some (.int k)) (hc1 : P.cellsOf e' = 1) (hc4 : P.cellsOf e = 4) (hc8 : P.cellsOf u = 8) (hc24 : P.cellsOf t = 24)
  (h : DataW.trod enc P w base sp held fuel t cs = some (.agg [.agg [Lib.tabData k r0, Lib.tabData k r1], .agg [Lib.tabData k r2, Lib.tabData k r3], .agg [Lib.tabData k r4, Lib.tabData k r5]], p)) : cs = (r0 ++ r1 ++ (r2 ++ r3) ++ (r4 ++ r5)).map fun z => Value.int k z := by
 obtain ⟨xs, m, _, hx, hl, hxl, hall⟩ := DataW.trod_array ht h
 rw [hc24] at hl
 rw [hc8] at hall
 match xs, hxl with
 | [x0, x1, x2], _ =>
 simp only [Prod.mk.injEq, DataW.agg.injEq, List.map_cons, List.map_nil, List.cons.injEq, and_true] at hx
 obtain ⟨⟨e0, e1, e2⟩, _⟩ := hx
 obtain ⟨x0a, x0b⟩ := x0
 obtain ⟨x1a, x1b⟩ := x1
 obtain ⟨x2a, x2b⟩ := x2
 subst e0; subst e1; subst e2
 have a0 := cells24 hu hte he hc1 hc4 hc8 (hall 0 (by omega))
 have a1 := cells24 hu hte he hc1 hc4 hc8 (hall 1 (by omega))
 have a2 := cells24 hu hte he hc1 hc4 hc8 (hall 2 (by omega))
 rw [List.map_append, List.map_append, ← a0, ← a1, ← a2]
 simp only [Nat.zero_mul, Nat.one_mul, List.drop_zero]
 have hd : cs = cs.take 8 ++ ((cs.drop 8).take 8 ++ (cs.drop 16).take 8) := by
  have h2 : (cs.drop 16).take 8 = cs.drop 16 := List.take_of_length_le (by rw [List.length_drop, hl]; omega)
  rw [h2]
  have h3 : cs.drop 16 = (cs.drop 8).drop 8 := by rw [List.drop_drop]
  rw [h3, List.take_append_drop, List.take_append_drop]
 rw [List.append_assoc]
 exact hd
end Go.Proofs.YtkfojbelnemhbaaGreatDoor.Ev
