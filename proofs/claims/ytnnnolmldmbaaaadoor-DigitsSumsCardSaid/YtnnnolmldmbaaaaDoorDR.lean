/- Dyads raised: a row made with room, appended to, and shifted. -/
import Derived.Test.YtnnnolmldmbaaaaDoorNormsA
import Derived.Test.YtnnnolmldmbaaaaDoorRM
import Derived.Deep.RegionHeld3
import Derived.Deep.DeepCutAuto
import Derived.Lib.AppendZeros
namespace Go.Proofs.YtnnnolmldmbaaaaDoor
open Go.RowKit

set_option linter.unusedSimpArgs false
set_option linter.unusedVariables false
/-- 'make([]uint32, l, c)'. -/
theorem mk_row (w : World) (l c : Nat) (hlc : l ≤ c) (hc : c ≤ 1000000) :
    ∃ v w', (Instr.makeSlice 22 (.int .i64 l) (.int .i64 c)).run Tryd.prog w = .ok v w' ∧ RowZ w' w.heap.size v (List.replicate l 0) ∧ w.grownBy w' none := by
  obtain ⟨i, hi, hz0, hz1, hz2⟩ := info_parts Tryd.info54
  have hr := run_make (P := Tryd.prog) w 22 54 i (.int .u32 0) Tryd.underlying22 hi hz0 .i64 .i64 (l : Int) (c : Int) (by omega) (by omega) (by rw [hz2]; omega) (by omega)
  refine ⟨_, _, hr, ?_, World.grownBy_alloc w _ none⟩
  rw [Int.toNat_natCast, Int.toNat_natCast, hz1, Nat.mul_one]
  refine ⟨by simp, .inr ⟨w.heap.size, c, madeCells (Value.int .u32 0).cells c, by rw [List.length_replicate], Nat.le_refl _, heap_alloc_new w _, by simpa using hlc, by simp only [maxLen]; omega, by rw [size_madeCells, Nat.mul_one], ?_⟩⟩
  apply List.ext_getElem?
  intro j
  simp only [madeCells, Value.cells, List.getElem?_take, List.getElem?_map, List.getElem?_replicate, List.length_replicate, Nat.mul_one, Array.getElem?_toList, Array.getElem?_map, Array.getElem?_range]
  by_cases h : j < l
  · have h2 : j < c := by omega
    simp [h, h2, Nat.mod_one, d32]
  · simp [h]
/-- 'append(own, some...)'. -/
theorem app4 (w : World) (ty : TypeId) (b : Nat) (v : Value) (xs : List Nat) (h : RowZ w b v xs) (A : Option Addr) (m c : Nat) (ys : List Nat) (hl : Lm w A m c ys) (hn : xs.length ≤ 1000000) (hm : m ≤ 1000000) (hb : b ≤ w.heap.size) :
    ∃ v' w', (Builtin.append_ #[22, 22] ty #[v, .slice A m c]).run Tryd.prog w = .ok v' w' ∧ RowZ w' b v' (xs ++ ys) ∧ w.grownBy w' v.ownBlock := by
  obtain ⟨i, hi, hz0, hz1, hz2⟩ := info_parts Tryd.info54
  have hlen := hl.len
  have hone : ∀ u ∈ ys.map d32, u.oneCell' = true := fun u hu => by rw [List.mem_map] at hu; obtain ⟨x, _, rfl⟩ := hu; rfl
  have fin : ∀ {v' w'}, w'.ownsRow b 54 1 v' (xs.length + m) (xs.map d32 ++ ys.map d32) → RowZ w' b v' (xs ++ ys) := fun h => by
    unfold RowZ
    rw [List.length_append, List.map_append, hlen]; exact h
  rcases hA : A with _ | ⟨b', o', sp⟩
  · subst hA
    have hm0 : m = 0 := by
      rcases Nat.eq_zero_or_pos m with h0 | h0
      · exact h0
      · obtain ⟨_, _, hh, _⟩ := hl.2.2 h0; cases hh
    subst hm0
    have hy : ys = [] := List.eq_nil_of_length_eq_zero hlen
    subst hy
    refine ⟨v, w, ?_, by rw [List.append_nil]; exact h, ⟨rfl, rfl, rfl, Nat.le_refl _, fun _ _ _ => rfl⟩⟩
    rcases h.2 with ⟨rfl, _⟩ | ⟨g, cap, cur, rfl, _, _, hnc, _, _, _⟩
    · simp [Builtin.append_, run_underlying Tryd.underlying22, sizeOf, typeInfo, hi, Builtin.lenOf, Builtin.firstCells]
    · simp [Builtin.append_, run_underlying Tryd.underlying22, sizeOf, typeInfo, hi, Builtin.lenOf, Builtin.firstCells, hnc, storeCells]
  · have hsp : 0 < m → sp = none := fun h0 => by obtain ⟨_, _, hh, _⟩ := hl.2.2 h0; rw [hA] at hh; cases hh; rfl
    obtain ⟨v', w', h1, h2, h3, _⟩ := run_append_own (P := Tryd.prog) w b 22 ty 54 i (.int .u32 0) 1 4 Tryd.underlying22 hi hz0 hz1 hz2 rfl (by omega) v xs.length (xs.map d32) h ⟨b', o', sp⟩ m c (ys.map d32) (by simp [hlen])
      (fun j u hu => by
        rw [List.getElem?_map] at hu
        by_cases hj : j < ys.length
        · rw [List.getElem?_eq_getElem hj] at hu
          simp at hu
          subst hu
          obtain ⟨b1, o1, hh, _, hc⟩ := hl.2.2 (by omega)
          rw [hA] at hh; cases hh
          have := hc j (by omega)
          rw [dig_get hj] at this
          have e : (⟨b', o', none⟩ : Addr).add j = ⟨b', o' + j, none⟩ := by unfold Addr.add; split <;> simp_all
          rw [e]; exact this
        · rw [List.getElem?_eq_none (by omega)] at hu; simp at hu)
      hone (by simp only [maxLen]; omega) (by omega) hb
    exact ⟨v', w', h1, fin h2, h3⟩
theorem wp_make_run {P : Program} (w : World) {o : Oper} {a : Act} {K : Act → World → Prop} {Q : Exit → Act → World → Prop} (l c : Operand) (t : TypeId) (ho : o.op = .makeSlice t l c) (vl vc : Value) (hl : a.eval l = vl) (hc : a.eval c = vc)
    (v' : Value) (w' : World) (hr : (Instr.makeSlice t vl vc).run P w = .ok v' w') (h : K (a.put o.dst v') w') : o.wp P a w K Q := by
  unfold Oper.wp execOp
  simp only [ho, hl, hc, Sem.run_bind, hr, Result.andThen_ok]
  exact h
theorem val_zapp (k : Nat) (xs : List Nat) : val (List.replicate k 0 ++ xs) = val xs * 2 ^ (32 * k) := by
  have h0 : vt (dig (List.replicate k 0 ++ xs)) k = 0 := vt_zero _ fun i hi => by
    unfold dig
    rw [List.getD_eq_getElem?_getD, List.getElem?_append_left (by rw [List.length_replicate]; exact hi), List.getElem?_replicate, if_pos hi]; rfl
  rw [val_split _ k, h0, Nat.zero_add, List.drop_left' (by rw [List.length_replicate]), Bs_pow_eq, Nat.mul_comm]
end Go.Proofs.YtnnnolmldmbaaaaDoor
