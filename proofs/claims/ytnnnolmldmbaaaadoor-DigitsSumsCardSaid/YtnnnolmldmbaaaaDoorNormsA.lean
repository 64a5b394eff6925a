/- Noughts appended to an own row. -/
import Derived.Test.YtnnnolmldmbaaaaDoorWb
import Derived.Deep.RegionHeld3
import Derived.Lib.AppendZeros
import Derived.Lib.AppendZerosOnto
namespace Go.Proofs.YtnnnolmldmbaaaaDoor
open Go.RowKit

/-- what an append of noughts to an own row makes. -/
theorem run_zeros_own (w : World) (base : Nat) (ty : TypeId) (i : TypeInfo) (hi : Tryd.prog.info? 54 = some i) (hz : i.zero = some (.int .u32 0)) (hs1 : i.size = 1) (hb4 : i.bytes = 4)
    (v : Value) (n : Nat) (xs : List Value) (hown : w.ownsRow base 54 1 v n xs) (k : Nat) (hk : k ≤ 3) (hn : n ≤ 1000000) (hbase : base ≤ w.heap.size) :
    ∃ v' w', (Builtin.append_ #[22, 3] ty #[v, .int .i64 k]).run Tryd.prog w = .ok v' w' ∧ w'.ownsRow base 54 1 v' (n + k) (xs ++ List.replicate k (.int .u32 0)) ∧ w.grownBy w' v.ownBlock := by
  have hlen : (xs ++ List.replicate k (Value.int .u32 0)).length = (n + k) * 1 := by rw [List.length_append, hown.1, List.length_replicate]; omega
  have hzc : ∀ m, Builtin.zeroCells (Value.int .u32 0).cells m = (List.replicate m (Value.int .u32 0)).toArray := by
    intro m
    apply Array.ext
    · simp [Builtin.zeroCells, Value.cells]
    · intro j h1 h2
      simp [Builtin.zeroCells, Value.cells, Nat.mod_one]
  have hw0 : IntKind.i64.wrap 0 = 0 := by decide
  have hw : IntKind.i64.wrap (k : Int) = k := by rw [IntKind.wrap_i64]; omega
  rcases hown.2 with ⟨rfl, rfl⟩ | ⟨g, cap, cur, rfl, hbg, hg, hnc, hcm, hcs, htake⟩
  · have hx : xs = [] := List.eq_nil_of_length_eq_zero (by simpa using hown.1)
    subst hx
    by_cases h0 : k = 0
    · subst h0
      refine ⟨.slice none 0 0, w, ?_, World.ownsRow_nil w base 54 1, ⟨rfl, rfl, rfl, Nat.le_refl _, fun _ _ _ => rfl⟩⟩
      simp [Builtin.append_, run_underlying Tryd.underlying22, run_underlying Tryd.underlying3, sizeOf, typeInfo, hi, hb4, asInt, asIntOf, hw0]
    · have hr := Lib.run_append_nil_zeros (P := Tryd.prog) w 22 3 ty 54 i (.int .u32 0) .i64 .i64 Tryd.underlying22 Tryd.underlying3 hi hz k (by omega) (by omega) (by omega) (by rw [hb4]; omega)
      have hge := grownCap_ge w k 0 54
      have hcm := grownCap_le_maxLen w k 0 54 (by simp only [maxLen]; omega)
      refine ⟨_, _, hr, ⟨hlen, .inr ⟨w.heap.size, _, _, by rw [Nat.zero_add], hbase, heap_alloc_new w.drew _, by rw [Nat.zero_add]; exact hge, hcm, ?_, ?_⟩⟩, ⟨rfl, rfl, rfl, by simp, fun j hj _ => heap_alloc_old w.drew _ hj⟩⟩
      · simp only [Array.size_append, size_zeroCells, Value.cells]
        simp
        omega
      · rw [hzc, hzc]
        simp only [Array.toList_append, List.nil_append, Nat.zero_add, Nat.mul_one]
        rw [List.take_left' (by simp)]
  · by_cases hroom : n + k ≤ cap
    · by_cases h0 : k = 0
      · subst h0
        refine ⟨_, w, ?_, ⟨hlen, .inr ⟨g, cap, cur, rfl, hbg, hg, by omega, hcm, hcs, ?_⟩⟩, ⟨rfl, rfl, rfl, Nat.le_refl _, fun _ _ _ => rfl⟩⟩
        · simp [Builtin.append_, run_underlying Tryd.underlying22, run_underlying Tryd.underlying3, sizeOf, typeInfo, hi, hb4, asInt, asIntOf, hw0, hnc, storeCells]
        · rw [Nat.add_zero, htake, List.replicate_zero, List.append_nil]
      · have hfit : n * 1 + 0 + (List.replicate k (Value.int .u32 0)).length ≤ cur.size := by rw [List.length_replicate, hcs]; omega
        have hst := run_storeCells_at Tryd.prog g (n * 1) 54 (List.replicate k (Value.int .u32 0)) 0 cur w hg (by simpa using hfit) (fun u hu => by rw [List.mem_replicate] at hu; rw [hu.2]; rfl)
        simp only [Nat.add_zero, Nat.mul_one] at hst
        have hneg : ¬ ((k : Int) < 0) := by omega
        have h48 : ¬ (281474976710656 < (k : Int) * 4) := by omega
        have hr : (Builtin.append_ #[22, 3] ty #[.slice (some ⟨g, 0, none⟩) n cap, .int .i64 k]).run Tryd.prog w = .ok (.slice (some ⟨g, 0, none⟩) (n + k) cap) (w.setRow g (cur.toList.take n ++ List.replicate k (Value.int .u32 0) ++ cur.toList.drop (n + (List.replicate k (Value.int .u32 0)).length)).toArray) := by
          have hst' := hst
          rw [List.length_replicate] at hst' ⊢
          simp [Builtin.append_, run_underlying Tryd.underlying22, run_underlying Tryd.underlying3, sizeOf, typeInfo, zeroValue, hi, hz, hs1, hb4, asInt, asIntOf, hw, hroom, hneg, h48, h0, Addr.add_lit, hzc, hst']
        refine ⟨_, _, hr, ⟨hlen, .inr ⟨g, cap, _, rfl, hbg, setRow_heap w g cur _ 54 _ hg, hroom, hcm, ?_, ?_⟩⟩, ⟨rfl, rfl, rfl, by simp, fun j _ hj => setRow_other w g j _ (fun e => hj (by simp [Value.ownBlock, e]))⟩⟩
        · simp only [List.size_toArray, List.length_append, List.length_take, List.length_drop, Array.length_toList, List.length_replicate]
          omega
        · rw [Nat.mul_one] at htake
          rw [htake, ← hlen]
          exact List.take_left
    · have holds : (Builtin.firstCells i.size n (.slice (some ⟨g, 0, none⟩) n cap)).run Tryd.prog w.drew = .ok xs.toArray w.drew := by
        rw [hs1]
        exact run_firstCells_some (P := Tryd.prog) w.drew 1 n ⟨g, 0, none⟩ n cap xs hown.1 (hown.cells (g := g) rfl)
      have hr := Lib.run_append_grow_zeros (P := Tryd.prog) w 22 3 ty 54 i (.int .u32 0) .i64 .i64 Tryd.underlying22 Tryd.underlying3 hi hz (some ⟨g, 0, none⟩) n cap xs holds k (by omega) (by omega) (by omega) (by omega) (by rw [hb4]; omega) (by rw [hb4]; exact growslice_fits (by omega) (by omega))
      have hge := grownCap_ge w (n + k) cap 54
      have hcm' := grownCap_le_maxLen w (n + k) cap 54 (by simp only [maxLen]; omega)
      refine ⟨_, _, hr, ⟨hlen, .inr ⟨w.heap.size, _, _, rfl, hbase, heap_alloc_new w.drew _, hge, hcm', ?_, ?_⟩⟩, ⟨rfl, rfl, rfl, by simp, fun j hj _ => heap_alloc_old w.drew _ hj⟩⟩
      · simp only [Array.size_append, size_zeroCells, Value.cells, List.size_toArray, hown.1]
        simp
        omega
      · rw [hzc, hzc]
        simp only [Array.toList_append]
        rw [← hlen]
        exact List.take_left
/-- a row of the call's own: v is it, from block b on, it reads xs. -/
def RowZ (w : World) (b : Nat) (v : Value) (xs : List Nat) : Prop := w.ownsRow b 54 1 v xs.length (xs.map d32)
theorem RowZ.own {w : World} {b : Nat} {v : Value} {xs : List Nat} (h : RowZ w b v xs) : ∀ k, v.ownBlock = some k → b ≤ k ∧ k < w.heap.size := World.ownsRow.lt h
theorem RowZ.alloc {w : World} {b : Nat} {v : Value} {xs : List Nat} (h : RowZ w b v xs) (o : Obj) : RowZ (w.alloc o) b v xs := World.ownsRow.alloc h o
theorem RowZ.drew {w : World} {b : Nat} {v : Value} {xs : List Nat} (h : RowZ w b v xs) : RowZ w.drew b v xs := h
theorem RowZ.lm {w : World} {b : Nat} {v : Value} {xs : List Nat} (h : RowZ w b v xs) (hok : Ok xs) (hb : xs.length ≤ 1000000) : ∃ A c, v = .slice A xs.length c ∧ Lm w A xs.length c xs := by
  rcases h.2 with ⟨rfl, h0⟩ | ⟨g, cap, cur, rfl, hge, hh, hnc, hcm, hcs, hct⟩
  · have hx : xs = [] := List.eq_nil_of_length_eq_zero h0
    subst hx
    exact ⟨none, 0, rfl, Lm.nil w⟩
  · refine ⟨_, cap, rfl, ⟨rfl, hnc, by omega⟩, hok, fun _ => ⟨g, 0, rfl, ?_, fun j hj => ?_⟩⟩
    · apply Nat.lt_of_not_le; intro cc; rw [Array.getElem?_eq_none cc] at hh; cases hh
    · rw [cell_of_row w g _ _ _ _ hh, Nat.zero_add]
      have h2 : (cur.toList.take (xs.length * 1))[j]? = some (d32 (dig xs j)) := by
        rw [hct, List.getElem?_map, dig_get hj, List.getElem?_eq_getElem hj]; rfl
      rw [List.getElem?_take, if_pos (by omega)] at h2
      simpa using h2
/-- 'append([]uint32(nil), src...)'. -/
theorem app1 (w : World) (ty : TypeId) (A : Option Addr) (m c : Nat) (xs : List Nat) (h : Lm w A m c xs) :
    ∃ v' w', (Builtin.append_ #[22, 22] ty #[.slice none 0 0, .slice A m c]).run Tryd.prog w = .ok v' w' ∧ RowZ w' w.heap.size v' xs ∧ w.grownBy w' none := by
  obtain ⟨i, hi, hz0, hz1, hz2⟩ := info_parts Tryd.info54
  have hlen := h.len
  have hbig := h.big
  have nil : A = none → ∃ v' w', (Builtin.append_ #[22, 22] ty #[.slice none 0 0, .slice A m c]).run Tryd.prog w = .ok v' w' ∧ RowZ w' w.heap.size v' xs ∧ w.grownBy w' none := by
    rintro rfl
    have hm : m = 0 := by
      rcases Nat.eq_zero_or_pos m with h0 | h0
      · exact h0
      · obtain ⟨b, o, hh, _⟩ := h.2.2 h0; cases hh
    subst hm
    have hx : xs = [] := List.eq_nil_of_length_eq_zero hlen
    subst hx
    refine ⟨.slice none 0 0, w, ?_, World.ownsRow_nil w _ _ _, ⟨rfl, rfl, rfl, Nat.le_refl _, fun _ _ _ => rfl⟩⟩
    simp [Builtin.append_, run_underlying Tryd.underlying22, sizeOf, typeInfo, hi, Builtin.lenOf, Builtin.firstCells]
  rcases hA : A with _ | ⟨b, o, sp⟩
  · rw [hA] at nil; exact nil rfl
  · subst hA
    have hsp : 0 < m → sp = none := fun h0 => by obtain ⟨b', o', hh, _⟩ := h.2.2 h0; cases hh; rfl
    obtain ⟨v', w', hrun, hown, hg, hiff⟩ := run_append_own (P := Tryd.prog) w w.heap.size 22 ty 54 i (.int .u32 0) 1 4 Tryd.underlying22 hi hz0 hz1 hz2 rfl (by omega) (.slice none 0 0) 0 [] ⟨by simp, .inl ⟨rfl, rfl⟩⟩ ⟨b, o, sp⟩ m c (xs.map d32) (by simp [hlen])
      (fun j u hu => by
        rw [List.getElem?_map] at hu
        by_cases hj : j < xs.length
        · rw [List.getElem?_eq_getElem hj] at hu
          simp at hu
          subst hu
          obtain ⟨b', o', hh, _, hc⟩ := h.2.2 (by omega)
          cases hh
          have := hc j (by omega)
          rw [dig_get hj] at this
          have e : (⟨b, o, none⟩ : Addr).add j = ⟨b, o + j, none⟩ := by unfold Addr.add; split <;> simp_all
          rw [e]; exact this
        · rw [List.getElem?_eq_none (by omega)] at hu; simp at hu)
      (fun u hu => by rw [List.mem_map] at hu; obtain ⟨x, _, rfl⟩ := hu; rfl) (by simp only [maxLen]; omega) (by omega) (Nat.le_refl _)
    refine ⟨v', w', hrun, ?_, hg⟩
    unfold RowZ
    rw [Nat.zero_add, List.nil_append] at hown
    rw [hlen]; exact hown
/-- 'append(own, make([]uint32, k)...)'. -/
theorem app2 (w : World) (ty : TypeId) (b : Nat) (v : Value) (xs : List Nat) (h : RowZ w b v xs) (k : Nat) (hk : k ≤ 3) (hn : xs.length ≤ 1000000) (hb : b ≤ w.heap.size) :
    ∃ v' w', (Builtin.append_ #[22, 3] ty #[v, .int .i64 k]).run Tryd.prog w = .ok v' w' ∧ RowZ w' b v' (xs ++ List.replicate k 0) ∧ w.grownBy w' v.ownBlock := by
  obtain ⟨i, hi, hz0, hz1, hz2⟩ := info_parts Tryd.info54
  obtain ⟨v', w', h1, h2, h3⟩ := run_zeros_own w b ty i hi hz0 hz1 hz2 v xs.length (xs.map d32) h k hk hn hb
  refine ⟨v', w', h1, ?_, h3⟩
  unfold RowZ
  rw [List.length_append, List.length_replicate, List.map_append, List.map_replicate]
  exact h2
theorem Two.kept {w w' : World} {g : Nat} {row : Option Nat} (h : Two w g) (hg : w.grownBy w' row) (hne : some g ≠ row) : Two w' g := by
  obtain ⟨s, A, n, c, h⟩ := h
  exact ⟨s, A, n, c, (hg.block g h.lt hne).trans h⟩
theorem val_pad (xs : List Nat) (k : Nat) : val (xs ++ List.replicate k 0) = val xs := by
  rw [← val_eq_vt (xs := xs ++ List.replicate k 0) (k := xs.length + k) (by simp), ← val_eq_vt (xs := xs) (k := xs.length + k) (by omega)]
  refine vt_congr _ fun i hi => ?_
  unfold dig
  rw [List.getD_eq_getElem?_getD, List.getD_eq_getElem?_getD]
  by_cases h : i < xs.length
  · rw [List.getElem?_append_left h]
  · rw [List.getElem?_append_right (by omega), List.getElem?_replicate, List.getElem?_eq_none (by omega)]
    split <;> rfl
theorem ok_zeros {xs : List Nat} (h : Ok xs) (k : Nat) : Ok (xs ++ List.replicate k 0) := by
  refine Ok.of_mem fun x hx => ?_
  rcases List.mem_append.1 hx with h1 | h1
  · exact h.mem x h1
  · rw [(List.mem_replicate.1 h1).2]; exact Bs_pos
/-- one new variable, laid since B: sign s, it reads xs. -/
def LaidN (B : World) (s : Bool) (xs : List Nat) (p : Value) (w : World) : Prop := ∃ g A c, p = .pointer (some ⟨g, 0, none⟩) ∧ Box w g s A xs.length c ∧ Lm w A xs.length c xs ∧ B.heap.size ≤ g ∧ Below B.heap.size B w
theorem laidN_new {B P : World} {s : Bool} {xs : List Nat} {A : Option Addr} {c : Nat} (y : Below B.heap.size B P) (h : Lm P A xs.length c xs) : LaidN B s xs (.pointer (some ⟨P.heap.size, 0, none⟩)) (P.alloc (.cells #[.bool s, .slice A xs.length c] 24)) :=
  ⟨_, A, c, rfl, Box.new _ _ _ _ _, h.bel (bel_alloc _ _), y.size, bel_next y (bel_alloc _ _)⟩
theorem laidN_old {B P : World} {s : Bool} {xs : List Nat} {A : Option Addr} {c q : Nat} (y : Below B.heap.size B P) (h : Lm P A xs.length c xs) (t : Two P q) (hq : B.heap.size ≤ q) : LaidN B s xs (.pointer (some ⟨q, 0, none⟩)) ((P.setCell ⟨q, 0, none⟩ (.bool s)).setCell ⟨q, 1, none⟩ (.slice A xs.length c)) :=
  ⟨_, A, c, rfl, t.put _ _ _ _, h.put t _ _, hq, bel_put y hq _ _⟩
end Go.Proofs.YtnnnolmldmbaaaaDoor
