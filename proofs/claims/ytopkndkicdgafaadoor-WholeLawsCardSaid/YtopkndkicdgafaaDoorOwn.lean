/- Memory that a call makes for itself: a block known whole. -/
import Derived.Test.YtopkndkicdgafaaDoorLeaf
namespace Go.Proofs.YtopkndkicdgafaaDoor
open Go.RowKit

/-- Block g is just the digits L. -/
def Own (w : World) (g : Nat) (L : List Nat) : Prop := w.heap[g]? = some (.cells (L.map d32).toArray 37 (0, 0))
section
variable {w w' : World} {g : Nat} {L : List Nat}
theorem Own.lt (h : Own w g L) : g < w.heap.size := by
  apply Nat.lt_of_not_le; intro c; unfold Own at h; rw [Array.getElem?_eq_none c] at h; cases h
theorem Own.cell (h : Own w g L) {i : Nat} (hi : i < L.length) : w.cell? ⟨g, i, none⟩ = some (d32 (dig L i)) := by
  rw [cell_of_row w g i _ _ _ h, dig_get hi]; simp [hi]
theorem Own.free (h : Own w g L) (i : Nat) : w.frozen? ⟨g, i, none⟩ = false := by
  unfold Own at h; simp [World.frozen?, h]
theorem Own.set_ (h : Own w g L) (i x : Nat) : Own (w.setCell ⟨g, i, none⟩ (d32 x)) g (L.set i x) := by
  unfold Own at h ⊢
  simp [World.setCell, Array.getElem?_modify, h]
theorem Own.far (h : Own w g L) {p : Addr} (hp : g ≠ p.block) (u : Value) : Own (w.setCell p u) g L := (Below.heap_setCell w p u g hp).trans h
theorem Own.alloc (h : Own w g L) (o : Obj) : Own (w.alloc o) g L := (Below.heap_alloc w o g h.lt).trans h
theorem Own.below {B : Nat} (h : Own w g L) (hb : Below B w w') (hg : g < B) : Own w' g L := (hb.block g hg).trans h
theorem Own.bel (h : Own w g L) (hb : Below w.heap.size w w') : Own w' g L := h.below hb h.lt
theorem Own.list (w : World) (L : List Nat) : Own (w.alloc (.cells (L.map d32).toArray 37)) w.heap.size L := heap_alloc_new w _
theorem Own.lm (h : Own w g L) (hO : Ok L) (hl : L.length ≤ 1000000000000) : Lm w (some ⟨g, 0, none⟩) L.length L.length L :=
  ⟨⟨rfl, Nat.le_refl _, hl⟩, hO, fun _ => ⟨g, 0, rfl, h.lt, fun j hj => by rw [Nat.zero_add]; exact h.cell hj⟩⟩
end
theorem Lm.far {w : World} {A : Option Addr} {n c : Nat} {xs : List Nat} (h : Lm w A n c xs) {p : Addr} (hp : ∀ b o, A = some ⟨b, o, none⟩ → 0 < n → b ≠ p.block) (u : Value) : Lm (w.setCell p u) A n c xs :=
  ⟨h.1, h.2.1, fun hn => by
    obtain ⟨b, o, e, hb, hc⟩ := h.2.2 hn
    refine ⟨b, o, e, by simpa [World.setCell] using hb, fun j hj => ?_⟩
    rw [World.cell?_of_block (w := w) (a := ⟨b, o + j, none⟩) (Below.heap_setCell w p u b (hp b o e hn))]
    exact hc j hj⟩

/-- Nothing but block g has turned, and no block has come. -/
structure Oth (g : Nat) (w w' : World) : Prop where
  os : w'.os = w.os
  tape : w'.tape = w.tape
  output : w'.output = w.output
  size : w'.heap.size = w.heap.size
  block : ∀ k, k ≠ g → w'.heap[k]? = w.heap[k]?
theorem Oth.refl (g : Nat) (w : World) : Oth g w w := ⟨rfl, rfl, rfl, rfl, fun _ _ => rfl⟩
theorem Oth.trans {g : Nat} {a b c : World} (h : Oth g a b) (k : Oth g b c) : Oth g a c :=
  ⟨k.os.trans h.os, k.tape.trans h.tape, k.output.trans h.output, k.size.trans h.size, fun i hi => (k.block i hi).trans (h.block i hi)⟩
theorem Oth.setCell {g : Nat} {a w : World} (h : Oth g a w) (i : Nat) (u : Value) : Oth g a (w.setCell ⟨g, i, none⟩ u) :=
  h.trans ⟨rfl, rfl, rfl, by simp [World.setCell], fun k hk => Below.heap_setCell _ _ _ _ hk⟩
theorem Oth.drewN {g : Nat} {a w : World} (h : Oth g a w) (n : Nat) : Oth g a (w.drewN n) := h.trans ⟨rfl, rfl, rfl, rfl, fun _ _ => rfl⟩
theorem Oth.cell {g : Nat} {w w' : World} (h : Oth g w w') {p : Addr} (hp : p.block ≠ g) : w'.cell? p = w.cell? p := World.cell?_of_block (w := w) (h.block p.block hp)
theorem Oth.below {g B : Nat} {w w' : World} (h : Oth g w w') (hB : B ≤ g) : Below B w w' := ⟨h.os, h.tape, h.output, Nat.le_of_eq h.size.symm, fun k hk => h.block k (by omega)⟩
theorem Own.oth {w w' : World} {g g' : Nat} {L : List Nat} (h : Own w g' L) (ho : Oth g w w') (hg : g' ≠ g) : Own w' g' L := (ho.block g' hg).trans h
theorem Lm.oth {w w' : World} {g : Nat} {A : Option Addr} {n c : Nat} {xs : List Nat} (h : Lm w A n c xs) (ho : Oth g w w') (hA : 0 < n → ∀ b o, A = some ⟨b, o, none⟩ → b ≠ g) : Lm w' A n c xs :=
  ⟨h.1, h.2.1, fun hn => by
    obtain ⟨b, o, e, hb, hc⟩ := h.2.2 hn
    exact ⟨b, o, e, by rw [ho.size]; exact hb, fun j hj => (ho.cell (p := ⟨b, o + j, none⟩) (hA hn b o e)).trans (hc j hj)⟩⟩

theorem Tryd.info37 : (Tryd.prog.info? 37).map (fun i => (i.zero, i.size, i.bytes)) = some (some (.int .u32 0), 1, 4) := by kernel_rfl
/-- 'make([]uint32, n)'. -/
theorem wpList_make_u32 (w : World) {ops : Array Oper} {rest : List Oper} {o : Oper} {a : Act} {Q : Exit → Act → World → Prop}
    (hg : o.guard = none) (l c : Operand) (hop : o.op = Op.makeSlice 22 l c) (kl kc : IntKind) (L C : Int) (n : Nat) (hl : a.eval l = .int kl L) (hc : a.eval c = .int kc C)
    (hL : L = (n : Int)) (hC : C = (n : Int)) (hn : n ≤ 10000000000000)
    (hK : ∀ w', Own w' w.heap.size (List.replicate n 0) → Below w.heap.size w w' → w'.heap.size = w.heap.size + 1 → wpList Tryd.prog ops Q rest (a.put o.dst (.slice (some ⟨w.heap.size, 0, none⟩) n n)) w') :
    wpList Tryd.prog ops Q (o :: rest) a w := by
  obtain ⟨i, hi, hz0, hz1, hz2⟩ := info_parts Tryd.info37
  refine wpList_plain hg fun K hK' => ?_
  have hrun := run_make (P := Tryd.prog) w 22 37 i (.int .u32 0) Tryd.underlying22 hi hz0 kl kc (n : Int) (n : Int) (by omega) (Int.le_refl _) (by rw [hz2]; omega) (by omega)
  subst hL; subst hC
  unfold Oper.wp
  rw [Int.toNat_natCast] at hrun
  simp [execOp, hop, hl, hc, hrun, Result.andThen]
  refine hK' _ _ (hK _ ?_ ((Below.refl _ _).alloc (Nat.le_refl _) _) (by simp))
  unfold Own
  rw [hz1, heap_alloc_new]
  have hm : madeCells (Value.int .u32 0).cells (n * 1) = ((List.replicate n 0).map d32).toArray := by
    apply Array.ext
    · simp [madeCells]
    · intro j h1 h2
      simp [madeCells, Value.cells, Nat.mod_one]
  rw [hm]

/-- 'append([]uint32(nil), src...)': new memory that reads as src. -/
theorem run_append_lm (w : World) (ty : TypeId) (A : Option Addr) (m c : Nat) (xs : List Nat) (h : Lm w A m c xs) :
    ∃ A' c' w', (Builtin.append_ #[22, 22] ty #[.slice none 0 0, .slice A m c]).run Tryd.prog w = .ok (.slice A' m c') w' ∧ Lm w' A' m c' xs ∧ Below w.heap.size w w' := by
  obtain ⟨i, hi, hz0, hz1, hz2⟩ := info_parts Tryd.info37
  have hlen := h.len
  have hbig := h.big
  by_cases h0 : m = 0
  · subst h0
    have hxs : xs = [] := List.eq_nil_of_length_eq_zero hlen
    subst hxs
    rcases A with _ | a
    · refine ⟨none, 0, w, ?_, Lm.nil w, Below.refl _ _⟩
      simp [Builtin.append_, run_underlying Tryd.underlying22, sizeOf, typeInfo, hi, Builtin.lenOf, Builtin.firstCells]
    · obtain ⟨v', w', hrun, _, hg, hiff⟩ := run_append_own (P := Tryd.prog) w w.heap.size 22 ty 37 i (.int .u32 0) 1 4 Tryd.underlying22 hi hz0 hz1 hz2 rfl (by omega) (.slice none 0 0) 0 [] ⟨by simp, .inl ⟨rfl, rfl⟩⟩ a 0 c [] rfl (by simp) (by simp) (by simp [maxLen]) (by omega) (Nat.le_refl _)
      obtain rfl := hiff.2 ⟨rfl, rfl⟩
      exact ⟨none, 0, w', hrun, Lm.nil _, (Below.refl _ _).grown hg (Nat.le_refl _) (fun k hk => by simp [Value.ownBlock] at hk)⟩
  · obtain ⟨b, o, rfl, hb, hc⟩ := h.at_ (k := 0) (by omega)
    obtain ⟨v', w', hrun, hown, hg, hiff⟩ := run_append_own (P := Tryd.prog) w w.heap.size 22 ty 37 i (.int .u32 0) 1 4 Tryd.underlying22 hi hz0 hz1 hz2 rfl (by omega) (.slice none 0 0) 0 [] ⟨by simp, .inl ⟨rfl, rfl⟩⟩ ⟨b, o, none⟩ m c (xs.map d32) (by simp [hlen])
      (fun j u hu => by
        rw [List.getElem?_map] at hu
        by_cases hj : j < xs.length
        · rw [List.getElem?_eq_getElem hj] at hu
          simp at hu
          subst hu
          have := hc j (by omega)
          rw [dig_get hj] at this
          have e : (⟨b, o, none⟩ : Addr).add j = ⟨b, o + j, none⟩ := by unfold Addr.add; split <;> simp_all
          rw [e]; exact this
        · rw [List.getElem?_eq_none (by omega)] at hu; simp at hu)
      (fun u hu => by rw [List.mem_map] at hu; obtain ⟨x, _, rfl⟩ := hu; rfl) (by simp only [maxLen]; omega) (by omega) (Nat.le_refl _)
    rcases hown.2 with ⟨_, h1⟩ | ⟨g, cap, cur, rfl, hge, hh, hnc, hcm, hcs, hct⟩
    · omega
    · rw [Nat.zero_add] at hrun hnc hct
      refine ⟨_, cap, w', hrun, ⟨⟨hlen, hnc, hbig⟩, h.ok, fun _ => ⟨g, 0, rfl, ?_, fun j hj => ?_⟩⟩, (Below.refl _ _).grown hg (Nat.le_refl _) (fun k hk => by simp [Value.ownBlock] at hk)⟩
      · apply Nat.lt_of_not_le; intro cc; rw [Array.getElem?_eq_none cc] at hh; cases hh
      · rw [cell_of_row w' g _ _ _ _ hh, Nat.zero_add]
        have h2 : (cur.toList.take (m * 1))[j]? = some (d32 (dig xs j)) := by
          rw [hct, List.nil_append, List.getElem?_map, dig_get (by omega), List.getElem?_eq_getElem (by omega)]; rfl
        rw [List.getElem?_take, if_pos (by omega)] at h2
        simpa using h2
/-- the same as an arm of the walk. -/
theorem wpList_append_lm (w : World) {ops : Array Oper} {rest : List Oper} {o : Oper} {a : Act} {Q : Exit → Act → World → Prop}
    (hg : o.guard = none) (s x : Operand) (ho : o.op = .call { callee := .builtin .append, args := #[s, x], argTypes := #[22, 22] })
    (hs : a.eval s = .slice none 0 0) (A : Option Addr) (m c : Nat) (xs : List Nat) (hx : a.eval x = .slice A m c) (h : Lm w A m c xs)
    (hK : ∀ A' c' w', Lm w' A' m c' xs → Below w.heap.size w w' → wpList Tryd.prog ops Q rest (a.put o.dst (.slice A' m c')) w') :
    wpList Tryd.prog ops Q (o :: rest) a w := by
  obtain ⟨A', c', w', hrun, hl, hb⟩ := run_append_lm w o.type A m c xs h
  refine wpList_plain hg fun K hK' => ?_
  unfold Oper.wp execOp
  simp only [ho, resolve, invoke, builtin, Sem.run_bind, Sem.run_pure, Result.andThen_ok, List.map_toArray, List.map_cons, List.map_nil, hs, hx, hrun]
  exact hK' _ _ (hK A' c' w' hl hb)
end Go.Proofs.YtopkndkicdgafaaDoor
