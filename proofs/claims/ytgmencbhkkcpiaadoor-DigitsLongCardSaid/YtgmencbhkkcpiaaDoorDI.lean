/- Contracts of package digits: joined. -/
import Derived.Test.YtgmencbhkkcpiaaDoorDH
namespace Go.Proofs.YtgmencbhkkcpiaaDoor
open Go Go.RowKit Go.Shelf
set_option linter.unusedSimpArgs false
set_option linter.unusedVariables false
attribute [local go_sem] Oper.semAt_some
def jacc (bs wd : Nat) {M : Nat} (pre : List (Nat × Lb M)) : List UInt8 := pre.foldl (fun acc x => Ev.jn1 bs wd acc x.2.1) []
theorem jacc_snoc (bs wd : Nat) {M : Nat} (pre : List (Nat × Lb M)) (x : Nat × Lb M) : jacc bs wd (pre ++ [x]) = Ev.jn1 bs wd (jacc bs wd pre) x.2.1 := by unfold jacc; rw [List.foldl_append]; rfl
theorem tx0_len {b N : Nat} (hb : 2 ≤ b) (h : N < 4294967296) : (Ev.tx0 b N).length ≤ 32 := by
  unfold Ev.tx0
  split
  · simp
  · have h1 : (Ev.txt b N).length = Ev.nd b N := Ev.low_len _ _ _
    rw [h1, Ev.nd_le hb]
    exact Nat.lt_of_lt_of_le h (Nat.le_trans (by decide : 4294967296 ≤ 2 ^ 32) (Nat.pow_le_pow_left hb 32))
theorem jn1_len {b wd g : Nat} {acc : List UInt8} (hb : 2 ≤ b) (hw : wd ≤ 100) (h : g < 4294967296) : (Ev.jn1 b wd acc g).length ≤ acc.length + 132 := by
  have h1 := tx0_len hb h
  unfold Ev.jn1 Ev.pad
  split
  · omega
  · simp only [List.length_append, List.length_replicate]; omega
theorem jacc_len {bs wd : Nat} {M : Nat} (hb : 2 ≤ bs) (hw : wd ≤ 100) (hM : M ≤ 4294967296) (pre : List (Nat × Lb M)) : (jacc bs wd pre).length ≤ 132 * pre.length := by
  have key : ∀ (l : List (Nat × Lb M)) (acc : List UInt8), (l.foldl (fun acc x => Ev.jn1 bs wd acc x.2.1) acc).length ≤ acc.length + 132 * l.length := by
    intro l
    induction l with
    | nil => intro acc; simp
    | cons x l ih =>
      intro acc
      rw [List.foldl_cons]
      have h1 := ih (Ev.jn1 bs wd acc x.2.1)
      have h2 := jn1_len (acc := acc) hb hw (Nat.lt_of_lt_of_le x.2.2 hM)
      rw [List.length_cons]; omega
  have := key pre []
  simpa [jacc] using this
/-- what joined holds between two rounds: the builder, the two boxed arguments, the box of the slice. -/
def JI (n bs wd : Nat) (S : Value) (l : List UInt8) (W : World) : Prop :=
  Lib.IsBuilderF 61 5 (n + 1 + 1) (n + 1 + 1) (Lib.byteCells l) W ∧ W.cell? ⟨n, 0, none⟩ = some (.int .i64 (bs : Int)) ∧ W.cell? ⟨n + 1, 0, none⟩ = some (.int .i64 (wd : Int)) ∧ W.heap[n + 1 + 1 + 1]? = some (Obj.cells #[S] 22)
theorem JI.lt {n bs wd : Nat} {S : Value} {l : List UInt8} {A : World} (h : JI n bs wd S l A) : n + 1 + 1 + 1 < A.heap.size := by
  rcases Nat.lt_or_ge (n + 1 + 1 + 1) A.heap.size with h' | h'
  · exact h'
  · have := h.2.2.2; simp [Array.getElem?_eq_none h'] at this
theorem JI.own {n bs wd : Nat} {S : Value} {l : List UInt8} {A C : World} {row : Option Nat} (h : JI n bs wd S l A) (hg : A.grownBy C row) (hr : ∀ r, row = some r → ∃ o : Obj, A.heap[r]? = some o ∧ o.isCells = false) : JI n bs wd S l C := by
  refine ⟨bld_own h.1 hg hr, cell_kept h.2.1 hg hr, cell_kept h.2.2.1 hg hr, ?_⟩
  rw [hg.block _ h.lt ?_]
  · exact h.2.2.2
  · intro hrow
    obtain ⟨o, ho, hoc⟩ := hr _ hrow.symm
    rw [h.2.2.2] at ho; cases ho; cases hoc
theorem JI.below {n bs wd : Nat} {S : Value} {l : List UInt8} {A C : World} (h : JI n bs wd S l A) (hb : Below A.heap.size A C) : JI n bs wd S l C ∧ KeepsOthers A C ∧ KpB n (n + 1 + 1 + 1) A C := by
  have hg : A.grownBy C none := ⟨hb.os, hb.tape, hb.output, hb.size, fun k hk _ => hb.block k hk⟩
  have hlt := h.lt
  exact ⟨h.own hg (fun r e => by cases e), KeepsOthers.of_grownBy hg (fun j o e => by cases e), hb.mono (by omega), hb.block _ hlt⟩
theorem JI.put {n bs wd : Nat} {S : Value} {l l' : List UInt8} {A C : World} (h : JI n bs wd S l A) (hB : Lib.IsBuilderF 61 5 (n + 1 + 1) (n + 1 + 1) (Lib.byteCells l') C) (hb : Below (n + 1 + 1) A C) (hok : Lib.OthersKept 5 (some (n + 1 + 1)) A C) : JI n bs wd S l' C ∧ KeepsOthers A C ∧ KpB n (n + 1 + 1 + 1) A C := by
  have hS := hok _ _ h.2.2.2 (by intro e; injection e with e; omega) (by intro c fz e; injection e with _ e2 _; exact absurd e2 (by decide))
  refine ⟨⟨hB, (hb.cell (p := ⟨n, 0, none⟩) (by show n < n + 1 + 1; omega)).trans h.2.1, (hb.cell (p := ⟨n + 1, 0, none⟩) (by show n + 1 < n + 1 + 1; omega)).trans h.2.2.1, hS⟩, ⟨hb.size, fun k o hk ho => hok k o hk ?_ (by rintro c fz rfl; cases ho)⟩, hb.mono (by omega), hS.trans h.2.2.2.symm⟩
  intro e; injection e with e; subst e
  rcases h.1 with hh | hh
  · obtain ⟨_, v, hv, _⟩ := hh; rw [hk] at hv; cases hv; cases ho
  · obtain ⟨_, v, hv, _⟩ := hh; rw [hk] at hv; cases hv; cases ho
theorem rep48 (c : Nat) : Lib.repeatL [48] c = List.replicate c 48 := by
  induction c with
  | zero => rfl
  | succ c ih => show [48] ++ Lib.repeatL [48] c = _; rw [ih, List.replicate_succ]; rfl
theorem bc_len (l : List UInt8) : (Lib.byteCells l).length = l.length := by simp [Lib.byteCells]
theorem bc_app (l k : List UInt8) : Lib.byteCells l ++ Lib.strCells ⟨k.toArray⟩ = Lib.byteCells (l ++ k) := by simp [Lib.byteCells, Lib.strCells]
/-- WriteString, as joined uses it. -/
theorem JI.write {n bs wd : Nat} {S : Value} {l k : List UInt8} {A : World} (h : JI n bs wd S l A) (hlen : l.length + k.length ≤ 140737488355328) :
    Calls Tryd.prog 39 #[.pointer (some ⟨n + 1 + 1, 0, none⟩), .string ⟨k.toArray⟩] A fun e C => (∃ v, e = .returned v) ∧ JI n bs wd S (l ++ k) C ∧ KeepsOthers A C ∧ KpB n (n + 1 + 1 + 1) A C := by
  have hlt := h.lt
  refine (wstr (n + 1 + 1) (n + 1 + 1) _ ⟨k.toArray⟩ A h.1 (by rw [bc_len]; exact hlen) (by omega)).mono ?_
  rintro e C ⟨rfl, hB, hb, hok⟩
  rw [bc_app] at hB
  exact ⟨⟨_, rfl⟩, h.put (.inr hB) hb hok⟩
set_option maxRecDepth 100000 in
set_option maxHeartbeats 4000000 in
theorem joined_any (bs wd : Nat) (hb2 : 2 ≤ bs) (hb3 : bs ≤ 36) (hw1 : 1 ≤ wd) (hw2 : wd ≤ 100) {M : Nat} (hM : 0 < M) (hM2 : M ≤ 4294967296) (hwl : ∀ g, g < M → (Ev.tx0 bs g).length ≤ wd) (G : World → Prop) (w : World) (hG : ∀ A C, Below w.heap.size A C → G A → G C) (hGw : G w)
    (HF : ∀ (g : Nat) (W : World), g < M → G W → Calls Tryd.prog 37 #[.int .u64 (g : Int), .int .i64 (bs : Int)] W fun e W' => e = .returned (.string ⟨(Ev.tx0 bs g).toArray⟩) ∧ Below W.heap.size W W')
    (b off cap : Nat) (zs : List (Lb M)) (h0 : zs ≠ []) (hlen : zs.length ≤ 1000000) (hb : b < w.heap.size) (hc : ∀ j, j < zs.length → w.cell? ⟨b, off + j, none⟩ = some (.int .u32 ((zs.getD j ⟨0, hM⟩).1 : Int))) :
    Calls Tryd.prog 20 #[.slice (some ⟨b, off, none⟩) zs.length cap, .int .i64 (bs : Int), .int .i64 (wd : Int)] w fun e w' => e = .returned (.string ⟨(jacc bs wd (upto (bwA hM zs) zs.length)).toArray⟩) ∧ Below w.heap.size w w' := by
  obtain ⟨len, hl⟩ : ∃ len, zs.length = len := ⟨_, rfl⟩
  have hl0 : 0 < len := by rw [← hl]; exact List.length_pos_iff.2 h0
  have HL := Lib.hid hl
  rw [hl] at hlen hc ⊢
  clear hl
  refine (callsIn_wide (n := 5)).1 ?_
  refine callsIn_of_wp_marks Tryd.func20 rfl trivial ?_ rfl
  simp only [Tryd.ntmps20, List.size_toArray, List.length_cons, List.length_nil, Nat.reduceAdd, Nat.reduceSub, Array.replicate_succ, Array.replicate_zero, List.push_toArray, List.append_toArray, List.nil_append, List.cons_append]
  have hne : ¬ (len : Int) = 0 := by omega
  gi_wp2
  refine ⟨trivial, ?_⟩
  refine (bw_in Fence.wide 4 trivial rfl _ _ _ _).mono ?_
  rintro e w' ⟨rfl, rfl⟩
  gi_wp2
  have e13 : ((len : Int) == 0) = false := by simp; omega
  obtain ⟨W0, hW0⟩ : ∃ W0, (((w.alloc (Obj.cells #[Value.int IntKind.i64 (bs : Int)] 3)).alloc (Obj.cells #[Value.int IntKind.i64 (wd : Int)] 3)).alloc (Obj.cells #[Value.pointer none, Value.slice none 0 0] 61)).alloc (Obj.cells #[Value.slice (some ⟨b, off, none⟩) len cap] 22) = W0 := ⟨_, rfl⟩
  obtain ⟨hsz, hb0, hc0, hc1, hcS, hBld, hSl⟩ : W0.heap.size = w.heap.size + 4 ∧ Below w.heap.size w W0 ∧ W0.cell? ⟨w.heap.size, 0, none⟩ = some (.int .i64 (bs : Int)) ∧ W0.cell? ⟨w.heap.size + 1, 0, none⟩ = some (.int .i64 (wd : Int)) ∧ W0.cell? ⟨w.heap.size + 1 + 1 + 1, 0, none⟩ = some (.slice (some ⟨b, off, none⟩) len cap) ∧ Lib.IsBuilderF 61 5 (w.heap.size + 1 + 1) (w.heap.size + 1 + 1) [] W0 ∧ W0.heap[w.heap.size + 1 + 1 + 1]? = some (Obj.cells #[.slice (some ⟨b, off, none⟩) len cap] 22) := by
    have s1 := World.size_alloc w (Obj.cells #[Value.int IntKind.i64 (bs : Int)] 3)
    have b1 := (Below.refl w.heap.size w).alloc (Nat.le_refl _) (Obj.cells #[Value.int IntKind.i64 (bs : Int)] 3)
    have c1 : (w.alloc (Obj.cells #[Value.int IntKind.i64 (bs : Int)] 3)).cell? ⟨w.heap.size, 0, none⟩ = some (.int .i64 (bs : Int)) := World.cell?_alloc_at _ _ _ _ rfl
    generalize w.alloc (Obj.cells #[Value.int IntKind.i64 (bs : Int)] 3) = W1 at *
    have s2 := World.size_alloc W1 (Obj.cells #[Value.int IntKind.i64 (wd : Int)] 3)
    have b2 := b1.alloc (by omega) (Obj.cells #[Value.int IntKind.i64 (wd : Int)] 3)
    have c2 : (W1.alloc (Obj.cells #[Value.int IntKind.i64 (wd : Int)] 3)).cell? ⟨w.heap.size + 1, 0, none⟩ = some (.int .i64 (wd : Int)) := World.cell?_alloc_at _ _ _ _ s1.symm
    have c1 := (World.cell?_alloc_past (Obj.cells #[Value.int IntKind.i64 (wd : Int)] 3) w.heap.size 0 (by omega)).trans c1
    generalize W1.alloc (Obj.cells #[Value.int IntKind.i64 (wd : Int)] 3) = W2 at *
    rw [s1] at s2
    have s3 := World.size_alloc W2 (Obj.cells #[Value.pointer none, Value.slice none 0 0] 61)
    have b3 := b2.alloc (by omega) (Obj.cells #[Value.pointer none, Value.slice none 0 0] 61)
    have c1 := (World.cell?_alloc_past (Obj.cells #[Value.pointer none, Value.slice none 0 0] 61) w.heap.size 0 (by omega)).trans c1
    have c2 := (World.cell?_alloc_past (Obj.cells #[Value.pointer none, Value.slice none 0 0] 61) (w.heap.size + 1) 0 (by omega)).trans c2
    have B3 := Lib.fresh_isBuilder 61 5 W2
    rw [s2] at B3
    generalize W2.alloc (Obj.cells #[Value.pointer none, Value.slice none 0 0] 61) = W3 at *
    rw [s2] at s3
    have s4 := World.size_alloc W3 (Obj.cells #[Value.slice (some ⟨b, off, none⟩) len cap] 22)
    have b4 := b3.alloc (by omega) (Obj.cells #[Value.slice (some ⟨b, off, none⟩) len cap] 22)
    have c1 := (World.cell?_alloc_past (Obj.cells #[Value.slice (some ⟨b, off, none⟩) len cap] 22) w.heap.size 0 (by omega)).trans c1
    have c2 := (World.cell?_alloc_past (Obj.cells #[Value.slice (some ⟨b, off, none⟩) len cap] 22) (w.heap.size + 1) 0 (by omega)).trans c2
    have c4 : (W3.alloc (Obj.cells #[Value.slice (some ⟨b, off, none⟩) len cap] 22)).cell? ⟨w.heap.size + 1 + 1 + 1, 0, none⟩ = some (.slice (some ⟨b, off, none⟩) len cap) := World.cell?_alloc_at _ _ _ _ s3.symm
    have B4 := (Lib.IsBuilderF.of B3).alloc (Obj.cells #[Value.slice (some ⟨b, off, none⟩) len cap] 22)
    have n4 := World.alloc_heap_new W3 (Obj.cells #[Value.slice (some ⟨b, off, none⟩) len cap] 22)
    rw [s3] at n4
    rw [hW0] at s4 b4 c1 c2 c4 B4 n4
    exact ⟨by omega, b4, c1, c2, c4, B4, n4⟩
  rw [hW0]
  have hzl := HL.out
  refine wpIn_rangeFunc_ownF rfl (by omega) (gf := 57) (lb := #[.pointer (some ⟨w.heap.size + 1 + 1 + 1, 0, none⟩)]) ?hg trivial (enters_of Tryd.func57 (by kernel_rfl) rfl)
    (bwd_stops Fence.wide 4 trivial rfl (by omega) hM (w.heap.size + 1 + 1 + 1) w.heap.size b off cap zs (by rw [hzl]; omega) hb W0 (by omega) (by omega) (by rw [hzl]; exact hcS) (fun j hj => (hb0.cell (p := ⟨b, off + j, none⟩) hb).trans (hc j (by rw [← hzl]; exact hj)))) KpB.trans ?hKb (Below.refl _ _) (fun _ => rfl)
    (fun pre W => JI w.heap.size bs wd (.slice (some ⟨b, off, none⟩) len cap) (jacc bs wd pre) W ∧ Below w.heap.size w W)
    (fun _ _ _ => False)
    (OwnFrom.and (Own.from (fun s A C row hs hg hr => hs.own hg hr) _) (ownFrom_below (Nat.le_refl _) (by omega)))
    (fun _ _ _ _ _ hs _ _ => hs)
    ?h0
    (fun x => { tmps := #[.slice (some ⟨b, off, none⟩) len cap, .int .i64 (bs : Int), .int .i64 (wd : Int), undef, .pointer (some ⟨w.heap.size, 0, none⟩), .pointer (some ⟨w.heap.size + 1, 0, none⟩), .string ⟨#[]⟩, .pointer (some ⟨w.heap.size + 1 + 1, 0, none⟩), undef, .int .u32 (x.2.1 : Int), undef,
      .slice (some ⟨b, off, none⟩) len cap, .int .i64 (len : Int), .bool false, .slice (some ⟨b, off, none⟩) len cap, .func (.func 57) #[] #[.pointer (some ⟨w.heap.size + 1 + 1 + 1, 0, none⟩)], .int .i64 (x.1 : Int), .int .u32 (x.2.1 : Int), undef, undef, undef, undef, undef, undef, undef, undef, undef, undef, undef, undef, undef, undef, undef], defers := [] }) ?assign ?body ?done ?stop
  case hg => rfl
  case hKb =>
    intro W l o o' hl h h1 h2
    refine ⟨belowK_b (w := w) (Nat.le_refl _) W l o o' (by omega) h h1 h2, ?_⟩
    exact World.putObj_heap_other (by omega)
  case h0 =>
    exact ⟨⟨hBld, hc0, hc1, hSl⟩, hb0⟩
  case assign =>
    intro l x W K hK
    simp only [encB]
    gi_wp2
    exact hK
  case body =>
    rintro l pre x W ⟨hJ, hbel⟩ hlt
    have hx := x.2.2
    have hW : IntKind.u64.wrap (x.2.1 : Int) = (x.2.1 : Int) := IntWalk.u64_in _ ⟨by omega, by omega⟩
    have hjs := jacc_snoc bs wd pre x
    have hjl := jacc_len (M := M) hb2 hw2 hM2 pre
    have hwl' := hwl _ hx
    have hFx := HF _ W hx (hG w W hbel hGw)
    unfold Ev.jn1 Ev.pad at hjs
    obtain ⟨T, hT⟩ : ∃ T, Ev.tx0 bs x.2.1 = T := ⟨_, rfl⟩
    rw [hT] at hjs hwl' hFx
    obtain ⟨acc, hacc⟩ : ∃ acc, jacc bs wd pre = acc := ⟨_, rfl⟩
    rw [hacc] at hjs hjl hJ
    have hJb := Lib.hid hjs
    clear hjs
    have hc0 := hJ.2.1
    have hc1 := hJ.2.2.1
    gi_wp2
    refine ⟨trivial, ?_⟩
    refine (CallsIn.inRound l (callsIn_wide.2 hFx)).mono ?_
    rintro e W1 ⟨rfl, hbl1⟩
    obtain ⟨hJ1, hk1, hp1⟩ := hJ.below hbl1
    have hc0 := hJ1.2.1
    have hc1 := hJ1.2.2.1
    gi_wp2
    refine ⟨trivial, ?_⟩
    refine (CallsIn.inRound l (callsIn_wide.2 (Tryd.Builder_Len_f _ _ _ W1 hJ1.1))).mono ?_
    rintro e W2 ⟨rfl, rfl⟩
    obtain ⟨Z, hZ⟩ : ∃ Z, List.replicate (wd - T.length) (48 : UInt8) = Z := ⟨_, rfl⟩
    have hZl : Z.length = wd - T.length := by rw [← hZ, List.length_replicate]
    have hZ' := Lib.hid hZ
    rw [hZ] at hJb
    clear hZ
    have hsub : (wd : Int) - (T.length : Int) = ((wd - T.length : Nat) : Int) := by omega
    have hps : pre.length ≤ 1000000 := by omega
    rcases Nat.eq_zero_or_pos (Lib.byteCells acc).length with hz | hz
    · have hac : acc = [] := by rw [bc_len] at hz; exact List.length_eq_zero_iff.1 hz
      have hJe : jacc bs wd (pre ++ [x]) = T := hJb.out.trans (if_pos hac)
      have hJw := hJ1.write (k := T) (by omega)
      rw [hac, List.nil_append] at hJw
      gi_wp2
      refine ⟨trivial, ?_⟩
      refine (CallsIn.inRound l (callsIn_wide.2 hJw)).mono ?_
      rintro e W3 ⟨⟨v3, rfl⟩, hJ3, hk3, hp3⟩
      gi_wp2
      exact ⟨hk1.trans hk3, KpB.trans hp1 hp3, hJe ▸ hJ3, hbel.trans (hp1.1.trans hp3.1)⟩
    · have hac : acc ≠ [] := by rintro rfl; simp [Lib.byteCells] at hz
      have hJe : jacc bs wd (pre ++ [x]) = acc ++ (Z ++ T) := hJb.out.trans (if_neg hac)
      have hrp := Tryd.strings_Repeat ⟨#[48]⟩ (wd - T.length) W2 (by omega) (by show 1 * _ ≤ _; omega)
      rw [show (ByteArray.mk #[48]).data.toList = [48] from rfl, rep48, hZ'.out] at hrp
      gi_wp2
      refine ⟨trivial, ?_⟩
      refine (CallsIn.inRound l (callsIn_wide.2 hrp)).mono ?_
      rintro e W3 ⟨rfl, hbl3⟩
      obtain ⟨hJ3, hk3, hp3⟩ := hJ1.below hbl3
      gi_wp2
      refine ⟨trivial, ?_⟩
      refine (CallsIn.inRound l (callsIn_wide.2 (hJ3.write (k := Z) (by omega)))).mono ?_
      rintro e W4 ⟨⟨v4, rfl⟩, hJ4, hk4, hp4⟩
      gi_wp2
      refine ⟨trivial, ?_⟩
      refine (CallsIn.inRound l (callsIn_wide.2 (hJ4.write (k := T) (by rw [List.length_append]; omega)))).mono ?_
      rintro e W5 ⟨⟨v5, rfl⟩, hJ5, hk5, hp5⟩
      rw [List.append_assoc] at hJ5
      gi_wp2
      exact ⟨((hk1.trans hk3).trans hk4).trans hk5, KpB.trans (KpB.trans (KpB.trans hp1 hp3) hp4) hp5, hJe ▸ hJ5, hbel.trans (((hp1.1.trans hp3.1).trans hp4.1).trans hp5.1)⟩
  case done =>
    rintro D ys W hD rfl ⟨hJ, hbel⟩ hK
    have hDl : D < W.heap.size := (Array.getElem?_eq_some_iff.1 hK).1
    gi_wp2
    refine ⟨trivial, ?_⟩
    refine (callsIn_wide.2 (Tryd.Builder_String_any_k _ _ _ W hJ.1 (by omega))).mono ?_
    rintro e W' ⟨rfl, _, hbl, hok⟩
    have hK' := hok D _ hK (by intro e; injection e with e; omega) (by intro c fz e; cases e)
    gi_wp2
    refine ⟨by simp, .inl ⟨_, _, rfl, run_takeDeferred hK', ?_⟩⟩
    exact ⟨_, results_tmp rfl _ _ _, rfl, hbel.trans ((hbl.mono (by omega)).trans (belowK_b (w := w) (Nat.le_refl _) W' D _ _ (by omega) hK' rfl rfl))⟩
  case stop =>
    rintro D c pre W _ _ h _
    exact h.elim
end Go.Proofs.YtgmencbhkkcpiaaDoor
