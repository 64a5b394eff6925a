/- slices.Backward over limbs: its iterator's contract. -/
import Derived.RangeFuncNested
import Derived.RangeFuncBound
import Derived.RangeFuncBox
import Derived.RangeFuncCalls
import Derived.RangeFuncLeaves
import Derived.Shelf.Abstract
import Derived.Shelf.RegionOpen
import Derived.WalkKit
import Derived.OwnWalkIn
import Derived.TacticsInMore
import Derived.LoopNIn
import Derived.LoopIn
import Derived.Test.YtgmencbhkkcpiaaDoorDG
import Derived.Test.YtgmencbhkkcpiaaDoorTd
namespace Go.Proofs.YtgmencbhkkcpiaaDoor
open Go Go.RowKit Go.Shelf
set_option linter.unusedSimpArgs false
set_option linter.unusedVariables false
attribute [local go_sem] Oper.semAt_some
/-- what a round keeps: what lay below, and the iterator's own box. -/
def KpB (n0 Bs : Nat) (W W' : World) : Prop := Below n0 W W' ∧ W'.heap[Bs]? = W.heap[Bs]?
theorem KpB.refl (n0 Bs : Nat) (W : World) : KpB n0 Bs W W := ⟨Below.refl _ _, rfl⟩
theorem KpB.trans {n0 Bs : Nat} {A B C : World} (h : KpB n0 Bs A B) (k : KpB n0 Bs B C) : KpB n0 Bs A C := ⟨h.1.trans k.1, k.2.trans h.2⟩
/-- a limb below M. -/
abbrev Lb (M : Nat) := {g : Nat // g < M}
def bwA {M : Nat} (hM : 0 < M) (zs : List (Lb M)) (k : Nat) : Nat × Lb M := (zs.length - 1 - k, zs.getD (zs.length - 1 - k) ⟨0, hM⟩)
def upto {α : Type} (f : Nat → α) (k : Nat) : List α := (List.range k).map f
theorem upto_succ {α : Type} (f : Nat → α) (k : Nat) : upto f (k + 1) = upto f k ++ [f k] := by simp [upto, List.range_succ]
theorem upto_length {α : Type} (f : Nat → α) (k : Nat) : (upto f k).length = k := by simp [upto]
def encB {M : Nat} (x : Nat × Lb M) : Array Value := #[.int .i64 (x.1 : Int), .int .u32 (x.2.1 : Int)]
set_option maxRecDepth 100000 in
set_option maxHeartbeats 4000000 in
theorem bwd1_in (F : Fence) (n : Nat) (h7 : F.fn 57) (hro : F.round = none) (hn : 1 ≤ n) {M : Nat} (hM : 0 < M) (l Bs n0 b off cap : Nat) (zs : List (Lb M)) (hlen : zs.length ≤ 1000000000) (hb : b < n0) (J Jx : List (Nat × Lb M) → World → Prop)
    (hY : ∀ pre x W, J pre W → pre.length < zs.length → YieldAt F (n - 1) Tryd.prog l (encB x) W fun e W' =>
      (e = .returned (.bool true) ∧ J (pre ++ [x]) W' ∧ KpB n0 Bs W W') ∨ (e = .returned (.bool false) ∧ Jx (pre ++ [x]) W'))
    (W : World) (hBs : W.cell? ⟨Bs, 0, none⟩ = some (.slice (some ⟨b, off, none⟩) zs.length cap)) (hc : ∀ j, j < zs.length → W.cell? ⟨b, off + j, none⟩ = some (.int .u32 ((zs.getD j ⟨0, hM⟩).1 : Int))) (h0 : J [] W) :
    CallsIn F n Tryd.prog 57 #[.func (.yield l) #[] #[], .pointer (some ⟨Bs, 0, none⟩)] W fun e W' => (∃ v, e = .returned v) ∧
      ((∃ ys, ys = upto (bwA hM zs) zs.length ∧ J ys W') ∨ (∃ pre, (∃ k, k ≤ zs.length ∧ pre = upto (bwA hM zs) k) ∧ Jx pre W')) := by
  obtain ⟨len, hl⟩ : ∃ len, zs.length = len := ⟨_, rfl⟩
  rw [hl] at hlen hY hBs hc ⊢
  refine callsIn_of_wp Tryd.func57 rfl h7 ?_ hro
  simp only [Tryd.ntmps57, List.size_toArray, List.length_cons, List.length_nil, Nat.reduceAdd, Nat.reduceSub, Array.replicate_succ, Array.replicate_zero, List.push_toArray, List.append_toArray, List.nil_append, List.cons_append]
  gi_wp2
  gi_loopw [3] (fun i wr => ∃ k : Nat, k ≤ len ∧ i = .int .i64 ((len : Int) - 1 - k) ∧ J (upto (bwA hM zs) k) wr ∧ KpB n0 Bs W wr)
    (fun i _ => (intOf i + 1).toNat)
  case atStart => exact ⟨0, Nat.zero_le _, by rw [Int.natCast_zero, Int.sub_zero], h0, KpB.refl _ _ _⟩
  case round =>
    obtain ⟨k, hk, rfl, hJs, hnx⟩ := hrel
    have hbx : wr.cell? ⟨Bs, 0, none⟩ = some (.slice (some ⟨b, off, none⟩) len cap) := (World.cell?_of_block hnx.2).trans hBs
    by_cases hlt : k < len
    · obtain ⟨j, hj⟩ : ∃ j, j = len - 1 - k := ⟨_, rfl⟩
      have ej : ((len : Int) - 1 - (k : Int)) = ((j : Nat) : Int) := by omega
      rw [ej]
      have hjl : j < len := by omega
      have hcx : wr.cell? ⟨b, off + j, none⟩ = some (.int .u32 ((zs.getD j ⟨0, hM⟩).1 : Int)) := (hnx.1.cell (p := ⟨b, off + j, none⟩) hb).trans (hc _ hjl)
      obtain ⟨fn, tmps, assign, body, hy, hR⟩ := hY _ (bwA hM zs k) wr hJs (by rw [upto_length]; exact hlt)
      dsimp only [encB, bwA] at hy
      rw [hl, ← hj] at hy
      obtain ⟨v, hv⟩ : ∃ v : Nat, v = (zs.getD j ⟨0, hM⟩).1 := ⟨_, rfl⟩
      rw [← hv] at hy hcx
      clear hv
      have HJ := Lib.hid hj
      have HE := Lib.hid ej
      clear hj ej
      gi_wp2
      refine hR.mono ?_
      rintro e W3 (⟨rfl, hJ3, hk3⟩ | ⟨rfl, hJx3⟩)
      · gi_wp2
        go_roundw
        case rel => exact ⟨k + 1, by omega, congrArg (Value.int .i64) (by have := HE.out; omega), by rw [upto_succ]; exact hJ3, hnx.trans hk3⟩
        case measure => show ((j : Int) - 1 + 1).toNat < ((j : Int) + 1).toNat; omega
      · gi_wp2
        refine bodyPost_ret (results_none rfl _ _ _) rfl ?_
        exact ⟨⟨_, rfl⟩, .inr ⟨_, ⟨k + 1, by omega, (upto_succ _ _).symm⟩, hJx3⟩⟩
    · obtain rfl : k = len := by omega
      have ej : ((k : Int) - 1 - (k : Int)) = -1 := by omega
      rw [ej]
      gi_wp2
      go_end0
      exact ⟨⟨_, rfl⟩, .inl ⟨_, rfl, hJs⟩⟩
set_option maxRecDepth 100000 in
set_option maxHeartbeats 1000000 in
/-- slices.Backward(s): the slice is boxed; the function captures the box. -/
theorem bw_in (F : Fence) (n : Nat) (h5 : F.fn 36) (hro : F.round = none) (a : Option Addr) (len cap : Nat) (w : World) :
    CallsIn F n Tryd.prog 36 #[.slice a len cap] w fun e w' => e = .returned (.func (.func 57) #[] #[.pointer (some ⟨w.heap.size, 0, none⟩)]) ∧ w' = w.alloc (.cells #[.slice a len cap] 22) := by
  refine callsIn_of_wp Tryd.func36 rfl h5 ?_ hro
  simp only [Tryd.ntmps36, List.size_toArray, List.length_cons, List.length_nil, Nat.reduceAdd, Nat.reduceSub, Array.replicate_succ, Array.replicate_zero, List.push_toArray, List.append_toArray, List.nil_append, List.cons_append]
  gi_wp2
  go_ret
  exact ⟨rfl, rfl⟩
theorem bwd_stops (F : Fence) (n : Nat) (h7 : F.fn 57) (hro : F.round = none) (hn : 1 ≤ n) {M : Nat} (hM : 0 < M) (Bs n0 b off cap : Nat) (zs : List (Lb M)) (hlen : zs.length ≤ 1000000000) (hb : b < n0) (w : World) (hBs : Bs < w.heap.size) (hn0 : n0 ≤ w.heap.size)
    (hcB : w.cell? ⟨Bs, 0, none⟩ = some (.slice (some ⟨b, off, none⟩) zs.length cap)) (hc : ∀ j, j < zs.length → w.cell? ⟨b, off + j, none⟩ = some (.int .u32 ((zs.getD j ⟨0, hM⟩).1 : Int))) :
    SeqStopsK F n Tryd.prog 57 #[.pointer (some ⟨Bs, 0, none⟩)] (encB (M := M)) (KpB n0 Bs) (fun ys => ys = upto (bwA hM zs) zs.length) (fun _ => True) zs.length w := fun l J Jx W hW _ _ hY h0 => by
  refine (bwd1_in F n h7 hro hn hM l Bs n0 b off cap zs hlen hb J Jx hY W ((hW.cell (p := ⟨Bs, 0, none⟩) hBs).trans hcB) (fun j hj => (hW.cell (p := ⟨b, off + j, none⟩) (Nat.lt_of_lt_of_le hb hn0)).trans (hc j hj)) h0).mono ?_
  rintro e W' ⟨he, ⟨ys, rfl, hj⟩ | ⟨pre, _, hj⟩⟩
  · exact ⟨he, .inl ⟨_, rfl, hj⟩⟩
  · exact ⟨he, .inr ⟨_, trivial, hj⟩⟩
/-- a builder stays one, while what is no cells turns. -/
theorem bld_own {T e : TypeId} {B b : Nat} {bs : List Value} {A C : World} {row : Option Nat} (h : Lib.IsBuilderF T e B b bs A) (hg : A.grownBy C row) (hr : ∀ r, row = some r → ∃ o : Obj, A.heap[r]? = some o ∧ o.isCells = false) : Lib.IsBuilderF T e B b bs C := by
  have key : ∀ p, Lib.BuilderAtF T e B b p bs A → Lib.BuilderAtF T e B b p bs C := by
    rintro p ⟨hB, v, hb, hown, hne⟩
    have hlt : b < A.heap.size := by
      rcases Nat.lt_or_ge b A.heap.size with h' | h'
      · exact h'
      · simp [Array.getElem?_eq_none h'] at hb
    refine ⟨hB, v, ?_, ?_, hne⟩
    · rw [hg.block b hlt ?_]
      · exact hb
      · intro hrow
        obtain ⟨o, ho, hoc⟩ := hr b hrow.symm
        rw [hb] at ho; cases ho; cases hoc
    · refine hown.kept hg ?_
      rcases hown.2 with ⟨rfl, _⟩ | ⟨g, cap, cur, fz, rfl, _, hgg, _⟩
      · exact .inl rfl
      · right
        intro hrow
        have hrow' : row = some g := by simpa [Value.ownBlock] using hrow.symm
        obtain ⟨o, ho, hoc⟩ := hr g hrow'
        rw [hgg] at ho; cases ho; cases hoc
  exact h.elim (fun x => .inl (key _ x)) (fun x => .inr (key _ x))
end Go.Proofs.YtgmencbhkkcpiaaDoor
