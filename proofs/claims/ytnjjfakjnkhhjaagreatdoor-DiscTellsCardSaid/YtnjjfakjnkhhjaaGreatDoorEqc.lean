import Derived.Test.YtnjjfakjnkhhjaaGreatDoorEvd
import Derived.LoopN
set_option maxHeartbeats 2000000
set_option maxRecDepth 100000
set_option linter.all false
namespace Go.Proofs.YtnjjfakjnkhhjaaGreatDoor
open Go.RowKit
theorem ok_append {xs ys : List Nat} (h : Ok xs) (h' : Ok ys) : Ok (xs ++ ys) := by
 intro i
 unfold dig
 rw [List.getD_eq_getElem?_getD]
 rcases Nat.lt_or_ge i xs.length with hi | hi
 ·rw [List.getElem?_append_left hi, ← List.getD_eq_getElem?_getD]; exact h i
 ·rw [List.getElem?_append_right hi, ← List.getD_eq_getElem?_getD]; exact h' _
theorem app3 (w : World) (ty : TypeId) (b : Nat) (v : Value) (xs : List Nat) (h : RowZ w b v xs) (A : Option Addr) (m c : Nat) (ys : List Nat) (h' : Lm w A m c ys) (hn : xs.length + m ≤ 1000000) (hb : b ≤ w.heap.size) :
  ∃ v' w', (Builtin.append_ #[22, 22] ty #[v, .slice A m c]).run Tryz.prog w = .ok v' w' ∧ RowZ w' b v' (xs ++ ys) ∧ w.grownBy w' v.ownBlock := by
 obtain ⟨i, hi, hz0, hz1, hz2⟩ := info_parts Tryz.info124
 have hlen := h'.len
 have hbig := h'.big
 have hgr : w.grownBy w v.ownBlock := ⟨rfl, rfl, rfl, Nat.le_refl _, fun _ _ _ => rfl⟩
 rcases hA : A with _ | ⟨g, o, sp⟩
 ·subst hA
  have hm : m = 0 := by
   rcases Nat.eq_zero_or_pos m with h0 | h0
   ·exact h0
   ·obtain ⟨b, o, hh, _⟩ := h'.2.2 h0; cases hh
  subst hm
  have hx : ys = [] := List.eq_nil_of_length_eq_zero hlen
  subst hx
  rw [List.append_nil]
  refine ⟨v, w, ?_, h, hgr⟩
  rcases h.2 with ⟨rfl, h0⟩ | ⟨g, cap, cur, rfl, hge, hh, hnc, hcm, hcs, hct⟩
  ·simp [Builtin.append_, run_underlying Tryz.underlying22, sizeOf, typeInfo, hi, Builtin.lenOf, Builtin.firstCells]
  ·simp [Builtin.append_, run_underlying Tryz.underlying22, sizeOf, typeInfo, hi, Builtin.lenOf, Builtin.firstCells, hnc, storeCells]
 ·subst hA
  obtain ⟨v', w', hrun, hown, hg, hiff⟩ := run_append_own (P := Tryz.prog) w b 22 ty 124 i (.int .u32 0) 1 4 Tryz.underlying22 hi hz0 hz1 hz2 rfl (by omega) v xs.length (xs.map d32) h ⟨g, o, sp⟩ m c (ys.map d32) (by simp [hlen])
   (fun j u hu => by
     rw [List.getElem?_map] at hu
     by_cases hj : j < ys.length
     ·rw [List.getElem?_eq_getElem hj] at hu
      simp at hu
      subst hu
      obtain ⟨b', o', hh, _, hc⟩ := h'.2.2 (by omega)
      cases hh
      have := hc j (by omega)
      rw [dig_get hj] at this
      have e : (⟨g, o, none⟩ : Addr).add j = ⟨g, o + j, none⟩ := by unfold Addr.add; split <;> simp_all
      rw [e]; exact this
     ·rw [List.getElem?_eq_none (by omega)] at hu; simp at hu)
   (fun u hu => by rw [List.mem_map] at hu; obtain ⟨x, _, rfl⟩ := hu; rfl) (by simp only [maxLen]; omega) (by omega) hb
  refine ⟨v', w', hrun, ?_, hg⟩
  unfold RowZ
  rw [List.length_append, List.map_append, hlen]; exact hown
theorem grow_nil (w : World) (n : Nat) (hn : n ≤ 1000000) :
  Calls Tryz.prog 246 #[.slice none 0 0, .int .i64 n] w fun e w' => ∃ v, e = .returned v ∧ RowZ w' w.heap.size v [] ∧ Below w.heap.size w w' := by
 obtain ⟨i, hi, hz0, hz1, hz2⟩ := info_parts Tryz.info124
 have h1 : ¬ ((n : Int) < 0) := by omega
 have h2 : wrap64 ((0 : Int) - 0) = 0 := by unfold wrap64; omega
 have h3 : wrap64 ((n : Int) - 0) = (n : Int) := by unfold wrap64; omega
 by_cases h0 : n = 0
 ·subst h0
  go_enter Tryz.func246, Tryz.ntmps246
  go_wp2
  go_ret
  exact ⟨_, rfl, World.ownsRow_nil w _ _ _, Below.refl _ _⟩
 ·have h4 : (n : Int) > 0 := by omega
  have hnx : Builtin.nextslicecap n 0 * i.bytes ≤ 281474976710656 := by
   rw [hz2]
   have := growslice_fits (need := n) (old := 0) (by omega) (show n * 4 ≤ 140737488355328 by omega)
   exact this
  have hrz : ∀ ty, (Builtin.append_ #[22, 3] ty #[.slice none 0 0, .int .i64 (n : Int)]).run Tryz.prog w =
    .ok (.slice (some ⟨w.heap.size, 0, none⟩) n (grownCap w n 0 124)) (w.drew.alloc (.cells (#[] ++ Builtin.zeroCells (Value.int .u32 0).cells n ++ Builtin.zeroCells (Value.int .u32 0).cells (grownCap w n 0 124 - n)) 124)) := fun ty => by
   have h := Lib.run_append_grow_zeros w 22 3 ty 124 i (.int .u32 0) .i64 .i64 Tryz.underlying22 Tryz.underlying3 hi hz0 none 0 0 [] (run_firstCells_none w.drew i.size 0 0 0) n (by omega) (by rw [hz1]; decide) (by omega) (by omega) (by rw [hz2]; omega) (by rw [Nat.zero_add]; exact hnx)
   simp only [Nat.zero_add] at h
   exact h
  have hge := grownCap_ge w n 0 124
  have hcm : grownCap w n 0 124 ≤ maxLen := grownCap_le_maxLen w n 0 124 (by unfold maxLen; omega)
  obtain ⟨c, hc⟩ : ∃ c, c = grownCap w n 0 124 := ⟨_, rfl⟩
  rw [← hc] at hrz hge hcm
  have hcm' : c ≤ 9223372036854775807 := hcm
  go_enter Tryz.func246, Tryz.ntmps246
  go_wp2_with (at_builtin; refine Lib.wpList_append_run _ rfl _ _ _ _ rfl _ _ rfl rfl _ _ (hrz _) ?_)
  all_goals go_ret
  rw [← hc]
  refine ⟨_, rfl, ⟨rfl, .inr ⟨w.heap.size, c, _, rfl, Nat.le_refl _, heap_alloc_new w _, Nat.zero_le _, hcm, ?_, by simp⟩⟩, ?_⟩
  ·simp only [Array.size_append, size_zeroCells]
   show n * 1 + (c - n) * 1 = c * 1
   omega
  ·exact (Below.refl _ _).grown (row := none) ⟨rfl, rfl, rfl, by rw [World.size_drew, World.size_alloc]; omega, fun k hk _ => heap_alloc_old w _ hk⟩ (Nat.le_refl _) (fun k hk => by cases hk)
def Pair (w : World) (b o : Nat) (A : Option Addr) (n c : Nat) (xs : List Nat) (A' : Option Addr) (m c' : Nat) (ys : List Nat) : Prop :=
 b < w.heap.size ∧ w.cell? ⟨b, o, none⟩ = some (.slice A n c) ∧ w.cell? ⟨b, o + 1, none⟩ = some (.slice A' m c') ∧ Lm w A n c xs ∧ Lm w A' m c' ys
theorem Pair.bel {w w' : World} {b o : Nat} {A : Option Addr} {n c : Nat} {xs : List Nat} {A' : Option Addr} {m c' : Nat} {ys : List Nat} (h : Pair w b o A n c xs A' m c' ys) (hb : Below w.heap.size w w') : Pair w' b o A n c xs A' m c' ys := by
 obtain ⟨h1, h2, h3, h4, h5⟩ := h
 exact ⟨Nat.lt_of_lt_of_le h1 hb.size, by rw [hb.cell (p := ⟨b, o, none⟩) h1]; exact h2, by rw [hb.cell (p := ⟨b, o + 1, none⟩) h1]; exact h3, h4.bel hb, h5.bel hb⟩
theorem concat_two (w : World) (b o c0 : Nat) (A : Option Addr) (n c : Nat) (xs : List Nat) (A' : Option Addr) (m c' : Nat) (ys : List Nat) (h : Pair w b o A n c xs A' m c' ys) (hn : n + m ≤ 1000000) (hc0 : 2 ≤ c0) :
  Calls Tryz.prog 241 #[.slice (some ⟨b, o, none⟩) 2 c0] w fun e w' => ∃ B d, e = .returned (.slice B (n + m) d) ∧ Lm w' B (n + m) d (xs ++ ys) ∧ Fr B w.heap.size ∧ Below w.heap.size w w' := by
 obtain ⟨h1, h2, h3, h4, h5⟩ := h
 have e0 : (⟨b, o, none⟩ : Addr).add 0 = ⟨b, o, none⟩ := rfl
 have e1 : (⟨b, o, none⟩ : Addr).add 1 = ⟨b, o + 1, none⟩ := rfl
 go_enter Tryz.func241, Tryz.ntmps241
 have hw1 : wrap64 ((0 : Int) + (n : Int)) = (n : Int) := by unfold wrap64; omega
 have hw2 : wrap64 ((n : Int) + (m : Int)) = ((n + m : Nat) : Int) := by unfold wrap64; omega
 go_wp2
 refine wp_loop_rounds 3 ?_
 rw [rounds_succ]
 go_wp2
 rw [rounds_succ]
 go_wp2
 rw [rounds_succ]
 go_wp2_with fail
 rw [show ((n : Int) + (m : Int)) = ((n + m : Nat) : Int) by omega]
 refine (grow_nil w (n + m) hn).mono ?_
 rintro e w1 ⟨v, rfl, hz, hb⟩
 have h2' : w1.cell? ⟨b, o, none⟩ = some (.slice A n c) := by rw [hb.cell (p := ⟨b, o, none⟩) h1]; exact h2
 have h3' : w1.cell? ⟨b, o + 1, none⟩ = some (.slice A' m c') := by rw [hb.cell (p := ⟨b, o + 1, none⟩) h1]; exact h3
 go_wp2
 refine wp_loop_rounds 3 ?_
 rw [rounds_succ]
 obtain ⟨v1, w2, hr1, hz1, hg1⟩ := app3 w1 22 w.heap.size v [] hz A n c xs (h4.bel hb) (by simp only [List.length_nil]; omega) hb.size
 rw [List.nil_append] at hz1
 have hb2 : Below w.heap.size w w2 := hb.grown hg1 hb.size (fun k hk => (hz.own k hk).1)
 have h3'' : w2.cell? ⟨b, o + 1, none⟩ = some (.slice A' m c') := by rw [hb2.cell (p := ⟨b, o + 1, none⟩) h1]; exact h3
 have hxl := h4.len
 obtain ⟨v2, w3, hr2, hz2, hg2⟩ := app3 w2 22 w.heap.size v1 xs hz1 A' m c' ys (h5.bel hb2) (by omega) hb2.size
 have hb3 : Below w.heap.size w w3 := hb2.grown hg2 hb2.size (fun k hk => (hz1.own k hk).1)
 go_wp2_with (at_builtin; refine Lib.wpList_append_run _ rfl _ _ _ _ rfl _ _ rfl rfl _ _ hr1 ?_)
 rw [rounds_succ]
 go_wp2_with (at_builtin; refine Lib.wpList_append_run _ rfl _ _ _ _ rfl _ _ rfl rfl _ _ hr2 ?_)
 rw [rounds_succ]
 go_wp2
 go_ret
 have hxy := h5.len
 obtain ⟨B, d, rfl, hl⟩ := hz2.lm (ok_append h4.ok h5.ok) (by rw [List.length_append]; omega)
 have he : (xs ++ ys).length = n + m := by rw [List.length_append]; omega
 rw [he] at hl
 refine ⟨B, d, by rw [he]; rfl, hl, ?_, hb3⟩
 rcases B with _ | ⟨g, o', sp⟩
 ·exact .inl rfl
 ·rcases Nat.eq_zero_or_pos (n + m) with h0 | h0
  ·rcases hz2.2 with ⟨hv, _⟩ | ⟨g', cap, cur, hv, hge, _⟩
   ·cases hv
   ·cases hv; exact .inr ⟨_, _, rfl, hge⟩
  ·rcases hz2.2 with ⟨hv, _⟩ | ⟨g', cap, cur, hv, hge, _⟩
   ·cases hv
   ·cases hv; exact .inr ⟨_, _, rfl, hge⟩
end Go.Proofs.YtnjjfakjnkhhjaaGreatDoor
