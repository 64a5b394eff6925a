/- Contracts of package whole: Of. -/
import Derived.Test.YtopkndkicdgafaaDoorWG
import Derived.Deep.RegionHeld3
namespace Go.Proofs.YtopkndkicdgafaaDoor
open Go.RowKit

set_option maxHeartbeats 1000000 in
theorem wof_p (w : World) (N : Nat) (hN : N < 9223372036854775808) : Calls Tryd.prog 69 #[.int .i64 ((N : Int))] w (TellsI w ((N : Int)) 2) := by
  have hlt : ¬ (N : Int) < 0 := by omega
  obtain ⟨lo, hlo, e1⟩ : ∃ lo, lo = N % 4294967296 ∧ (N : Int) % 4294967296 = (lo : Int) := ⟨_, rfl, by omega⟩
  obtain ⟨hi', hhi, e2⟩ : ∃ h, h = N / 4294967296 ∧ (N : Int) / 4294967296 = (h : Int) := ⟨_, rfl, by omega⟩
  have hhb : hi' < 4294967296 := by omega
  have hlb : lo < 4294967296 := by omega
  have e3 : (hi' : Int) % 4294967296 = (hi' : Int) := by omega
  have hv : val [lo, hi'] = N := by rw [val_cons, val_single, Bs_eq]; omega
  have hz : sgn false (val [lo, hi']) = (N : Int) := by rw [hv]; rfl
  obtain ⟨Z, hZ⟩ : ∃ Z, (N : Int) = Z := ⟨_, rfl⟩
  have hzz : sgn false (val [lo, hi']) = Z := hz.trans hZ
  have HH := Lib.hid (And.intro hzz (And.intro hlb hhb))
  have HZ := Lib.hid hZ
  clear hv hz hzz hlo hhi hZ
  go_enter Tryd.func69, Tryd.ntmps69
  go_wp2_with fail
  obtain ⟨r0, hr0⟩ : ∃ g, g = w.heap.size := ⟨_, rfl⟩
  obtain ⟨w1, hw1⟩ : ∃ v, v = w.alloc (.cells #[.bool false, .slice none 0 0] 43) := ⟨_, rfl⟩
  obtain ⟨w2, hw2⟩ : ∃ v, v = w1.alloc (.cells #[.int .u32 (lo : Nat), .int .u32 (hi' : Nat)] 37) := ⟨_, rfl⟩
  have hsz : w1.heap.size = w.heap.size + 1 := by rw [hw1, size_alloc]
  have bel2 : Below w.heap.size w w2 := by rw [hw2, hw1]; exact bel_alloc2 _ _ _
  have t_r02 : Two w2 r0 := by rw [hw2, hw1, hr0]; exact ((Box.new _ _ _ _ _).alloc _).two
  have l2 : Lm w2 (some ⟨w.heap.size + 1, 0, none⟩) 2 2 [lo, hi'] := by
    rw [hw2, ← hsz]; exact (Own.list w1 [lo, hi']).lm (Ok.of_mem (fun x hx => by have := HH.out.2; rw [Bs_eq]; simp at hx; omega)) (by simp)
  have hle : w.heap.size ≤ r0 := by omega
  rw [← hr0] at l2
  rw [← hw1, ← hw2, ← hr0]
  have HG := Lib.hid hle
  clear hw1 hw2 hsz hle
  have HR := Lib.hid hr0
  clear hr0
  have f_r02 := t_r02.room.2
  have cc := Lib.hid (wnorm_any w2 false _ 2 2 _ l2)
  refine cc.out.mono ?_
  clear cc
  rw [HH.out.1]
  rintro e v3 ⟨A4, m4, c4, rfl, h4, hm4, kb3⟩
  have t_r03 := t_r02.bel kb3
  have l_l3 := l2.bel kb3
  have bel3 := bel2.trans (kb3.mono bel2.size)
  have f_r03 := t_r03.room.2
  clear kb3 t_r02 f_r02 l2 bel2
  go_wp2
  have hx := t_r03.put (decide (Z < 0)) A4 m4 c4
  have hl := h4.put t_r03 (.bool (decide (Z < 0))) (.slice A4 m4 c4)
  have hbl := bel_put bel3 (g := r0) HG.out (.bool (decide (Z < 0))) (.slice A4 m4 c4)
  generalize (v3.setCell ⟨r0, 0, none⟩ (.bool (decide (Z < 0)))).setCell ⟨r0, 1, none⟩ (.slice A4 m4 c4) = wz at *
  refine bodyPost_ret (v := .agg #[.bool (decide (Z < 0)), .slice A4 m4 c4]) (by simp [results, Tryd.results69, go_sem, hx.c0, hx.c1]) rfl ?_
  rw [HZ.out]
  exact ⟨_, _, _, rfl, hl, hm4, hbl⟩
set_option maxHeartbeats 1000000 in
theorem wof_n (w : World) (N : Nat) (hN : 0 < N ∧ N ≤ 9223372036854775808) : Calls Tryd.prog 69 #[.int .i64 (-(N : Int))] w (TellsI w (-(N : Int)) 2) := by
  have hlt : -(N : Int) < 0 := by omega
  have eu : IntKind.u64.wrap (-IntKind.u64.wrap (-(N : Int))) = (N : Int) := by rw [IntKind.wrap_u64, IntKind.wrap_u64]; omega
  obtain ⟨lo, hlo, e1⟩ : ∃ lo, lo = N % 4294967296 ∧ (N : Int) % 4294967296 = (lo : Int) := ⟨_, rfl, by omega⟩
  obtain ⟨hi', hhi, e2⟩ : ∃ h, h = N / 4294967296 ∧ (N : Int) / 4294967296 = (h : Int) := ⟨_, rfl, by omega⟩
  have hhb : hi' < 4294967296 := by omega
  have hlb : lo < 4294967296 := by omega
  have e3 : (hi' : Int) % 4294967296 = (hi' : Int) := by omega
  have hv : val [lo, hi'] = N := by rw [val_cons, val_single, Bs_eq]; omega
  have hz : sgn true (val [lo, hi']) = -(N : Int) := by rw [hv]; rfl
  obtain ⟨Z, hZ⟩ : ∃ Z, -(N : Int) = Z := ⟨_, rfl⟩
  have hzz : sgn true (val [lo, hi']) = Z := hz.trans hZ
  have HH := Lib.hid (And.intro hzz (And.intro hlb hhb))
  have HZ := Lib.hid hZ
  clear hv hz hzz hlo hhi hZ
  go_enter Tryd.func69, Tryd.ntmps69
  go_wp2_with fail
  obtain ⟨r0, hr0⟩ : ∃ g, g = w.heap.size := ⟨_, rfl⟩
  obtain ⟨w1, hw1⟩ : ∃ v, v = w.alloc (.cells #[.bool false, .slice none 0 0] 43) := ⟨_, rfl⟩
  obtain ⟨w2, hw2⟩ : ∃ v, v = w1.alloc (.cells #[.int .u32 (lo : Nat), .int .u32 (hi' : Nat)] 37) := ⟨_, rfl⟩
  have hsz : w1.heap.size = w.heap.size + 1 := by rw [hw1, size_alloc]
  have bel2 : Below w.heap.size w w2 := by rw [hw2, hw1]; exact bel_alloc2 _ _ _
  have t_r02 : Two w2 r0 := by rw [hw2, hw1, hr0]; exact ((Box.new _ _ _ _ _).alloc _).two
  have l2 : Lm w2 (some ⟨w.heap.size + 1, 0, none⟩) 2 2 [lo, hi'] := by
    rw [hw2, ← hsz]; exact (Own.list w1 [lo, hi']).lm (Ok.of_mem (fun x hx => by have := HH.out.2; rw [Bs_eq]; simp at hx; omega)) (by simp)
  have hle : w.heap.size ≤ r0 := by omega
  rw [← hr0] at l2
  rw [← hw1, ← hw2, ← hr0]
  have HG := Lib.hid hle
  clear hw1 hw2 hsz hle
  have HR := Lib.hid hr0
  clear hr0
  have f_r02 := t_r02.room.2
  have cc := Lib.hid (wnorm_any w2 true _ 2 2 _ l2)
  refine cc.out.mono ?_
  clear cc
  rw [HH.out.1]
  rintro e v3 ⟨A4, m4, c4, rfl, h4, hm4, kb3⟩
  have t_r03 := t_r02.bel kb3
  have l_l3 := l2.bel kb3
  have bel3 := bel2.trans (kb3.mono bel2.size)
  have f_r03 := t_r03.room.2
  clear kb3 t_r02 f_r02 l2 bel2
  go_wp2
  have hx := t_r03.put (decide (Z < 0)) A4 m4 c4
  have hl := h4.put t_r03 (.bool (decide (Z < 0))) (.slice A4 m4 c4)
  have hbl := bel_put bel3 (g := r0) HG.out (.bool (decide (Z < 0))) (.slice A4 m4 c4)
  generalize (v3.setCell ⟨r0, 0, none⟩ (.bool (decide (Z < 0)))).setCell ⟨r0, 1, none⟩ (.slice A4 m4 c4) = wz at *
  refine bodyPost_ret (v := .agg #[.bool (decide (Z < 0)), .slice A4 m4 c4]) (by simp [results, Tryd.results69, go_sem, hx.c0, hx.c1]) rfl ?_
  rw [HZ.out]
  exact ⟨_, _, _, rfl, hl, hm4, hbl⟩
theorem wof_any (w : World) (n : Int) (hn : -9223372036854775808 ≤ n ∧ n ≤ 9223372036854775807) : Calls Tryd.prog 69 #[.int .i64 n] w (TellsI w n 2) := by
  by_cases h : n < 0
  · obtain ⟨N, rfl⟩ : ∃ N : Nat, n = -(N : Int) := ⟨n.natAbs, by omega⟩
    exact wof_n w N (by omega)
  · obtain ⟨N, rfl⟩ : ∃ N : Nat, n = (N : Int) := ⟨n.natAbs, by omega⟩
    exact wof_p w N (by omega)
end Go.Proofs.YtopkndkicdgafaaDoor
