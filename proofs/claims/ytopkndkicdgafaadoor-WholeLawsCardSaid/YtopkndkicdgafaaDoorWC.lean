/- Contracts of package whole: sum. -/
import Derived.Test.YtopkndkicdgafaaDoorWR
import Derived.Test.YtopkndkicdgafaaDoorSub
import Derived.Test.YtopkndkicdgafaaDoorAdd
import Derived.Deep.RegionHeld3
namespace Go.Proofs.YtopkndkicdgafaaDoor
open Go.RowKit

def sumsT : List Int := [2, 0, 3, 1, 0, 1, 3, 0, 2]
def productsT : List Int := [1, 0, -1, 0, 0, 0, -1, 0, 1]
def farthestT : List Int := [9223372036854775808, 0, 9223372036854775807]
/-- the tables of package whole, as its text lays them. -/
def SumsT (w : World) : Prop := ∀ k, k < 9 → w.cell? ⟨3, k, none⟩ = some (.int .i64 (sumsT.getD k 0))
def ProductsT (w : World) : Prop := ∀ k, k < 9 → w.cell? ⟨0, k, none⟩ = some (.int .i64 (productsT.getD k 0))
def FarthestT (w : World) : Prop := ∀ k, k < 3 → w.cell? ⟨1, k, none⟩ = some (.int .u64 (farthestT.getD k 0))
theorem SumsT.bel {w w' : World} (h : SumsT w) (hb : Below w.heap.size w w') : SumsT w' := fun k hk => (hb.cell (p := ⟨_, k, none⟩) (World.block_lt_of_cell? w _ (h k hk))).trans (h k hk)
theorem ProductsT.bel {w w' : World} (h : ProductsT w) (hb : Below w.heap.size w w') : ProductsT w' := fun k hk => (hb.cell (p := ⟨_, k, none⟩) (World.block_lt_of_cell? w _ (h k hk))).trans (h k hk)
theorem FarthestT.bel {w w' : World} (h : FarthestT w) (hb : Below w.heap.size w w') : FarthestT w' := fun k hk => (hb.cell (p := ⟨_, k, none⟩) (World.block_lt_of_cell? w _ (h k hk))).trans (h k hk)
theorem sub_lt (w : World) (A : Option Addr) (n c : Nat) (xs : List Nat) (A' : Option Addr) (n' c' : Nat) (ys : List Nat) (h : Lm w A n c xs) (h' : Lm w A' n' c' ys) (hlt : val xs < val ys) :
    Calls Tryd.prog 19 #[.slice A n c, .slice A' n' c'] w fun e w' => e = .returned (.tuple #[.slice none 0 0, .bool false]) ∧ Below w.heap.size w w' :=
  (sub_any w A n c xs A' n' c' ys h h').mono fun _ _ ht => ht.elim (fun h => h.2) fun h => absurd h.1 (Nat.not_le.2 hlt)
theorem sub_ge (w : World) (A : Option Addr) (n c : Nat) (xs : List Nat) (A' : Option Addr) (n' c' : Nat) (ys : List Nat) (h : Lm w A n c xs) (h' : Lm w A' n' c' ys) (hle : val ys ≤ val xs) :
    Calls Tryd.prog 19 #[.slice A n c, .slice A' n' c'] w fun e w' => ∃ B m d, e = .returned (.tuple #[.slice B m d, .bool true]) ∧ Lm w' B m d (lim (val xs - val ys)) ∧ m ≤ n ∧ Below w.heap.size w w' :=
  (sub_any w A n c xs A' n' c' ys h h').mono fun _ _ ht => ht.elim (fun h => absurd hle (Nat.not_le.2 h.1)) fun h => h.2
set_option maxHeartbeats 1000000 in
theorem sum_mm (w : World) (X Y : Int) (Aa : Option Addr) (na ca : Nat) (xa : List Nat) (La : Lm w Aa na ca xa) (Ab : Option Addr) (nb cb : Nat) (xb : List Nat) (Lb : Lm w Ab nb cb xb) (hX : X.natAbs = val xa) (hY : Y.natAbs = val xb) (hs : X < 0) (ht : Y < 0) (hT : SumsT w) (hna : na ≤ 1000000000) (hnb : nb ≤ 1000000000) :
    Calls Tryd.prog 91 #[.slice Aa na ca, .slice Ab nb cb, .int .i64 (-1), .int .i64 (-1)] w (TellsI w (X + Y) (max na nb + 1)) := by
  have hu := And.intro hX (And.intro hY (And.intro hs (And.intro ht (And.intro hna hnb))))
  clear hu
  have hcell := (hT.bel (bel_alloc w (.cells #[.bool false, .slice none 0 0] 43))) 0 (by omega)
  rw [show sumsT.getD 0 0 = 2 from rfl] at hcell
  obtain ⟨Z, hZ, hZn, hZs⟩ : ∃ Z, X + Y = Z ∧ Z.natAbs = val xa + val xb ∧ (Z ≠ 0 → ((-1) < (0 : Int) ↔ Z < 0)) := ⟨_, rfl, by omega, fun _ => by omega⟩
  rw [hZ]
  have HZ := Lib.hid (And.intro hZn hZs)
  clear hZ hZn hZs hX hY hs ht hT
  go_enter Tryd.func91, Tryd.ntmps91
  go_wp2_with fail
  obtain ⟨r0, hr0⟩ : ∃ g, g = w.heap.size := ⟨_, rfl⟩
  obtain ⟨w1, hw1⟩ : ∃ v, v = (w.alloc (.cells #[.bool false, .slice none 0 0] 43)) := ⟨_, rfl⟩
  have bel1 : Below w.heap.size w w1 := by rw [hw1]; exact bel_alloc _ _
  have t_r01 : Two w1 r0 := by rw [hw1, hr0]; exact Box.two (Box.new _ _ _ _ _)
  rw [← hw1, ← hr0]
  have hgs : w.heap.size ≤ r0 := by omega
  have HG := Lib.hid hgs
  clear hw1 hgs hr0
  have l_a1 := La.bel bel1
  have l_b1 := Lb.bel bel1
  have f_r01 := t_r01.room.2
  go_wp2_with fail
  have cc := Lib.hid (add_any w1 Aa na ca xa Ab nb cb xb l_a1 l_b1 (by omega) (by omega))
  refine cc.out.mono ?_
  clear cc
  rintro e w2 ⟨A3, m3, c3, rfl, h3, hm3, hb2⟩
  have t_r02 := t_r01.bel hb2
  have l_a2 := l_a1.bel hb2
  have l_b2 := l_b1.bel hb2
  have bel2 := bel1.trans (hb2.mono bel1.size)
  have f_r02 := t_r02.room.2
  clear hb2 t_r01 f_r01 l_a1 l_b1 bel1
  rw [← HZ.out.1] at h3
  go_wp2_with fail
  have cc := Lib.hid (signed_z w2 Z (-1) A3 m3 c3 (max na nb + 1) h3 (by omega) HZ.out.2)
  refine cc.out.mono ?_
  clear cc
  rintro e w3 ⟨A4, m4, c4, rfl, h4, hm4, hb3⟩
  have t_r03 := t_r02.bel hb3
  have l_a3 := l_a2.bel hb3
  have l_b3 := l_b2.bel hb3
  have l_z3 := h3.bel hb3
  have bel3 := bel2.trans (hb3.mono bel2.size)
  have f_r03 := t_r03.room.2
  clear hb3 t_r02 f_r02 l_a2 l_b2 h3 bel2
  go_wp2
  have hx := t_r03.put (decide (Z < 0)) A4 m4 c4
  have hl := h4.put t_r03 (.bool (decide (Z < 0))) (.slice A4 m4 c4)
  have hbl := bel_put bel3 (g := r0) HG.out (.bool (decide (Z < 0))) (.slice A4 m4 c4)
  generalize (w3.setCell ⟨r0, 0, none⟩ (.bool (decide (Z < 0)))).setCell ⟨r0, 1, none⟩ (.slice A4 m4 c4) = wz at *
  refine bodyPost_ret (v := .agg #[.bool (decide (Z < 0)), .slice A4 m4 c4]) (by simp [results, Tryd.results91, go_sem, hx.c0, hx.c1]) rfl ?_
  exact ⟨_, _, _, rfl, hl, hm4, hbl⟩
set_option maxHeartbeats 1000000 in
theorem sum_mz (w : World) (X Y : Int) (Aa : Option Addr) (na ca : Nat) (xa : List Nat) (La : Lm w Aa na ca xa) (Ab : Option Addr) (nb cb : Nat) (xb : List Nat) (Lb : Lm w Ab nb cb xb) (hX : X.natAbs = val xa) (hY : Y.natAbs = val xb) (hs : X < 0) (ht : Y = 0) (hT : SumsT w) (hna : na ≤ 1000000000) (hnb : nb ≤ 1000000000) :
    Calls Tryd.prog 91 #[.slice Aa na ca, .slice Ab nb cb, .int .i64 (-1), .int .i64 0] w (TellsI w (X + Y) (max na nb + 1)) := by
  have hu := And.intro hX (And.intro hY (And.intro hs (And.intro ht (And.intro hna hnb))))
  clear hu
  have hcell := (hT.bel (bel_alloc w (.cells #[.bool false, .slice none 0 0] 43))) 1 (by omega)
  rw [show sumsT.getD 1 0 = 0 from rfl] at hcell
  obtain ⟨Z, hZ, hZn, hZs⟩ : ∃ Z, X + Y = Z ∧ Z.natAbs = val xa ∧ (Z ≠ 0 → ((-1) < (0 : Int) ↔ Z < 0)) := ⟨_, rfl, by omega, fun _ => by omega⟩
  rw [hZ]
  have HZ := Lib.hid (And.intro hZn hZs)
  clear hZ hZn hZs hX hY hs ht hT
  go_enter Tryd.func91, Tryd.ntmps91
  go_wp2_with fail
  obtain ⟨r0, hr0⟩ : ∃ g, g = w.heap.size := ⟨_, rfl⟩
  obtain ⟨w1, hw1⟩ : ∃ v, v = (w.alloc (.cells #[.bool false, .slice none 0 0] 43)) := ⟨_, rfl⟩
  have bel1 : Below w.heap.size w w1 := by rw [hw1]; exact bel_alloc _ _
  have t_r01 : Two w1 r0 := by rw [hw1, hr0]; exact Box.two (Box.new _ _ _ _ _)
  rw [← hw1, ← hr0]
  have hgs : w.heap.size ≤ r0 := by omega
  have HG := Lib.hid hgs
  clear hw1 hgs hr0
  have l_a1 := La.bel bel1
  have l_b1 := Lb.bel bel1
  have f_r01 := t_r01.room.2
  go_wp2_with fail
  have cc := Lib.hid (trim_any w1 Aa na ca xa l_a1)
  refine cc.out.mono ?_
  clear cc
  rintro e w2 ⟨A3, m3, c3, rfl, h3, hm3, hb2⟩
  have t_r02 := t_r01.bel hb2
  have l_a2 := l_a1.bel hb2
  have l_b2 := l_b1.bel hb2
  have bel2 := bel1.trans (hb2.mono bel1.size)
  have f_r02 := t_r02.room.2
  clear hb2 t_r01 f_r01 l_a1 l_b1 bel1
  rw [← HZ.out.1] at h3
  go_wp2_with fail
  have cc := Lib.hid (signed_z w2 Z (-1) A3 m3 c3 (max na nb + 1) h3 (by omega) HZ.out.2)
  refine cc.out.mono ?_
  clear cc
  rintro e w3 ⟨A4, m4, c4, rfl, h4, hm4, hb3⟩
  have t_r03 := t_r02.bel hb3
  have l_a3 := l_a2.bel hb3
  have l_b3 := l_b2.bel hb3
  have l_z3 := h3.bel hb3
  have bel3 := bel2.trans (hb3.mono bel2.size)
  have f_r03 := t_r03.room.2
  clear hb3 t_r02 f_r02 l_a2 l_b2 h3 bel2
  go_wp2
  have hx := t_r03.put (decide (Z < 0)) A4 m4 c4
  have hl := h4.put t_r03 (.bool (decide (Z < 0))) (.slice A4 m4 c4)
  have hbl := bel_put bel3 (g := r0) HG.out (.bool (decide (Z < 0))) (.slice A4 m4 c4)
  generalize (w3.setCell ⟨r0, 0, none⟩ (.bool (decide (Z < 0)))).setCell ⟨r0, 1, none⟩ (.slice A4 m4 c4) = wz at *
  refine bodyPost_ret (v := .agg #[.bool (decide (Z < 0)), .slice A4 m4 c4]) (by simp [results, Tryd.results91, go_sem, hx.c0, hx.c1]) rfl ?_
  exact ⟨_, _, _, rfl, hl, hm4, hbl⟩
set_option maxHeartbeats 1000000 in
theorem sum_mpge (w : World) (X Y : Int) (Aa : Option Addr) (na ca : Nat) (xa : List Nat) (La : Lm w Aa na ca xa) (Ab : Option Addr) (nb cb : Nat) (xb : List Nat) (Lb : Lm w Ab nb cb xb) (hX : X.natAbs = val xa) (hY : Y.natAbs = val xb) (hs : X < 0) (ht : 0 < Y) (hT : SumsT w) (hna : na ≤ 1000000000) (hnb : nb ≤ 1000000000) (hge : val xb ≤ val xa) :
    Calls Tryd.prog 91 #[.slice Aa na ca, .slice Ab nb cb, .int .i64 (-1), .int .i64 1] w (TellsI w (X + Y) (max na nb + 1)) := by
  have hu := And.intro hX (And.intro hY (And.intro hs (And.intro ht (And.intro hna hnb))))
  clear hu
  have hcell := (hT.bel (bel_alloc w (.cells #[.bool false, .slice none 0 0] 43))) 2 (by omega)
  rw [show sumsT.getD 2 0 = 3 from rfl] at hcell
  obtain ⟨Z, hZ, hZn, hZs⟩ : ∃ Z, X + Y = Z ∧ Z.natAbs = val xa - val xb ∧ (Z ≠ 0 → ((-1) < (0 : Int) ↔ Z < 0)) := ⟨_, rfl, by omega, fun _ => by omega⟩
  rw [hZ]
  have HZ := Lib.hid (And.intro hZn hZs)
  clear hZ hZn hZs hX hY hs ht hT
  have HO := Lib.hid hge
  clear hge
  go_enter Tryd.func91, Tryd.ntmps91
  go_wp2_with fail
  obtain ⟨r0, hr0⟩ : ∃ g, g = w.heap.size := ⟨_, rfl⟩
  obtain ⟨w1, hw1⟩ : ∃ v, v = (w.alloc (.cells #[.bool false, .slice none 0 0] 43)) := ⟨_, rfl⟩
  have bel1 : Below w.heap.size w w1 := by rw [hw1]; exact bel_alloc _ _
  have t_r01 : Two w1 r0 := by rw [hw1, hr0]; exact Box.two (Box.new _ _ _ _ _)
  rw [← hw1, ← hr0]
  have hgs : w.heap.size ≤ r0 := by omega
  have HG := Lib.hid hgs
  clear hw1 hgs hr0
  have l_a1 := La.bel bel1
  have l_b1 := Lb.bel bel1
  have f_r01 := t_r01.room.2
  go_wp2_with fail
  have cc := Lib.hid (sub_ge w1 Aa na ca xa Ab nb cb xb l_a1 l_b1 HO.out)
  refine cc.out.mono ?_
  clear cc
  rintro e w2 ⟨A3, m3, c3, rfl, h3, hm3, hb2⟩
  have t_r02 := t_r01.bel hb2
  have l_a2 := l_a1.bel hb2
  have l_b2 := l_b1.bel hb2
  have bel2 := bel1.trans (hb2.mono bel1.size)
  have f_r02 := t_r02.room.2
  clear hb2 t_r01 f_r01 l_a1 l_b1 bel1
  rw [← HZ.out.1] at h3
  go_wp2_with fail
  have cc := Lib.hid (signed_z w2 Z (-1) A3 m3 c3 (max na nb + 1) h3 (by omega) HZ.out.2)
  refine cc.out.mono ?_
  clear cc
  rintro e w3 ⟨A4, m4, c4, rfl, h4, hm4, hb3⟩
  have t_r03 := t_r02.bel hb3
  have l_a3 := l_a2.bel hb3
  have l_b3 := l_b2.bel hb3
  have l_z3 := h3.bel hb3
  have bel3 := bel2.trans (hb3.mono bel2.size)
  have f_r03 := t_r03.room.2
  clear hb3 t_r02 f_r02 l_a2 l_b2 h3 bel2
  go_wp2
  have hx := t_r03.put (decide (Z < 0)) A4 m4 c4
  have hl := h4.put t_r03 (.bool (decide (Z < 0))) (.slice A4 m4 c4)
  have hbl := bel_put bel3 (g := r0) HG.out (.bool (decide (Z < 0))) (.slice A4 m4 c4)
  generalize (w3.setCell ⟨r0, 0, none⟩ (.bool (decide (Z < 0)))).setCell ⟨r0, 1, none⟩ (.slice A4 m4 c4) = wz at *
  refine bodyPost_ret (v := .agg #[.bool (decide (Z < 0)), .slice A4 m4 c4]) (by simp [results, Tryd.results91, go_sem, hx.c0, hx.c1]) rfl ?_
  exact ⟨_, _, _, rfl, hl, hm4, hbl⟩
set_option maxHeartbeats 1000000 in
theorem sum_mplt (w : World) (X Y : Int) (Aa : Option Addr) (na ca : Nat) (xa : List Nat) (La : Lm w Aa na ca xa) (Ab : Option Addr) (nb cb : Nat) (xb : List Nat) (Lb : Lm w Ab nb cb xb) (hX : X.natAbs = val xa) (hY : Y.natAbs = val xb) (hs : X < 0) (ht : 0 < Y) (hT : SumsT w) (hna : na ≤ 1000000000) (hnb : nb ≤ 1000000000) (hlt : val xa < val xb) :
    Calls Tryd.prog 91 #[.slice Aa na ca, .slice Ab nb cb, .int .i64 (-1), .int .i64 1] w (TellsI w (X + Y) (max na nb + 1)) := by
  have hu := And.intro hX (And.intro hY (And.intro hs (And.intro ht (And.intro hna hnb))))
  clear hu
  have hcell := (hT.bel (bel_alloc w (.cells #[.bool false, .slice none 0 0] 43))) 2 (by omega)
  rw [show sumsT.getD 2 0 = 3 from rfl] at hcell
  obtain ⟨Z, hZ, hZn, hZs⟩ : ∃ Z, X + Y = Z ∧ Z.natAbs = val xb - val xa ∧ (Z ≠ 0 → (1 < (0 : Int) ↔ Z < 0)) := ⟨_, rfl, by omega, fun _ => by omega⟩
  rw [hZ]
  have HZ := Lib.hid (And.intro hZn hZs)
  clear hZ hZn hZs hX hY hs ht hT
  have HO := Lib.hid hlt
  clear hlt
  go_enter Tryd.func91, Tryd.ntmps91
  go_wp2_with fail
  obtain ⟨r0, hr0⟩ : ∃ g, g = w.heap.size := ⟨_, rfl⟩
  obtain ⟨w1, hw1⟩ : ∃ v, v = (w.alloc (.cells #[.bool false, .slice none 0 0] 43)) := ⟨_, rfl⟩
  have bel1 : Below w.heap.size w w1 := by rw [hw1]; exact bel_alloc _ _
  have t_r01 : Two w1 r0 := by rw [hw1, hr0]; exact Box.two (Box.new _ _ _ _ _)
  rw [← hw1, ← hr0]
  have hgs : w.heap.size ≤ r0 := by omega
  have HG := Lib.hid hgs
  clear hw1 hgs hr0
  have l_a1 := La.bel bel1
  have l_b1 := Lb.bel bel1
  have f_r01 := t_r01.room.2
  go_wp2_with fail
  have cc := Lib.hid (sub_lt w1 Aa na ca xa Ab nb cb xb l_a1 l_b1 HO.out)
  refine cc.out.mono ?_
  clear cc
  rintro e w2 ⟨rfl, hb2⟩
  have t_r02 := t_r01.bel hb2
  have l_a2 := l_a1.bel hb2
  have l_b2 := l_b1.bel hb2
  have bel2 := bel1.trans (hb2.mono bel1.size)
  have f_r02 := t_r02.room.2
  clear hb2 t_r01 f_r01 l_a1 l_b1 bel1
  go_wp2_with fail
  have cc := Lib.hid (sub_ge w2 Ab nb cb xb Aa na ca xa l_b2 l_a2 (Nat.le_of_lt HO.out))
  refine cc.out.mono ?_
  clear cc
  rintro e w3 ⟨A3, m3, c3, rfl, h3, hm3, hb3⟩
  have t_r03 := t_r02.bel hb3
  have l_a3 := l_a2.bel hb3
  have l_b3 := l_b2.bel hb3
  have bel3 := bel2.trans (hb3.mono bel2.size)
  have f_r03 := t_r03.room.2
  clear hb3 t_r02 f_r02 l_a2 l_b2 bel2
  rw [← HZ.out.1] at h3
  go_wp2_with fail
  have cc := Lib.hid (signed_z w3 Z 1 A3 m3 c3 (max na nb + 1) h3 (by omega) HZ.out.2)
  refine cc.out.mono ?_
  clear cc
  rintro e w4 ⟨A4, m4, c4, rfl, h4, hm4, hb4⟩
  have t_r04 := t_r03.bel hb4
  have l_a4 := l_a3.bel hb4
  have l_b4 := l_b3.bel hb4
  have l_z4 := h3.bel hb4
  have bel4 := bel3.trans (hb4.mono bel3.size)
  have f_r04 := t_r04.room.2
  clear hb4 t_r03 f_r03 l_a3 l_b3 h3 bel3
  go_wp2
  have hx := t_r04.put (decide (Z < 0)) A4 m4 c4
  have hl := h4.put t_r04 (.bool (decide (Z < 0))) (.slice A4 m4 c4)
  have hbl := bel_put bel4 (g := r0) HG.out (.bool (decide (Z < 0))) (.slice A4 m4 c4)
  generalize (w4.setCell ⟨r0, 0, none⟩ (.bool (decide (Z < 0)))).setCell ⟨r0, 1, none⟩ (.slice A4 m4 c4) = wz at *
  refine bodyPost_ret (v := .agg #[.bool (decide (Z < 0)), .slice A4 m4 c4]) (by simp [results, Tryd.results91, go_sem, hx.c0, hx.c1]) rfl ?_
  exact ⟨_, _, _, rfl, hl, hm4, hbl⟩
set_option maxHeartbeats 1000000 in
theorem sum_zm (w : World) (X Y : Int) (Aa : Option Addr) (na ca : Nat) (xa : List Nat) (La : Lm w Aa na ca xa) (Ab : Option Addr) (nb cb : Nat) (xb : List Nat) (Lb : Lm w Ab nb cb xb) (hX : X.natAbs = val xa) (hY : Y.natAbs = val xb) (hs : X = 0) (ht : Y < 0) (hT : SumsT w) (hna : na ≤ 1000000000) (hnb : nb ≤ 1000000000) :
    Calls Tryd.prog 91 #[.slice Aa na ca, .slice Ab nb cb, .int .i64 0, .int .i64 (-1)] w (TellsI w (X + Y) (max na nb + 1)) := by
  have hu := And.intro hX (And.intro hY (And.intro hs (And.intro ht (And.intro hna hnb))))
  clear hu
  have hcell := (hT.bel (bel_alloc w (.cells #[.bool false, .slice none 0 0] 43))) 3 (by omega)
  rw [show sumsT.getD 3 0 = 1 from rfl] at hcell
  obtain ⟨Z, hZ, hZn, hZs⟩ : ∃ Z, X + Y = Z ∧ Z.natAbs = val xb ∧ (Z ≠ 0 → ((-1) < (0 : Int) ↔ Z < 0)) := ⟨_, rfl, by omega, fun _ => by omega⟩
  rw [hZ]
  have HZ := Lib.hid (And.intro hZn hZs)
  clear hZ hZn hZs hX hY hs ht hT
  go_enter Tryd.func91, Tryd.ntmps91
  go_wp2_with fail
  obtain ⟨r0, hr0⟩ : ∃ g, g = w.heap.size := ⟨_, rfl⟩
  obtain ⟨w1, hw1⟩ : ∃ v, v = (w.alloc (.cells #[.bool false, .slice none 0 0] 43)) := ⟨_, rfl⟩
  have bel1 : Below w.heap.size w w1 := by rw [hw1]; exact bel_alloc _ _
  have t_r01 : Two w1 r0 := by rw [hw1, hr0]; exact Box.two (Box.new _ _ _ _ _)
  rw [← hw1, ← hr0]
  have hgs : w.heap.size ≤ r0 := by omega
  have HG := Lib.hid hgs
  clear hw1 hgs hr0
  have l_a1 := La.bel bel1
  have l_b1 := Lb.bel bel1
  have f_r01 := t_r01.room.2
  go_wp2_with fail
  have cc := Lib.hid (trim_any w1 Ab nb cb xb l_b1)
  refine cc.out.mono ?_
  clear cc
  rintro e w2 ⟨A3, m3, c3, rfl, h3, hm3, hb2⟩
  have t_r02 := t_r01.bel hb2
  have l_a2 := l_a1.bel hb2
  have l_b2 := l_b1.bel hb2
  have bel2 := bel1.trans (hb2.mono bel1.size)
  have f_r02 := t_r02.room.2
  clear hb2 t_r01 f_r01 l_a1 l_b1 bel1
  rw [← HZ.out.1] at h3
  go_wp2_with fail
  have cc := Lib.hid (signed_z w2 Z (-1) A3 m3 c3 (max na nb + 1) h3 (by omega) HZ.out.2)
  refine cc.out.mono ?_
  clear cc
  rintro e w3 ⟨A4, m4, c4, rfl, h4, hm4, hb3⟩
  have t_r03 := t_r02.bel hb3
  have l_a3 := l_a2.bel hb3
  have l_b3 := l_b2.bel hb3
  have l_z3 := h3.bel hb3
  have bel3 := bel2.trans (hb3.mono bel2.size)
  have f_r03 := t_r03.room.2
  clear hb3 t_r02 f_r02 l_a2 l_b2 h3 bel2
  go_wp2
  have hx := t_r03.put (decide (Z < 0)) A4 m4 c4
  have hl := h4.put t_r03 (.bool (decide (Z < 0))) (.slice A4 m4 c4)
  have hbl := bel_put bel3 (g := r0) HG.out (.bool (decide (Z < 0))) (.slice A4 m4 c4)
  generalize (w3.setCell ⟨r0, 0, none⟩ (.bool (decide (Z < 0)))).setCell ⟨r0, 1, none⟩ (.slice A4 m4 c4) = wz at *
  refine bodyPost_ret (v := .agg #[.bool (decide (Z < 0)), .slice A4 m4 c4]) (by simp [results, Tryd.results91, go_sem, hx.c0, hx.c1]) rfl ?_
  exact ⟨_, _, _, rfl, hl, hm4, hbl⟩
set_option maxHeartbeats 1000000 in
theorem sum_zz (w : World) (X Y : Int) (Aa : Option Addr) (na ca : Nat) (xa : List Nat) (La : Lm w Aa na ca xa) (Ab : Option Addr) (nb cb : Nat) (xb : List Nat) (Lb : Lm w Ab nb cb xb) (hX : X.natAbs = val xa) (hY : Y.natAbs = val xb) (hs : X = 0) (ht : Y = 0) (hT : SumsT w) (hna : na ≤ 1000000000) (hnb : nb ≤ 1000000000) :
    Calls Tryd.prog 91 #[.slice Aa na ca, .slice Ab nb cb, .int .i64 0, .int .i64 0] w (TellsI w (X + Y) (max na nb + 1)) := by
  have hu := And.intro hX (And.intro hY (And.intro hs (And.intro ht (And.intro hna hnb))))
  clear hu
  have hcell := (hT.bel (bel_alloc w (.cells #[.bool false, .slice none 0 0] 43))) 4 (by omega)
  rw [show sumsT.getD 4 0 = 0 from rfl] at hcell
  obtain ⟨Z, hZ, hZn, hZs⟩ : ∃ Z, X + Y = Z ∧ Z.natAbs = val xa ∧ (Z ≠ 0 → (0 < (0 : Int) ↔ Z < 0)) := ⟨_, rfl, by omega, fun _ => by omega⟩
  rw [hZ]
  have HZ := Lib.hid (And.intro hZn hZs)
  clear hZ hZn hZs hX hY hs ht hT
  go_enter Tryd.func91, Tryd.ntmps91
  go_wp2_with fail
  obtain ⟨r0, hr0⟩ : ∃ g, g = w.heap.size := ⟨_, rfl⟩
  obtain ⟨w1, hw1⟩ : ∃ v, v = (w.alloc (.cells #[.bool false, .slice none 0 0] 43)) := ⟨_, rfl⟩
  have bel1 : Below w.heap.size w w1 := by rw [hw1]; exact bel_alloc _ _
  have t_r01 : Two w1 r0 := by rw [hw1, hr0]; exact Box.two (Box.new _ _ _ _ _)
  rw [← hw1, ← hr0]
  have hgs : w.heap.size ≤ r0 := by omega
  have HG := Lib.hid hgs
  clear hw1 hgs hr0
  have l_a1 := La.bel bel1
  have l_b1 := Lb.bel bel1
  have f_r01 := t_r01.room.2
  go_wp2_with fail
  have cc := Lib.hid (trim_any w1 Aa na ca xa l_a1)
  refine cc.out.mono ?_
  clear cc
  rintro e w2 ⟨A3, m3, c3, rfl, h3, hm3, hb2⟩
  have t_r02 := t_r01.bel hb2
  have l_a2 := l_a1.bel hb2
  have l_b2 := l_b1.bel hb2
  have bel2 := bel1.trans (hb2.mono bel1.size)
  have f_r02 := t_r02.room.2
  clear hb2 t_r01 f_r01 l_a1 l_b1 bel1
  rw [← HZ.out.1] at h3
  go_wp2_with fail
  have cc := Lib.hid (signed_z w2 Z 0 A3 m3 c3 (max na nb + 1) h3 (by omega) HZ.out.2)
  refine cc.out.mono ?_
  clear cc
  rintro e w3 ⟨A4, m4, c4, rfl, h4, hm4, hb3⟩
  have t_r03 := t_r02.bel hb3
  have l_a3 := l_a2.bel hb3
  have l_b3 := l_b2.bel hb3
  have l_z3 := h3.bel hb3
  have bel3 := bel2.trans (hb3.mono bel2.size)
  have f_r03 := t_r03.room.2
  clear hb3 t_r02 f_r02 l_a2 l_b2 h3 bel2
  go_wp2
  have hx := t_r03.put (decide (Z < 0)) A4 m4 c4
  have hl := h4.put t_r03 (.bool (decide (Z < 0))) (.slice A4 m4 c4)
  have hbl := bel_put bel3 (g := r0) HG.out (.bool (decide (Z < 0))) (.slice A4 m4 c4)
  generalize (w3.setCell ⟨r0, 0, none⟩ (.bool (decide (Z < 0)))).setCell ⟨r0, 1, none⟩ (.slice A4 m4 c4) = wz at *
  refine bodyPost_ret (v := .agg #[.bool (decide (Z < 0)), .slice A4 m4 c4]) (by simp [results, Tryd.results91, go_sem, hx.c0, hx.c1]) rfl ?_
  exact ⟨_, _, _, rfl, hl, hm4, hbl⟩
set_option maxHeartbeats 1000000 in
theorem sum_zp (w : World) (X Y : Int) (Aa : Option Addr) (na ca : Nat) (xa : List Nat) (La : Lm w Aa na ca xa) (Ab : Option Addr) (nb cb : Nat) (xb : List Nat) (Lb : Lm w Ab nb cb xb) (hX : X.natAbs = val xa) (hY : Y.natAbs = val xb) (hs : X = 0) (ht : 0 < Y) (hT : SumsT w) (hna : na ≤ 1000000000) (hnb : nb ≤ 1000000000) :
    Calls Tryd.prog 91 #[.slice Aa na ca, .slice Ab nb cb, .int .i64 0, .int .i64 1] w (TellsI w (X + Y) (max na nb + 1)) := by
  have hu := And.intro hX (And.intro hY (And.intro hs (And.intro ht (And.intro hna hnb))))
  clear hu
  have hcell := (hT.bel (bel_alloc w (.cells #[.bool false, .slice none 0 0] 43))) 5 (by omega)
  rw [show sumsT.getD 5 0 = 1 from rfl] at hcell
  obtain ⟨Z, hZ, hZn, hZs⟩ : ∃ Z, X + Y = Z ∧ Z.natAbs = val xb ∧ (Z ≠ 0 → (1 < (0 : Int) ↔ Z < 0)) := ⟨_, rfl, by omega, fun _ => by omega⟩
  rw [hZ]
  have HZ := Lib.hid (And.intro hZn hZs)
  clear hZ hZn hZs hX hY hs ht hT
  go_enter Tryd.func91, Tryd.ntmps91
  go_wp2_with fail
  obtain ⟨r0, hr0⟩ : ∃ g, g = w.heap.size := ⟨_, rfl⟩
  obtain ⟨w1, hw1⟩ : ∃ v, v = (w.alloc (.cells #[.bool false, .slice none 0 0] 43)) := ⟨_, rfl⟩
  have bel1 : Below w.heap.size w w1 := by rw [hw1]; exact bel_alloc _ _
  have t_r01 : Two w1 r0 := by rw [hw1, hr0]; exact Box.two (Box.new _ _ _ _ _)
  rw [← hw1, ← hr0]
  have hgs : w.heap.size ≤ r0 := by omega
  have HG := Lib.hid hgs
  clear hw1 hgs hr0
  have l_a1 := La.bel bel1
  have l_b1 := Lb.bel bel1
  have f_r01 := t_r01.room.2
  go_wp2_with fail
  have cc := Lib.hid (trim_any w1 Ab nb cb xb l_b1)
  refine cc.out.mono ?_
  clear cc
  rintro e w2 ⟨A3, m3, c3, rfl, h3, hm3, hb2⟩
  have t_r02 := t_r01.bel hb2
  have l_a2 := l_a1.bel hb2
  have l_b2 := l_b1.bel hb2
  have bel2 := bel1.trans (hb2.mono bel1.size)
  have f_r02 := t_r02.room.2
  clear hb2 t_r01 f_r01 l_a1 l_b1 bel1
  rw [← HZ.out.1] at h3
  go_wp2_with fail
  have cc := Lib.hid (signed_z w2 Z 1 A3 m3 c3 (max na nb + 1) h3 (by omega) HZ.out.2)
  refine cc.out.mono ?_
  clear cc
  rintro e w3 ⟨A4, m4, c4, rfl, h4, hm4, hb3⟩
  have t_r03 := t_r02.bel hb3
  have l_a3 := l_a2.bel hb3
  have l_b3 := l_b2.bel hb3
  have l_z3 := h3.bel hb3
  have bel3 := bel2.trans (hb3.mono bel2.size)
  have f_r03 := t_r03.room.2
  clear hb3 t_r02 f_r02 l_a2 l_b2 h3 bel2
  go_wp2
  have hx := t_r03.put (decide (Z < 0)) A4 m4 c4
  have hl := h4.put t_r03 (.bool (decide (Z < 0))) (.slice A4 m4 c4)
  have hbl := bel_put bel3 (g := r0) HG.out (.bool (decide (Z < 0))) (.slice A4 m4 c4)
  generalize (w3.setCell ⟨r0, 0, none⟩ (.bool (decide (Z < 0)))).setCell ⟨r0, 1, none⟩ (.slice A4 m4 c4) = wz at *
  refine bodyPost_ret (v := .agg #[.bool (decide (Z < 0)), .slice A4 m4 c4]) (by simp [results, Tryd.results91, go_sem, hx.c0, hx.c1]) rfl ?_
  exact ⟨_, _, _, rfl, hl, hm4, hbl⟩
set_option maxHeartbeats 1000000 in
theorem sum_pmge (w : World) (X Y : Int) (Aa : Option Addr) (na ca : Nat) (xa : List Nat) (La : Lm w Aa na ca xa) (Ab : Option Addr) (nb cb : Nat) (xb : List Nat) (Lb : Lm w Ab nb cb xb) (hX : X.natAbs = val xa) (hY : Y.natAbs = val xb) (hs : 0 < X) (ht : Y < 0) (hT : SumsT w) (hna : na ≤ 1000000000) (hnb : nb ≤ 1000000000) (hge : val xb ≤ val xa) :
    Calls Tryd.prog 91 #[.slice Aa na ca, .slice Ab nb cb, .int .i64 1, .int .i64 (-1)] w (TellsI w (X + Y) (max na nb + 1)) := by
  have hu := And.intro hX (And.intro hY (And.intro hs (And.intro ht (And.intro hna hnb))))
  clear hu
  have hcell := (hT.bel (bel_alloc w (.cells #[.bool false, .slice none 0 0] 43))) 6 (by omega)
  rw [show sumsT.getD 6 0 = 3 from rfl] at hcell
  obtain ⟨Z, hZ, hZn, hZs⟩ : ∃ Z, X + Y = Z ∧ Z.natAbs = val xa - val xb ∧ (Z ≠ 0 → (1 < (0 : Int) ↔ Z < 0)) := ⟨_, rfl, by omega, fun _ => by omega⟩
  rw [hZ]
  have HZ := Lib.hid (And.intro hZn hZs)
  clear hZ hZn hZs hX hY hs ht hT
  have HO := Lib.hid hge
  clear hge
  go_enter Tryd.func91, Tryd.ntmps91
  go_wp2_with fail
  obtain ⟨r0, hr0⟩ : ∃ g, g = w.heap.size := ⟨_, rfl⟩
  obtain ⟨w1, hw1⟩ : ∃ v, v = (w.alloc (.cells #[.bool false, .slice none 0 0] 43)) := ⟨_, rfl⟩
  have bel1 : Below w.heap.size w w1 := by rw [hw1]; exact bel_alloc _ _
  have t_r01 : Two w1 r0 := by rw [hw1, hr0]; exact Box.two (Box.new _ _ _ _ _)
  rw [← hw1, ← hr0]
  have hgs : w.heap.size ≤ r0 := by omega
  have HG := Lib.hid hgs
  clear hw1 hgs hr0
  have l_a1 := La.bel bel1
  have l_b1 := Lb.bel bel1
  have f_r01 := t_r01.room.2
  go_wp2_with fail
  have cc := Lib.hid (sub_ge w1 Aa na ca xa Ab nb cb xb l_a1 l_b1 HO.out)
  refine cc.out.mono ?_
  clear cc
  rintro e w2 ⟨A3, m3, c3, rfl, h3, hm3, hb2⟩
  have t_r02 := t_r01.bel hb2
  have l_a2 := l_a1.bel hb2
  have l_b2 := l_b1.bel hb2
  have bel2 := bel1.trans (hb2.mono bel1.size)
  have f_r02 := t_r02.room.2
  clear hb2 t_r01 f_r01 l_a1 l_b1 bel1
  rw [← HZ.out.1] at h3
  go_wp2_with fail
  have cc := Lib.hid (signed_z w2 Z 1 A3 m3 c3 (max na nb + 1) h3 (by omega) HZ.out.2)
  refine cc.out.mono ?_
  clear cc
  rintro e w3 ⟨A4, m4, c4, rfl, h4, hm4, hb3⟩
  have t_r03 := t_r02.bel hb3
  have l_a3 := l_a2.bel hb3
  have l_b3 := l_b2.bel hb3
  have l_z3 := h3.bel hb3
  have bel3 := bel2.trans (hb3.mono bel2.size)
  have f_r03 := t_r03.room.2
  clear hb3 t_r02 f_r02 l_a2 l_b2 h3 bel2
  go_wp2
  have hx := t_r03.put (decide (Z < 0)) A4 m4 c4
  have hl := h4.put t_r03 (.bool (decide (Z < 0))) (.slice A4 m4 c4)
  have hbl := bel_put bel3 (g := r0) HG.out (.bool (decide (Z < 0))) (.slice A4 m4 c4)
  generalize (w3.setCell ⟨r0, 0, none⟩ (.bool (decide (Z < 0)))).setCell ⟨r0, 1, none⟩ (.slice A4 m4 c4) = wz at *
  refine bodyPost_ret (v := .agg #[.bool (decide (Z < 0)), .slice A4 m4 c4]) (by simp [results, Tryd.results91, go_sem, hx.c0, hx.c1]) rfl ?_
  exact ⟨_, _, _, rfl, hl, hm4, hbl⟩
set_option maxHeartbeats 1000000 in
theorem sum_pmlt (w : World) (X Y : Int) (Aa : Option Addr) (na ca : Nat) (xa : List Nat) (La : Lm w Aa na ca xa) (Ab : Option Addr) (nb cb : Nat) (xb : List Nat) (Lb : Lm w Ab nb cb xb) (hX : X.natAbs = val xa) (hY : Y.natAbs = val xb) (hs : 0 < X) (ht : Y < 0) (hT : SumsT w) (hna : na ≤ 1000000000) (hnb : nb ≤ 1000000000) (hlt : val xa < val xb) :
    Calls Tryd.prog 91 #[.slice Aa na ca, .slice Ab nb cb, .int .i64 1, .int .i64 (-1)] w (TellsI w (X + Y) (max na nb + 1)) := by
  have hu := And.intro hX (And.intro hY (And.intro hs (And.intro ht (And.intro hna hnb))))
  clear hu
  have hcell := (hT.bel (bel_alloc w (.cells #[.bool false, .slice none 0 0] 43))) 6 (by omega)
  rw [show sumsT.getD 6 0 = 3 from rfl] at hcell
  obtain ⟨Z, hZ, hZn, hZs⟩ : ∃ Z, X + Y = Z ∧ Z.natAbs = val xb - val xa ∧ (Z ≠ 0 → ((-1) < (0 : Int) ↔ Z < 0)) := ⟨_, rfl, by omega, fun _ => by omega⟩
  rw [hZ]
  have HZ := Lib.hid (And.intro hZn hZs)
  clear hZ hZn hZs hX hY hs ht hT
  have HO := Lib.hid hlt
  clear hlt
  go_enter Tryd.func91, Tryd.ntmps91
  go_wp2_with fail
  obtain ⟨r0, hr0⟩ : ∃ g, g = w.heap.size := ⟨_, rfl⟩
  obtain ⟨w1, hw1⟩ : ∃ v, v = (w.alloc (.cells #[.bool false, .slice none 0 0] 43)) := ⟨_, rfl⟩
  have bel1 : Below w.heap.size w w1 := by rw [hw1]; exact bel_alloc _ _
  have t_r01 : Two w1 r0 := by rw [hw1, hr0]; exact Box.two (Box.new _ _ _ _ _)
  rw [← hw1, ← hr0]
  have hgs : w.heap.size ≤ r0 := by omega
  have HG := Lib.hid hgs
  clear hw1 hgs hr0
  have l_a1 := La.bel bel1
  have l_b1 := Lb.bel bel1
  have f_r01 := t_r01.room.2
  go_wp2_with fail
  have cc := Lib.hid (sub_lt w1 Aa na ca xa Ab nb cb xb l_a1 l_b1 HO.out)
  refine cc.out.mono ?_
  clear cc
  rintro e w2 ⟨rfl, hb2⟩
  have t_r02 := t_r01.bel hb2
  have l_a2 := l_a1.bel hb2
  have l_b2 := l_b1.bel hb2
  have bel2 := bel1.trans (hb2.mono bel1.size)
  have f_r02 := t_r02.room.2
  clear hb2 t_r01 f_r01 l_a1 l_b1 bel1
  go_wp2_with fail
  have cc := Lib.hid (sub_ge w2 Ab nb cb xb Aa na ca xa l_b2 l_a2 (Nat.le_of_lt HO.out))
  refine cc.out.mono ?_
  clear cc
  rintro e w3 ⟨A3, m3, c3, rfl, h3, hm3, hb3⟩
  have t_r03 := t_r02.bel hb3
  have l_a3 := l_a2.bel hb3
  have l_b3 := l_b2.bel hb3
  have bel3 := bel2.trans (hb3.mono bel2.size)
  have f_r03 := t_r03.room.2
  clear hb3 t_r02 f_r02 l_a2 l_b2 bel2
  rw [← HZ.out.1] at h3
  go_wp2_with fail
  have cc := Lib.hid (signed_z w3 Z (-1) A3 m3 c3 (max na nb + 1) h3 (by omega) HZ.out.2)
  refine cc.out.mono ?_
  clear cc
  rintro e w4 ⟨A4, m4, c4, rfl, h4, hm4, hb4⟩
  have t_r04 := t_r03.bel hb4
  have l_a4 := l_a3.bel hb4
  have l_b4 := l_b3.bel hb4
  have l_z4 := h3.bel hb4
  have bel4 := bel3.trans (hb4.mono bel3.size)
  have f_r04 := t_r04.room.2
  clear hb4 t_r03 f_r03 l_a3 l_b3 h3 bel3
  go_wp2
  have hx := t_r04.put (decide (Z < 0)) A4 m4 c4
  have hl := h4.put t_r04 (.bool (decide (Z < 0))) (.slice A4 m4 c4)
  have hbl := bel_put bel4 (g := r0) HG.out (.bool (decide (Z < 0))) (.slice A4 m4 c4)
  generalize (w4.setCell ⟨r0, 0, none⟩ (.bool (decide (Z < 0)))).setCell ⟨r0, 1, none⟩ (.slice A4 m4 c4) = wz at *
  refine bodyPost_ret (v := .agg #[.bool (decide (Z < 0)), .slice A4 m4 c4]) (by simp [results, Tryd.results91, go_sem, hx.c0, hx.c1]) rfl ?_
  exact ⟨_, _, _, rfl, hl, hm4, hbl⟩
set_option maxHeartbeats 1000000 in
theorem sum_pz (w : World) (X Y : Int) (Aa : Option Addr) (na ca : Nat) (xa : List Nat) (La : Lm w Aa na ca xa) (Ab : Option Addr) (nb cb : Nat) (xb : List Nat) (Lb : Lm w Ab nb cb xb) (hX : X.natAbs = val xa) (hY : Y.natAbs = val xb) (hs : 0 < X) (ht : Y = 0) (hT : SumsT w) (hna : na ≤ 1000000000) (hnb : nb ≤ 1000000000) :
    Calls Tryd.prog 91 #[.slice Aa na ca, .slice Ab nb cb, .int .i64 1, .int .i64 0] w (TellsI w (X + Y) (max na nb + 1)) := by
  have hu := And.intro hX (And.intro hY (And.intro hs (And.intro ht (And.intro hna hnb))))
  clear hu
  have hcell := (hT.bel (bel_alloc w (.cells #[.bool false, .slice none 0 0] 43))) 7 (by omega)
  rw [show sumsT.getD 7 0 = 0 from rfl] at hcell
  obtain ⟨Z, hZ, hZn, hZs⟩ : ∃ Z, X + Y = Z ∧ Z.natAbs = val xa ∧ (Z ≠ 0 → (1 < (0 : Int) ↔ Z < 0)) := ⟨_, rfl, by omega, fun _ => by omega⟩
  rw [hZ]
  have HZ := Lib.hid (And.intro hZn hZs)
  clear hZ hZn hZs hX hY hs ht hT
  go_enter Tryd.func91, Tryd.ntmps91
  go_wp2_with fail
  obtain ⟨r0, hr0⟩ : ∃ g, g = w.heap.size := ⟨_, rfl⟩
  obtain ⟨w1, hw1⟩ : ∃ v, v = (w.alloc (.cells #[.bool false, .slice none 0 0] 43)) := ⟨_, rfl⟩
  have bel1 : Below w.heap.size w w1 := by rw [hw1]; exact bel_alloc _ _
  have t_r01 : Two w1 r0 := by rw [hw1, hr0]; exact Box.two (Box.new _ _ _ _ _)
  rw [← hw1, ← hr0]
  have hgs : w.heap.size ≤ r0 := by omega
  have HG := Lib.hid hgs
  clear hw1 hgs hr0
  have l_a1 := La.bel bel1
  have l_b1 := Lb.bel bel1
  have f_r01 := t_r01.room.2
  go_wp2_with fail
  have cc := Lib.hid (trim_any w1 Aa na ca xa l_a1)
  refine cc.out.mono ?_
  clear cc
  rintro e w2 ⟨A3, m3, c3, rfl, h3, hm3, hb2⟩
  have t_r02 := t_r01.bel hb2
  have l_a2 := l_a1.bel hb2
  have l_b2 := l_b1.bel hb2
  have bel2 := bel1.trans (hb2.mono bel1.size)
  have f_r02 := t_r02.room.2
  clear hb2 t_r01 f_r01 l_a1 l_b1 bel1
  rw [← HZ.out.1] at h3
  go_wp2_with fail
  have cc := Lib.hid (signed_z w2 Z 1 A3 m3 c3 (max na nb + 1) h3 (by omega) HZ.out.2)
  refine cc.out.mono ?_
  clear cc
  rintro e w3 ⟨A4, m4, c4, rfl, h4, hm4, hb3⟩
  have t_r03 := t_r02.bel hb3
  have l_a3 := l_a2.bel hb3
  have l_b3 := l_b2.bel hb3
  have l_z3 := h3.bel hb3
  have bel3 := bel2.trans (hb3.mono bel2.size)
  have f_r03 := t_r03.room.2
  clear hb3 t_r02 f_r02 l_a2 l_b2 h3 bel2
  go_wp2
  have hx := t_r03.put (decide (Z < 0)) A4 m4 c4
  have hl := h4.put t_r03 (.bool (decide (Z < 0))) (.slice A4 m4 c4)
  have hbl := bel_put bel3 (g := r0) HG.out (.bool (decide (Z < 0))) (.slice A4 m4 c4)
  generalize (w3.setCell ⟨r0, 0, none⟩ (.bool (decide (Z < 0)))).setCell ⟨r0, 1, none⟩ (.slice A4 m4 c4) = wz at *
  refine bodyPost_ret (v := .agg #[.bool (decide (Z < 0)), .slice A4 m4 c4]) (by simp [results, Tryd.results91, go_sem, hx.c0, hx.c1]) rfl ?_
  exact ⟨_, _, _, rfl, hl, hm4, hbl⟩
set_option maxHeartbeats 1000000 in
theorem sum_pp (w : World) (X Y : Int) (Aa : Option Addr) (na ca : Nat) (xa : List Nat) (La : Lm w Aa na ca xa) (Ab : Option Addr) (nb cb : Nat) (xb : List Nat) (Lb : Lm w Ab nb cb xb) (hX : X.natAbs = val xa) (hY : Y.natAbs = val xb) (hs : 0 < X) (ht : 0 < Y) (hT : SumsT w) (hna : na ≤ 1000000000) (hnb : nb ≤ 1000000000) :
    Calls Tryd.prog 91 #[.slice Aa na ca, .slice Ab nb cb, .int .i64 1, .int .i64 1] w (TellsI w (X + Y) (max na nb + 1)) := by
  have hu := And.intro hX (And.intro hY (And.intro hs (And.intro ht (And.intro hna hnb))))
  clear hu
  have hcell := (hT.bel (bel_alloc w (.cells #[.bool false, .slice none 0 0] 43))) 8 (by omega)
  rw [show sumsT.getD 8 0 = 2 from rfl] at hcell
  obtain ⟨Z, hZ, hZn, hZs⟩ : ∃ Z, X + Y = Z ∧ Z.natAbs = val xa + val xb ∧ (Z ≠ 0 → (1 < (0 : Int) ↔ Z < 0)) := ⟨_, rfl, by omega, fun _ => by omega⟩
  rw [hZ]
  have HZ := Lib.hid (And.intro hZn hZs)
  clear hZ hZn hZs hX hY hs ht hT
  go_enter Tryd.func91, Tryd.ntmps91
  go_wp2_with fail
  obtain ⟨r0, hr0⟩ : ∃ g, g = w.heap.size := ⟨_, rfl⟩
  obtain ⟨w1, hw1⟩ : ∃ v, v = (w.alloc (.cells #[.bool false, .slice none 0 0] 43)) := ⟨_, rfl⟩
  have bel1 : Below w.heap.size w w1 := by rw [hw1]; exact bel_alloc _ _
  have t_r01 : Two w1 r0 := by rw [hw1, hr0]; exact Box.two (Box.new _ _ _ _ _)
  rw [← hw1, ← hr0]
  have hgs : w.heap.size ≤ r0 := by omega
  have HG := Lib.hid hgs
  clear hw1 hgs hr0
  have l_a1 := La.bel bel1
  have l_b1 := Lb.bel bel1
  have f_r01 := t_r01.room.2
  go_wp2_with fail
  have cc := Lib.hid (add_any w1 Aa na ca xa Ab nb cb xb l_a1 l_b1 (by omega) (by omega))
  refine cc.out.mono ?_
  clear cc
  rintro e w2 ⟨A3, m3, c3, rfl, h3, hm3, hb2⟩
  have t_r02 := t_r01.bel hb2
  have l_a2 := l_a1.bel hb2
  have l_b2 := l_b1.bel hb2
  have bel2 := bel1.trans (hb2.mono bel1.size)
  have f_r02 := t_r02.room.2
  clear hb2 t_r01 f_r01 l_a1 l_b1 bel1
  rw [← HZ.out.1] at h3
  go_wp2_with fail
  have cc := Lib.hid (signed_z w2 Z 1 A3 m3 c3 (max na nb + 1) h3 (by omega) HZ.out.2)
  refine cc.out.mono ?_
  clear cc
  rintro e w3 ⟨A4, m4, c4, rfl, h4, hm4, hb3⟩
  have t_r03 := t_r02.bel hb3
  have l_a3 := l_a2.bel hb3
  have l_b3 := l_b2.bel hb3
  have l_z3 := h3.bel hb3
  have bel3 := bel2.trans (hb3.mono bel2.size)
  have f_r03 := t_r03.room.2
  clear hb3 t_r02 f_r02 l_a2 l_b2 h3 bel2
  go_wp2
  have hx := t_r03.put (decide (Z < 0)) A4 m4 c4
  have hl := h4.put t_r03 (.bool (decide (Z < 0))) (.slice A4 m4 c4)
  have hbl := bel_put bel3 (g := r0) HG.out (.bool (decide (Z < 0))) (.slice A4 m4 c4)
  generalize (w3.setCell ⟨r0, 0, none⟩ (.bool (decide (Z < 0)))).setCell ⟨r0, 1, none⟩ (.slice A4 m4 c4) = wz at *
  refine bodyPost_ret (v := .agg #[.bool (decide (Z < 0)), .slice A4 m4 c4]) (by simp [results, Tryd.results91, go_sem, hx.c0, hx.c1]) rfl ?_
  exact ⟨_, _, _, rfl, hl, hm4, hbl⟩
theorem sum_any (w : World) (X Y : Int) (Aa : Option Addr) (na ca : Nat) (xa : List Nat) (La : Lm w Aa na ca xa) (Ab : Option Addr) (nb cb : Nat) (xb : List Nat) (Lb : Lm w Ab nb cb xb) (hX : X.natAbs = val xa) (hY : Y.natAbs = val xb) {s t : Int} (hs : sg X = s) (ht : sg Y = t) (hT : SumsT w) (hna : na ≤ 1000000000) (hnb : nb ≤ 1000000000) :
    Calls Tryd.prog 91 #[.slice Aa na ca, .slice Ab nb cb, .int .i64 s, .int .i64 t] w (TellsI w (X + Y) (max na nb + 1)) := by
  subst hs; subst ht
  rcases sg_cases X with ⟨h, e⟩ | ⟨h, e⟩ | ⟨h, e⟩ <;> rcases sg_cases Y with ⟨h', e'⟩ | ⟨h', e'⟩ | ⟨h', e'⟩ <;> rw [e, e']
  · exact sum_mm w X Y Aa na ca xa La Ab nb cb xb Lb hX hY h h' hT hna hnb
  · exact sum_mz w X Y Aa na ca xa La Ab nb cb xb Lb hX hY h h' hT hna hnb
  · rcases Nat.lt_or_ge (val xa) (val xb) with ho | ho
    · exact sum_mplt w X Y Aa na ca xa La Ab nb cb xb Lb hX hY h h' hT hna hnb ho
    · exact sum_mpge w X Y Aa na ca xa La Ab nb cb xb Lb hX hY h h' hT hna hnb ho
  · exact sum_zm w X Y Aa na ca xa La Ab nb cb xb Lb hX hY h h' hT hna hnb
  · exact sum_zz w X Y Aa na ca xa La Ab nb cb xb Lb hX hY h h' hT hna hnb
  · exact sum_zp w X Y Aa na ca xa La Ab nb cb xb Lb hX hY h h' hT hna hnb
  · rcases Nat.lt_or_ge (val xa) (val xb) with ho | ho
    · exact sum_pmlt w X Y Aa na ca xa La Ab nb cb xb Lb hX hY h h' hT hna hnb ho
    · exact sum_pmge w X Y Aa na ca xa La Ab nb cb xb Lb hX hY h h' hT hna hnb ho
  · exact sum_pz w X Y Aa na ca xa La Ab nb cb xb Lb hX hY h h' hT hna hnb
  · exact sum_pp w X Y Aa na ca xa La Ab nb cb xb Lb hX hY h h' hT hna hnb
end Go.Proofs.YtopkndkicdgafaaDoor
