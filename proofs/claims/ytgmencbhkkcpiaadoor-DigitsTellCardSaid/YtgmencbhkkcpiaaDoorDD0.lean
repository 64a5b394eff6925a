/- Div by one limb: the quotient is new. -/
import Derived.Test.YtgmencbhkkcpiaaDoorWb
import Derived.Deep.RegionHeld3
namespace Go.Proofs.YtgmencbhkkcpiaaDoor
open Go.RowKit

set_option maxHeartbeats 1000000 in
theorem divLimb_f (w : World) (A : Option Addr) (m c X : Nat) (b : Nat) (h : Lm w A m c (lim X)) (hb : b < Bs) (hb0 : b ≠ 0) :
    Calls Tryd.prog 64 #[.slice A m c, d32 b] w fun e w' => ∃ q d B' q' d', e = .returned (.tuple #[.slice (some ⟨w.heap.size, 0, none⟩) q d, .slice B' q' d']) ∧ Lm w' (some ⟨w.heap.size, 0, none⟩) q d (lim (X / b)) ∧ Lm w' B' q' d' (lim (X % b)) ∧ q ≤ m ∧ q' ≤ 1 ∧ Below w.heap.size w w' := by
  have hbig := h.big
  have Hlen : Hid (ln X = m) := h.len
  have hb0' := Lib.hid hb0
  clear hb0
  go_enter Tryd.func64, Tryd.ntmps64
  go_wp2_with
    (at_make
     refine wpList_make_u32 _ rfl _ _ rfl .i64 .i64 _ _ m rfl rfl ?_ ?_ ?_ ?_
     · rfl
     · rfl
     · omega
     intro w1 hown hb1 hs1)
  go_loopw [7, 8] (fun rv ix wr => ∃ (t : Int) (k r : Nat) (L : List Nat), t + 1 = k ∧ k ≤ m ∧ ix = .int .i64 t ∧ rv = d32 r ∧ L.length = m ∧ Own wr w.heap.size L ∧ LimbAt X b k r L ∧ Below w.heap.size w wr) (fun _ ix _ => (intOf ix + 1).toNat)
  case atStart => exact ⟨(m : Int) - 1, m, 0, _, by omega, Nat.le_refl _, rfl, rfl, by simp, hown, ⟨Ok.zeros _, by have := hb0'.out; omega, by rw [List.drop_eq_nil_of_le (by simp), List.drop_eq_nil_of_le (Nat.le_of_eq Hlen.out)]; simp [val_nil], fun j _ => dig_zeros _ _⟩, hb1⟩
  case round =>
    obtain ⟨t, k, r, L, htk, hk, rfl, rfl, hL0, hO, hS, hB⟩ := hrel
    have hL := Lib.hid hL0
    clear hL0 hown hb1 hs1
    have hlm := h.bel hB
    have hrb := hS.2.1
    by_cases hlt : 0 ≤ t
    · obtain ⟨j, rfl⟩ := Int.eq_ofNat_of_zero_le hlt
      obtain rfl : k = j + 1 := by omega
      clear htk hlt
      obtain ⟨b', o, rfl, hb'', hc0⟩ := hlm.at_ (k := j) (by omega)
      have hx := hc0 j (by omega)
      clear hc0
      have hc := hO.cell (i := j) (by rw [hL.out]; omega)
      have hf := hO.free j
      have hst := Lib.hid (hS.step (by rw [hL.out]; omega))
      go_wp2_with fail
      refine (div32_any _ r (dig (lim X) j) b hrb (ok_lim X j) hb).mono ?_
      rintro e w2 ⟨rfl, nq, rfl⟩
      go_wp2
      go_roundw
      case rel => exact ⟨(j : Int) - 1, j, _, _, by omega, by omega, rfl, rfl, by simpa using hL.out, (show Own (wr.drewN nq) w.heap.size L from hO).set_ _ _, hst.out, (below_drewN hB nq).setCell (Nat.le_refl _) _⟩
      case measure => simp [intOf]
    · obtain rfl : k = 0 := by omega
      obtain rfl : t = -1 := by omega
      have hv := hS.2.2.1
      rw [List.drop_zero, List.drop_zero, val_lim] at hv
      have hq : val L = X / b := by
        rw [← hv, Nat.mul_comm, Nat.mul_add_div (by have := hb0'.out; omega), Nat.div_eq_of_lt hrb, Nat.add_zero]
      have hr : r = X % b := by rw [← hv, Nat.mul_comm, Nat.mul_add_mod, Nat.mod_eq_of_lt hrb]
      have HQ := Lib.hid hq
      have HR := Lib.hid hr
      clear hv hq hr htk
      have hl := hO.lm hS.1 (by rw [hL.out]; omega)
      rw [hL.out] at hl
      go_wp2_with fail
      refine (cut_lm _ _ _ _ _ hl).mono ?_
      rintro e w' ⟨q, rfl, hq, hqn, rfl⟩
      rw [HQ.out] at hq
      have ho1 : Own (wr.alloc (.cells #[d32 r] 49)) wr.heap.size [r] := Own.list wr [r]
      have hl1 := ho1.lm (Ok.of_mem (fun x hx => by simp at hx; omega)) (by simp)
      have hb2 : Below w.heap.size w (wr.alloc (.cells #[d32 r] 49)) := hB.alloc hB.size _
      have hq2 : Lm (wr.alloc (.cells #[d32 r] 49)) (some ⟨w.heap.size, 0, none⟩) q m (lim (X / b)) := hq.bel ((Below.refl _ _).alloc (Nat.le_refl _) _)
      have HO := Lib.hid (And.intro hb2 hq2)
      clear hb2 hq2 ho1
      go_wp2_with fail
      refine (cut_lm _ _ _ _ _ hl1).mono ?_
      rintro e w' ⟨q', rfl, hq', hqn', rfl⟩
      have hq'' : Lm (wr.alloc (.cells #[d32 r] 49)) (some ⟨wr.heap.size, 0, none⟩) q' 1 (lim (X % b)) := by rw [← HR.out]; rw [val_single] at hq'; exact hq'
      go_wp2
      go_ret2
      exact ⟨q, m, _, q', 1, rfl, HO.out.2, hq'', hqn, hqn', HO.out.1⟩
def TellsDivF (w : World) (M N len : Nat) (e : Ending) (w' : World) : Prop :=
  (N = 0 ∧ e = .returned (.tuple #[.slice none 0 0, .slice none 0 0, .bool false]) ∧ Below w.heap.size w w') ∨
  (N ≠ 0 ∧ ∃ A m c A' m' c', e = .returned (.tuple #[.slice A m c, .slice A' m' c', .bool true]) ∧ Lm w' A m c (lim (M / N)) ∧ Lm w' A' m' c' (lim (M % N)) ∧ m ≤ len ∧ m' ≤ max len 1 ∧ Below w.heap.size w w' ∧ Fr A w.heap.size)
set_option maxHeartbeats 2000000 in
theorem div1_any (w : World) (A : Option Addr) (n c : Nat) (xs : List Nat) (A' : Option Addr) (c' : Nat) (ys : List Nat) (h : Lm w A n c xs) (h' : Lm w A' 1 c' ys) (hn : n ≤ 10000000000) :
    Calls Tryd.prog 42 #[.slice A n c, .slice A' 1 c'] w (TellsDivF w (val xs) (val ys) n) := by
  generalize hX : val xs = X
  generalize hY : val ys = Y
  have HX := Lib.hid hX
  have HY := Lib.hid hY
  clear hX hY
  go_enter Tryd.func42, Tryd.ntmps42
  go_wp2_with fail
  refine (cut_lm w A n c xs h).mono ?_
  rintro e w1 ⟨m, rfl, hm, hmn, rfl⟩
  rw [HX.out] at hm
  go_wp2_with fail
  refine (cut_lm w A' 1 c' ys h').mono ?_
  rintro e w1 ⟨m', rfl, hm', hmn', rfl⟩
  rw [HY.out] at hm'
  have hbig' := hm'.big
  have Hlen : Hid (ln X = m) := hm.len
  have Hlen' : Hid (ln Y = m') := hm'.len
  by_cases h0 : m' = 0
  · subst h0
    have hy0 : Y = 0 := ln_zero_iff.1 Hlen'.out
    have HY0 := Lib.hid hy0
    clear hy0
    go_wp2
    go_ret3
    exact .inl ⟨HY0.out, rfl, Below.refl _ _⟩
  · have h0' : ((m' : Int) == 0) = false := by rw [beq_eq_false_iff_ne]; omega
    have hY0 : Hid (Y ≠ 0) := (fun e => h0 (by rw [← Hlen'.out, e]; exact ln_zero) : Y ≠ 0)
    have hp : 1 ≤ m' := by omega
    clear h0
    go_wp2_with fail
    refine (cmp_any w A m c _ A' m' c' _ hm hm').mono ?_
    rw [val_lim, val_lim]
    rintro e w0 ⟨rfl, nq, hw0⟩
    have hb0 : Below w.heap.size w w0 := by rw [hw0]; exact below_drewN (Below.refl _ _) nq
    have hm0 : Lm w0 A m c (lim X) := by rw [hw0]; exact hm.drewN nq
    have hm0' : Lm w0 A' m' c' (lim Y) := by rw [hw0]; exact hm'.drewN nq
    have hsz : w0.heap.size = w.heap.size := by rw [hw0]; rfl
    have HSZ := Lib.hid hsz
    clear hw0 hsz hm hm'
    by_cases hlt : X < Y
    · rw [cmpN_lt hlt]
      have HLT := Lib.hid hlt
      clear hlt
      go_wp2_with fail
      refine (trim_any _ _ _ _ _ hm0).mono ?_
      rw [val_lim]
      rintro e w2 ⟨B, q, d, rfl, hl, hq, hb⟩
      go_wp2
      go_ret3
      exact .inr ⟨hY0.out, none, 0, 0, B, q, d, rfl, by rw [Nat.div_eq_of_lt HLT.out, lim_zero]; exact Lm.nil _, by rw [Nat.mod_eq_of_lt HLT.out]; exact hl, Nat.zero_le _, by omega, hb0.trans (hb.mono (by rw [HSZ.out]; exact Nat.le_refl _)), .inl rfl⟩
    · have hge : 0 ≤ cmpN X Y := by have := cmpN_neg_iff X Y; omega
      generalize cmpN X Y = q at *
      have HLT : Hid (Y ≤ X) := (by omega : Y ≤ X)
      clear hlt
      by_cases h1 : m' = 1
      · subst h1
        obtain ⟨b, o, rfl, hb, hc0⟩ := hm0'.at_ (k := 0) (by omega)
        have hx := hc0 0 (by omega)
        rw [Nat.add_zero] at hx
        clear hc0
        have hY1 : Hid (Y = dig (lim Y) 0) := by
          have e := val_lim Y
          have e2 : val (lim Y) = vt (dig (lim Y)) 1 := (val_eq_vt (Nat.le_of_eq Hlen'.out)).symm
          rw [e] at e2
          have e3 : vt (dig (lim Y)) 1 = dig (lim Y) 0 := by simp [vt]
          exact e2.trans e3
        have hdl := Lib.hid (divLimb_f w0 A m c X (dig (lim Y) 0) hm0 (ok_lim Y 0) (fun e => hY0.out (hY1.out.trans e)))
        go_wp2_with fail
        refine hdl.out.mono ?_
        rw [← hY1.out]
        rintro e w2 ⟨q1, d, B', q2, d', rfl, hl1, hl2, hq1, hq2, hb2⟩
        clear hdl
        go_wp2
        go_ret3
        exact .inr ⟨hY0.out, _, q1, d, B', q2, d', rfl, hl1, hl2, by omega, by omega, hb0.trans (hb2.mono (by rw [HSZ.out]; exact Nat.le_refl _)), .inr ⟨_, _, rfl, by rw [HSZ.out]; exact Nat.le_refl _⟩⟩
      · exact absurd (show m' = 1 by omega) h1
theorem div1_yes (w : World) (A : Option Addr) (n c : Nat) (xs : List Nat) (A' : Option Addr) (c' : Nat) (ys : List Nat) (h : Lm w A n c xs) (h' : Lm w A' 1 c' ys) (hn : n ≤ 10000000000) (h0 : val ys ≠ 0) :
    Calls Tryd.prog 42 #[.slice A n c, .slice A' 1 c'] w fun e w' => ∃ B m d B' m' d', e = .returned (.tuple #[.slice B m d, .slice B' m' d', .bool true]) ∧ Lm w' B m d (lim (val xs / val ys)) ∧ Lm w' B' m' d' (lim (val xs % val ys)) ∧ m ≤ n ∧ m' ≤ max n 1 ∧ Below w.heap.size w w' ∧ Fr B w.heap.size :=
  (div1_any w A n c xs A' c' ys h h' hn).mono fun _ _ ht => ht.elim (fun h => absurd h.1 h0) fun h => h.2
theorem Lm.kept {w w' : World} {A : Option Addr} {n c : Nat} {xs : List Nat} (h : Lm w A n c xs) {row : Option Nat} (hg : w.grownBy w' row) {k : Nat} (hA : Fr A k) (hr : ∀ j, row = some j → j < k) : Lm w' A n c xs := by
  refine ⟨h.1, h.2.1, fun hp => ?_⟩
  obtain ⟨b, o, e, hlt, hc⟩ := h.2.2 hp
  rcases hA with h1 | ⟨g, o', h1, hk⟩
  · rw [h1] at e; cases e
  · rw [h1] at e; cases e
    refine ⟨b, o, h1, Nat.lt_of_lt_of_le hlt hg.size, fun j hj => ?_⟩
    rw [World.cell?_of_block (w := w) (hg.block b hlt (fun e => by have := hr b e.symm; omega))]
    exact hc j hj
end Go.Proofs.YtgmencbhkkcpiaaDoor
