import Derived.Test.YtnjjfakjnkhhjaaGreatDoorLb
import Derived.Test.YtnjjfakjnkhhjaaGreatDoorKn
set_option maxHeartbeats 4000000
set_option linter.all false
namespace Go.Proofs.YtnjjfakjnkhhjaaGreatDoor
open Go.RowKit
def LimbAt (X b k r : Nat) (L : List Nat) : Prop := Ok L ∧ r < b ∧ val (L.drop k) * b + r = val ((lim X).drop k) ∧ ∀ j, j < k → dig L j = 0
theorem limb_step {q b r X x q' r' B : Nat} (h : q * b + r = X) (h2 : q' * b + r' = r * B + x) : (q' + B * q) * b + r' = x + B * X := by
 have : B * (q * b + r) = B * X := by rw [h]
 grind
theorem drop_set {L : List Nat} {k v : Nat} : (L.set k v).drop (k + 1) = L.drop (k + 1) := by
 rw [List.drop_set, if_pos (by omega)]
theorem LimbAt.step {X b k r : Nat} {L : List Nat} (h : LimbAt X b (k + 1) r L) (hk : k < L.length) :
  LimbAt X b k ((r * Bs + dig (lim X) k) % b) (L.set k ((r * Bs + dig (lim X) k) / b)) := by
 obtain ⟨hO, hr, he, hz⟩ := h
 have hb0 : 0 < b := by omega
 have hx := ok_lim X k
 have hq : (r * Bs + dig (lim X) k) / b < Bs := by
  rw [Nat.div_lt_iff_lt_mul hb0]
  have : (r + 1) * Bs ≤ b * Bs := Nat.mul_le_mul hr (Nat.le_refl _)
  rw [Nat.add_mul, Nat.one_mul, Nat.mul_comm b] at this; omega
 refine ⟨hO.set hk hq, Nat.mod_lt _ hb0, ?_, fun j hj => ?_⟩
 ·rw [val_drop_succ, val_drop_succ (lim X) k, drop_set, dig_set hk, if_pos rfl]
  exact limb_step he (Nat.div_add_mod' _ _)
 ·rw [dig_set hk, if_neg (by omega)]; exact hz j (by omega)
theorem divLimb_fr (w : World) (A : Option Addr) (m c X : Nat) (b : Nat) (h : Lm w A m c (lim X)) (hb : b < Bs) (hb0 : b ≠ 0) :
  Calls Tryz.prog 244 #[.slice A m c, d32 b] w fun e w' => ∃ B q d B' q' d', e = .returned (.tuple #[.slice B q d, .slice B' q' d']) ∧ Lm w' B q d (lim (X / b)) ∧ Lm w' B' q' d' (lim (X % b)) ∧ q ≤ m ∧ q' ≤ 1 ∧ Below w.heap.size w w' ∧ Fr B w.heap.size ∧ Fr B' w.heap.size := by
 have hbig := h.big
 have Hlen : Hid (ln X = m) := h.len
 have hb0' := Lib.hid hb0
 clear hb0
 go_enter Tryz.func244, Tryz.ntmps244
 go_wp2_with
  (at_make
   refine wpList_make_u32 _ rfl _ _ rfl .i64 .i64 _ _ m rfl rfl ?_ ?_ ?_ ?_
   ·rfl
   ·rfl
   ·omega
   intro w1 hown hb1 hs1)
 go_loopw [7, 8] (fun rv ix wr => ∃ (t : Int) (k r : Nat) (L : List Nat), t + 1 = k ∧ k ≤ m ∧ ix = .int .i64 t ∧ rv = d32 r ∧ L.length = m ∧ Own wr w.heap.size L ∧ LimbAt X b k r L ∧ Below w.heap.size w wr) (fun _ ix _ => (intOf ix + 1).toNat)
 case atStart => exact ⟨(m : Int) - 1, m, 0, _, by omega, Nat.le_refl _, rfl, rfl, by simp, hown, ⟨Ok.zeros _, by have := hb0'.out; omega, by rw [List.drop_eq_nil_of_le (by simp), List.drop_eq_nil_of_le (Nat.le_of_eq Hlen.out)]; simp [val_nil], fun j _ => dig_zeros _ _⟩, hb1⟩
 case round =>
  obtain ⟨t, k, r, L, htk, hk, rfl, rfl, hL0, hO, hS, hB⟩ := hrel
  have hL := Lib.hid hL0
  clear hL0 hown hb1 hs1
  have hlm := h.bel hB
  have hrb := hS.2.1
  by_cases hlt : 0 ≤ t
  ·obtain ⟨j, rfl⟩ := Int.eq_ofNat_of_zero_le hlt
   obtain rfl : k = j + 1 := by omega
   clear htk hlt
   obtain ⟨b', o, rfl, hb'', hc0⟩ := hlm.at_ (k := j) (by omega)
   have hx := hc0 j (by omega)
   clear hc0
   have hc := hO.cell (i := j) (by rw [hL.out]; omega)
   have hf := hO.free j
   have hst := Lib.hid (hS.step (by rw [hL.out]; omega))
   go_wp2_with fail
   refine (div32_any _ r (dig (lim X) j) b hrb (ok_lim X j) hb).mono ?_
   rintro e w2 ⟨rfl, nq, rfl⟩
   go_wp2
   go_roundw
   case rel => exact ⟨(j : Int) - 1, j, _, _, by omega, by omega, rfl, rfl, by simpa using hL.out, (show Own (wr.drewN nq) w.heap.size L from hO).set_ _ _, hst.out, (below_drewN hB nq).setCell (Nat.le_refl _) _⟩
   case measure => simp [intOf]
  ·obtain rfl : k = 0 := by omega
   obtain rfl : t = -1 := by omega
   have hv := hS.2.2.1
   rw [List.drop_zero, List.drop_zero, val_lim] at hv
   have hq : val L = X / b := by
    rw [← hv, Nat.mul_comm, Nat.mul_add_div (by have := hb0'.out; omega), Nat.div_eq_of_lt hrb, Nat.add_zero]
   have hr : r = X % b := by rw [← hv, Nat.mul_comm, Nat.mul_add_mod, Nat.mod_eq_of_lt hrb]
   have HQ := Lib.hid hq
   have HR := Lib.hid hr
   clear hv hq hr htk
   have hl := hO.lm hS.1 (by rw [hL.out]; omega)
   rw [hL.out] at hl
   go_wp2_with fail
   refine (cut_lm _ _ _ _ _ hl).mono ?_
   rintro e w' ⟨q, rfl, hq, hqn, rfl⟩
   rw [HQ.out] at hq
   have ho1 : Own (wr.alloc (.cells #[d32 r] 124)) wr.heap.size [r] := Own.list wr [r]
   have hl1 := ho1.lm (Ok.of_mem (fun x hx => by simp at hx; omega)) (by simp)
   have hb2 : Below w.heap.size w (wr.alloc (.cells #[d32 r] 124)) := hB.alloc hB.size _
   have hq2 : Lm (wr.alloc (.cells #[d32 r] 124)) (some ⟨w.heap.size, 0, none⟩) q m (lim (X / b)) := hq.bel ((Below.refl _ _).alloc (Nat.le_refl _) _)
   have HO := Lib.hid (And.intro hb2 hq2)
   clear hb2 hq2 ho1
   go_wp2_with fail
   refine (cut_lm _ _ _ _ _ hl1).mono ?_
   rintro e w' ⟨q', rfl, hq', hqn', rfl⟩
   have hq'' : Lm (wr.alloc (.cells #[d32 r] 124)) (some ⟨wr.heap.size, 0, none⟩) q' 1 (lim (X % b)) := by rw [← HR.out]; rw [val_single] at hq'; exact hq'
   go_wp2
   go_ret2
   exact ⟨_, q, m, _, q', 1, rfl, HO.out.2, hq'', hqn, hqn', HO.out.1, .inr ⟨_, _, rfl, Nat.le_refl _⟩, .inr ⟨_, _, rfl, hB.size⟩⟩
def TakeT (L : List Nat) (i d : Nat) (ys : List Nat) (k cr bo : Nat) (L' : List Nat) : Prop :=
 L'.length = L.length ∧ Ok L' ∧ cr < Bs ∧ bo ≤ 1 ∧ (∀ j, j < i ∨ i + k ≤ j → dig L' j = dig L j) ∧
  vt (fun j => dig L' (i + j)) k + d * vt (dig ys) k = vt (fun j => dig L (i + j)) k + Bs ^ k * (cr + bo)
theorem take_step {B v' v P d y vy p p' lo hi c bo bo' : Nat} (h : v' + d * vy = v + P * (c + bo)) (h2 : c + d * y = lo + B * hi) (h3 : p' + lo + bo = p + B * bo') :
  v' + P * p' + d * (vy + P * y) = v + P * p + P * B * (hi + bo') := by
 have e2 : P * (c + d * y) = P * (lo + B * hi) := by rw [h2]
 have e3 : P * (p' + lo + bo) = P * (p + B * bo') := by rw [h3]
 grind
theorem sub_digit {x y d : Nat} (hx : x < Bs) (hy : y < Bs) (hd : d ≤ 1) : (x + Bs - y - d) % Bs + y + d = x + Bs * brw x y d := by
 unfold brw
 rw [Bs_eq] at *
 split <;> omega
theorem TakeT.step {L L' ys : List Nat} {i d k cr bo : Nat} (h : TakeT L i d ys k cr bo L') (hd : d < Bs) (hy : Ok ys) (hk : i + k < L.length) :
  TakeT L i d ys (k + 1) ((cr + d * dig ys k) / Bs) (brw (dig L' (i + k)) ((cr + d * dig ys k) % Bs) bo) (L'.set (i + k) ((dig L' (i + k) + Bs - (cr + d * dig ys k) % Bs - bo) % Bs)) := by
 obtain ⟨hl, hO, hc, hb, hj, he⟩ := h
 have hkl : i + k < L'.length := by omega
 have hP := mul_lt_big hd (hy k)
 refine ⟨by simpa using hl, hO.set hkl (Nat.mod_lt _ Bs_pos), ?_, brw_le _ _ _, fun j hjj => ?_, ?_⟩
 ·generalize d * dig ys k = P at *
  rw [Nat.div_lt_iff_lt_mul Bs_pos]
  rw [Bs_eq] at *; omega
 ·rw [dig_set hkl, if_neg (by omega)]; exact hj j (by omega)
 ·show vt (fun j => dig (L'.set (i + k) _) (i + j)) k + Bs ^ k * dig (L'.set (i + k) _) (i + k) + _ = _
  rw [vt_congr (e := fun j => dig L' (i + j)) k (fun j hj => by show dig (L'.set _ _) (i + j) = dig L' (i + j); rw [dig_set hkl, if_neg (by omega)]), dig_set hkl, if_pos rfl, Nat.pow_succ]
  have h3 := sub_digit (x := dig L' (i + k)) (y := (cr + d * dig ys k) % Bs) (d := bo) (hO _) (Nat.mod_lt _ Bs_pos) hb
  show _ + d * (vt (dig ys) k + Bs ^ k * dig ys k) = vt (fun j => dig L (i + j)) k + Bs ^ k * dig L (i + k) + _
  rw [← hj (i + k) (by omega)]
  exact take_step he (Nat.mod_add_div _ _).symm h3
def Taken (L : List Nat) (i d : Nat) (ys : List Nat) (n bo : Nat) (L' : List Nat) : Prop :=
 L'.length = L.length ∧ Ok L' ∧ bo ≤ 1 ∧ (∀ j, j < i ∨ i + n + 1 ≤ j → dig L' j = dig L j) ∧
  vt (fun j => dig L' (i + j)) (n + 1) + d * vt (dig ys) n = vt (fun j => dig L (i + j)) (n + 1) + Bs ^ (n + 1) * bo
theorem taken_step {B v' v P dv p p' c bo bo' : Nat} (h : v' + dv = v + P * (c + bo)) (h3 : p' + c + bo = p + B * bo') : v' + P * p' + dv = v + P * p + P * B * bo' := by
 have e3 : P * (p' + c + bo) = P * (p + B * bo') := by rw [h3]
 grind
theorem TakeT.last {L L' ys : List Nat} {i d n cr bo : Nat} (h : TakeT L i d ys n cr bo L') (hk : i + n < L.length) :
  Taken L i d ys n (brw (dig L' (i + n)) cr bo) (L'.set (i + n) ((dig L' (i + n) + Bs - cr - bo) % Bs)) := by
 obtain ⟨hl, hO, hc, hb, hj, he⟩ := h
 have hkl : i + n < L'.length := by omega
 refine ⟨by simpa using hl, hO.set hkl (Nat.mod_lt _ Bs_pos), brw_le _ _ _, fun j hjj => ?_, ?_⟩
 ·rw [dig_set hkl, if_neg (by omega)]; exact hj j (by omega)
 ·show vt (fun j => dig (L'.set (i + n) _) (i + j)) n + Bs ^ n * dig (L'.set (i + n) _) (i + n) + _ = vt _ n + Bs ^ n * dig L (i + n) + _
  rw [vt_congr (e := fun j => dig L' (i + j)) n (fun j hj => by show dig (L'.set _ _) (i + j) = dig L' (i + j); rw [dig_set hkl, if_neg (by omega)]), dig_set hkl, if_pos rfl, Nat.pow_succ]
  have h3 := sub_digit (x := dig L' (i + n)) (y := cr) (d := bo) (hO _) hc hb
  rw [← hj (i + n) (by omega)]
  exact taken_step he h3
theorem takeTimes_any (w : World) (g i n cp : Nat) (L : List Nat) (A : Option Addr) (c : Nat) (ys : List Nat) (d : Nat) (hO : Own w g L) (hL : Ok L) (hi : i + n + 1 ≤ L.length) (hcp : n + 1 ≤ cp) (h : Lm w A n c ys)
  (hA : 0 < n → ∀ b o, A = some ⟨b, o, none⟩ → b ≠ g) (hd : d < Bs) :
  Calls Tryz.prog 250 #[.slice (some ⟨g, i, none⟩) (n + 1) cp, .slice A n c, d32 d] w fun e w' => ∃ bo L', e = .returned (.bool (bo != 0)) ∧ Taken L i d ys n bo L' ∧ Own w' g L' ∧ Oth g w w' := by
 have hn := h.big
 have Hy := h.ok
 have hd' : d < 4294967296 := hd
 have HI := Lib.hid hi
 clear hi
 go_enter Tryz.func250, Tryz.ntmps250
 go_wp2
 go_loopw [7, 8, 14] (fun cv bv ix wr => ∃ (k cr bo : Nat) (L' : List Nat), k ≤ n ∧ ix = .int .i64 k ∧ cv = .int .u64 cr ∧ bv = d32 bo ∧ TakeT L i d ys k cr bo L' ∧ Own wr g L' ∧ Oth g w wr) (fun _ _ ix _ => n - (intOf ix).toNat)
 case atStart => exact ⟨0, 0, 0, L, Nat.zero_le _, rfl, rfl, rfl, ⟨rfl, hL, by rw [Bs_eq]; omega, by omega, fun j _ => rfl, rfl⟩, hO, Oth.refl _ _⟩
 case round =>
  obtain ⟨k, cr, bo, L', hk, rfl, rfl, rfl, hT, hO', hB⟩ := hrel
  have hcr : cr < 4294967296 := hT.2.2.1
  have hbo : bo ≤ 1 := hT.2.2.2.1
  by_cases hlt : k < n
  ·obtain ⟨b, o, rfl, hb, hc0⟩ := h.at_ hlt
   have hbg := hA (by omega) b o rfl
   have hy0 : wr.cell? ⟨b, o + k, none⟩ = some (d32 (dig ys k)) := (hB.cell (p := ⟨b, o + k, none⟩) hbg).trans (hc0 k hlt)
   clear hc0 hA hbg
   have hc := hO'.cell (i := i + k) (by rw [hT.1]; have := HI.out; omega)
   have hf := hO'.free (i + k)
   have hPb := mul_lt_big hd (Hy k)
   have hP : (d : Int) * (dig ys k : Int) = ((d * dig ys k : Nat) : Int) := rfl
   have hst := hT.step hd Hy (by have := HI.out; omega)
   have hdk := hT.2.1 (i + k)
   obtain ⟨P, hPe⟩ : ∃ P, P = d * dig ys k := ⟨_, rfl⟩
   rw [← hPe] at hP hPb hst
   have hyk : dig ys k < 4294967296 := Hy k
   have HST := Lib.hid hst
   have hTc := Lib.hid hT
   clear hPe hst hT
   obtain ⟨lo, hlo, e1⟩ : ∃ lo, (cr + P) % Bs = lo ∧ ((cr : Int) + (P : Int)) % 4294967296 = (lo : Int) := ⟨_, rfl, by rw [Bs_eq]; omega⟩
   obtain ⟨hi', hhi, e2⟩ : ∃ hi', (cr + P) / Bs = hi' ∧ ((cr : Int) + (P : Int)) / 4294967296 = (hi' : Int) := ⟨_, rfl, by rw [Bs_eq]; omega⟩
   have hlo2 : lo < Bs := by rw [← hlo]; exact Nat.mod_lt _ Bs_pos
   rw [hlo, hhi] at HST
   clear hlo hhi
   go_wp2_with fail
   refine (sub32_any _ _ _ _ hdk hlo2 hbo).mono ?_
   rintro e w' ⟨rfl, rfl⟩
   go_wp2
   go_roundw
   case rel =>
    refine ⟨k + 1, hi', _, _, by omega, by go_num, rfl, rfl, HST.out, hO'.set_ _ _, hB.setCell _ _⟩
   case measure => simp [intOf]; omega
  ·obtain rfl : k = n := by omega
   have hc := hO'.cell (i := i + k) (by rw [hT.1]; have := HI.out; omega)
   have hf := hO'.free (i + k)
   have hst := Lib.hid (hT.last (by have := HI.out; omega))
   have hdk := hT.2.1 (i + k)
   have hcr2 := hT.2.2.1
   clear hT
   have e1 : (cr : Int) % 4294967296 = (cr : Int) := by omega
   go_wp2_with fail
   refine (sub32_any _ _ _ _ hdk hcr2 hbo).mono ?_
   rintro e w' ⟨rfl, rfl⟩
   clear e1
   generalize hbw : brw (dig L' (i + k)) cr bo = bw at *
   have HBW := Lib.hid hbw
   clear hbw
   go_wp2
   go_ret
   refine ⟨bw, _, ret_bool (by rw [Bool.eq_iff_iff, bne_iff_ne, bne_iff_ne]; omega), hst.out, hO'.set_ _ _, hB.setCell _ _⟩
def BackT (L : List Nat) (i : Nat) (ys : List Nat) (k cr : Nat) (L' : List Nat) : Prop :=
 L'.length = L.length ∧ Ok L' ∧ cr ≤ 1 ∧ (∀ j, j < i ∨ i + k ≤ j → dig L' j = dig L j) ∧
  vt (fun j => dig L' (i + j)) k + Bs ^ k * cr = vt (fun j => dig L (i + j)) k + vt (dig ys) k
theorem BackT.step {L L' ys : List Nat} {i k cr : Nat} (h : BackT L i ys k cr L') (hy : Ok ys) (hk : i + k < L.length) :
  BackT L i ys (k + 1) ((dig L' (i + k) + dig ys k + cr) / Bs) (L'.set (i + k) ((dig L' (i + k) + dig ys k + cr) % Bs)) := by
 obtain ⟨hl, hO, hc, hj, he⟩ := h
 have hkl : i + k < L'.length := by omega
 have h1 := hO (i + k)
 have h2 := hy k
 refine ⟨by simpa using hl, hO.set hkl (Nat.mod_lt _ Bs_pos), ?_, fun j hjj => ?_, ?_⟩
 ·rw [Bs_eq] at *; omega
 ·rw [dig_set hkl, if_neg (by omega)]; exact hj j (by omega)
 ·show vt (fun j => dig (L'.set (i + k) _) (i + j)) k + Bs ^ k * dig (L'.set (i + k) _) (i + k) + _ = vt _ k + Bs ^ k * dig L (i + k) + (vt (dig ys) k + Bs ^ k * dig ys k)
  rw [vt_congr (e := fun j => dig L' (i + j)) k (fun j hj => by show dig (L'.set _ _) (i + j) = dig L' (i + j); rw [dig_set hkl, if_neg (by omega)]), dig_set hkl, if_pos rfl, Nat.pow_succ, ← hj (i + k) (by omega)]
  exact sum_step he (Nat.mod_add_div _ _)
def Backed (L : List Nat) (i : Nat) (ys : List Nat) (n : Nat) (L' : List Nat) : Prop :=
 L'.length = L.length ∧ Ok L' ∧ (∀ j, j < i ∨ i + n + 1 ≤ j → dig L' j = dig L j) ∧
  vt (fun j => dig L' (i + j)) (n + 1) = (vt (fun j => dig L (i + j)) (n + 1) + vt (dig ys) n) % Bs ^ (n + 1)
theorem back_last {v' v P p c y q r B : Nat} (h : v' + P * c = v + y) (h2 : p + c = r + B * q) : v + P * p + y = (v' + P * r) + P * B * q := by
 have e : P * (p + c) = P * (r + B * q) := by rw [h2]
 grind
theorem BackT.last {L L' ys : List Nat} {i n cr : Nat} (h : BackT L i ys n cr L') (hk : i + n < L.length) :
  Backed L i ys n (L'.set (i + n) ((dig L' (i + n) + cr) % Bs)) := by
 obtain ⟨hl, hO, hc, hj, he⟩ := h
 have hkl : i + n < L'.length := by omega
 have hO2 : Ok (L'.set (i + n) ((dig L' (i + n) + cr) % Bs)) := hO.set hkl (Nat.mod_lt _ Bs_pos)
 refine ⟨by simpa using hl, hO2, fun j hjj => ?_, ?_⟩
 ·rw [dig_set hkl, if_neg (by omega)]; exact hj j (by omega)
 ·have hlt : vt (fun j => dig (L'.set (i + n) ((dig L' (i + n) + cr) % Bs)) (i + j)) (n + 1) < Bs ^ (n + 1) := vt_lt _ fun j _ => hO2 _
  have e : vt (fun j => dig L (i + j)) (n + 1) + vt (dig ys) n = vt (fun j => dig (L'.set (i + n) ((dig L' (i + n) + cr) % Bs)) (i + j)) (n + 1) + Bs ^ (n + 1) * ((dig L' (i + n) + cr) / Bs) := by
   show vt _ n + Bs ^ n * dig L (i + n) + _ = vt (fun j => dig (L'.set (i + n) _) (i + j)) n + Bs ^ n * dig (L'.set (i + n) _) (i + n) + _
   rw [vt_congr (d := fun j => dig (L'.set (i + n) ((dig L' (i + n) + cr) % Bs)) (i + j)) (e := fun j => dig L' (i + j)) n (fun j hj => by show dig (L'.set _ _) (i + j) = dig L' (i + j); rw [dig_set hkl, if_neg (by omega)]), dig_set hkl, if_pos rfl, Nat.pow_succ, ← hj (i + n) (by omega)]
   exact back_last he (Nat.mod_add_div _ _).symm
  rw [e, Nat.add_mul_mod_self_left, Nat.mod_eq_of_lt hlt]
theorem putBack_any (w : World) (g i n cp : Nat) (L : List Nat) (A : Option Addr) (c : Nat) (ys : List Nat) (hO : Own w g L) (hL : Ok L) (hi : i + n + 1 ≤ L.length) (hcp : n + 1 ≤ cp) (h : Lm w A n c ys)
  (hA : 0 < n → ∀ b o, A = some ⟨b, o, none⟩ → b ≠ g) :
  Calls Tryz.prog 251 #[.slice (some ⟨g, i, none⟩) (n + 1) cp, .slice A n c] w fun e w' => ∃ L', e = .returned (.tuple #[]) ∧ Backed L i ys n L' ∧ Own w' g L' ∧ Oth g w w' := by
 have hn := h.big
 have Hy := h.ok
 have HI := Lib.hid hi
 clear hi
 go_enter Tryz.func251, Tryz.ntmps251
 go_wp2
 go_loopw [4, 9] (fun cv ix wr => ∃ (k cr : Nat) (L' : List Nat), k ≤ n ∧ ix = .int .i64 k ∧ cv = d32 cr ∧ BackT L i ys k cr L' ∧ Own wr g L' ∧ Oth g w wr) (fun _ ix _ => n - (intOf ix).toNat)
 case atStart => exact ⟨0, 0, L, Nat.zero_le _, rfl, rfl, ⟨rfl, hL, by omega, fun j _ => rfl, rfl⟩, hO, Oth.refl _ _⟩
 case round =>
  obtain ⟨k, cr, L', hk, rfl, rfl, hT, hO', hB⟩ := hrel
  have hcr : cr < Bs := by have := hT.2.2.1; rw [Bs_eq]; omega
  have hdk := hT.2.1 (i + k)
  have hc := hO'.cell (i := i + k) (by rw [hT.1]; have := HI.out; omega)
  have hf := hO'.free (i + k)
  by_cases hlt : k < n
  ·obtain ⟨b, o, rfl, hb, hc0⟩ := h.at_ hlt
   have hbg := hA (by omega) b o rfl
   have hy0 : wr.cell? ⟨b, o + k, none⟩ = some (d32 (dig ys k)) := (hB.cell (p := ⟨b, o + k, none⟩) hbg).trans (hc0 k hlt)
   clear hc0 hA hbg
   have hst := Lib.hid (hT.step Hy (by have := HI.out; omega))
   clear hT
   go_wp2_with fail
   refine (add32_any _ _ _ _ hdk (Hy k) hcr).mono ?_
   rintro e w' ⟨rfl, rfl⟩
   go_wp2
   go_roundw
   case rel =>
    refine ⟨k + 1, _, _, by omega, by go_num, rfl, hst.out, hO'.set_ _ _, hB.setCell _ _⟩
   case measure => simp [intOf]; omega
  ·obtain rfl : k = n := by omega
   have hst := Lib.hid (hT.last (by have := HI.out; omega))
   clear hT
   go_wp2
   go_end0
   have e1 : ((dig L' (i + k) : Int) + (cr : Int)) % 4294967296 = (((dig L' (i + k) + cr) % Bs : Nat) : Int) := by rw [Bs_eq]; omega
   rw [e1]
   refine ⟨_, rfl, hst.out, hO'.set_ _ _, hB.setCell _ _⟩
end Go.Proofs.YtnjjfakjnkhhjaaGreatDoor
namespace Go.Proofs.YtnjjfakjnkhhjaaGreatDoor
structure DivInv (A0 V n j : Nat) (left quo : List Nat) : Prop where
 okl : Ok left
 okq : Ok quo
 zero : ∀ i, i < j → dig quo i = 0
 sum : val left + Bs ^ j * val (quo.drop j) * V = A0
 rest : val (left.drop j) < V
 small : V < Bs ^ n
def part (left : List Nat) (i n : Nat) : Nat := vt (fun t => dig left (i + t)) (n + 1)
theorem dig_zero_of_lt {xs : List Nat} (h : Ok xs) {j n : Nat} (hv : val (xs.drop j) < Bs ^ n) {t : Nat} (ht : j + n ≤ t) : dig xs t = 0 := by
 obtain ⟨s, rfl⟩ : ∃ s, t = j + s := ⟨t - j, by omega⟩
 rw [← dig_drop, dig_val (h.drop j), Nat.div_eq_of_lt, Nat.zero_mod]
 exact Nat.lt_of_lt_of_le hv (Nat.pow_le_pow_right Bs_pos (by omega))
theorem part_eq {left : List Nat} {i n : Nat} (hz : ∀ t, i + n + 1 ≤ t → dig left t = 0) : part left i n = val (left.drop i) := by
 unfold part
 rw [vt_congr (e := dig (left.drop i)) (n + 1) (fun t _ => (dig_drop left i t).symm)]
 have h := val_split (left.drop i) (n + 1)
 have h0 : val ((left.drop i).drop (n + 1)) = 0 := vt_zero _ fun t _ => by
  rw [dig_drop, dig_drop]; exact hz _ (by omega)
 rw [h0] at h; omega
variable {A0 V n i : Nat} {left quo : List Nat}
theorem DivInv.zeros (h : DivInv A0 V n (i + 1) left quo) : ∀ t, i + n + 1 ≤ t → dig left t = 0 := fun t ht =>
 dig_zero_of_lt h.okl (Nat.lt_trans h.rest h.small) (by omega)
theorem DivInv.part_val (h : DivInv A0 V n (i + 1) left quo) : part left i n = val (left.drop i) := part_eq h.zeros
theorem DivInv.part_lt (h : DivInv A0 V n (i + 1) left quo) : part left i n < Bs * V := by
 rw [h.part_val, val_drop_succ]
 have h1 := h.okl i
 have h2 : Bs * (val (left.drop (i + 1)) + 1) ≤ Bs * V := Nat.mul_le_mul (Nat.le_refl _) h.rest
 rw [Nat.mul_add, Nat.mul_one] at h2; omega
theorem vt_top3 (d : Nat → Nat) (m : Nat) : vt d (m + 3) = ((d (m + 2) * Bs + d (m + 1)) * Bs + d m) * Bs ^ m + vt d m := by
 show vt d m + Bs ^ m * d m + Bs ^ (m + 1) * d (m + 1) + Bs ^ (m + 2) * d (m + 2) = _
 rw [show Bs ^ (m + 2) = Bs ^ m * Bs * Bs from by rw [Nat.pow_succ, Nat.pow_succ], Nat.pow_succ]
 generalize Bs ^ m = E
 generalize Bs = B
 grind
theorem vt_top2 (d : Nat → Nat) (m : Nat) : vt d (m + 2) = (d (m + 1) * Bs + d m) * Bs ^ m + vt d m := by
 show vt d m + Bs ^ m * d m + Bs ^ (m + 1) * d (m + 1) = _
 rw [Nat.pow_succ]
 generalize Bs ^ m = E
 generalize Bs = B
 grind
theorem DivInv.kn {m : Nat} (h : DivInv A0 V (m + 2) (i + 1) left quo) {ys : List Nat} (hy : Ok ys) (hl : ys.length = m + 2) (hV : val ys = V) (ht : Bs ≤ 2 * dig ys (m + 1)) :
  Kn Bs (Bs ^ m) (dig ys (m + 1)) (dig ys m) (vt (dig ys) m) (dig left (i + (m + 2))) (dig left (i + (m + 1))) (dig left (i + m)) (vt (fun t => dig left (i + t)) m) V (part left i (m + 2)) where
 hV := by rw [← hV, ← vt_top2, val_eq_vt (Nat.le_of_eq hl)]
 hP := vt_top3 (fun t => dig left (i + t)) m
 rv := vt_lt _ fun t _ => hy t
 rp := vt_lt _ fun t _ => h.okl _
 v2 := hy _
 p1 := h.okl _
 p2 := h.okl _
 v1 := ht
 lt := h.part_lt
theorem DivInv.kn_at {m n1 n : Nat} (e1 : m + 1 = n1) (e2 : m + 2 = n) (h : DivInv A0 V n (i + 1) left quo) {ys : List Nat} (hy : Ok ys) (hl : ys.length = n) (hV : val ys = V) (ht : Bs ≤ 2 * dig ys (n - 1)) :
  Kn Bs (Bs ^ m) (dig ys n1) (dig ys m) (vt (dig ys) m) (dig left (i + n)) (dig left (i + n1)) (dig left (i + m)) (vt (fun t => dig left (i + t)) m) V (part left i n) := by
 subst e1 e2
 exact h.kn hy hl hV ht
theorem DivInv.next (h : DivInv A0 V n (i + 1) left quo) {left' : List Nat} (hi : i < quo.length) (hO : Ok left') (hj : ∀ t, t < i ∨ i + n + 1 ≤ t → dig left' t = dig left t)
  (hp : part left' i n = part left i n % V) : DivInv A0 V n i left' (quo.set i (part left i n / V)) := by
 have hV0 : 0 < V := by have := h.rest; omega
 have hz : ∀ t, i + n + 1 ≤ t → dig left' t = 0 := fun t ht => by rw [hj t (.inr ht)]; exact h.zeros t ht
 have hp1 := h.part_val
 have hp2 := part_eq hz
 have hq : part left i n / V < Bs := Nat.div_lt_of_lt_mul (by rw [Nat.mul_comm]; exact h.part_lt)
 refine ⟨hO, h.okq.set hi hq, fun t ht => ?_, ?_, ?_, h.small⟩
 ·rw [dig_set hi, if_neg (by omega)]; exact h.zero t (by omega)
 ·have e1 := val_split left i
  have e2 := val_split left' i
  rw [vt_congr (e := dig left) i (fun t ht => hj t (.inl ht)), ← hp2, hp] at e2
  rw [← hp1] at e1
  have e3 : val ((quo.set i (part left i n / V)).drop i) = part left i n / V + Bs * val (quo.drop (i + 1)) := by
   rw [val_drop_succ, dig_set hi, if_pos rfl, drop_set]
  rw [e3, ← h.sum, e1, e2, Nat.pow_succ]
  have e4 := Nat.div_add_mod' (part left i n) V
  generalize part left i n / V = q at *
  generalize part left i n % V = r at *
  rw [← e4]
  generalize Bs ^ i = E
  generalize Bs = B
  generalize val (List.drop (i + 1) quo) = u
  grind
 ·rw [← hp2, hp]; exact Nat.mod_lt _ hV0
theorem taken_zero' {q V r T d P : Nat} (hP : q * V + r = P) (hr : r < V) (h : T + d * V = P) (hg : q ≤ d) : d = q ∧ T = r := by
 rcases Nat.lt_or_ge q d with hq | hq
 ·have : (q + 1) * V ≤ d * V := Nat.mul_le_mul hq (Nat.le_refl _)
  rw [Nat.add_mul, Nat.one_mul] at this; omega
 ·obtain rfl : d = q := by omega
  exact ⟨rfl, by omega⟩
theorem taken_one' {q V r T d P N : Nat} (hP : q * V + r = P) (h : T + d * V = P + N) (hT : T < N) (hg : d ≤ q + 1) (hd : q ≤ d) : d = q + 1 ∧ T + V = r + N := by
 rcases Nat.lt_or_ge q d with hq | hq
 ·obtain rfl : d = q + 1 := by omega
  rw [Nat.add_mul, Nat.one_mul] at h
  exact ⟨rfl, by omega⟩
 ·obtain rfl : d = q := by omega
  omega
theorem taken_zero {P V T d N : Nat} (hV : 0 < V) (h : T + d * V = P + N * 0) (hg : P / V ≤ d) : d = P / V ∧ T = P % V := by
 rw [Nat.mul_zero, Nat.add_zero] at h
 exact taken_zero' (Nat.div_add_mod' P V) (Nat.mod_lt _ hV) h hg
theorem taken_one {P V T d N : Nat} (hV : 0 < V) (hVN : V ≤ N) (h : T + d * V = P + N * 1) (hT : T < N) (hg : d ≤ P / V + 1) (hd : P / V ≤ d) : d = P / V + 1 ∧ (T + V) % N = P % V := by
 rw [Nat.mul_one] at h
 obtain ⟨h1, h2⟩ := taken_one' (Nat.div_add_mod' P V) h hT hg hd
 refine ⟨h1, ?_⟩
 rw [h2, Nat.add_mod_right, Nat.mod_eq_of_lt (Nat.lt_of_lt_of_le (Nat.mod_lt _ hV) hVN)]
theorem DivInv.fin {a b S : Nat} (h : DivInv (a * S) (b * S) n 0 left quo) : val quo = a / b ∧ val left / S = a % b ∧ val left < b * S := by
 have hs := h.sum
 have hr := h.rest
 rw [List.drop_zero] at hs hr
 rw [Nat.pow_zero, Nat.one_mul] at hs
 have hV : 0 < b * S := by omega
 have hb : 0 < b := Nat.pos_of_mul_pos_right hV
 have hS : 0 < S := Nat.pos_of_mul_pos_left hV
 have h1 : val quo = a * S / (b * S) := by
  rw [← hs, Nat.mul_comm (val quo), Nat.add_mul_div_left _ _ hV, Nat.div_eq_of_lt hr, Nat.zero_add]
 have h2 : val left = a * S % (b * S) := by
  rw [← hs, Nat.mul_comm (val quo), Nat.add_mul_mod_self_left, Nat.mod_eq_of_lt hr]
 rw [Nat.mul_div_mul_right _ _ hS] at h1
 rw [Nat.mul_mod_mul_right] at h2
 refine ⟨h1, ?_, hr⟩
 rw [h2, Nat.mul_div_cancel _ hS]
theorem DivInv.start {a b S la : Nat} (ha : a < Bs ^ la) (hln : n ≤ la) (hS : 2 * S ≤ Bs) (hV1 : Bs ^ n ≤ 2 * (b * S)) (hV2 : b * S < Bs ^ n) (hl : Ok left) (hv : val left = a * S) (qn : Nat) :
  DivInv (a * S) (b * S) n (la - n + 1) left (List.replicate qn 0) where
 okl := hl
 okq := Ok.zeros _
 zero := fun i _ => dig_zeros _ _
 sum := by
  have : val ((List.replicate qn 0).drop (la - n + 1)) = 0 := vt_zero _ fun t _ => by rw [dig_drop, dig_zeros]
  rw [this, Nat.mul_zero, Nat.zero_mul, hv]; rfl
 rest := by
  rw [val_drop hl, hv, Nat.div_lt_iff_lt_mul (Nat.pow_pos Bs_pos)]
  have h1 : a * S < Bs ^ la * S := by
   apply Nat.mul_lt_mul_of_pos_right ha
   apply Nat.pos_of_ne_zero
   rintro rfl
   rw [Nat.mul_zero] at hV1
   have : 0 < Bs ^ n := Nat.pow_pos Bs_pos
   omega
  have h2 : Bs ^ la * S * 2 ≤ Bs ^ la * Bs := by
   rw [Nat.mul_assoc]; exact Nat.mul_le_mul (Nat.le_refl _) (by omega)
  have h3 : Bs ^ n * Bs ^ (la - n + 1) ≤ 2 * (b * S) * Bs ^ (la - n + 1) := Nat.mul_le_mul hV1 (Nat.le_refl _)
  rw [← Nat.pow_add, show n + (la - n + 1) = la + 1 from by omega, Nat.pow_succ, Nat.mul_assoc] at h3
  generalize Bs ^ la * S = x at *
  generalize b * S * Bs ^ (la - n + 1) = y at *
  omega
 small := hV2
theorem DivInv.right {m' : Nat} {d : Nat} {ys L' : List Nat} (h : DivInv A0 V n (i + 1) left quo) (hV : val ys = V) (hl : ys.length = n) (hT : Taken left i d ys n 0 L') (hg : part left i n / V ≤ d) (hi : i < m') (hq : quo.length = m') :
  DivInv A0 V n i L' (quo.set i d) ∧ L'.length = left.length := by
 obtain ⟨h1, h2, h3, h4, h5⟩ := hT
 rw [val_eq_vt (Nat.le_of_eq hl), hV] at h5
 obtain ⟨h6, h7⟩ := taken_zero (Nat.lt_of_le_of_lt (Nat.zero_le _) h.rest) h5 hg
 have := h.next (left' := L') (by omega) h2 h4 h7
 refine ⟨?_, h1⟩
 have e : d = part left i n / V := h6
 rw [e]; exact this
theorem DivInv.wrong {m' : Nat} {d : Nat} {ys L' L'' : List Nat} (h : DivInv A0 V n (i + 1) left quo) (hV : val ys = V) (hl : ys.length = n) (hT : Taken left i d ys n 1 L') (hB : Backed L' i ys n L'') (hg : part left i n / V ≤ d) (hg2 : d ≤ part left i n / V + 1) (hi : i < m') (hq : quo.length = m') :
  DivInv A0 V n i L'' (quo.set i (d - 1)) ∧ L''.length = left.length ∧ 1 ≤ d := by
 obtain ⟨h1, h2, h3, h4, h5⟩ := hT
 obtain ⟨b1, b2, b3, b4⟩ := hB
 rw [val_eq_vt (Nat.le_of_eq hl), hV] at h5 b4
 have hN : V ≤ Bs ^ (n + 1) := Nat.le_trans (Nat.le_of_lt h.small) (Nat.pow_le_pow_right Bs_pos (Nat.le_succ n))
 obtain ⟨h6, h7⟩ := taken_one (Nat.lt_of_le_of_lt (Nat.zero_le _) h.rest) hN h5 (vt_lt _ fun t _ => h2 _) hg2 hg
 rw [h7] at b4
 have := h.next (left' := L'') (by omega) b2 (fun t ht => (b3 t ht).trans (h4 t ht)) b4
 refine ⟨?_, b1.trans h1, ?_⟩
 ·have e : d - 1 = part left i n / V := by rw [h6, Nat.add_sub_cancel]; rfl
  rw [e]; exact this
 ·rw [h6]; exact Nat.le_add_left _ _
end Go.Proofs.YtnjjfakjnkhhjaaGreatDoor
namespace Go.Proofs.YtnjjfakjnkhhjaaGreatDoor
open Go.RowKit
def UpOk (w w' : World) (m X n : Nat) (L : List Nat) : Prop := Own w' w.heap.size L ∧ L.length = m + 1 ∧ Ok L ∧ val L = X * 2 ^ n ∧ Below w.heap.size w w'
theorem up_ok (w : World) (A : Option Addr) (m c : Nat) (xs : List Nat) (n : Nat) (h : Lm w A m c xs) (hm : m ≤ 100000000000) (hn : n < 32) :
  Calls Tryz.prog 242 #[.slice A m c, .int .i64 n] w fun e w' => ∃ L, e = .returned (.slice (some ⟨w.heap.size, 0, none⟩) (m + 1) (m + 1)) ∧ UpOk w w' m (val xs) n L :=
 (up_any w A m c xs n h hm (by omega)).mono fun e w' ⟨L, he, h1, h2, h3, h4, h5⟩ => by
  have e0 : n / 32 = 0 := by omega
  rw [e0] at he h2
  exact ⟨L, he, h1, h2, h3, h4, h5⟩
theorem sh_facts {Y n n1 sh : Nat} (h1 : nb Y = 32 * n1 + nb (dig (lim Y) n1)) (h2 : sh = 32 - nb (dig (lim Y) n1)) (h3 : nb (dig (lim Y) n1) ≤ 32) (h4 : nb (dig (lim Y) n1) ≠ 0) (h5 : n1 + 1 = n) (_h6 : ln Y = n) (h7 : dig (lim Y) n1 ≠ 0) :
  2 * 2 ^ sh ≤ Bs ∧ Bs ^ n ≤ 2 * (Y * 2 ^ sh) ∧ Y * 2 ^ sh < Bs ^ n := by
 have hY : Y ≠ 0 := by rintro rfl; rw [lim_zero, dig_nil] at h7; exact h7 rfl
 have e : nb Y + sh = 32 * n := by omega
 refine ⟨?_, ?_, ?_⟩
 ·rw [Bs_pow, ← Nat.pow_succ']
  exact Nat.pow_le_pow_right (by omega) (by omega)
 ·have := pow_nb_le hY
  have h8 : 2 ^ (nb Y - 1) * 2 ^ sh ≤ Y * 2 ^ sh := Nat.mul_le_mul this (Nat.le_refl _)
  rw [← Nat.pow_add] at h8
  rw [Bs_pow_eq, ← e, show nb Y + sh = (nb Y - 1 + sh) + 1 from by omega, Nat.pow_succ']
  exact Nat.mul_le_mul (Nat.le_refl _) h8
 ·rw [Bs_pow_eq, ← e, Nat.pow_add]
  exact Nat.mul_lt_mul_of_pos_right (lt_pow_nb Y) (Nat.two_pow_pos _)
theorem top_half {ys : List Nat} {n : Nat} (h : Bs ^ n ≤ 2 * val ys) (hy : Ok ys) (hl : ys.length = n) (hn : 0 < n) : Bs ≤ 2 * dig ys (n - 1) := by
 obtain ⟨k, rfl⟩ : ∃ k, n = k + 1 := ⟨n - 1, by omega⟩
 rw [Nat.add_sub_cancel]
 have e : val ys = vt (dig ys) k + Bs ^ k * dig ys k := by unfold val; rw [hl]; rfl
 have h1 : vt (dig ys) k < Bs ^ k := vt_lt _ fun i _ => hy i
 apply Nat.le_of_not_lt
 intro c
 have h2 : Bs ^ k * (2 * dig ys k + 2) ≤ Bs ^ k * (Bs + 1) := Nat.mul_le_mul (Nat.le_refl _) (by rw [Bs_eq] at *; omega)
 have h3 : Bs ^ k * (2 * dig ys k + 2) ≤ Bs ^ k * Bs := Nat.mul_le_mul (Nat.le_refl _) (by rw [Bs_eq] at *; omega)
 rw [Nat.pow_succ, e] at h
 rw [Nat.mul_add, Nat.mul_left_comm] at h3
 omega
theorem Own.far_ {w : World} {g g' : Nat} {L : List Nat} (h : Own w g L) (hg : g ≠ g') (i : Nat) (u : Value) : Own (w.setCell ⟨g', i, none⟩ u) g L := h.far (p := ⟨g', i, none⟩) hg u
theorem Lm.far_ {w : World} {g g' : Nat} {n c : Nat} {xs : List Nat} (h : Lm w (some ⟨g, 0, none⟩) n c xs) (hg : g ≠ g') (i : Nat) (u : Value) : Lm (w.setCell ⟨g', i, none⟩ u) (some ⟨g, 0, none⟩) n c xs :=
 h.far (p := ⟨g', i, none⟩) (fun b o e _ => by injection e with e; injection e with e1; rw [← e1]; exact hg) u
theorem below_set {B : Nat} {a w : World} (h : Below B a w) {g' : Nat} (hg : B ≤ g') (i : Nat) (u : Value) : Below B a (w.setCell ⟨g', i, none⟩ u) := h.setCell (p := ⟨g', i, none⟩) hg u
theorem one_le_of_taken {A0 V n i d : Nat} {left quo ys L' : List Nat} (h : DivInv A0 V n (i + 1) left quo) (hV : val ys = V) (hl : ys.length = n) (hT : Taken left i d ys n 1 L') (hg : part left i n / V ≤ d) (hg2 : d ≤ part left i n / V + 1) : 1 ≤ d := by
 obtain ⟨h1, h2, h3, h4, h5⟩ := hT
 rw [val_eq_vt (Nat.le_of_eq hl), hV] at h5
 have hN : V ≤ Bs ^ (n + 1) := Nat.le_trans (Nat.le_of_lt h.small) (Nat.pow_le_pow_right Bs_pos (Nat.le_succ n))
 have h6 := (taken_one (Nat.lt_of_le_of_lt (Nat.zero_le _) h.rest) hN h5 (vt_lt _ fun t _ => h2 _) hg2 hg).1
 rw [h6]; exact Nat.le_add_left _ _
theorem divLong_fr (w : World) (A : Option Addr) (m c X : Nat) (A' : Option Addr) (n c' Y : Nat) (h : Lm w A m c (lim X)) (h' : Lm w A' n c' (lim Y)) (hm : m ≤ 10000000000) (hn : 2 ≤ n) (hYX : Y ≤ X) :
  Calls Tryz.prog 245 #[.slice A m c, .slice A' n c'] w fun e w' => ∃ B q d B' q' d', e = .returned (.tuple #[.slice B q d, .slice B' q' d']) ∧ Lm w' B q d (lim (X / Y)) ∧ Lm w' B' q' d' (lim (X % Y)) ∧ q ≤ m ∧ q' ≤ n ∧ Below w.heap.size w w' ∧ Fr B w.heap.size ∧ Fr B' w.heap.size := by
 have hlX : ln X = m := h.len
 have hlY : ln Y = n := h'.len
 have hnm : n ≤ m := by rw [← hlX, ← hlY]; exact ln_mono hYX
 obtain ⟨n1, hn1⟩ : ∃ n1, n1 + 1 = n := ⟨n - 1, by omega⟩
 have htop := nb_top hlY (by omega)
 rw [show n - 1 = n1 from by omega] at htop
 have hnb := nb_le_of_lt (n := dig (lim Y) n1) (k := 32) (by rw [← Bs_pow]; exact ok_lim Y _)
 have hnb0 : nb (dig (lim Y) n1) ≠ 0 := fun e => htop.2 (nb_zero_iff.1 e)
 obtain ⟨sh, hsh⟩ : ∃ sh, sh = 32 - nb (dig (lim Y) n1) := ⟨_, rfl⟩
 have hsh2 : sh < 32 := by omega
 obtain ⟨b, o, hA', hb, hc0⟩ := h'.at_ (k := n1) (by omega)
 have hv := hc0 n1 (by omega)
 have e1 : (n : Int) - 1 = (n1 : Int) := by omega
 have hlz := Lib.hid (fun W => lz32_any W (dig (lim Y) n1) (ok_lim Y n1))
 rw [← hsh] at hlz
 have HT := Lib.hid (And.intro htop (And.intro hsh (And.intro hnb hnb0)))
 have HL := Lib.hid (And.intro hlX (And.intro hlY hn1))
 have hn1' : n1 < n := by omega
 subst hA'
 clear hc0 htop hsh hnb hnb0 hlX hlY hn1
 go_enter Tryz.func245, Tryz.ntmps245
 go_wp2_with fail
 refine (hlz.out _).mono ?_
 rintro e w' ⟨rfl, rfl⟩
 clear e1 hv hn1'
 go_wp2
 have hup1 := Lib.hid (fun W (hW : Lm W A m c (lim X)) => up_ok W A m c (lim X) sh hW (by omega) hsh2)
 have hup2 := Lib.hid (fun W (hW : Lm W (some ⟨b, o, none⟩) n c' (lim Y)) => up_ok W _ n c' (lim Y) sh hW (by omega) hsh2)
 go_region_with (first
  | (go_at_call_of 242 (Value.slice A m c); refine (hup1.out _ ?_).mono ?_; exact h.drew; rintro e w2 ⟨L1, rfl, hU1⟩)
  | (go_at_call_of 242 (Value.slice (some ⟨b, o, none⟩) n c'); refine (hup2.out _ ?_).mono ?_; exact (h'.drew).bel hU1.2.2.2.2; rintro e w3 ⟨L2, rfl, hU2⟩))
 have hs := sh_facts HT.out.1.1 HT.out.2.1 HT.out.2.2.1 HT.out.2.2.2 HL.out.2.2 HL.out.2.1 HT.out.1.2
 obtain ⟨mn, hmn, hmn2⟩ : ∃ mn, mn + n = m ∧ (m : Int) - (n : Int) = (mn : Int) := ⟨m - n, by omega, by omega⟩
 obtain ⟨g2, hg2⟩ : ∃ g2, g2 = w2.heap.size := ⟨_, rfl⟩
 have f1 : Own w3 w.heap.size L1 := hU1.1.below hU2.2.2.2.2 hU1.1.lt
 have f2 : Lm w3 (some ⟨w2.heap.size, 0, none⟩) n (n + 1) (L2.take n) := by
  have hl := hU2.1.lm hU2.2.2.1 (by rw [hU2.2.1]; omega)
  rw [hU2.2.1] at hl
  exact hl.take (Nat.le_succ n)
 have f3 : val (L2.take n) = Y * 2 ^ sh := by
  rw [← vt_take, vt_mod hU2.2.2.1, hU2.2.2.2.1, val_lim, Nat.mod_eq_of_lt hs.2.2]
 have f4 : DivInv (X * 2 ^ sh) (Y * 2 ^ sh) n (m - n + 1) L1 (List.replicate (mn + 1) 0) :=
  DivInv.start (la := m) (by rw [← HL.out.1]; exact lt_pow_ln X) hnm hs.1 hs.2.1 hs.2.2 hU1.2.2.1 (by rw [hU1.2.2.2.1, val_lim]) _
 have f5 : Below w.heap.size w w3 := by
  have hb1 : Below w.heap.size w w2 := (below_drewN (Below.refl _ w) 1).trans hU1.2.2.2.2
  exact hb1.trans (hU2.2.2.2.2.mono hb1.size)
 have f6 : w.heap.size < w2.heap.size := hU1.1.lt
 have f7 : w2.heap.size < w3.heap.size := hU2.1.lt
 have f8 : Bs ≤ 2 * dig (L2.take n) (n - 1) := top_half (by rw [f3]; exact hs.2.1) f2.ok f2.len (by omega)
 have F := Lib.hid (And.intro f1 (And.intro f2 (And.intro f3 (And.intro f4 (And.intro f5 f8)))))
 have HLL := Lib.hid hU1.2.1
 have HM := Lib.hid hmn
 have hmn3 : mn ≤ 10000000000 := by omega
 clear f1 f2 f3 f4 f5 f8 hmn hs hup1 hup2 hlz HT
 go_wp2_with
  (at_make
   refine wpList_make_u32 _ rfl _ _ rfl .i64 .i64 _ _ (mn + 1) rfl rfl ?_ ?_ ?_ ?_
   ·omega
   ·omega
   ·omega
   intro w4 hown hb1 hs1)
 have hsz : w4.heap.size = w3.heap.size + 1 := hs1
 obtain ⟨m2, hm2⟩ : ∃ m2, m2 + 2 = n := ⟨n - 2, by omega⟩
 have HM2 := Lib.hid hm2
 have HO4 := Lib.hid (And.intro hown (And.intro hb1 hsz))
 clear hown hb1 hs1 hsz hm2
 generalize hLb : L2.take n = Lb at *
 clear hLb hU1 hU2 h h'
 go_loopw [11] (fun ix wr => ∃ (t : Int) (j : Nat) (Ll Lq : List Nat), t + 1 = j ∧ j ≤ mn + 1 ∧ ix = .int .i64 t ∧ Ll.length = m + 1 ∧ Lq.length = mn + 1 ∧ Own wr w.heap.size Ll ∧ Own wr w3.heap.size Lq ∧ Lm wr (some ⟨w2.heap.size, 0, none⟩) n (n + 1) Lb ∧ DivInv (X * 2 ^ sh) (Y * 2 ^ sh) n j Ll Lq ∧ Below w.heap.size w wr) (fun ix _ => (intOf ix + 1).toNat)
 case atStart =>
  refine ⟨mn, mn + 1, L1, _, by omega, Nat.le_refl _, rfl, HLL.out, by simp, F.out.1.bel HO4.out.2.1, HO4.out.1, F.out.2.1.bel HO4.out.2.1, ?_, F.out.2.2.2.2.1.trans (HO4.out.2.1.mono F.out.2.2.2.2.1.size)⟩
  have := F.out.2.2.2.1
  rw [show m - n + 1 = mn + 1 from by have := HM.out; omega] at this
  exact this
 case round =>
  obtain ⟨t, j, Ll, Lq, htj, hj, rfl, hl1, hl2, o1, o3, o2, hI, hB⟩ := hrel
  have L1' := Lib.hid hl1
  have L2' := Lib.hid hl2
  clear hl1 hl2 HO4
  by_cases hlt : 0 ≤ t
  ·obtain ⟨i, rfl⟩ := Int.eq_ofNat_of_zero_le hlt
   obtain rfl : j = i + 1 := by omega
   clear htj hlt
   have him : i + n ≤ m := by have := HM.out; omega
   obtain ⟨b', o', e', hb', hc0⟩ := o2.at_ (k := 0) (by omega)
   injection e' with e'
   injection e' with eb eo
   subst eb eo
   have hm2 := HM2.out
   have hK := hI.kn_at (m := m2) (n1 := n1) (by have := HL.out.2.2; omega) HM2.out o2.ok o2.len F.out.2.2.1 F.out.2.2.2.2.2
   have hgs := Lib.hid (guess_any wr w.heap.size i n n1 m2 (m + 1 - i) (n + 1) w2.heap.size 0 _ _ _ _ _ _ _ _ _ _ HL.out.2.2 HM2.out (by omega) (o1.cell (by rw [L1'.out]; omega)) (o1.cell (by rw [L1'.out]; have := HL.out.2.2; omega)) (o1.cell (by rw [L1'.out]; omega)) (hc0 n1 (by have := HL.out.2.2; omega)) (hc0 m2 (by omega)) (hI.okl _) (o2.ok _) hK)
   clear hc0 hK hm2
   have es : i + n + 1 - i = n + 1 := by omega
   go_wp2_with fail
   refine hgs.out.mono ?_
   rintro e w5 ⟨d, rfl, hg, nq, rfl⟩
   clear hgs
   have hdB : d < Bs := hg.2.2
   have htk := Lib.hid (takeTimes_any (wr.drewN nq) w.heap.size i n (m + 1 - i) Ll (some ⟨w2.heap.size, 0, none⟩) (n + 1) Lb d o1 hI.okl (by rw [L1'.out]; omega) (by omega) (o2.drewN nq) (fun _ b o e => by injection e with e; injection e with e1; omega) hdB)
   have hqi : i < mn + 1 := by omega
   go_wp2_with fail
   refine htk.out.mono ?_
   rintro e w6 ⟨bo, Lt, rfl, hT, ot, hoth⟩
   clear htk
   have hgo := Lib.hid hg
   clear hg
   have qo : Own w6 w3.heap.size Lq := (show Own (wr.drewN nq) w3.heap.size Lq from o3).oth hoth (by omega)
   have bo2 : Lm w6 (some ⟨w2.heap.size, 0, none⟩) n (n + 1) Lb := (o2.drewN nq).oth hoth (fun _ b o e => by injection e with e; injection e with e1; omega)
   have hB6 : Below w.heap.size w w6 := (below_drewN hB nq).trans (hoth.below (Nat.le_refl _))
   rcases (by have := hT.2.2.1; omega : bo = 0 ∨ bo = 1) with rfl | rfl
   ·have hn2 := Lib.hid (hI.right F.out.2.2.1 o2.len hT hgo.out.1 hqi L2'.out)
    have hc := qo.cell (i := i) (by rw [L2'.out]; omega)
    have hf := qo.free i
    clear hT
    go_wp2
    go_roundw
    case rel => exact ⟨(i : Int) - 1, i, Lt, _, by omega, by omega, rfl, by rw [hn2.out.2]; exact L1'.out, by simpa using L2'.out, ot.far_ (by omega) _ _, qo.set_ _ _, bo2.far_ (by omega) _ _, hn2.out.1, below_set hB6 (by omega) _ _⟩
    case measure => simp [intOf]
   ·have hpb := Lib.hid (putBack_any w6 w.heap.size i n (m + 1 - i) Lt (some ⟨w2.heap.size, 0, none⟩) (n + 1) Lb ot hT.2.1 (by rw [hT.1, L1'.out]; omega) (by omega) bo2 (fun _ b o e => by injection e with e; injection e with e1; omega))
    have hTT := Lib.hid hT
    have hd1 : 1 ≤ d := one_le_of_taken hI F.out.2.2.1 o2.len hT hgo.out.1 hgo.out.2.1
    obtain ⟨d', hd', eD⟩ : ∃ d', d' = d - 1 ∧ (d : Int) - 1 = (d' : Int) := ⟨d - 1, rfl, by omega⟩
    have HD := Lib.hid hd'
    rw [Bs_eq] at hdB
    clear hT hd'
    go_wp2_with fail
    refine hpb.out.mono ?_
    rintro e w7 ⟨L7, rfl, hbk, ob, hot2⟩
    clear hpb
    have hn2 := Lib.hid (hI.wrong F.out.2.2.1 o2.len hTT.out hbk hgo.out.1 hgo.out.2.1 hqi L2'.out)
    have qo7 : Own w7 w3.heap.size Lq := qo.oth hot2 (by omega)
    have bo7 : Lm w7 (some ⟨w2.heap.size, 0, none⟩) n (n + 1) Lb := bo2.oth hot2 (fun _ b o e => by injection e with e; injection e with e1; omega)
    have hB7 : Below w.heap.size w w7 := hB6.trans (hot2.below (Nat.le_refl _))
    have hc := qo7.cell (i := i) (by rw [L2'.out]; omega)
    have hf := qo7.free i
    clear hbk
    go_wp2
    go_roundw
    case rel => exact ⟨(i : Int) - 1, i, L7, _, by omega, by omega, rfl, by rw [hn2.out.2.1]; exact L1'.out, by simpa using L2'.out, ob.far_ (by omega) _ _, qo7.set_ _ _, bo7.far_ (by omega) _ _, by rw [HD.out]; exact hn2.out.1, below_set hB7 (by omega) _ _⟩
    case measure => simp [intOf]
  ·obtain rfl : j = 0 := by omega
   obtain rfl : t = -1 := by omega
   go_wp2
   have hfin := Lib.hid hI.fin
   have hlq := o3.lm hI.okq (by rw [L2'.out]; omega)
   rw [L2'.out] at hlq
   have hll := o1.lm hI.okl (by rw [L1'.out]; omega)
   rw [L1'.out] at hll
   have hll2 := hll.take (m := n) (by omega)
   have hvl : val (Ll.take n) = val Ll := by
    rw [← vt_take, vt_mod hI.okl, Nat.mod_eq_of_lt (Nat.lt_trans hfin.out.2.2 hI.small)]
   have HV := Lib.hid hvl
   clear hvl hll
   have hcq := Lib.hid (fun W (hW : Lm W (some ⟨w3.heap.size, 0, none⟩) (mn + 1) (mn + 1) Lq) => cut_lm W _ _ _ _ hW)
   have hdn := Lib.hid (fun W (hW : Lm W (some ⟨w.heap.size, 0, none⟩) n (m + 1) (Ll.take n)) => down_fr W _ n _ _ sh hW (by omega) (by omega))
   go_region_with (first
    | (go_at_call 208; (with_reducible refine (hcq.out _ ?_).mono ?_); exact hlq.drew; rintro e w8 ⟨q1, rfl, hq1, hq2, rfl⟩)
    | (go_at_call 240; refine (hdn.out _ ?_).mono ?_; exact hll2.drew; rintro e w9 ⟨B9, q9, d9, L9, rfl, hl9, hv9, hq9, hb9, hfr9⟩; have HV9 := Lib.hid hv9; clear hv9)
    | (go_at_call 208; refine (cut_lm _ _ _ _ _ hl9).mono ?_; rintro e w10 ⟨q10, rfl, hq10, hqn10, rfl⟩))
   all_goals go_wp2
   all_goals go_ret2
   all_goals
    refine ⟨_, q1, mn + 1, B9, q10, d9, rfl, ?_, ?_, by omega, by omega, ?_, .inr ⟨_, _, rfl, F.out.2.2.2.2.1.size⟩, hfr9.mono hB.size⟩
    ·rw [← hfin.out.1]; exact hq1.bel hb9
    ·rw [← hfin.out.2.1, ← HV.out, ← HV9.out]; exact hq10
    ·exact hB.drew.trans (hb9.mono hB.size)
def TellsDivN (w : World) (M N len len' : Nat) (e : Ending) (w' : World) : Prop :=
 (N = 0 ∧ e = .returned (.tuple #[.slice none 0 0, .slice none 0 0, .bool false]) ∧ Below w.heap.size w w') ∨
 (N ≠ 0 ∧ ∃ A m c A' m' c', e = .returned (.tuple #[.slice A m c, .slice A' m' c', .bool true]) ∧ Lm w' A m c (lim (M / N)) ∧ Lm w' A' m' c' (lim (M % N)) ∧ m ≤ len ∧ m' ≤ max len len' ∧ Below w.heap.size w w' ∧ Fr A w.heap.size ∧ Fr A' w.heap.size)
def TellsDiv (w : World) (M N len len' : Nat) (e : Ending) (w' : World) : Prop :=
 (N = 0 ∧ e = .returned (.tuple #[.slice none 0 0, .slice none 0 0, .bool false]) ∧ Below w.heap.size w w') ∨
 (N ≠ 0 ∧ ∃ A m c A' m' c', e = .returned (.tuple #[.slice A m c, .slice A' m' c', .bool true]) ∧ Lm w' A m c (lim (M / N)) ∧ Lm w' A' m' c' (lim (M % N)) ∧ m ≤ len ∧ m' ≤ max len len' ∧ Below w.heap.size w w')
theorem div_fr (w : World) (A : Option Addr) (n c : Nat) (xs : List Nat) (A' : Option Addr) (n' c' : Nat) (ys : List Nat) (h : Lm w A n c xs) (h' : Lm w A' n' c' ys) (hn : n ≤ 10000000000) :
  Calls Tryz.prog 239 #[.slice A n c, .slice A' n' c'] w (TellsDivN w (val xs) (val ys) n n') := by
 generalize hX : val xs = X
 generalize hY : val ys = Y
 have HX := Lib.hid hX
 have HY := Lib.hid hY
 clear hX hY
 go_enter Tryz.func239, Tryz.ntmps239
 go_wp2_with fail
 refine (cut_lm w A n c xs h).mono ?_
 rintro e w1 ⟨m, rfl, hm, hmn, rfl⟩
 rw [HX.out] at hm
 go_wp2_with fail
 refine (cut_lm w A' n' c' ys h').mono ?_
 rintro e w1 ⟨m', rfl, hm', hmn', rfl⟩
 rw [HY.out] at hm'
 have hbig' := hm'.big
 have Hlen : Hid (ln X = m) := hm.len
 have Hlen' : Hid (ln Y = m') := hm'.len
 by_cases h0 : m' = 0
 ·subst h0
  have hy0 : Y = 0 := ln_zero_iff.1 Hlen'.out
  have HY0 := Lib.hid hy0
  clear hy0
  go_wp2
  go_ret3
  exact .inl ⟨HY0.out, rfl, Below.refl _ _⟩
 ·have h0' : ((m' : Int) == 0) = false := by rw [beq_eq_false_iff_ne]; omega
  have hY0 : Hid (Y ≠ 0) := (fun e => h0 (by rw [← Hlen'.out, e]; exact ln_zero) : Y ≠ 0)
  have hp : 1 ≤ m' := by omega
  clear h0
  go_wp2_with fail
  refine (cmp_any w A m c _ A' m' c' _ hm hm').mono ?_
  rw [val_lim, val_lim]
  rintro e w0 ⟨rfl, nq, hw0⟩
  have hb0 : Below w.heap.size w w0 := by rw [hw0]; exact below_drewN (Below.refl _ _) nq
  have hm0 : Lm w0 A m c (lim X) := by rw [hw0]; exact hm.drewN nq
  have hm0' : Lm w0 A' m' c' (lim Y) := by rw [hw0]; exact hm'.drewN nq
  have hsz : w0.heap.size = w.heap.size := by rw [hw0]; rfl
  have HSZ := Lib.hid hsz
  clear hw0 hsz hm hm'
  by_cases hlt : X < Y
  ·rw [cmpN_lt hlt]
   have HLT := Lib.hid hlt
   clear hlt
   go_wp2_with fail
   refine (trim_fr _ _ _ _ _ hm0).mono ?_
   rw [val_lim]
   rintro e w2 ⟨B, q, d, rfl, hl, hq, hb, hfr⟩
   go_wp2
   go_ret3
   exact .inr ⟨hY0.out, none, 0, 0, B, q, d, rfl, by rw [Nat.div_eq_of_lt HLT.out, lim_zero]; exact Lm.nil _, by rw [Nat.mod_eq_of_lt HLT.out]; exact hl, Nat.zero_le _, by omega, hb0.trans (hb.mono (by rw [HSZ.out]; exact Nat.le_refl _)), .inl rfl, hfr.mono (by rw [HSZ.out]; exact Nat.le_refl _)⟩
  ·have hge : 0 ≤ cmpN X Y := by have := cmpN_neg_iff X Y; omega
   generalize cmpN X Y = q at *
   have HLT : Hid (Y ≤ X) := (by omega : Y ≤ X)
   clear hlt
   by_cases h1 : m' = 1
   ·subst h1
    obtain ⟨b, o, rfl, hb, hc0⟩ := hm0'.at_ (k := 0) (by omega)
    have hx := hc0 0 (by omega)
    rw [Nat.add_zero] at hx
    clear hc0
    have hY1 : Hid (Y = dig (lim Y) 0) := by
     have e := val_lim Y
     have e2 : val (lim Y) = vt (dig (lim Y)) 1 := (val_eq_vt (Nat.le_of_eq Hlen'.out)).symm
     rw [e] at e2
     have e3 : vt (dig (lim Y)) 1 = dig (lim Y) 0 := by simp [vt]
     exact e2.trans e3
    have hdl := Lib.hid (divLimb_fr w0 A m c X (dig (lim Y) 0) hm0 (ok_lim Y 0) (fun e => hY0.out (hY1.out.trans e)))
    go_wp2_with fail
    refine hdl.out.mono ?_
    rw [← hY1.out]
    rintro e w2 ⟨B, q1, d, B', q2, d', rfl, hl1, hl2, hq1, hq2, hb2, hf1, hf2⟩
    clear hdl
    go_wp2
    go_ret3
    exact .inr ⟨hY0.out, B, q1, d, B', q2, d', rfl, hl1, hl2, by omega, by omega, hb0.trans (hb2.mono (by rw [HSZ.out]; exact Nat.le_refl _)), hf1.mono (by rw [HSZ.out]; exact Nat.le_refl _), hf2.mono (by rw [HSZ.out]; exact Nat.le_refl _)⟩
   ·have h1' : ((m' : Int) == 1) = false := by rw [beq_eq_false_iff_ne]; omega
    have hdl := Lib.hid (divLong_fr w0 A m c X A' m' c' Y hm0 hm0' (by omega) (by omega) HLT.out)
    clear h1
    go_wp2_with fail
    refine hdl.out.mono ?_
    rintro e w2 ⟨B, q1, d, B', q2, d', rfl, hl1, hl2, hq1, hq2, hb2, hf1, hf2⟩
    clear hdl
    go_wp2
    go_ret3
    exact .inr ⟨hY0.out, B, q1, d, B', q2, d', rfl, hl1, hl2, by omega, by omega, hb0.trans (hb2.mono (by rw [HSZ.out]; exact Nat.le_refl _)), hf1.mono (by rw [HSZ.out]; exact Nat.le_refl _), hf2.mono (by rw [HSZ.out]; exact Nat.le_refl _)⟩
theorem div_any (w : World) (A : Option Addr) (n c : Nat) (xs : List Nat) (A' : Option Addr) (n' c' : Nat) (ys : List Nat) (h : Lm w A n c xs) (h' : Lm w A' n' c' ys) (hn : n ≤ 10000000000) :
  Calls Tryz.prog 239 #[.slice A n c, .slice A' n' c'] w (TellsDiv w (val xs) (val ys) n n') :=
 (div_fr w A n c xs A' n' c' ys h h' hn).mono fun _ _ h => by
  rcases h with h | ⟨h0, B, q1, d, B', q2, d', h1, h2, h3, h4, h5, h6, _⟩
  ·exact .inl h
  ·exact .inr ⟨h0, B, q1, d, B', q2, d', h1, h2, h3, h4, h5, h6⟩
end Go.Proofs.YtnjjfakjnkhhjaaGreatDoor
