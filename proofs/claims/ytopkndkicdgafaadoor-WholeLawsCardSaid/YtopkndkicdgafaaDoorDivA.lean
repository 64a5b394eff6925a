/- Contracts: divLimb, takeTimes, putBack. -/
import Derived.Test.YtopkndkicdgafaaDoorShl
namespace Go.Proofs.YtopkndkicdgafaaDoor
open Go.RowKit

/-- division by one digit: the digits from k on are divided. -/
def LimbAt (X b k r : Nat) (L : List Nat) : Prop := Ok L ∧ r < b ∧ val (L.drop k) * b + r = val ((lim X).drop k) ∧ ∀ j, j < k → dig L j = 0
theorem limb_step {q b r X x q' r' B : Nat} (h : q * b + r = X) (h2 : q' * b + r' = r * B + x) : (q' + B * q) * b + r' = x + B * X := by
  have : B * (q * b + r) = B * X := by rw [h]
  grind
theorem drop_set {L : List Nat} {k v : Nat} : (L.set k v).drop (k + 1) = L.drop (k + 1) := by
  rw [List.drop_set, if_pos (by omega)]
theorem LimbAt.step {X b k r : Nat} {L : List Nat} (h : LimbAt X b (k + 1) r L) (hk : k < L.length) :
    LimbAt X b k ((r * Bs + dig (lim X) k) % b) (L.set k ((r * Bs + dig (lim X) k) / b)) := by
  obtain ⟨hO, hr, he, hz⟩ := h
  have hb0 : 0 < b := by omega
  have hx := ok_lim X k
  have hq : (r * Bs + dig (lim X) k) / b < Bs := by
    rw [Nat.div_lt_iff_lt_mul hb0]
    have : (r + 1) * Bs ≤ b * Bs := Nat.mul_le_mul hr (Nat.le_refl _)
    rw [Nat.add_mul, Nat.one_mul, Nat.mul_comm b] at this; omega
  refine ⟨hO.set hk hq, Nat.mod_lt _ hb0, ?_, fun j hj => ?_⟩
  · rw [val_drop_succ, val_drop_succ (lim X) k, drop_set, dig_set hk, if_pos rfl]
    exact limb_step he (Nat.div_add_mod' _ _)
  · rw [dig_set hk, if_neg (by omega)]; exact hz j (by omega)

set_option maxHeartbeats 1000000 in
theorem divLimb_any (w : World) (A : Option Addr) (m c X : Nat) (b : Nat) (h : Lm w A m c (lim X)) (hb : b < Bs) (hb0 : b ≠ 0) :
    Calls Tryd.prog 77 #[.slice A m c, d32 b] w fun e w' => ∃ B q d B' q' d', e = .returned (.tuple #[.slice B q d, .slice B' q' d']) ∧ Lm w' B q d (lim (X / b)) ∧ Lm w' B' q' d' (lim (X % b)) ∧ q ≤ m ∧ q' ≤ 1 ∧ Below w.heap.size w w' := by
  have hbig := h.big
  have Hlen : Hid (ln X = m) := h.len
  have hb0' := Lib.hid hb0
  clear hb0
  go_enter Tryd.func77, Tryd.ntmps77
  go_wp2_with
    (at_make
     refine wpList_make_u32 _ rfl _ _ rfl .i64 .i64 _ _ m rfl rfl ?_ ?_ ?_ ?_
     · rfl
     · rfl
     · omega
     intro w1 hown hb1 hs1)
  go_loopw [7, 8] (fun rv ix wr => ∃ (t : Int) (k r : Nat) (L : List Nat), t + 1 = k ∧ k ≤ m ∧ ix = .int .i64 t ∧ rv = d32 r ∧ L.length = m ∧ Own wr w.heap.size L ∧ LimbAt X b k r L ∧ Below w.heap.size w wr) (fun _ ix _ => (intOf ix + 1).toNat)
  case atStart => exact ⟨(m : Int) - 1, m, 0, _, by omega, Nat.le_refl _, rfl, rfl, by simp, hown, ⟨Ok.zeros _, by have := hb0'.out; omega, by rw [List.drop_eq_nil_of_le (by simp), List.drop_eq_nil_of_le (Nat.le_of_eq Hlen.out)]; simp [val_nil], fun j _ => dig_zeros _ _⟩, hb1⟩
  case round =>
    obtain ⟨t, k, r, L, htk, hk, rfl, rfl, hL0, hO, hS, hB⟩ := hrel
    have hL := Lib.hid hL0
    clear hL0 hown hb1 hs1
    have hlm := h.bel hB
    have hrb := hS.2.1
    by_cases hlt : 0 ≤ t
    · obtain ⟨j, rfl⟩ := Int.eq_ofNat_of_zero_le hlt
      obtain rfl : k = j + 1 := by omega
      clear htk hlt
      obtain ⟨b', o, rfl, hb'', hc0⟩ := hlm.at_ (k := j) (by omega)
      have hx := hc0 j (by omega)
      clear hc0
      have hc := hO.cell (i := j) (by rw [hL.out]; omega)
      have hf := hO.free j
      have hst := Lib.hid (hS.step (by rw [hL.out]; omega))
      go_wp2_with fail
      refine (div32_any _ r (dig (lim X) j) b hrb (ok_lim X j) hb).mono ?_
      rintro e w2 ⟨rfl, nq, rfl⟩
      go_wp2
      go_roundw
      case rel => exact ⟨(j : Int) - 1, j, _, _, by omega, by omega, rfl, rfl, by simpa using hL.out, (show Own (wr.drewN nq) w.heap.size L from hO).set_ _ _, hst.out, (below_drewN hB nq).setCell (Nat.le_refl _) _⟩
      case measure => simp [intOf]
    · obtain rfl : k = 0 := by omega
      obtain rfl : t = -1 := by omega
      have hv := hS.2.2.1
      rw [List.drop_zero, List.drop_zero, val_lim] at hv
      have hq : val L = X / b := by
        rw [← hv, Nat.mul_comm, Nat.mul_add_div (by have := hb0'.out; omega), Nat.div_eq_of_lt hrb, Nat.add_zero]
      have hr : r = X % b := by rw [← hv, Nat.mul_comm, Nat.mul_add_mod, Nat.mod_eq_of_lt hrb]
      have HQ := Lib.hid hq
      have HR := Lib.hid hr
      clear hv hq hr htk
      have hl := hO.lm hS.1 (by rw [hL.out]; omega)
      rw [hL.out] at hl
      go_wp2_with fail
      refine (cut_lm _ _ _ _ _ hl).mono ?_
      rintro e w' ⟨q, rfl, hq, hqn, rfl⟩
      rw [HQ.out] at hq
      have ho1 : Own (wr.alloc (.cells #[d32 r] 37)) wr.heap.size [r] := Own.list wr [r]
      have hl1 := ho1.lm (Ok.of_mem (fun x hx => by simp at hx; omega)) (by simp)
      have hb2 : Below w.heap.size w (wr.alloc (.cells #[d32 r] 37)) := hB.alloc hB.size _
      have hq2 : Lm (wr.alloc (.cells #[d32 r] 37)) (some ⟨w.heap.size, 0, none⟩) q m (lim (X / b)) := hq.bel ((Below.refl _ _).alloc (Nat.le_refl _) _)
      have HO := Lib.hid (And.intro hb2 hq2)
      clear hb2 hq2 ho1
      go_wp2_with fail
      refine (cut_lm _ _ _ _ _ hl1).mono ?_
      rintro e w' ⟨q', rfl, hq', hqn', rfl⟩
      have hq'' : Lm (wr.alloc (.cells #[d32 r] 37)) (some ⟨wr.heap.size, 0, none⟩) q' 1 (lim (X % b)) := by rw [← HR.out]; rw [val_single] at hq'; exact hq'
      go_wp2
      go_ret2
      exact ⟨_, q, m, _, q', 1, rfl, HO.out.2, hq'', hqn, hqn', HO.out.1⟩

/-- After k digits of 'part -= d * ys' (part: L from i on): the carry cr and the borrow bo. -/
def TakeT (L : List Nat) (i d : Nat) (ys : List Nat) (k cr bo : Nat) (L' : List Nat) : Prop :=
  L'.length = L.length ∧ Ok L' ∧ cr < Bs ∧ bo ≤ 1 ∧ (∀ j, j < i ∨ i + k ≤ j → dig L' j = dig L j) ∧
    vt (fun j => dig L' (i + j)) k + d * vt (dig ys) k = vt (fun j => dig L (i + j)) k + Bs ^ k * (cr + bo)
theorem take_step {B v' v P d y vy p p' lo hi c bo bo' : Nat} (h : v' + d * vy = v + P * (c + bo)) (h2 : c + d * y = lo + B * hi) (h3 : p' + lo + bo = p + B * bo') :
    v' + P * p' + d * (vy + P * y) = v + P * p + P * B * (hi + bo') := by
  have e2 : P * (c + d * y) = P * (lo + B * hi) := by rw [h2]
  have e3 : P * (p' + lo + bo) = P * (p + B * bo') := by rw [h3]
  grind
theorem sub_digit {x y d : Nat} (hx : x < Bs) (hy : y < Bs) (hd : d ≤ 1) : (x + Bs - y - d) % Bs + y + d = x + Bs * brw x y d := by
  unfold brw
  rw [Bs_eq] at *
  split <;> omega
theorem TakeT.step {L L' ys : List Nat} {i d k cr bo : Nat} (h : TakeT L i d ys k cr bo L') (hd : d < Bs) (hy : Ok ys) (hk : i + k < L.length) :
    TakeT L i d ys (k + 1) ((cr + d * dig ys k) / Bs) (brw (dig L' (i + k)) ((cr + d * dig ys k) % Bs) bo) (L'.set (i + k) ((dig L' (i + k) + Bs - (cr + d * dig ys k) % Bs - bo) % Bs)) := by
  obtain ⟨hl, hO, hc, hb, hj, he⟩ := h
  have hkl : i + k < L'.length := by omega
  have hP := mul_lt_big hd (hy k)
  refine ⟨by simpa using hl, hO.set hkl (Nat.mod_lt _ Bs_pos), ?_, brw_le _ _ _, fun j hjj => ?_, ?_⟩
  · generalize d * dig ys k = P at *
    rw [Nat.div_lt_iff_lt_mul Bs_pos]
    rw [Bs_eq] at *; omega
  · rw [dig_set hkl, if_neg (by omega)]; exact hj j (by omega)
  · show vt (fun j => dig (L'.set (i + k) _) (i + j)) k + Bs ^ k * dig (L'.set (i + k) _) (i + k) + _ = _
    rw [vt_congr (e := fun j => dig L' (i + j)) k (fun j hj => by show dig (L'.set _ _) (i + j) = dig L' (i + j); rw [dig_set hkl, if_neg (by omega)]), dig_set hkl, if_pos rfl, Nat.pow_succ]
    have h3 := sub_digit (x := dig L' (i + k)) (y := (cr + d * dig ys k) % Bs) (d := bo) (hO _) (Nat.mod_lt _ Bs_pos) hb
    show _ + d * (vt (dig ys) k + Bs ^ k * dig ys k) = vt (fun j => dig L (i + j)) k + Bs ^ k * dig L (i + k) + _
    rw [← hj (i + k) (by omega)]
    exact take_step he (Nat.mod_add_div _ _).symm h3
/-- the whole of it: part's topmost digit has taken the last carry. -/
def Taken (L : List Nat) (i d : Nat) (ys : List Nat) (n bo : Nat) (L' : List Nat) : Prop :=
  L'.length = L.length ∧ Ok L' ∧ bo ≤ 1 ∧ (∀ j, j < i ∨ i + n + 1 ≤ j → dig L' j = dig L j) ∧
    vt (fun j => dig L' (i + j)) (n + 1) + d * vt (dig ys) n = vt (fun j => dig L (i + j)) (n + 1) + Bs ^ (n + 1) * bo
theorem taken_step {B v' v P dv p p' c bo bo' : Nat} (h : v' + dv = v + P * (c + bo)) (h3 : p' + c + bo = p + B * bo') : v' + P * p' + dv = v + P * p + P * B * bo' := by
  have e3 : P * (p' + c + bo) = P * (p + B * bo') := by rw [h3]
  grind
theorem TakeT.last {L L' ys : List Nat} {i d n cr bo : Nat} (h : TakeT L i d ys n cr bo L') (hk : i + n < L.length) :
    Taken L i d ys n (brw (dig L' (i + n)) cr bo) (L'.set (i + n) ((dig L' (i + n) + Bs - cr - bo) % Bs)) := by
  obtain ⟨hl, hO, hc, hb, hj, he⟩ := h
  have hkl : i + n < L'.length := by omega
  refine ⟨by simpa using hl, hO.set hkl (Nat.mod_lt _ Bs_pos), brw_le _ _ _, fun j hjj => ?_, ?_⟩
  · rw [dig_set hkl, if_neg (by omega)]; exact hj j (by omega)
  · show vt (fun j => dig (L'.set (i + n) _) (i + j)) n + Bs ^ n * dig (L'.set (i + n) _) (i + n) + _ = vt _ n + Bs ^ n * dig L (i + n) + _
    rw [vt_congr (e := fun j => dig L' (i + j)) n (fun j hj => by show dig (L'.set _ _) (i + j) = dig L' (i + j); rw [dig_set hkl, if_neg (by omega)]), dig_set hkl, if_pos rfl, Nat.pow_succ]
    have h3 := sub_digit (x := dig L' (i + n)) (y := cr) (d := bo) (hO _) hc hb
    rw [← hj (i + n) (by omega)]
    exact taken_step he h3

set_option maxHeartbeats 2000000 in
theorem takeTimes_any (w : World) (g i n cp : Nat) (L : List Nat) (A : Option Addr) (c : Nat) (ys : List Nat) (d : Nat) (hO : Own w g L) (hL : Ok L) (hi : i + n + 1 ≤ L.length) (hcp : n + 1 ≤ cp) (h : Lm w A n c ys)
    (hA : 0 < n → ∀ b o, A = some ⟨b, o, none⟩ → b ≠ g) (hd : d < Bs) :
    Calls Tryd.prog 95 #[.slice (some ⟨g, i, none⟩) (n + 1) cp, .slice A n c, d32 d] w fun e w' => ∃ bo L', e = .returned (.bool (bo != 0)) ∧ Taken L i d ys n bo L' ∧ Own w' g L' ∧ Oth g w w' := by
  have hn := h.big
  have Hy := h.ok
  have hd' : d < 4294967296 := hd
  have HI := Lib.hid hi
  clear hi
  go_enter Tryd.func95, Tryd.ntmps95
  go_wp2
  go_loopw [7, 8, 14] (fun cv bv ix wr => ∃ (k cr bo : Nat) (L' : List Nat), k ≤ n ∧ ix = .int .i64 k ∧ cv = .int .u64 cr ∧ bv = d32 bo ∧ TakeT L i d ys k cr bo L' ∧ Own wr g L' ∧ Oth g w wr) (fun _ _ ix _ => n - (intOf ix).toNat)
  case atStart => exact ⟨0, 0, 0, L, Nat.zero_le _, rfl, rfl, rfl, ⟨rfl, hL, by rw [Bs_eq]; omega, by omega, fun j _ => rfl, rfl⟩, hO, Oth.refl _ _⟩
  case round =>
    obtain ⟨k, cr, bo, L', hk, rfl, rfl, rfl, hT, hO', hB⟩ := hrel
    have hcr : cr < 4294967296 := hT.2.2.1
    have hbo : bo ≤ 1 := hT.2.2.2.1
    by_cases hlt : k < n
    · obtain ⟨b, o, rfl, hb, hc0⟩ := h.at_ hlt
      have hbg := hA (by omega) b o rfl
      have hy0 : wr.cell? ⟨b, o + k, none⟩ = some (d32 (dig ys k)) := (hB.cell (p := ⟨b, o + k, none⟩) hbg).trans (hc0 k hlt)
      clear hc0 hA hbg
      have hc := hO'.cell (i := i + k) (by rw [hT.1]; have := HI.out; omega)
      have hf := hO'.free (i + k)
      have hPb := mul_lt_big hd (Hy k)
      have hP : (d : Int) * (dig ys k : Int) = ((d * dig ys k : Nat) : Int) := rfl
      have hst := hT.step hd Hy (by have := HI.out; omega)
      have hdk := hT.2.1 (i + k)
      obtain ⟨P, hPe⟩ : ∃ P, P = d * dig ys k := ⟨_, rfl⟩
      rw [← hPe] at hP hPb hst
      have hyk : dig ys k < 4294967296 := Hy k
      have HST := Lib.hid hst
      have hTc := Lib.hid hT
      clear hPe hst hT
      obtain ⟨lo, hlo, e1⟩ : ∃ lo, (cr + P) % Bs = lo ∧ ((cr : Int) + (P : Int)) % 4294967296 = (lo : Int) := ⟨_, rfl, by rw [Bs_eq]; omega⟩
      obtain ⟨hi', hhi, e2⟩ : ∃ hi', (cr + P) / Bs = hi' ∧ ((cr : Int) + (P : Int)) / 4294967296 = (hi' : Int) := ⟨_, rfl, by rw [Bs_eq]; omega⟩
      have hlo2 : lo < Bs := by rw [← hlo]; exact Nat.mod_lt _ Bs_pos
      rw [hlo, hhi] at HST
      clear hlo hhi
      go_wp2_with fail
      refine (sub32_any _ _ _ _ hdk hlo2 hbo).mono ?_
      rintro e w' ⟨rfl, rfl⟩
      go_wp2
      go_roundw
      case rel =>
        refine ⟨k + 1, hi', _, _, by omega, by go_num, rfl, rfl, HST.out, hO'.set_ _ _, hB.setCell _ _⟩
      case measure => simp [intOf]; omega
    · obtain rfl : k = n := by omega
      have hc := hO'.cell (i := i + k) (by rw [hT.1]; have := HI.out; omega)
      have hf := hO'.free (i + k)
      have hst := Lib.hid (hT.last (by have := HI.out; omega))
      have hdk := hT.2.1 (i + k)
      have hcr2 := hT.2.2.1
      clear hT
      have e1 : (cr : Int) % 4294967296 = (cr : Int) := by omega
      go_wp2_with fail
      refine (sub32_any _ _ _ _ hdk hcr2 hbo).mono ?_
      rintro e w' ⟨rfl, rfl⟩
      clear e1
      generalize hbw : brw (dig L' (i + k)) cr bo = bw at *
      have HBW := Lib.hid hbw
      clear hbw
      go_wp2
      go_ret
      refine ⟨bw, _, ret_bool (by rw [Bool.eq_iff_iff, bne_iff_ne, bne_iff_ne]; omega), hst.out, hO'.set_ _ _, hB.setCell _ _⟩

/-- After k digits of 'part += ys'. -/
def BackT (L : List Nat) (i : Nat) (ys : List Nat) (k cr : Nat) (L' : List Nat) : Prop :=
  L'.length = L.length ∧ Ok L' ∧ cr ≤ 1 ∧ (∀ j, j < i ∨ i + k ≤ j → dig L' j = dig L j) ∧
    vt (fun j => dig L' (i + j)) k + Bs ^ k * cr = vt (fun j => dig L (i + j)) k + vt (dig ys) k
theorem BackT.step {L L' ys : List Nat} {i k cr : Nat} (h : BackT L i ys k cr L') (hy : Ok ys) (hk : i + k < L.length) :
    BackT L i ys (k + 1) ((dig L' (i + k) + dig ys k + cr) / Bs) (L'.set (i + k) ((dig L' (i + k) + dig ys k + cr) % Bs)) := by
  obtain ⟨hl, hO, hc, hj, he⟩ := h
  have hkl : i + k < L'.length := by omega
  have h1 := hO (i + k)
  have h2 := hy k
  refine ⟨by simpa using hl, hO.set hkl (Nat.mod_lt _ Bs_pos), ?_, fun j hjj => ?_, ?_⟩
  · rw [Bs_eq] at *; omega
  · rw [dig_set hkl, if_neg (by omega)]; exact hj j (by omega)
  · show vt (fun j => dig (L'.set (i + k) _) (i + j)) k + Bs ^ k * dig (L'.set (i + k) _) (i + k) + _ = vt _ k + Bs ^ k * dig L (i + k) + (vt (dig ys) k + Bs ^ k * dig ys k)
    rw [vt_congr (e := fun j => dig L' (i + j)) k (fun j hj => by show dig (L'.set _ _) (i + j) = dig L' (i + j); rw [dig_set hkl, if_neg (by omega)]), dig_set hkl, if_pos rfl, Nat.pow_succ, ← hj (i + k) (by omega)]
    exact sum_step he (Nat.mod_add_div _ _)
def Backed (L : List Nat) (i : Nat) (ys : List Nat) (n : Nat) (L' : List Nat) : Prop :=
  L'.length = L.length ∧ Ok L' ∧ (∀ j, j < i ∨ i + n + 1 ≤ j → dig L' j = dig L j) ∧
    vt (fun j => dig L' (i + j)) (n + 1) = (vt (fun j => dig L (i + j)) (n + 1) + vt (dig ys) n) % Bs ^ (n + 1)
theorem back_last {v' v P p c y q r B : Nat} (h : v' + P * c = v + y) (h2 : p + c = r + B * q) : v + P * p + y = (v' + P * r) + P * B * q := by
  have e : P * (p + c) = P * (r + B * q) := by rw [h2]
  grind
theorem BackT.last {L L' ys : List Nat} {i n cr : Nat} (h : BackT L i ys n cr L') (hk : i + n < L.length) :
    Backed L i ys n (L'.set (i + n) ((dig L' (i + n) + cr) % Bs)) := by
  obtain ⟨hl, hO, hc, hj, he⟩ := h
  have hkl : i + n < L'.length := by omega
  have hO2 : Ok (L'.set (i + n) ((dig L' (i + n) + cr) % Bs)) := hO.set hkl (Nat.mod_lt _ Bs_pos)
  refine ⟨by simpa using hl, hO2, fun j hjj => ?_, ?_⟩
  · rw [dig_set hkl, if_neg (by omega)]; exact hj j (by omega)
  · have hlt : vt (fun j => dig (L'.set (i + n) ((dig L' (i + n) + cr) % Bs)) (i + j)) (n + 1) < Bs ^ (n + 1) := vt_lt _ fun j _ => hO2 _
    have e : vt (fun j => dig L (i + j)) (n + 1) + vt (dig ys) n = vt (fun j => dig (L'.set (i + n) ((dig L' (i + n) + cr) % Bs)) (i + j)) (n + 1) + Bs ^ (n + 1) * ((dig L' (i + n) + cr) / Bs) := by
      show vt _ n + Bs ^ n * dig L (i + n) + _ = vt (fun j => dig (L'.set (i + n) _) (i + j)) n + Bs ^ n * dig (L'.set (i + n) _) (i + n) + _
      rw [vt_congr (d := fun j => dig (L'.set (i + n) ((dig L' (i + n) + cr) % Bs)) (i + j)) (e := fun j => dig L' (i + j)) n (fun j hj => by show dig (L'.set _ _) (i + j) = dig L' (i + j); rw [dig_set hkl, if_neg (by omega)]), dig_set hkl, if_pos rfl, Nat.pow_succ, ← hj (i + n) (by omega)]
      exact back_last he (Nat.mod_add_div _ _).symm
    rw [e, Nat.add_mul_mod_self_left, Nat.mod_eq_of_lt hlt]

set_option maxHeartbeats 2000000 in
theorem putBack_any (w : World) (g i n cp : Nat) (L : List Nat) (A : Option Addr) (c : Nat) (ys : List Nat) (hO : Own w g L) (hL : Ok L) (hi : i + n + 1 ≤ L.length) (hcp : n + 1 ≤ cp) (h : Lm w A n c ys)
    (hA : 0 < n → ∀ b o, A = some ⟨b, o, none⟩ → b ≠ g) :
    Calls Tryd.prog 96 #[.slice (some ⟨g, i, none⟩) (n + 1) cp, .slice A n c] w fun e w' => ∃ L', e = .returned (.tuple #[]) ∧ Backed L i ys n L' ∧ Own w' g L' ∧ Oth g w w' := by
  have hn := h.big
  have Hy := h.ok
  have HI := Lib.hid hi
  clear hi
  go_enter Tryd.func96, Tryd.ntmps96
  go_wp2
  go_loopw [4, 9] (fun cv ix wr => ∃ (k cr : Nat) (L' : List Nat), k ≤ n ∧ ix = .int .i64 k ∧ cv = d32 cr ∧ BackT L i ys k cr L' ∧ Own wr g L' ∧ Oth g w wr) (fun _ ix _ => n - (intOf ix).toNat)
  case atStart => exact ⟨0, 0, L, Nat.zero_le _, rfl, rfl, ⟨rfl, hL, by omega, fun j _ => rfl, rfl⟩, hO, Oth.refl _ _⟩
  case round =>
    obtain ⟨k, cr, L', hk, rfl, rfl, hT, hO', hB⟩ := hrel
    have hcr : cr < Bs := by have := hT.2.2.1; rw [Bs_eq]; omega
    have hdk := hT.2.1 (i + k)
    have hc := hO'.cell (i := i + k) (by rw [hT.1]; have := HI.out; omega)
    have hf := hO'.free (i + k)
    by_cases hlt : k < n
    · obtain ⟨b, o, rfl, hb, hc0⟩ := h.at_ hlt
      have hbg := hA (by omega) b o rfl
      have hy0 : wr.cell? ⟨b, o + k, none⟩ = some (d32 (dig ys k)) := (hB.cell (p := ⟨b, o + k, none⟩) hbg).trans (hc0 k hlt)
      clear hc0 hA hbg
      have hst := Lib.hid (hT.step Hy (by have := HI.out; omega))
      clear hT
      go_wp2_with fail
      refine (add32_any _ _ _ _ hdk (Hy k) hcr).mono ?_
      rintro e w' ⟨rfl, rfl⟩
      go_wp2
      go_roundw
      case rel =>
        refine ⟨k + 1, _, _, by omega, by go_num, rfl, hst.out, hO'.set_ _ _, hB.setCell _ _⟩
      case measure => simp [intOf]; omega
    · obtain rfl : k = n := by omega
      have hst := Lib.hid (hT.last (by have := HI.out; omega))
      clear hT
      go_wp2
      go_end0
      have e1 : ((dig L' (i + k) : Int) + (cr : Int)) % 4294967296 = (((dig L' (i + k) + cr) % Bs : Nat) : Int) := by rw [Bs_eq]; omega
      rw [e1]
      refine ⟨_, rfl, hst.out, hO'.set_ _ _, hB.setCell _ _⟩
end Go.Proofs.YtopkndkicdgafaaDoor
