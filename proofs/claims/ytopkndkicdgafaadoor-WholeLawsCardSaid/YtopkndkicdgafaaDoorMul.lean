/- Contracts: addTimes, Mul. -/
import Derived.Test.YtopkndkicdgafaaDoorSub
namespace Go.Proofs.YtopkndkicdgafaaDoor
open Go.RowKit

/-- After k digits of 'part += d * ys' (part: L from i on): the limbs L', the carry cr. -/
def AddT (L : List Nat) (i d : Nat) (ys : List Nat) (k cr : Nat) (L' : List Nat) : Prop :=
  L'.length = L.length ∧ Ok L' ∧ cr < Bs ∧ (∀ j, j < i ∨ i + k ≤ j → dig L' j = dig L j) ∧
    vt (fun j => dig L' (i + j)) k + Bs ^ k * cr = vt (fun j => dig L (i + j)) k + d * vt (dig ys) k
theorem addt_step {B vL P s c p d y c' vl vy : Nat} (h : vL + P * c = vl + d * vy) (h2 : s + B * c' = c + (d * y + p)) : vL + P * s + P * B * c' = (vl + P * p) + d * (vy + P * y) := by
  have : P * (s + B * c') = P * (c + (d * y + p)) := by rw [h2]
  grind
theorem AddT.step {L L' ys : List Nat} {i d k cr : Nat} (h : AddT L i d ys k cr L') (hd : d < Bs) (hy : Ok ys) (hk : i + k < L.length) :
    AddT L i d ys (k + 1) ((cr + (d * dig ys k + dig L' (i + k))) / Bs) (L'.set (i + k) ((cr + (d * dig ys k + dig L' (i + k))) % Bs)) := by
  obtain ⟨hl, hO, hc, hj, he⟩ := h
  have hkl : i + k < L'.length := by omega
  have hP := mul_lt_big hd (hy k)
  have hp := hO (i + k)
  refine ⟨by simpa using hl, hO.set hkl (Nat.mod_lt _ Bs_pos), ?_, fun j hjj => ?_, ?_⟩
  · generalize d * dig ys k = P at *
    rw [Nat.div_lt_iff_lt_mul Bs_pos]
    rw [Bs_eq] at *; omega
  · rw [dig_set hkl, if_neg (by omega)]; exact hj j (by omega)
  · show vt (fun j => dig (L'.set (i + k) _) (i + j)) k + Bs ^ k * dig (L'.set (i + k) _) (i + k) + _ = _
    rw [vt_congr (e := fun j => dig L' (i + j)) k (fun j hj => by show dig (L'.set _ _) (i + j) = dig L' (i + j); rw [dig_set hkl, if_neg (by omega)]), dig_set hkl, if_pos rfl, Nat.pow_succ]
    refine addt_step he ?_
    show _ = cr + (d * dig ys k + dig L (i + k))
    rw [← hj (i + k) (by omega)]
    exact Nat.mod_add_div _ _

set_option maxHeartbeats 1000000 in
theorem addTimes_any (w : World) (g i n cp : Nat) (L : List Nat) (A : Option Addr) (c : Nat) (ys : List Nat) (d : Nat) (hO : Own w g L) (hL : Ok L) (hi : i + n ≤ L.length) (hcp : n ≤ cp) (h : Lm w A n c ys)
    (hA : 0 < n → ∀ b o, A = some ⟨b, o, none⟩ → b < g) (hd : d < Bs) :
    Calls Tryd.prog 83 #[.slice (some ⟨g, i, none⟩) n cp, .slice A n c, d32 d] w fun e w' => ∃ cr L', e = .returned (d32 cr) ∧ AddT L i d ys n cr L' ∧ Own w' g L' ∧ Below g w w' ∧ w'.heap.size = w.heap.size := by
  have hn := h.big
  have Hy := h.ok
  have hd' : d < 4294967296 := hd
  have HI := Lib.hid hi
  clear hi
  go_enter Tryd.func83, Tryd.ntmps83
  go_wp2
  go_loopw [7, 12] (fun cv ix wr => ∃ (k cr : Nat) (L' : List Nat), k ≤ n ∧ ix = .int .i64 k ∧ cv = .int .u64 cr ∧ AddT L i d ys k cr L' ∧ Own wr g L' ∧ Below g w wr ∧ wr.heap.size = w.heap.size) (fun _ ix _ => n - (intOf ix).toNat)
  case atStart => exact ⟨0, 0, L, Nat.zero_le _, rfl, rfl, ⟨rfl, hL, by rw [Bs_eq]; omega, fun j _ => rfl, rfl⟩, hO, Below.refl _ _, rfl⟩
  case round =>
    obtain ⟨k, cr, L', hk, rfl, rfl, hT, hO', hB, hs⟩ := hrel
    have HS := Lib.hid hs
    clear hs
    have hcr : cr < 4294967296 := hT.2.2.1
    by_cases hlt : k < n
    · obtain ⟨b, o, rfl, hb, hc0⟩ := h.at_ hlt
      have hbg := hA (by omega) b o rfl
      have hy0 : wr.cell? ⟨b, o + k, none⟩ = some (d32 (dig ys k)) := (hB.cell (p := ⟨b, o + k, none⟩) hbg).trans (hc0 k hlt)
      clear hc0 hA hbg
      have hc := hO'.cell (i := i + k) (by rw [hT.1]; have := HI.out; omega)
      have hf := hO'.free (i + k)
      have hPb := mul_lt_big hd (Hy k)
      have hP : (d : Int) * (dig ys k : Int) = ((d * dig ys k : Nat) : Int) := rfl
      obtain ⟨P, hPe⟩ : ∃ P, P = d * dig ys k := ⟨_, rfl⟩
      rw [← hPe] at hP hPb
      have hyk : dig ys k < 4294967296 := Hy k
      have hpk : dig L' (i + k) < 4294967296 := hT.2.1 (i + k)
      have HPE := Lib.hid hPe
      clear hPe
      have hst := hT.step hd Hy (by have := HI.out; omega)
      rw [← HPE.out] at hst
      have HST := Lib.hid hst
      clear hst
      have hTc := Lib.hid hT
      clear hT
      go_wp2
      go_roundw
      case rel =>
        have e1 : ((cr : Int) + ((P : Int) + (dig L' (i + k) : Int))) % 4294967296 = (((cr + (P + dig L' (i + k))) % Bs : Nat) : Int) := by rw [Bs_eq]; omega
        have e2 : ((cr : Int) + ((P : Int) + (dig L' (i + k) : Int))) / 4294967296 = (((cr + (P + dig L' (i + k))) / Bs : Nat) : Int) := by rw [Bs_eq]; omega
        refine ⟨k + 1, _, _, by omega, by go_num, by rw [e2], HST.out, by rw [e1]; exact hO'.set_ _ _, hB.setCell (Nat.le_refl _) _, ?_⟩
        rw [← HS.out]; simp [World.setCell]
      case measure => simp [intOf]; omega
    · obtain rfl : k = n := by omega
      have hTc := Lib.hid hT
      clear hT
      go_wp2
      go_ret
      exact ⟨cr, L', ret_int (by omega), hTc.out, hO', hB, HS.out⟩

/-- After k rows of the product. -/
def MulAt (X Y lb k : Nat) (L : List Nat) : Prop := Ok L ∧ (∀ j, k + lb ≤ j → dig L j = 0) ∧ vt (dig L) (k + lb) = vt (dig (lim X)) k * Y
theorem mul_row {P Q part part' carry x Y v vx : Nat} (h : part' + Q * carry = part + x * Y) (h2 : v + P * part = vx * Y) : v + P * part' + P * Q * carry = (vx + P * x) * Y := by
  have : P * (part' + Q * carry) = P * (part + x * Y) := by rw [h]
  grind
theorem MulAt.step {X Y lb k cr : Nat} {L L' : List Nat} (h : MulAt X Y lb k L) (hlb : ln Y = lb) (hT : AddT L k (dig (lim X) k) (lim Y) lb cr L') (hk : k + lb < L.length) : MulAt X Y lb (k + 1) (L'.set (k + lb) cr) := by
  obtain ⟨hO, hz, he⟩ := h
  obtain ⟨hl, hO', hc, hj, ht⟩ := hT
  have hkl : k + lb < L'.length := by omega
  rw [val_eq_vt (Nat.le_of_eq hlb), val_lim] at ht
  refine ⟨hO'.set hkl hc, fun j hjj => ?_, ?_⟩
  · rw [dig_set hkl, if_neg (by omega), hj j (by omega)]; exact hz j (by omega)
  · rw [show k + 1 + lb = (k + lb) + 1 from by omega]
    show vt (dig (L'.set (k + lb) cr)) (k + lb) + Bs ^ (k + lb) * dig (L'.set (k + lb) cr) (k + lb) = _
    rw [vt_congr (e := dig L') (k + lb) (fun j hj2 => by rw [dig_set hkl, if_neg (by omega)]), dig_set hkl, if_pos rfl, vt_add, Nat.pow_add]
    rw [vt_add] at he
    rw [vt_congr (e := dig L) k (fun j hj2 => hj j (by omega))]
    exact mul_row ht he
theorem MulAt.fin {X Y lb k : Nat} {L : List Nat} (h : MulAt X Y lb k L) (h1 : ln X = k) (hl : L.length = k + lb) : val L = X * Y := by
  obtain ⟨_, _, he⟩ := h
  rw [val_eq_vt (Nat.le_of_eq h1), val_lim] at he
  unfold val; rw [hl]; exact he

set_option maxHeartbeats 1000000 in
theorem mul_any (w : World) (A : Option Addr) (n c : Nat) (xs : List Nat) (A' : Option Addr) (n' c' : Nat) (ys : List Nat) (h : Lm w A n c xs) (h' : Lm w A' n' c' ys) (hn : n ≤ 10000000000) (hn' : n' ≤ 10000000000) :
    Calls Tryd.prog 31 #[.slice A n c, .slice A' n' c'] w (Tells w (val xs * val ys) (n + n')) := by
  generalize hX : val xs = X
  generalize hY : val ys = Y
  have HX := Lib.hid hX
  have HY := Lib.hid hY
  clear hX hY
  go_enter Tryd.func31, Tryd.ntmps31
  go_wp2_with fail
  refine (cut_lm w A n c xs h).mono ?_
  rintro e w1 ⟨m, rfl, hm, hmn, rfl⟩
  rw [HX.out] at hm
  go_wp2_with fail
  refine (cut_lm w A' n' c' ys h').mono ?_
  rintro e w1 ⟨m', rfl, hm', hmn', rfl⟩
  rw [HY.out] at hm'
  have Hlen : Hid (ln X = m) := hm.len
  have Hlen' : Hid (ln Y = m') := hm'.len
  go_wp2_with
    (at_make
     refine wpList_make_u32 _ rfl _ _ rfl .i64 .i64 _ _ (m + m') rfl rfl ?_ ?_ ?_ ?_
     · omega
     · omega
     · omega
     intro w1 hown hb1 hs1)
  go_loopw [20] (fun ix wr => ∃ (k : Nat) (L : List Nat), k ≤ m ∧ ix = .int .i64 k ∧ L.length = m + m' ∧ Own wr w.heap.size L ∧ MulAt X Y m' k L ∧ Below w.heap.size w wr) (fun ix _ => m - (intOf ix).toNat)
  case atStart => exact ⟨0, _, Nat.zero_le _, rfl, by simp, hown, ⟨Ok.zeros _, fun j _ => dig_zeros _ _, by rw [vt_zero _ (fun j _ => dig_zeros _ _)]; simp [vt]⟩, hb1⟩
  case round =>
    obtain ⟨k, L, hk, rfl, hL0, hO, hS, hB⟩ := hrel
    have hL := Lib.hid hL0
    clear hL0 hown hb1 hs1
    have hlm := hm.bel hB
    have hlm' := hm'.bel hB
    by_cases hlt : k < m
    · obtain ⟨b, o, rfl, hb, hc0⟩ := hlm.at_ hlt
      have hx := hc0 k hlt
      clear hc0
      have hnm : m + m' ≤ 20000000000 := by omega
      go_wp2_with fail
      refine (addTimes_any wr w.heap.size k m' (m + m' - k) L A' c' (lim Y) (dig (lim X) k) hO hS.1 (by rw [hL.out]; omega) (by omega) hlm' (hm'.under) (ok_lim X k)).mono ?_
      rintro e w2 ⟨cr, L2, rfl, hT, hO2, hB2, hs2⟩
      have HSZ := Lib.hid hs2
      clear hs2
      have hl2 : L2.length = m + m' := by rw [hT.1]; exact hL.out
      have hc2 := hO2.cell (i := k + m') (by rw [hl2]; omega)
      have hf2 := hO2.free (k + m')
      have HL2 := Lib.hid hl2
      have hst := Lib.hid (hS.step Hlen'.out hT (by rw [hL.out]; omega))
      clear hl2 hT
      go_wp2
      go_roundw
      case rel => exact ⟨k + 1, _, by omega, by go_num, by simpa using HL2.out, hO2.set_ _ _, hst.out, (hB.trans hB2).setCell (Nat.le_refl _) _⟩
      case measure => simp [intOf]; omega
    · obtain rfl : k = m := by omega
      have hv := hS.fin Hlen.out hL.out
      have HV := Lib.hid hv
      have hl := hO.lm hS.1 (by rw [hL.out]; omega)
      clear hv
      rw [hL.out] at hl
      go_wp2_with fail
      refine (cut_lm _ _ _ _ _ hl).mono ?_
      rintro e w' ⟨r, rfl, hr, hrn, rfl⟩
      go_wp2
      go_ret
      exact ⟨_, r, _, rfl, by rw [HV.out] at hr; exact hr, by omega, hB⟩
end Go.Proofs.YtopkndkicdgafaaDoor
