/- Contracts: divLimb, takeTimes, putBack. -/
import Derived.Test.YtgmencbhkkcpiaaDoorLb
import Derived.Test.YtgmencbhkkcpiaaDoorKn
namespace Go.Proofs.YtgmencbhkkcpiaaDoor
open Go.RowKit

/-- division by one digit: the digits from k on are divided. -/
def LimbAt (X b k r : Nat) (L : List Nat) : Prop := Ok L ∧ r < b ∧ val (L.drop k) * b + r = val ((lim X).drop k) ∧ ∀ j, j < k → dig L j = 0
theorem limb_step {q b r X x q' r' B : Nat} (h : q * b + r = X) (h2 : q' * b + r' = r * B + x) : (q' + B * q) * b + r' = x + B * X := by
  have : B * (q * b + r) = B * X := by rw [h]
  grind
theorem drop_set {L : List Nat} {k v : Nat} : (L.set k v).drop (k + 1) = L.drop (k + 1) := by
  rw [List.drop_set, if_pos (by omega)]
theorem LimbAt.step {X b k r : Nat} {L : List Nat} (h : LimbAt X b (k + 1) r L) (hk : k < L.length) :
    LimbAt X b k ((r * Bs + dig (lim X) k) % b) (L.set k ((r * Bs + dig (lim X) k) / b)) := by
  obtain ⟨hO, hr, he, hz⟩ := h
  have hb0 : 0 < b := by omega
  have hx := ok_lim X k
  have hq : (r * Bs + dig (lim X) k) / b < Bs := by
    rw [Nat.div_lt_iff_lt_mul hb0]
    have : (r + 1) * Bs ≤ b * Bs := Nat.mul_le_mul hr (Nat.le_refl _)
    rw [Nat.add_mul, Nat.one_mul, Nat.mul_comm b] at this; omega
  refine ⟨hO.set hk hq, Nat.mod_lt _ hb0, ?_, fun j hj => ?_⟩
  · rw [val_drop_succ, val_drop_succ (lim X) k, drop_set, dig_set hk, if_pos rfl]
    exact limb_step he (Nat.div_add_mod' _ _)
  · rw [dig_set hk, if_neg (by omega)]; exact hz j (by omega)

/-- After k digits of 'part -= d * ys' (part: L from i on): the carry cr and the borrow bo. -/
def TakeT (L : List Nat) (i d : Nat) (ys : List Nat) (k cr bo : Nat) (L' : List Nat) : Prop :=
  L'.length = L.length ∧ Ok L' ∧ cr < Bs ∧ bo ≤ 1 ∧ (∀ j, j < i ∨ i + k ≤ j → dig L' j = dig L j) ∧
    vt (fun j => dig L' (i + j)) k + d * vt (dig ys) k = vt (fun j => dig L (i + j)) k + Bs ^ k * (cr + bo)
theorem take_step {B v' v P d y vy p p' lo hi c bo bo' : Nat} (h : v' + d * vy = v + P * (c + bo)) (h2 : c + d * y = lo + B * hi) (h3 : p' + lo + bo = p + B * bo') :
    v' + P * p' + d * (vy + P * y) = v + P * p + P * B * (hi + bo') := by
  have e2 : P * (c + d * y) = P * (lo + B * hi) := by rw [h2]
  have e3 : P * (p' + lo + bo) = P * (p + B * bo') := by rw [h3]
  grind
theorem sub_digit {x y d : Nat} (hx : x < Bs) (hy : y < Bs) (hd : d ≤ 1) : (x + Bs - y - d) % Bs + y + d = x + Bs * brw x y d := by
  unfold brw
  rw [Bs_eq] at *
  split <;> omega
theorem TakeT.step {L L' ys : List Nat} {i d k cr bo : Nat} (h : TakeT L i d ys k cr bo L') (hd : d < Bs) (hy : Ok ys) (hk : i + k < L.length) :
    TakeT L i d ys (k + 1) ((cr + d * dig ys k) / Bs) (brw (dig L' (i + k)) ((cr + d * dig ys k) % Bs) bo) (L'.set (i + k) ((dig L' (i + k) + Bs - (cr + d * dig ys k) % Bs - bo) % Bs)) := by
  obtain ⟨hl, hO, hc, hb, hj, he⟩ := h
  have hkl : i + k < L'.length := by omega
  have hP := mul_lt_big hd (hy k)
  refine ⟨by simpa using hl, hO.set hkl (Nat.mod_lt _ Bs_pos), ?_, brw_le _ _ _, fun j hjj => ?_, ?_⟩
  · generalize d * dig ys k = P at *
    rw [Nat.div_lt_iff_lt_mul Bs_pos]
    rw [Bs_eq] at *; omega
  · rw [dig_set hkl, if_neg (by omega)]; exact hj j (by omega)
  · show vt (fun j => dig (L'.set (i + k) _) (i + j)) k + Bs ^ k * dig (L'.set (i + k) _) (i + k) + _ = _
    rw [vt_congr (e := fun j => dig L' (i + j)) k (fun j hj => by show dig (L'.set _ _) (i + j) = dig L' (i + j); rw [dig_set hkl, if_neg (by omega)]), dig_set hkl, if_pos rfl, Nat.pow_succ]
    have h3 := sub_digit (x := dig L' (i + k)) (y := (cr + d * dig ys k) % Bs) (d := bo) (hO _) (Nat.mod_lt _ Bs_pos) hb
    show _ + d * (vt (dig ys) k + Bs ^ k * dig ys k) = vt (fun j => dig L (i + j)) k + Bs ^ k * dig L (i + k) + _
    rw [← hj (i + k) (by omega)]
    exact take_step he (Nat.mod_add_div _ _).symm h3
/-- the whole of it: part's topmost digit has taken the last carry. -/
def Taken (L : List Nat) (i d : Nat) (ys : List Nat) (n bo : Nat) (L' : List Nat) : Prop :=
  L'.length = L.length ∧ Ok L' ∧ bo ≤ 1 ∧ (∀ j, j < i ∨ i + n + 1 ≤ j → dig L' j = dig L j) ∧
    vt (fun j => dig L' (i + j)) (n + 1) + d * vt (dig ys) n = vt (fun j => dig L (i + j)) (n + 1) + Bs ^ (n + 1) * bo
theorem taken_step {B v' v P dv p p' c bo bo' : Nat} (h : v' + dv = v + P * (c + bo)) (h3 : p' + c + bo = p + B * bo') : v' + P * p' + dv = v + P * p + P * B * bo' := by
  have e3 : P * (p' + c + bo) = P * (p + B * bo') := by rw [h3]
  grind
theorem TakeT.last {L L' ys : List Nat} {i d n cr bo : Nat} (h : TakeT L i d ys n cr bo L') (hk : i + n < L.length) :
    Taken L i d ys n (brw (dig L' (i + n)) cr bo) (L'.set (i + n) ((dig L' (i + n) + Bs - cr - bo) % Bs)) := by
  obtain ⟨hl, hO, hc, hb, hj, he⟩ := h
  have hkl : i + n < L'.length := by omega
  refine ⟨by simpa using hl, hO.set hkl (Nat.mod_lt _ Bs_pos), brw_le _ _ _, fun j hjj => ?_, ?_⟩
  · rw [dig_set hkl, if_neg (by omega)]; exact hj j (by omega)
  · show vt (fun j => dig (L'.set (i + n) _) (i + j)) n + Bs ^ n * dig (L'.set (i + n) _) (i + n) + _ = vt _ n + Bs ^ n * dig L (i + n) + _
    rw [vt_congr (e := fun j => dig L' (i + j)) n (fun j hj => by show dig (L'.set _ _) (i + j) = dig L' (i + j); rw [dig_set hkl, if_neg (by omega)]), dig_set hkl, if_pos rfl, Nat.pow_succ]
    have h3 := sub_digit (x := dig L' (i + n)) (y := cr) (d := bo) (hO _) hc hb
    rw [← hj (i + n) (by omega)]
    exact taken_step he h3

/-- After k digits of 'part += ys'. -/
def BackT (L : List Nat) (i : Nat) (ys : List Nat) (k cr : Nat) (L' : List Nat) : Prop :=
  L'.length = L.length ∧ Ok L' ∧ cr ≤ 1 ∧ (∀ j, j < i ∨ i + k ≤ j → dig L' j = dig L j) ∧
    vt (fun j => dig L' (i + j)) k + Bs ^ k * cr = vt (fun j => dig L (i + j)) k + vt (dig ys) k
theorem BackT.step {L L' ys : List Nat} {i k cr : Nat} (h : BackT L i ys k cr L') (hy : Ok ys) (hk : i + k < L.length) :
    BackT L i ys (k + 1) ((dig L' (i + k) + dig ys k + cr) / Bs) (L'.set (i + k) ((dig L' (i + k) + dig ys k + cr) % Bs)) := by
  obtain ⟨hl, hO, hc, hj, he⟩ := h
  have hkl : i + k < L'.length := by omega
  have h1 := hO (i + k)
  have h2 := hy k
  refine ⟨by simpa using hl, hO.set hkl (Nat.mod_lt _ Bs_pos), ?_, fun j hjj => ?_, ?_⟩
  · rw [Bs_eq] at *; omega
  · rw [dig_set hkl, if_neg (by omega)]; exact hj j (by omega)
  · show vt (fun j => dig (L'.set (i + k) _) (i + j)) k + Bs ^ k * dig (L'.set (i + k) _) (i + k) + _ = vt _ k + Bs ^ k * dig L (i + k) + (vt (dig ys) k + Bs ^ k * dig ys k)
    rw [vt_congr (e := fun j => dig L' (i + j)) k (fun j hj => by show dig (L'.set _ _) (i + j) = dig L' (i + j); rw [dig_set hkl, if_neg (by omega)]), dig_set hkl, if_pos rfl, Nat.pow_succ, ← hj (i + k) (by omega)]
    exact sum_step he (Nat.mod_add_div _ _)
def Backed (L : List Nat) (i : Nat) (ys : List Nat) (n : Nat) (L' : List Nat) : Prop :=
  L'.length = L.length ∧ Ok L' ∧ (∀ j, j < i ∨ i + n + 1 ≤ j → dig L' j = dig L j) ∧
    vt (fun j => dig L' (i + j)) (n + 1) = (vt (fun j => dig L (i + j)) (n + 1) + vt (dig ys) n) % Bs ^ (n + 1)
theorem back_last {v' v P p c y q r B : Nat} (h : v' + P * c = v + y) (h2 : p + c = r + B * q) : v + P * p + y = (v' + P * r) + P * B * q := by
  have e : P * (p + c) = P * (r + B * q) := by rw [h2]
  grind
theorem BackT.last {L L' ys : List Nat} {i n cr : Nat} (h : BackT L i ys n cr L') (hk : i + n < L.length) :
    Backed L i ys n (L'.set (i + n) ((dig L' (i + n) + cr) % Bs)) := by
  obtain ⟨hl, hO, hc, hj, he⟩ := h
  have hkl : i + n < L'.length := by omega
  have hO2 : Ok (L'.set (i + n) ((dig L' (i + n) + cr) % Bs)) := hO.set hkl (Nat.mod_lt _ Bs_pos)
  refine ⟨by simpa using hl, hO2, fun j hjj => ?_, ?_⟩
  · rw [dig_set hkl, if_neg (by omega)]; exact hj j (by omega)
  · have hlt : vt (fun j => dig (L'.set (i + n) ((dig L' (i + n) + cr) % Bs)) (i + j)) (n + 1) < Bs ^ (n + 1) := vt_lt _ fun j _ => hO2 _
    have e : vt (fun j => dig L (i + j)) (n + 1) + vt (dig ys) n = vt (fun j => dig (L'.set (i + n) ((dig L' (i + n) + cr) % Bs)) (i + j)) (n + 1) + Bs ^ (n + 1) * ((dig L' (i + n) + cr) / Bs) := by
      show vt _ n + Bs ^ n * dig L (i + n) + _ = vt (fun j => dig (L'.set (i + n) _) (i + j)) n + Bs ^ n * dig (L'.set (i + n) _) (i + n) + _
      rw [vt_congr (d := fun j => dig (L'.set (i + n) ((dig L' (i + n) + cr) % Bs)) (i + j)) (e := fun j => dig L' (i + j)) n (fun j hj => by show dig (L'.set _ _) (i + j) = dig L' (i + j); rw [dig_set hkl, if_neg (by omega)]), dig_set hkl, if_pos rfl, Nat.pow_succ, ← hj (i + n) (by omega)]
      exact back_last he (Nat.mod_add_div _ _).symm
    rw [e, Nat.add_mul_mod_self_left, Nat.mod_eq_of_lt hlt]

end Go.Proofs.YtgmencbhkkcpiaaDoor
/- Long division: plain facts on its rounds. -/
namespace Go.Proofs.YtgmencbhkkcpiaaDoor

/-- the digits from j on are divided: left has what is left, quo the digits of the quotient. -/
structure DivInv (A0 V n j : Nat) (left quo : List Nat) : Prop where
  okl : Ok left
  okq : Ok quo
  zero : ∀ i, i < j → dig quo i = 0
  sum : val left + Bs ^ j * val (quo.drop j) * V = A0
  rest : val (left.drop j) < V
  small : V < Bs ^ n
/-- what a digit is divided out of. -/
def part (left : List Nat) (i n : Nat) : Nat := vt (fun t => dig left (i + t)) (n + 1)
theorem dig_zero_of_lt {xs : List Nat} (h : Ok xs) {j n : Nat} (hv : val (xs.drop j) < Bs ^ n) {t : Nat} (ht : j + n ≤ t) : dig xs t = 0 := by
  obtain ⟨s, rfl⟩ : ∃ s, t = j + s := ⟨t - j, by omega⟩
  rw [← dig_drop, dig_val (h.drop j), Nat.div_eq_of_lt, Nat.zero_mod]
  exact Nat.lt_of_lt_of_le hv (Nat.pow_le_pow_right Bs_pos (by omega))
theorem part_eq {left : List Nat} {i n : Nat} (hz : ∀ t, i + n + 1 ≤ t → dig left t = 0) : part left i n = val (left.drop i) := by
  unfold part
  rw [vt_congr (e := dig (left.drop i)) (n + 1) (fun t _ => (dig_drop left i t).symm)]
  have h := val_split (left.drop i) (n + 1)
  have h0 : val ((left.drop i).drop (n + 1)) = 0 := vt_zero _ fun t _ => by
    rw [dig_drop, dig_drop]; exact hz _ (by omega)
  rw [h0] at h; omega
variable {A0 V n i : Nat} {left quo : List Nat}
theorem DivInv.zeros (h : DivInv A0 V n (i + 1) left quo) : ∀ t, i + n + 1 ≤ t → dig left t = 0 := fun t ht =>
  dig_zero_of_lt h.okl (Nat.lt_trans h.rest h.small) (by omega)
theorem DivInv.part_val (h : DivInv A0 V n (i + 1) left quo) : part left i n = val (left.drop i) := part_eq h.zeros
theorem DivInv.part_lt (h : DivInv A0 V n (i + 1) left quo) : part left i n < Bs * V := by
  rw [h.part_val, val_drop_succ]
  have h1 := h.okl i
  have h2 : Bs * (val (left.drop (i + 1)) + 1) ≤ Bs * V := Nat.mul_le_mul (Nat.le_refl _) h.rest
  rw [Nat.mul_add, Nat.mul_one] at h2; omega
/-- a round: the rest of the part is laid, and the digit. -/
theorem DivInv.next (h : DivInv A0 V n (i + 1) left quo) {left' : List Nat} (hi : i < quo.length) (hO : Ok left') (hj : ∀ t, t < i ∨ i + n + 1 ≤ t → dig left' t = dig left t)
    (hp : part left' i n = part left i n % V) : DivInv A0 V n i left' (quo.set i (part left i n / V)) := by
  have hV0 : 0 < V := by have := h.rest; omega
  have hz : ∀ t, i + n + 1 ≤ t → dig left' t = 0 := fun t ht => by rw [hj t (.inr ht)]; exact h.zeros t ht
  have hp1 := h.part_val
  have hp2 := part_eq hz
  have hq : part left i n / V < Bs := Nat.div_lt_of_lt_mul (by rw [Nat.mul_comm]; exact h.part_lt)
  refine ⟨hO, h.okq.set hi hq, fun t ht => ?_, ?_, ?_, h.small⟩
  · rw [dig_set hi, if_neg (by omega)]; exact h.zero t (by omega)
  · have e1 := val_split left i
    have e2 := val_split left' i
    rw [vt_congr (e := dig left) i (fun t ht => hj t (.inl ht)), ← hp2, hp] at e2
    rw [← hp1] at e1
    have e3 : val ((quo.set i (part left i n / V)).drop i) = part left i n / V + Bs * val (quo.drop (i + 1)) := by
      rw [val_drop_succ, dig_set hi, if_pos rfl, drop_set]
    rw [e3, ← h.sum, e1, e2, Nat.pow_succ]
    have e4 := Nat.div_add_mod' (part left i n) V
    generalize part left i n / V = q at *
    generalize part left i n % V = r at *
    rw [← e4]
    generalize Bs ^ i = E
    generalize Bs = B
    generalize val (List.drop (i + 1) quo) = u
    grind
  · rw [← hp2, hp]; exact Nat.mod_lt _ hV0
theorem taken_zero' {q V r T d P : Nat} (hP : q * V + r = P) (hr : r < V) (h : T + d * V = P) (hg : q ≤ d) : d = q ∧ T = r := by
  rcases Nat.lt_or_ge q d with hq | hq
  · have : (q + 1) * V ≤ d * V := Nat.mul_le_mul hq (Nat.le_refl _)
    rw [Nat.add_mul, Nat.one_mul] at this; omega
  · obtain rfl : d = q := by omega
    exact ⟨rfl, by omega⟩
theorem taken_zero {P V T d N : Nat} (hV : 0 < V) (h : T + d * V = P + N * 0) (hg : P / V ≤ d) : d = P / V ∧ T = P % V := by
  rw [Nat.mul_zero, Nat.add_zero] at h
  exact taken_zero' (Nat.div_add_mod' P V) (Nat.mod_lt _ hV) h hg
/-- the end: quotient and rest of the shifted numbers are those of the numbers, and shifted. -/
theorem DivInv.fin {a b S : Nat} (h : DivInv (a * S) (b * S) n 0 left quo) : val quo = a / b ∧ val left / S = a % b ∧ val left < b * S := by
  have hs := h.sum
  have hr := h.rest
  rw [List.drop_zero] at hs hr
  rw [Nat.pow_zero, Nat.one_mul] at hs
  have hV : 0 < b * S := by omega
  have hb : 0 < b := Nat.pos_of_mul_pos_right hV
  have hS : 0 < S := Nat.pos_of_mul_pos_left hV
  have h1 : val quo = a * S / (b * S) := by
    rw [← hs, Nat.mul_comm (val quo), Nat.add_mul_div_left _ _ hV, Nat.div_eq_of_lt hr, Nat.zero_add]
  have h2 : val left = a * S % (b * S) := by
    rw [← hs, Nat.mul_comm (val quo), Nat.add_mul_mod_self_left, Nat.mod_eq_of_lt hr]
  rw [Nat.mul_div_mul_right _ _ hS] at h1
  rw [Nat.mul_mod_mul_right] at h2
  refine ⟨h1, ?_, hr⟩
  rw [h2, Nat.mul_div_cancel _ hS]
/-- the beginning. -/
theorem DivInv.start {a b S la : Nat} (ha : a < Bs ^ la) (hln : n ≤ la) (hS : 2 * S ≤ Bs) (hV1 : Bs ^ n ≤ 2 * (b * S)) (hV2 : b * S < Bs ^ n) (hl : Ok left) (hv : val left = a * S) (qn : Nat) :
    DivInv (a * S) (b * S) n (la - n + 1) left (List.replicate qn 0) where
  okl := hl
  okq := Ok.zeros _
  zero := fun i _ => dig_zeros _ _
  sum := by
    have : val ((List.replicate qn 0).drop (la - n + 1)) = 0 := vt_zero _ fun t _ => by rw [dig_drop, dig_zeros]
    rw [this, Nat.mul_zero, Nat.zero_mul, hv]; rfl
  rest := by
    rw [val_drop hl, hv, Nat.div_lt_iff_lt_mul (Nat.pow_pos Bs_pos)]
    have h1 : a * S < Bs ^ la * S := by
      apply Nat.mul_lt_mul_of_pos_right ha
      apply Nat.pos_of_ne_zero
      rintro rfl
      rw [Nat.mul_zero] at hV1
      have : 0 < Bs ^ n := Nat.pow_pos Bs_pos
      omega
    have h2 : Bs ^ la * S * 2 ≤ Bs ^ la * Bs := by
      rw [Nat.mul_assoc]; exact Nat.mul_le_mul (Nat.le_refl _) (by omega)
    have h3 : Bs ^ n * Bs ^ (la - n + 1) ≤ 2 * (b * S) * Bs ^ (la - n + 1) := Nat.mul_le_mul hV1 (Nat.le_refl _)
    rw [← Nat.pow_add, show n + (la - n + 1) = la + 1 from by omega, Nat.pow_succ, Nat.mul_assoc] at h3
    generalize Bs ^ la * S = x at *
    generalize b * S * Bs ^ (la - n + 1) = y at *
    omega
  small := hV2
/-- a round whose guess was right. -/
theorem DivInv.right {m' : Nat} {d : Nat} {ys L' : List Nat} (h : DivInv A0 V n (i + 1) left quo) (hV : val ys = V) (hl : ys.length = n) (hT : Taken left i d ys n 0 L') (hg : part left i n / V ≤ d) (hi : i < m') (hq : quo.length = m') :
    DivInv A0 V n i L' (quo.set i d) ∧ L'.length = left.length := by
  obtain ⟨h1, h2, h3, h4, h5⟩ := hT
  rw [val_eq_vt (Nat.le_of_eq hl), hV] at h5
  obtain ⟨h6, h7⟩ := taken_zero (Nat.lt_of_le_of_lt (Nat.zero_le _) h.rest) h5 hg
  have := h.next (left' := L') (by omega) h2 h4 h7
  refine ⟨?_, h1⟩
  have e : d = part left i n / V := h6
  rw [e]; exact this
end Go.Proofs.YtgmencbhkkcpiaaDoor
/- Contracts: divLong, Div. -/
namespace Go.Proofs.YtgmencbhkkcpiaaDoor
open Go.RowKit

def TellsDiv (w : World) (M N len len' : Nat) (e : Ending) (w' : World) : Prop :=
  (N = 0 ∧ e = .returned (.tuple #[.slice none 0 0, .slice none 0 0, .bool false]) ∧ Below w.heap.size w w') ∨
  (N ≠ 0 ∧ ∃ A m c A' m' c', e = .returned (.tuple #[.slice A m c, .slice A' m' c', .bool true]) ∧ Lm w' A m c (lim (M / N)) ∧ Lm w' A' m' c' (lim (M % N)) ∧ m ≤ len ∧ m' ≤ max len len' ∧ Below w.heap.size w w')

end Go.Proofs.YtgmencbhkkcpiaaDoor
