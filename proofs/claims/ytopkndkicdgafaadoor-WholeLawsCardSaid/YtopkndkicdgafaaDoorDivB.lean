/- Long division: plain facts on its rounds. -/
import Derived.Test.YtopkndkicdgafaaDoorDivA
import Derived.Test.YtopkndkicdgafaaDoorKnuth
namespace Go.Proofs.YtopkndkicdgafaaDoor

/-- the digits from j on are divided: left has what is left, quo the digits of the quotient. -/
structure DivInv (A0 V n j : Nat) (left quo : List Nat) : Prop where
  okl : Ok left
  okq : Ok quo
  zero : ∀ i, i < j → dig quo i = 0
  sum : val left + Bs ^ j * val (quo.drop j) * V = A0
  rest : val (left.drop j) < V
  small : V < Bs ^ n
/-- what a digit is divided out of. -/
def part (left : List Nat) (i n : Nat) : Nat := vt (fun t => dig left (i + t)) (n + 1)
theorem dig_zero_of_lt {xs : List Nat} (h : Ok xs) {j n : Nat} (hv : val (xs.drop j) < Bs ^ n) {t : Nat} (ht : j + n ≤ t) : dig xs t = 0 := by
  obtain ⟨s, rfl⟩ : ∃ s, t = j + s := ⟨t - j, by omega⟩
  rw [← dig_drop, dig_val (h.drop j), Nat.div_eq_of_lt, Nat.zero_mod]
  exact Nat.lt_of_lt_of_le hv (Nat.pow_le_pow_right Bs_pos (by omega))
theorem part_eq {left : List Nat} {i n : Nat} (hz : ∀ t, i + n + 1 ≤ t → dig left t = 0) : part left i n = val (left.drop i) := by
  unfold part
  rw [vt_congr (e := dig (left.drop i)) (n + 1) (fun t _ => (dig_drop left i t).symm)]
  have h := val_split (left.drop i) (n + 1)
  have h0 : val ((left.drop i).drop (n + 1)) = 0 := vt_zero _ fun t _ => by
    rw [dig_drop, dig_drop]; exact hz _ (by omega)
  rw [h0] at h; omega
variable {A0 V n i : Nat} {left quo : List Nat}
theorem DivInv.zeros (h : DivInv A0 V n (i + 1) left quo) : ∀ t, i + n + 1 ≤ t → dig left t = 0 := fun t ht =>
  dig_zero_of_lt h.okl (Nat.lt_trans h.rest h.small) (by omega)
theorem DivInv.part_val (h : DivInv A0 V n (i + 1) left quo) : part left i n = val (left.drop i) := part_eq h.zeros
theorem DivInv.part_lt (h : DivInv A0 V n (i + 1) left quo) : part left i n < Bs * V := by
  rw [h.part_val, val_drop_succ]
  have h1 := h.okl i
  have h2 : Bs * (val (left.drop (i + 1)) + 1) ≤ Bs * V := Nat.mul_le_mul (Nat.le_refl _) h.rest
  rw [Nat.mul_add, Nat.mul_one] at h2; omega
/-- three digits and what is below. -/
theorem vt_top3 (d : Nat → Nat) (m : Nat) : vt d (m + 3) = ((d (m + 2) * Bs + d (m + 1)) * Bs + d m) * Bs ^ m + vt d m := by
  show vt d m + Bs ^ m * d m + Bs ^ (m + 1) * d (m + 1) + Bs ^ (m + 2) * d (m + 2) = _
  rw [show Bs ^ (m + 2) = Bs ^ m * Bs * Bs from by rw [Nat.pow_succ, Nat.pow_succ], Nat.pow_succ]
  generalize Bs ^ m = E
  generalize Bs = B
  grind
theorem vt_top2 (d : Nat → Nat) (m : Nat) : vt d (m + 2) = (d (m + 1) * Bs + d m) * Bs ^ m + vt d m := by
  show vt d m + Bs ^ m * d m + Bs ^ (m + 1) * d (m + 1) = _
  rw [Nat.pow_succ]
  generalize Bs ^ m = E
  generalize Bs = B
  grind
theorem DivInv.kn {m : Nat} (h : DivInv A0 V (m + 2) (i + 1) left quo) {ys : List Nat} (hy : Ok ys) (hl : ys.length = m + 2) (hV : val ys = V) (ht : Bs ≤ 2 * dig ys (m + 1)) :
    Kn Bs (Bs ^ m) (dig ys (m + 1)) (dig ys m) (vt (dig ys) m) (dig left (i + (m + 2))) (dig left (i + (m + 1))) (dig left (i + m)) (vt (fun t => dig left (i + t)) m) V (part left i (m + 2)) where
  hV := by rw [← hV, ← vt_top2, val_eq_vt (Nat.le_of_eq hl)]
  hP := vt_top3 (fun t => dig left (i + t)) m
  rv := vt_lt _ fun t _ => hy t
  rp := vt_lt _ fun t _ => h.okl _
  v2 := hy _
  p1 := h.okl _
  p2 := h.okl _
  v1 := ht
  lt := h.part_lt
theorem DivInv.kn_at {m n1 n : Nat} (e1 : m + 1 = n1) (e2 : m + 2 = n) (h : DivInv A0 V n (i + 1) left quo) {ys : List Nat} (hy : Ok ys) (hl : ys.length = n) (hV : val ys = V) (ht : Bs ≤ 2 * dig ys (n - 1)) :
    Kn Bs (Bs ^ m) (dig ys n1) (dig ys m) (vt (dig ys) m) (dig left (i + n)) (dig left (i + n1)) (dig left (i + m)) (vt (fun t => dig left (i + t)) m) V (part left i n) := by
  subst e1 e2
  exact h.kn hy hl hV ht
/-- a round: the rest of the part is laid, and the digit. -/
theorem DivInv.next (h : DivInv A0 V n (i + 1) left quo) {left' : List Nat} (hi : i < quo.length) (hO : Ok left') (hj : ∀ t, t < i ∨ i + n + 1 ≤ t → dig left' t = dig left t)
    (hp : part left' i n = part left i n % V) : DivInv A0 V n i left' (quo.set i (part left i n / V)) := by
  have hV0 : 0 < V := by have := h.rest; omega
  have hz : ∀ t, i + n + 1 ≤ t → dig left' t = 0 := fun t ht => by rw [hj t (.inr ht)]; exact h.zeros t ht
  have hp1 := h.part_val
  have hp2 := part_eq hz
  have hq : part left i n / V < Bs := Nat.div_lt_of_lt_mul (by rw [Nat.mul_comm]; exact h.part_lt)
  refine ⟨hO, h.okq.set hi hq, fun t ht => ?_, ?_, ?_, h.small⟩
  · rw [dig_set hi, if_neg (by omega)]; exact h.zero t (by omega)
  · have e1 := val_split left i
    have e2 := val_split left' i
    rw [vt_congr (e := dig left) i (fun t ht => hj t (.inl ht)), ← hp2, hp] at e2
    rw [← hp1] at e1
    have e3 : val ((quo.set i (part left i n / V)).drop i) = part left i n / V + Bs * val (quo.drop (i + 1)) := by
      rw [val_drop_succ, dig_set hi, if_pos rfl, drop_set]
    rw [e3, ← h.sum, e1, e2, Nat.pow_succ]
    have e4 := Nat.div_add_mod' (part left i n) V
    generalize part left i n / V = q at *
    generalize part left i n % V = r at *
    rw [← e4]
    generalize Bs ^ i = E
    generalize Bs = B
    generalize val (List.drop (i + 1) quo) = u
    grind
  · rw [← hp2, hp]; exact Nat.mod_lt _ hV0
theorem taken_zero' {q V r T d P : Nat} (hP : q * V + r = P) (hr : r < V) (h : T + d * V = P) (hg : q ≤ d) : d = q ∧ T = r := by
  rcases Nat.lt_or_ge q d with hq | hq
  · have : (q + 1) * V ≤ d * V := Nat.mul_le_mul hq (Nat.le_refl _)
    rw [Nat.add_mul, Nat.one_mul] at this; omega
  · obtain rfl : d = q := by omega
    exact ⟨rfl, by omega⟩
theorem taken_one' {q V r T d P N : Nat} (hP : q * V + r = P) (h : T + d * V = P + N) (hT : T < N) (hg : d ≤ q + 1) (hd : q ≤ d) : d = q + 1 ∧ T + V = r + N := by
  rcases Nat.lt_or_ge q d with hq | hq
  · obtain rfl : d = q + 1 := by omega
    rw [Nat.add_mul, Nat.one_mul] at h
    exact ⟨rfl, by omega⟩
  · obtain rfl : d = q := by omega
    omega
theorem taken_zero {P V T d N : Nat} (hV : 0 < V) (h : T + d * V = P + N * 0) (hg : P / V ≤ d) : d = P / V ∧ T = P % V := by
  rw [Nat.mul_zero, Nat.add_zero] at h
  exact taken_zero' (Nat.div_add_mod' P V) (Nat.mod_lt _ hV) h hg
theorem taken_one {P V T d N : Nat} (hV : 0 < V) (hVN : V ≤ N) (h : T + d * V = P + N * 1) (hT : T < N) (hg : d ≤ P / V + 1) (hd : P / V ≤ d) : d = P / V + 1 ∧ (T + V) % N = P % V := by
  rw [Nat.mul_one] at h
  obtain ⟨h1, h2⟩ := taken_one' (Nat.div_add_mod' P V) h hT hg hd
  refine ⟨h1, ?_⟩
  rw [h2, Nat.add_mod_right, Nat.mod_eq_of_lt (Nat.lt_of_lt_of_le (Nat.mod_lt _ hV) hVN)]
/-- the end: quotient and rest of the shifted numbers are those of the numbers, and shifted. -/
theorem DivInv.fin {a b S : Nat} (h : DivInv (a * S) (b * S) n 0 left quo) : val quo = a / b ∧ val left / S = a % b ∧ val left < b * S := by
  have hs := h.sum
  have hr := h.rest
  rw [List.drop_zero] at hs hr
  rw [Nat.pow_zero, Nat.one_mul] at hs
  have hV : 0 < b * S := by omega
  have hb : 0 < b := Nat.pos_of_mul_pos_right hV
  have hS : 0 < S := Nat.pos_of_mul_pos_left hV
  have h1 : val quo = a * S / (b * S) := by
    rw [← hs, Nat.mul_comm (val quo), Nat.add_mul_div_left _ _ hV, Nat.div_eq_of_lt hr, Nat.zero_add]
  have h2 : val left = a * S % (b * S) := by
    rw [← hs, Nat.mul_comm (val quo), Nat.add_mul_mod_self_left, Nat.mod_eq_of_lt hr]
  rw [Nat.mul_div_mul_right _ _ hS] at h1
  rw [Nat.mul_mod_mul_right] at h2
  refine ⟨h1, ?_, hr⟩
  rw [h2, Nat.mul_div_cancel _ hS]
/-- the beginning. -/
theorem DivInv.start {a b S la : Nat} (ha : a < Bs ^ la) (hln : n ≤ la) (hS : 2 * S ≤ Bs) (hV1 : Bs ^ n ≤ 2 * (b * S)) (hV2 : b * S < Bs ^ n) (hl : Ok left) (hv : val left = a * S) (qn : Nat) :
    DivInv (a * S) (b * S) n (la - n + 1) left (List.replicate qn 0) where
  okl := hl
  okq := Ok.zeros _
  zero := fun i _ => dig_zeros _ _
  sum := by
    have : val ((List.replicate qn 0).drop (la - n + 1)) = 0 := vt_zero _ fun t _ => by rw [dig_drop, dig_zeros]
    rw [this, Nat.mul_zero, Nat.zero_mul, hv]; rfl
  rest := by
    rw [val_drop hl, hv, Nat.div_lt_iff_lt_mul (Nat.pow_pos Bs_pos)]
    have h1 : a * S < Bs ^ la * S := by
      apply Nat.mul_lt_mul_of_pos_right ha
      apply Nat.pos_of_ne_zero
      rintro rfl
      rw [Nat.mul_zero] at hV1
      have : 0 < Bs ^ n := Nat.pow_pos Bs_pos
      omega
    have h2 : Bs ^ la * S * 2 ≤ Bs ^ la * Bs := by
      rw [Nat.mul_assoc]; exact Nat.mul_le_mul (Nat.le_refl _) (by omega)
    have h3 : Bs ^ n * Bs ^ (la - n + 1) ≤ 2 * (b * S) * Bs ^ (la - n + 1) := Nat.mul_le_mul hV1 (Nat.le_refl _)
    rw [← Nat.pow_add, show n + (la - n + 1) = la + 1 from by omega, Nat.pow_succ, Nat.mul_assoc] at h3
    generalize Bs ^ la * S = x at *
    generalize b * S * Bs ^ (la - n + 1) = y at *
    omega
  small := hV2
/-- a round whose guess was right. -/
theorem DivInv.right {m' : Nat} {d : Nat} {ys L' : List Nat} (h : DivInv A0 V n (i + 1) left quo) (hV : val ys = V) (hl : ys.length = n) (hT : Taken left i d ys n 0 L') (hg : part left i n / V ≤ d) (hi : i < m') (hq : quo.length = m') :
    DivInv A0 V n i L' (quo.set i d) ∧ L'.length = left.length := by
  obtain ⟨h1, h2, h3, h4, h5⟩ := hT
  rw [val_eq_vt (Nat.le_of_eq hl), hV] at h5
  obtain ⟨h6, h7⟩ := taken_zero (Nat.lt_of_le_of_lt (Nat.zero_le _) h.rest) h5 hg
  have := h.next (left' := L') (by omega) h2 h4 h7
  refine ⟨?_, h1⟩
  have e : d = part left i n / V := h6
  rw [e]; exact this
/-- a round whose guess was one too great. -/
theorem DivInv.wrong {m' : Nat} {d : Nat} {ys L' L'' : List Nat} (h : DivInv A0 V n (i + 1) left quo) (hV : val ys = V) (hl : ys.length = n) (hT : Taken left i d ys n 1 L') (hB : Backed L' i ys n L'') (hg : part left i n / V ≤ d) (hg2 : d ≤ part left i n / V + 1) (hi : i < m') (hq : quo.length = m') :
    DivInv A0 V n i L'' (quo.set i (d - 1)) ∧ L''.length = left.length ∧ 1 ≤ d := by
  obtain ⟨h1, h2, h3, h4, h5⟩ := hT
  obtain ⟨b1, b2, b3, b4⟩ := hB
  rw [val_eq_vt (Nat.le_of_eq hl), hV] at h5 b4
  have hN : V ≤ Bs ^ (n + 1) := Nat.le_trans (Nat.le_of_lt h.small) (Nat.pow_le_pow_right Bs_pos (Nat.le_succ n))
  obtain ⟨h6, h7⟩ := taken_one (Nat.lt_of_le_of_lt (Nat.zero_le _) h.rest) hN h5 (vt_lt _ fun t _ => h2 _) hg2 hg
  rw [h7] at b4
  have := h.next (left' := L'') (by omega) b2 (fun t ht => (b3 t ht).trans (h4 t ht)) b4
  refine ⟨?_, b1.trans h1, ?_⟩
  · have e : d - 1 = part left i n / V := by rw [h6, Nat.add_sub_cancel]; rfl
    rw [e]; exact this
  · rw [h6]; exact Nat.le_add_left _ _
end Go.Proofs.YtopkndkicdgafaaDoor
