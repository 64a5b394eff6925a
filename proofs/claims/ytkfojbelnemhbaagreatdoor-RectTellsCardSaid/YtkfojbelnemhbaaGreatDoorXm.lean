import Derived.Test.YtkfojbelnemhbaaGreatDoorXv
import Derived.Test.YtkfojbelnemhbaaGreatDoorXc
set_option linter.all false
namespace Go.Proofs.YtkfojbelnemhbaaGreatDoor.Ev
open Go Go.RowKit
theorem rd_cross {mode N D N' D' : Int} (hD : 0 < D) (hD' : 0 < D') (h : N * D' = N' * D) : rd mode N D = rd mode N' D' := by
 rw [← rd_mul (a := N) hD hD', ← rd_mul (a := N') hD' hD, h, Int.mul_comm D D']
def sideI (mode : Int) : Int := if mode = 1 then 1 else 0
theorem rd_sgn (s : Bool) (a d : Nat) (mode : Int) (hd : 0 < d) :
  rd (sideI mode) (sgn s a) d = sgn s (a / d + if a % d ≠ 0 ∧ (s = true ↔ mode ≠ 1) then 1 else 0) := by
 have hd' : (0 : Int) < d := by omega
 have e1 : ((a : Int) / (d : Int)) = ((a / d : Nat) : Int) := (Int.natCast_ediv a d).symm
 have e2 : ((a : Int) % (d : Int)) = ((a % d : Nat) : Int) := (Int.natCast_emod a d).symm
 have k1 : a % d = 0 → (-(a : Int)) / (d : Int) = -((a / d : Nat) : Int) := fun h => by rw [neg_ediv_dvd hd' (by rw [e2, h]; rfl), e1]
 have k2 : a % d ≠ 0 → (-(a : Int)) / (d : Int) = -((a / d : Nat) : Int) - 1 := fun h => by rw [neg_ediv_ndvd hd' (by rw [e2]; omega), e1]
 have r0 : ∀ v : Int, rd 0 v d = v / d := fun v => if_pos rfl
 have r1 : ∀ v : Int, rd 1 v d = -((-v) / d) := fun v => by unfold rd; rw [if_neg (by omega), if_pos rfl]
 unfold sideI sgn
 generalize a / d = q at *
 by_cases hm : mode = 1
 ·rw [if_pos hm, r1]
  cases s
  ·simp only [Bool.false_eq_true, if_false, hm, ne_eq, not_true, and_true, iff_self]
   by_cases h : a % d = 0
   ·rw [k1 h, if_neg (by simp [h])]; omega
   ·rw [k2 h, if_pos h]; omega
  ·simp only [if_true, hm, ne_eq, not_true, iff_false, and_false, if_false, Nat.add_zero]
   rw [Int.neg_neg, e1]
 ·rw [if_neg hm, r0]
  cases s
  ·simp only [Bool.false_eq_true, if_false, hm, ne_eq, not_false_eq_true, iff_true, and_false, Nat.add_zero]
   exact e1
  ·simp only [if_true, hm, ne_eq, not_false_eq_true, and_true]
   by_cases h : a % d = 0
   ·rw [k1 h, if_neg (by simp [h])]; omega
   ·rw [k2 h, if_pos h]; omega
theorem sticky_div (a d j : Nat) (hd : 0 < d) : (2 * (a / d) + if a % d = 0 then 0 else 1) / 2 ^ (j + 1) = a / (d * 2 ^ j) := by
 rw [← Nat.div_div_eq_div_mul, Nat.pow_succ, Nat.mul_comm (2 ^ j) 2, ← Nat.div_div_eq_div_mul]
 congr 1
 split <;> omega
theorem sticky_mod (a d j : Nat) (hd : 0 < d) : ((2 * (a / d) + if a % d = 0 then 0 else 1) % 2 ^ (j + 1) = 0) ↔ a % (d * 2 ^ j) = 0 := by
 have hp : 0 < 2 ^ j := Nat.pow_pos (by decide)
 have h1 := Nat.div_add_mod a d
 constructor
 ·intro h0
  obtain ⟨c, hc⟩ := Nat.dvd_of_mod_eq_zero h0
  refine Nat.mod_eq_zero_of_dvd ?_
  rw [Nat.pow_succ] at hc
  have h2 : 2 ^ j * 2 * c = 2 * (2 ^ j * c) := by rw [Nat.mul_comm (2 ^ j) 2, Nat.mul_assoc]
  rw [h2] at hc
  by_cases h : a % d = 0
  ·rw [if_pos h] at hc
   refine ⟨c, ?_⟩
   rw [Nat.mul_assoc, ← show a / d = 2 ^ j * c by omega]; omega
  ·rw [if_neg h] at hc; omega
 ·intro h0
  obtain ⟨c, hc⟩ := Nat.dvd_of_mod_eq_zero h0
  refine Nat.mod_eq_zero_of_dvd ?_
  have h3 : a % d = 0 := by rw [hc, Nat.mul_assoc]; exact Nat.mul_mod_right _ _
  rw [if_pos h3]
  have h4 : a / d = 2 ^ j * c := by rw [hc, Nat.mul_assoc]; exact Nat.mul_div_cancel_left _ hd
  exact ⟨c, by rw [h4, Nat.pow_succ, Nat.mul_comm (2 ^ j) 2, Nat.mul_assoc]; rfl⟩
theorem rd_sticky (s : Bool) (a d j : Nat) (mode : Int) (hd : 0 < d) :
  rd (sideI mode) (sgn s (2 * (a / d) + if a % d = 0 then 0 else 1)) (2 ^ (j + 1)) = rd (sideI mode) (sgn s a) (d * 2 ^ j : Nat) := by
 have e : (2 : Int) ^ (j + 1) = ((2 ^ (j + 1) : Nat) : Int) := by rw [Int.natCast_pow]; rfl
 rw [e, rd_sgn _ _ _ _ (Nat.pow_pos (by decide)), rd_sgn _ _ _ _ (Nat.mul_pos hd (Nat.pow_pos (by decide))), sticky_div _ _ _ hd]
 have h := sticky_mod a d j hd
 simp only [ne_eq, h]
def scaleN (N : Nat) (k : Int) : Nat := if 0 ≤ k then N * 2 ^ k.toNat else N / 2 ^ (-k).toNat
theorem scaleN_div (A B : Nat) (k : Int) : scaleN A k / B = (A * 2 ^ k.toNat) / (B * 2 ^ (-k).toNat) := by
 unfold scaleN
 split
 ·rw [show (-k).toNat = 0 by omega, Nat.pow_zero, Nat.mul_one]
 ·rw [show k.toNat = 0 by omega, Nat.pow_zero, Nat.mul_one, Nat.div_div_eq_div_mul, Nat.mul_comm]
theorem scaleN_left {A B : Nat} {k : Int} (hB : 0 < B) (hA : A % 2 = 1) : (scaleN A k % B ≠ 0 ∨ k < 0) ↔ (A * 2 ^ k.toNat) % (B * 2 ^ (-k).toNat) ≠ 0 := by
 unfold scaleN
 by_cases h : 0 ≤ k
 ·rw [if_pos h, show (-k).toNat = 0 by omega, Nat.pow_zero, Nat.mul_one]
  exact ⟨fun h => by rcases h with h | h; exact h; omega, .inl⟩
 ·rw [if_neg h, show k.toNat = 0 by omega, Nat.pow_zero, Nat.mul_one]
  refine ⟨fun _ h0 => ?_, fun _ => .inr (by omega)⟩
  obtain ⟨c, hc⟩ := Nat.dvd_of_mod_eq_zero h0
  obtain ⟨n, hn⟩ : ∃ n, (-k).toNat = n + 1 := ⟨(-k).toNat - 1, by omega⟩
  rw [hn, Nat.pow_succ] at hc
  have : A = 2 * (B * 2 ^ n * c) := by rw [hc]; simp only [Nat.mul_left_comm, Nat.mul_comm]
  omega
def le2 (M N : Nat) (t : Int) : Prop := N * 2 ^ t.toNat ≤ M * 2 ^ (-t).toNat
theorem le2_iff {M N K : Nat} {t : Int} (hK : -(K : Int) ≤ t) : le2 M N t ↔ N * 2 ^ (t + K).toNat ≤ M * 2 ^ K := by
 unfold le2
 by_cases h : 0 ≤ t
 ·rw [show (-t).toNat = 0 by omega, Nat.pow_zero, Nat.mul_one, show (t + K).toNat = t.toNat + K by omega, Nat.pow_add, ← Nat.mul_assoc]
  exact (Nat.mul_le_mul_right_iff (Nat.pow_pos (by decide))).symm
 ·rw [show t.toNat = 0 by omega, Nat.pow_zero, Nat.mul_one]
  rw [show (2 : Nat) ^ K = 2 ^ (-t).toNat * 2 ^ (t + K).toNat by rw [← Nat.pow_add]; congr 1; omega, ← Nat.mul_assoc]
  exact (Nat.mul_le_mul_right_iff (Nat.pow_pos (by decide))).symm
theorem le2_mono {M N : Nat} {t u : Int} (h : le2 M N t) (hu : u ≤ t) : le2 M N u := by
 obtain ⟨K, hK⟩ : ∃ K : Nat, -(K : Int) ≤ u := ⟨(-u).toNat, by omega⟩
 rw [le2_iff (K := K) (by omega)] at *
 exact Nat.le_trans (Nat.mul_le_mul_left _ (Nat.pow_le_pow_right (by decide) (by omega))) h
theorem nb_low' {N : Nat} (h : N ≠ 0) : 2 ^ (nb N - 1) ≤ N := by
 unfold nb; rw [if_neg h]; exact Nat.log2_self_le h
theorem nb_lt' (N : Nat) : N < 2 ^ nb N := by
 unfold nb; split
 ·omega
 ·exact Nat.lt_log2_self
theorem scale_lt {M N : Nat} {t : Int} : scaleN M (-t) < N ↔ ¬ le2 M N t := by
 unfold scaleN le2
 by_cases h : 0 ≤ t
 ·by_cases h0 : t = 0
  ·subst h0; simp
  ·rw [if_neg (by omega), Nat.div_lt_iff_lt_mul (Nat.pow_pos (by decide)), show (- -t).toNat = t.toNat by omega, show (-t).toNat = 0 by omega, Nat.pow_zero, Nat.mul_one]; omega
 ·rw [if_pos (by omega), show t.toNat = 0 by omega, Nat.pow_zero, Nat.mul_one]; omega
def topQ (M N : Nat) : Int := if scaleN M (-((nb M : Int) - nb N)) < N then (nb M : Int) - nb N - 1 else (nb M : Int) - nb N
theorem nb_pos {N : Nat} (h : N ≠ 0) : 1 ≤ nb N := by unfold nb; rw [if_neg h]; omega
theorem topQ_spec {M N : Nat} (hM : M ≠ 0) (hN : N ≠ 0) : le2 M N (topQ M N) ∧ ¬ le2 M N (topQ M N + 1) := by
 have m1 := nb_low' hM; have m2 := nb_lt' M; have n1 := nb_low' hN; have n2 := nb_lt' N
 have p1 := nb_pos hM; have p2 := nb_pos hN
 have hlow : le2 M N ((nb M : Int) - nb N - 1) := by
  rw [le2_iff (K := nb N) (by omega)]
  refine Nat.le_trans (Nat.mul_le_mul_right _ (Nat.le_of_lt n2)) ?_
  rw [show ((nb M : Int) - nb N - 1 + nb N).toNat = nb M - 1 by omega, Nat.mul_comm]
  exact Nat.mul_le_mul_right _ m1
 have hhigh : ¬ le2 M N ((nb M : Int) - nb N + 1) := by
  rw [le2_iff (K := nb N - 1) (by omega), Nat.not_le]
  rw [show ((nb M : Int) - nb N + 1 + (nb N - 1 : Nat)).toNat = nb M by omega, Nat.mul_comm M]
  exact Nat.lt_of_lt_of_le (Nat.mul_lt_mul_of_pos_left m2 (Nat.pow_pos (by decide))) (Nat.mul_le_mul_right _ n1)
 unfold topQ
 split
 ·rename_i h
  refine ⟨hlow, ?_⟩
  rw [show (nb M : Int) - nb N - 1 + 1 = (nb M : Int) - nb N by omega]
  exact scale_lt.1 h
 ·rename_i h
  exact ⟨Classical.byContradiction fun hc => h (scale_lt.2 hc), hhigh⟩
theorem topQ_uniq {M N : Nat} {t : Int} (hM : M ≠ 0) (hN : N ≠ 0) (h1 : le2 M N t) (h2 : ¬ le2 M N (t + 1)) : topQ M N = t := by
 obtain ⟨h3, h4⟩ := topQ_spec hM hN
 rcases Int.lt_trichotomy (topQ M N) t with h | h | h
 ·exact absurd (le2_mono h1 (by omega)) h4
 ·exact h
 ·exact absurd (le2_mono h3 (by omega)) h2
theorem topQ_nb {M N n : Nat} (hN : N ≠ 0) (hq : M * 2 ^ n / N ≠ 0) : topQ M N = (nb (M * 2 ^ n / N) : Int) - 1 - n := by
 have hM : M ≠ 0 := fun h => hq (by rw [h, Nat.zero_mul, Nat.zero_div])
 have q1 := nb_low' hq; have q2 := nb_lt' (M * 2 ^ n / N); have p1 := nb_pos hq
 generalize hqq : M * 2 ^ n / N = q at *
 have d1 : N * q ≤ M * 2 ^ n := by rw [← hqq]; exact Nat.mul_div_le _ _
 have d2 : M * 2 ^ n < N * (q + 1) := by
  have := Nat.lt_mul_div_succ (M * 2 ^ n) (show 0 < N by omega)
  rwa [hqq] at this
 refine topQ_uniq hM hN ?_ ?_
 ·rw [le2_iff (K := n) (by omega), show ((nb q : Int) - 1 - n + n).toNat = nb q - 1 by omega]
  exact Nat.le_trans (Nat.mul_le_mul_left _ q1) d1
 ·rw [le2_iff (K := n) (by omega), show ((nb q : Int) - 1 - n + 1 + n).toNat = nb q by omega, Nat.not_le]
  exact Nat.lt_of_lt_of_le d2 (Nat.mul_le_mul_left _ q2)
theorem topQ_scale {M N : Nat} (i j : Nat) (hM : M ≠ 0) (hN : N ≠ 0) : topQ (M * 2 ^ i) (N * 2 ^ j) = topQ M N + i - j := by
 obtain ⟨h1, h2⟩ := topQ_spec hM hN
 have hi : 2 ^ i ≠ 0 := Nat.ne_of_gt (Nat.pow_pos (by decide))
 have hj : 2 ^ j ≠ 0 := Nat.ne_of_gt (Nat.pow_pos (by decide))
 have key : ∀ t : Int, le2 (M * 2 ^ i) (N * 2 ^ j) (t + i - j) ↔ le2 M N t := fun t => by
  obtain ⟨K, hK, hK2⟩ : ∃ K : Nat, -(K : Int) ≤ t ∧ -(K : Int) ≤ t + i - j := ⟨(-t).toNat + j, by omega, by omega⟩
  rw [le2_iff hK2, le2_iff (K := K + i) (by omega), Nat.mul_assoc, Nat.mul_assoc, ← Nat.pow_add, ← Nat.pow_add, show j + (t + i - j + K).toNat = (t + (K + i : Nat)).toNat by omega, Nat.add_comm i K]
 exact topQ_uniq (Nat.mul_ne_zero hM hi) (Nat.mul_ne_zero hN hj) ((key _).2 h1) (fun h => h2 ((key _).1 (by rw [show topQ M N + 1 + i - j = topQ M N + i - j + 1 by omega]; exact h)))
end Go.Proofs.YtkfojbelnemhbaaGreatDoor.Ev
namespace Go.Proofs.YtkfojbelnemhbaaGreatDoor.Ev
open Go Go.RowKit
def qm (X e Y f E mode : Int) : Int := rd (sideI mode) (X * sg Y * 2 ^ (e - f - E).toNat) ((Y.natAbs * 2 ^ (f + E - e).toNat : Nat) : Int)
theorem rd_0 (mode U : Int) : rd (sideI mode) 0 U = 0 := by
 unfold rd sideI
 split <;> simp
theorem qm_zX {e Y f E mode : Int} : qm 0 e Y f E mode = 0 := by unfold qm; rw [Int.zero_mul, Int.zero_mul]; exact rd_0 _ _
theorem qm_zY {X e f E mode : Int} : qm X e 0 f E mode = 0 := by unfold qm; rw [show sg 0 = 0 from rfl, Int.mul_zero, Int.zero_mul]; exact rd_0 _ _
theorem sg_sgn {Y : Int} (h : Y ≠ 0) : sg Y = sgn (decide (Y < 0)) 1 := by
 unfold sg sgn
 by_cases h1 : Y < 0
 ·simp [h1]
 ·simp [h1, h]
theorem qm_V {K L : Nat} {X e Y f E : Int} (mode : Int) (hY : Y ≠ 0) (h1 : -(K : Int) ≤ E) (h2 : -(L : Int) ≤ f) (h3 : -((K + L : Nat) : Int) ≤ e) :
  qm X e Y f E mode = rd (sideI mode) (V (K + L) X e * sg Y) (((V L Y f).natAbs * 2 ^ (E + K).toNat : Nat) : Int) := by
 have hy : 0 < Y.natAbs := by omega
 unfold qm
 refine rd_cross ?_ ?_ ?_
 ·exact Int.natCast_pos.2 (Nat.mul_pos hy (Nat.pow_pos (by decide)))
 ·refine Int.natCast_pos.2 (Nat.mul_pos ?_ (Nat.pow_pos (by decide)))
  rw [V_abs]
  exact Nat.mul_pos hy (Nat.pow_pos (by decide))
 ·rw [V_abs]
  unfold V
  rw [Int.natCast_mul, Int.natCast_mul, Int.natCast_mul, pow2_cast, pow2_cast, pow2_cast]
  have e1 : (2 : Int) ^ (e - f - E).toNat * 2 ^ (f + L).toNat * 2 ^ (E + K).toNat = 2 ^ (e + (K + L : Nat)).toNat * 2 ^ (f + E - e).toNat := by
   rw [← Int.pow_add, ← Int.pow_add, ← Int.pow_add]
   congr 1
   omega
  have : ∀ a b c d g h : Int, a * b * c * (d * g * h) = a * b * d * (c * g * h) := by intro a b c d g h; simp only [Int.mul_left_comm, Int.mul_comm]
  rw [this, e1]
  simp only [Int.mul_assoc, Int.mul_left_comm, Int.mul_comm]
theorem sg_tm (Y : Int) : sg (tmI Y) = sg Y := by
 have := sg_pow (tmI Y) (tz Y.natAbs)
 rw [tmI_mul] at this
 exact this.symm
theorem qm_nrm {X e Y f E mode : Int} (hX : X ≠ 0) (hY : Y ≠ 0) : qm (tmI X) (teI X e) (tmI Y) (teI Y f) E mode = qm X e Y f E mode := by
 have h1 := te_ge (e := e) hX
 have h2 := te_ge (e := f) hY
 obtain ⟨K, hK⟩ : ∃ K : Nat, -(K : Int) ≤ E ∧ -(K : Int) ≤ f ∧ -(K : Int) ≤ e := ⟨E.natAbs + f.natAbs + e.natAbs, by omega⟩
 rw [qm_V (K := K) (L := K) mode hY (by omega) (by omega) (by omega), qm_V (K := K) (L := K) mode (tmI_ne hY) (by omega) (by omega) (by omega), V_nrm (by omega), V_nrm (by omega), sg_tm]
theorem mul_sg {X Y : Int} (hX : X ≠ 0) (hY : Y ≠ 0) : X * sg Y = sgn (!(decide (X < 0) == decide (Y < 0))) X.natAbs := by
 rw [sg_sgn hY]
 unfold sgn
 by_cases h1 : X < 0 <;> by_cases h2 : Y < 0 <;> simp [h1, h2] <;> omega
theorem sgn_shl2 (s : Bool) (a k : Nat) : sgn s a * 2 ^ k = sgn s (a * 2 ^ k) := by
 unfold sgn
 cases s <;> simp [Int.neg_mul]
def bump (l s : Bool) (mode : Int) : Bool := l && !(s == (mode == 1))
theorem bump_iff (l s : Bool) (mode : Int) : bump l s mode = true ↔ l = true ∧ (s = true ↔ mode ≠ 1) := by
 unfold bump
 cases l <;> cases s <;> by_cases h : mode = 1 <;> simp [h]
theorem qm_prog {X e Y f E : Int} (mode : Int) (hX : X ≠ 0) (hY : Y ≠ 0) {l : Bool} {k : Int} (hk : k = teI X e - teI Y f - E)
  (hl : l = true ↔ (scaleN (tmI X).natAbs k % (tmI Y).natAbs ≠ 0 ∨ k < 0)) :
  sgn (!(N0.neg (tmI X) == N0.neg (tmI Y))) (scaleN (tmI X).natAbs k / (tmI Y).natAbs + if bump l (!(N0.neg (tmI X) == N0.neg (tmI Y))) mode = true then 1 else 0) = qm X e Y f E mode := by
 have hx := tmI_ne hX
 have hy := tmI_ne hY
 have ho := tmI_oddN hX
 rw [← qm_nrm hX hY]
 unfold qm
 rw [mul_sg hx hy, sgn_shl2, rd_sgn _ _ _ _ (Nat.mul_pos (by omega) (Nat.pow_pos (by decide)))]
 rw [← hk, show teI Y f + E - teI X e = -k by omega, ← scaleN_div]
 have h1 := scaleN_left (k := k) (show 0 < (tmI Y).natAbs by omega) ho
 rw [h1] at hl
 have h2 : ∀ s : Bool, (bump l s mode = true) = ((tmI X).natAbs * 2 ^ k.toNat % ((tmI Y).natAbs * 2 ^ (-k).toNat) ≠ 0 ∧ (s = true ↔ mode ≠ 1)) := fun s => propext (by rw [bump_iff, hl])
 simp only [h2]
 rfl
theorem nb_sticky {q r : Nat} (hq : q ≠ 0) (hr : r ≤ 1) : nb (2 * q + r) = nb q + 1 := by
 have h1 := nb_low' hq; have h2 := nb_lt' q
 have p := nb_pos hq
 have h3 : 2 ^ nb q = 2 * 2 ^ (nb q - 1) := by rw [Nat.mul_comm, ← Nat.pow_succ]; congr 1; omega
 have h4 : 2 * q + r < 2 ^ (nb q + 1) := by rw [Nat.pow_succ]; omega
 have h5 := nb_le_of_lt h4
 apply Nat.le_antisymm h5
 apply Nat.lt_of_not_le
 intro c
 have := nb_lt' (2 * q + r)
 have h6 : 2 ^ nb (2 * q + r) ≤ 2 ^ nb q := Nat.pow_le_pow_right (by decide) c
 omega
theorem topI_sgn (s : Bool) {a : Nat} (e : Int) (ha : a ≠ 0) : topI (sgn s a) e = (nb a : Int) - 1 + e := by
 unfold topI
 have h : (sgn s a).natAbs = a := by unfold sgn; cases s <;> simp
 rw [if_neg (by intro h0; rw [h0] at h; exact ha h.symm), h]
theorem topQ_low {M N : Nat} : (nb M : Int) - nb N - 1 ≤ topQ M N ∧ topQ M N ≤ (nb M : Int) - nb N := by unfold topQ; split <;> omega
def topD (X e Y f : Int) : Int := topQ X.natAbs Y.natAbs + e - f
theorem topD_nrm {X e Y f : Int} (hX : X ≠ 0) (hY : Y ≠ 0) : topD (tmI X) (teI X e) (tmI Y) (teI Y f) = topD X e Y f := by
 unfold topD
 have h1 : X.natAbs = (tmI X).natAbs * 2 ^ tz X.natAbs := by rw [← natAbs_pow2, tmI_mul]
 have h2 : Y.natAbs = (tmI Y).natAbs * 2 ^ tz Y.natAbs := by rw [← natAbs_pow2, tmI_mul]
 have hx := tmI_ne hX
 have hy := tmI_ne hY
 have := topQ_scale (tz X.natAbs) (tz Y.natAbs) (show (tmI X).natAbs ≠ 0 by omega) (show (tmI Y).natAbs ≠ 0 by omega)
 rw [← h1, ← h2] at this
 rw [this, teI_ne hX, teI_ne hY]
 omega
theorem canon_eq {k : Nat} {m e E z md : Int} {E0 S : Int} (hm : S = S) (h1 : -(k : Int) ≤ E0) (h2 : -(k : Int) ≤ E) (h : rd md (V k S E0) (2 ^ (E + k).toNat) = z) :
  gm S E0 E md = tmI z ∧ ge S E0 E md = teI z E := by
 have hv := V_grid (k := k) (m := S) md h1 h2
 rw [h, Int.mul_comm] at hv
 have h3 : V k (gm S E0 E md) (ge S E0 E md) = V k z E := hv
 obtain ⟨h4, h5⟩ := V_inj (ge_low md h1 h2) h2 h3
 rw [tm_gm] at h4
 rw [te_gm] at h5
 exact ⟨h4, h5⟩
theorem rd_low {k : Nat} {S E0 E md : Int} {j : Nat} (h1 : -(k : Int) ≤ E0) (hj : E = E0 + j) : rd md (V k S E0) (2 ^ (E + k).toNat) = rd md S (2 ^ j) := by
 unfold V
 rw [show (E + k).toNat = j + (E0 + k).toNat by omega, Int.pow_add]
 exact rd_mul (pow_pos' _) (pow_pos' _)
theorem qm_doc {X e Y f : Int} (p mode : Int) (n : Nat) (hX : X ≠ 0) (hY : Y ≠ 0) (hp1 : 1 ≤ p) (hp2 : p ≤ 4000) (hn : p + 3 + nb Y.natAbs - nb X.natAbs ≤ n) (ht1 : -15000 ≤ topD X e Y f) (ht2 : topD X e Y f ≤ 15000)
  {S E0 : Int} (hS : S = sgn (!(decide (X < 0) == decide (Y < 0))) (2 * (X.natAbs * 2 ^ n / Y.natAbs) + if X.natAbs * 2 ^ n % Y.natAbs = 0 then 0 else 1)) (hE0 : E0 = e - f - n - 1) :
  stepI S E0 p = clampE (topD X e Y f - min (max p 1) 4000 + 1) ∧ gm S E0 (stepI S E0 p) (sideI mode) = tmI (qm X e Y f (clampE (topD X e Y f - min (max p 1) 4000 + 1)) mode) ∧
   ge S E0 (stepI S E0 p) (sideI mode) = teI (qm X e Y f (clampE (topD X e Y f - min (max p 1) 4000 + 1)) mode) (clampE (topD X e Y f - min (max p 1) 4000 + 1)) := by
 have hy : Y.natAbs ≠ 0 := by omega
 have hx : X.natAbs ≠ 0 := by omega
 obtain ⟨t1, t2⟩ := topQ_low (M := X.natAbs) (N := Y.natAbs)
 have px := nb_pos hx
 have hq : X.natAbs * 2 ^ n / Y.natAbs ≠ 0 := by
  intro h0
  have h1 := Nat.lt_of_div_eq_zero (by omega) h0
  have h2 : 2 ^ nb Y.natAbs ≤ X.natAbs * 2 ^ n := by
   refine Nat.le_trans ?_ (Nat.mul_le_mul_right _ (nb_low' hx))
   rw [← Nat.pow_add]
   exact Nat.pow_le_pow_right (by decide) (by omega)
  have := nb_lt' Y.natAbs
  omega
 have hT := topQ_nb hy hq
 have htop : topI S E0 = topD X e Y f := by
  rw [hS, topI_sgn _ _ (by omega), nb_sticky hq (by split <;> omega), hE0]
  unfold topD
  rw [hT]
  omega
 have hst : stepI S E0 p = clampE (topD X e Y f - min (max p 1) 4000 + 1) := by unfold stepI; rw [htop]
 refine ⟨hst, ?_⟩
 rw [hst]
 obtain ⟨E, hE⟩ : ∃ E, E = clampE (topD X e Y f - min (max p 1) 4000 + 1) := ⟨_, rfl⟩
 rw [← hE]
 have hE2 : E = topD X e Y f - p + 1 := by rw [hE]; unfold clampE; omega
 unfold topD at hE2
 obtain ⟨j, hj⟩ : ∃ j : Nat, E = E0 + (j + 1 : Nat) := ⟨(E - E0 - 1).toNat, by rw [hT] at hE2; omega⟩
 obtain ⟨k, hk⟩ : ∃ k : Nat, -(k : Int) ≤ E0 := ⟨E0.natAbs, by omega⟩
 refine canon_eq (k := k) (m := 0) (e := 0) rfl hk (by omega) ?_
 rw [rd_low hk hj, hS, rd_sticky _ _ _ _ _ (by omega)]
 unfold qm
 rw [mul_sg hX hY, sgn_shl2]
 refine rd_cross (Int.natCast_pos.2 (Nat.mul_pos (by omega) (Nat.pow_pos (by decide)))) (Int.natCast_pos.2 (Nat.mul_pos (by omega) (Nat.pow_pos (by decide)))) ?_
 rw [← sgn_shl2, ← sgn_shl2, Int.natCast_mul, Int.natCast_mul, pow2_cast, pow2_cast]
 have e1 : (2 : Int) ^ n * 2 ^ (f + E - e).toNat = 2 ^ (e - f - E).toNat * 2 ^ j := by
  rw [← Int.pow_add, ← Int.pow_add]
  congr 1
  omega
 have : ∀ a b c d : Int, a * b * (c * d) = a * c * (b * d) := by intro a b c d; simp only [Int.mul_left_comm, Int.mul_comm]
 rw [this, e1, this]
end Go.Proofs.YtkfojbelnemhbaaGreatDoor.Ev
