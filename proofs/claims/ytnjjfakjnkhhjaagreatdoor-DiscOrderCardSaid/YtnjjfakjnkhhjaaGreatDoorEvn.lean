import Derived.Test.YtnjjfakjnkhhjaaGreatDoorWv
import Derived.IntWalk
set_option linter.all false
namespace Go.Proofs.YtnjjfakjnkhhjaaGreatDoor.Ev
open Go Go.RowKit
def Fit (z : Int) (k : Nat) : Prop := z.natAbs < 2 ^ k
theorem Fit.mono {z : Int} {k l : Nat} (h : Fit z k) (hkl : k ≤ l) : Fit z l := Nat.lt_of_lt_of_le h (Nat.pow_le_pow_right (by omega) hkl)
theorem Fit.ln {z : Int} {k n : Nat} (h : Fit z k) (hn : k ≤ 32 * n) : ln z.natAbs ≤ n := by
 refine ln_le_of_lt ?_
 rw [Bs_pow_eq]
 exact Nat.lt_of_lt_of_le h (Nat.pow_le_pow_right (by omega) hn)
theorem fit_ln {z : Int} {n : Nat} (h : Go.Proofs.YtnjjfakjnkhhjaaGreatDoor.ln z.natAbs ≤ n) : Fit z (32 * n) := by
 unfold Fit
 rw [← Bs_pow_eq]
 exact Nat.lt_of_lt_of_le (lt_pow_ln _) (Nat.pow_le_pow_right (by rw [Bs_eq]; omega) h)
theorem Fit.add {x y : Int} {k l m : Nat} (h : Fit x k) (h' : Fit y l) (hk : k + 1 ≤ m) (hl : l + 1 ≤ m) : Fit (x + y) m := by
 have h1 := h.mono (show k ≤ m - 1 by omega)
 have h2 := h'.mono (show l ≤ m - 1 by omega)
 unfold Fit at *
 have : 2 ^ m = 2 ^ (m - 1) * 2 := by rw [← Nat.pow_succ]; congr 1; omega
 omega
theorem Fit.neg {x : Int} {k : Nat} (h : Fit x k) : Fit (-x) k := by unfold Fit at *; rwa [Int.natAbs_neg]
theorem Fit.sub {x y : Int} {k l m : Nat} (h : Fit x k) (h' : Fit y l) (hk : k + 1 ≤ m) (hl : l + 1 ≤ m) : Fit (x - y) m := by
 rw [Int.sub_eq_add_neg]; exact h.add h'.neg hk hl
theorem Fit.mul {x y : Int} {k l m : Nat} (h : Fit x k) (h' : Fit y l) (hm : k + l ≤ m) : Fit (x * y) m := by
 refine Fit.mono (k := k + l) ?_ hm
 unfold Fit at *
 rw [Int.natAbs_mul, Nat.pow_add]
 exact Nat.mul_lt_mul'' h h'
theorem fit_pow (n : Nat) : Fit (2 ^ n) (n + 1) := by
 unfold Fit
 rw [Int.natAbs_pow]
 exact Nat.pow_lt_pow_right (by decide) (by omega)
theorem Fit.shl {x : Int} {k n m : Nat} (h : Fit x k) (hm : k + n + 1 ≤ m) : Fit (x * 2 ^ n) m := h.mul (fit_pow n) (by omega)
theorem Fit.le {x y : Int} {k : Nat} (h : Fit x k) (hy : y.natAbs ≤ x.natAbs) : Fit y k := Nat.lt_of_le_of_lt hy h
theorem natAbs_ediv_pow {x : Int} {n : Nat} (hn : (2 : Int) ^ n ∣ x) : (x / 2 ^ n).natAbs = x.natAbs / 2 ^ n := by
 obtain ⟨c, rfl⟩ := hn
 have hp : (2 : Int) ^ n ≠ 0 := Int.pow_ne_zero (by decide)
 rw [Int.mul_ediv_cancel_left _ hp, Int.natAbs_mul, Int.natAbs_pow]
 exact (Nat.mul_div_cancel_left _ (Nat.pow_pos (by decide))).symm
theorem dvd_tz (x : Int) : (2 : Int) ^ tz x.natAbs ∣ x := by
 by_cases h : x.natAbs = 0
 ·rw [Int.natAbs_eq_zero.1 h]; exact Int.dvd_zero _
 ·obtain ⟨m, hm⟩ := tz_spec h
  refine Int.natAbs_dvd_natAbs.1 ?_
  rw [Int.natAbs_pow]
  exact ⟨2 * m + 1, hm⟩
theorem pow_dvd {m n : Nat} (h : m ≤ n) : (2 : Int) ^ m ∣ 2 ^ n := ⟨2 ^ (n - m), by rw [← Int.pow_add]; congr 1; omega⟩
def tmI (m : Int) : Int := if m = 0 then 0 else m / 2 ^ tz m.natAbs
def teI (m e : Int) : Int := if m = 0 then 0 else e + tz m.natAbs
theorem tmI_zero : tmI 0 = 0 := if_pos rfl
theorem teI_zero (e : Int) : teI 0 e = 0 := if_pos rfl
theorem tmI_le (m : Int) : (tmI m).natAbs ≤ m.natAbs := by
 unfold tmI
 split
 ·simp
 ·rw [natAbs_ediv_pow (dvd_tz m)]; exact Nat.div_le_self _ _
theorem tmI_mul (m : Int) : tmI m * 2 ^ tz m.natAbs = m := by
 unfold tmI
 split
 ·rename_i h; rw [h]; simp
 ·exact Int.ediv_mul_cancel (dvd_tz m)
theorem tz_lt {z : Int} {k : Nat} (h : Fit z k) (h0 : z ≠ 0) : tz z.natAbs < k := tz_lt_of_lt (by omega) h
theorem tmI_shift (m : Int) (k : Nat) : tmI (m * 2 ^ k) = tmI m := by
 unfold tmI
 have hp : (2 : Int) ^ k ≠ 0 := Int.pow_ne_zero (by decide)
 by_cases h : m = 0
 ·rw [h]; simp
 ·rw [if_neg h, if_neg (Int.mul_ne_zero h hp), Int.natAbs_mul, Int.natAbs_pow]
  have : tz (m.natAbs * (2 : Int).natAbs ^ k) = tz m.natAbs + k := tz_mul_pow (by omega) k
  rw [this, Int.pow_add]
  exact Int.mul_ediv_mul_of_pos_left m (2 ^ tz m.natAbs) (Int.pow_pos (by decide))
theorem teI_shift (m e : Int) (k : Nat) : teI (m * 2 ^ k) e = teI m (e + k) := by
 unfold teI
 have hp : (2 : Int) ^ k ≠ 0 := Int.pow_ne_zero (by decide)
 by_cases h : m = 0
 ·rw [h]; simp
 ·rw [if_neg h, if_neg (Int.mul_ne_zero h hp), Int.natAbs_mul, Int.natAbs_pow]
  have : tz (m.natAbs * (2 : Int).natAbs ^ k) = tz m.natAbs + k := tz_mul_pow (by omega) k
  rw [this]
  omega
theorem okC_fit {n : Nat} {cs : List D} (h : okC n cs) (s : Bool) : Fit (vI s cs) (32 * n) := by
 refine fit_ln ?_
 unfold vI
 rw [sgn_natAbs]; exact okC_ln h
theorem pow_sum {a b : Int} (ha : 0 ≤ a) (hb : 0 ≤ b) : (2 : Int) ^ (a + b).toNat = 2 ^ a.toNat * 2 ^ b.toNat := by
 rw [← Int.pow_add]; congr 1; omega
theorem nrm_eq {m1 e1 m2 e2 k : Int} (h1 : k ≤ e1) (h2 : k ≤ e2) (h : m1 * 2 ^ (e1 - k).toNat = m2 * 2 ^ (e2 - k).toNat) : tmI m1 = tmI m2 ∧ teI m1 e1 = teI m2 e2 := by
 have a1 := tmI_shift m1 (e1 - k).toNat
 have a2 := tmI_shift m2 (e2 - k).toNat
 have b1 := teI_shift m1 k (e1 - k).toNat
 have b2 := teI_shift m2 k (e2 - k).toNat
 rw [show k + ((e1 - k).toNat : Int) = e1 by omega] at b1
 rw [show k + ((e2 - k).toNat : Int) = e2 by omega] at b2
 exact ⟨by rw [← a1, ← a2, h], by rw [← b1, ← b2, h]⟩
theorem tm_val {m e k : Int} (hk : k ≤ e) (h0 : m ≠ 0) : tmI m * 2 ^ (teI m e - k).toNat = m * 2 ^ (e - k).toNat := by
 have h := tmI_mul m
 have he : teI m e = e + tz m.natAbs := if_neg h0
 rw [he, show e + (tz m.natAbs : Int) - k = (tz m.natAbs : Int) + (e - k) by omega, pow_sum (by omega) (by omega), ← Int.mul_assoc, Int.toNat_natCast, h]
def addM (mx ex my ey : Int) : Int := mx * 2 ^ (ex - min ex ey).toNat + my * 2 ^ (ey - min ex ey).toNat
theorem addM_zl {mx ex my ey : Int} (h : mx = 0) : tmI (addM mx ex my ey) = tmI my ∧ teI (addM mx ex my ey) (min ex ey) = teI my ey := by
 unfold addM
 rw [h, Int.zero_mul, Int.zero_add, tmI_shift, teI_shift]
 exact ⟨rfl, by congr 1; omega⟩
theorem addM_zr {mx ex my ey : Int} (h : my = 0) : tmI (addM mx ex my ey) = tmI mx ∧ teI (addM mx ex my ey) (min ex ey) = teI mx ex := by
 unfold addM
 rw [h, Int.zero_mul, Int.add_zero, tmI_shift, teI_shift]
 exact ⟨rfl, by congr 1; omega⟩
theorem addM_low {mx ex my ey k : Int} (hk1 : k ≤ ex) (hk2 : k ≤ ey) : addM mx ex my ey * 2 ^ (min ex ey - k).toNat = mx * 2 ^ (ex - k).toNat + my * 2 ^ (ey - k).toNat := by
 unfold addM
 rw [Int.add_mul, Int.mul_assoc, Int.mul_assoc, ← pow_sum (by omega) (by omega), ← pow_sum (by omega) (by omega)]
 rw [show ex - min ex ey + (min ex ey - k) = ex - k by omega, show ey - min ex ey + (min ex ey - k) = ey - k by omega]
theorem addM_comm (mx ex my ey : Int) : addM mx ex my ey = addM my ey mx ex := by
 unfold addM
 rw [Int.add_comm, Int.min_comm]
theorem addM_norm (mx ex my ey : Int) : tmI (addM mx ex (tmI my) (teI my ey)) = tmI (addM mx ex my ey) ∧ teI (addM mx ex (tmI my) (teI my ey)) (min ex (teI my ey)) = teI (addM mx ex my ey) (min ex ey) := by
 by_cases h : my = 0
 ·have h1 := addM_zr (mx := mx) (ex := ex) (ey := ey) h
  have h2 := addM_zr (mx := mx) (ex := ex) (my := tmI my) (ey := teI my ey) (by rw [h]; exact tmI_zero)
  exact ⟨h2.1.trans h1.1.symm, h2.2.trans h1.2.symm⟩
 ·have he : teI my ey = ey + tz my.natAbs := if_neg h
  refine nrm_eq (k := min ex ey) (by omega) (by omega) ?_
  rw [addM_low (by omega) (by omega), addM_low (by omega) (by omega), tm_val (by omega) h]
theorem addM_norm2 (mx ex my ey : Int) : tmI (addM (tmI mx) (teI mx ex) my ey) = tmI (addM mx ex my ey) ∧ teI (addM (tmI mx) (teI mx ex) my ey) (min (teI mx ex) ey) = teI (addM mx ex my ey) (min ex ey) := by
 have h := addM_norm my ey mx ex
 rw [addM_comm (tmI mx), addM_comm mx ex, Int.min_comm, Int.min_comm ex]
 exact h
theorem tmI_odd {m : Int} (h : m ≠ 0) : tz (tmI m).natAbs = 0 := by
 have h1 := tmI_mul m
 have h2 : tmI m ≠ 0 := fun h0 => h (by rw [← h1, h0, Int.zero_mul])
 have h3 := tz_mul_pow (n := (tmI m).natAbs) (by omega) (tz m.natAbs)
 have h4 : (tmI m).natAbs * 2 ^ tz m.natAbs = m.natAbs := by
  have := congrArg Int.natAbs h1
  rwa [Int.natAbs_mul, Int.natAbs_pow] at this
 rw [h4] at h3
 omega
theorem tmI_idem (m : Int) : tmI (tmI m) = tmI m := by
 by_cases h : m = 0
 ·rw [h, tmI_zero, tmI_zero]
 ·have h1 := tmI_mul (tmI m)
  rw [tmI_odd h] at h1
  simpa using h1
theorem tmI_ne {m : Int} (h : m ≠ 0) : tmI m ≠ 0 := fun h0 => h (by rw [← tmI_mul m, h0, Int.zero_mul])
theorem teI_idem (m e : Int) : teI (tmI m) (teI m e) = teI m e := by
 by_cases h : m = 0
 ·rw [h, tmI_zero, teI_zero, teI_zero]
 ·unfold teI
  rw [if_neg (tmI_ne h), if_neg h, tmI_odd h]
  omega
def cmpD (mx ex my ey : Int) : Int := sg (mx * 2 ^ (ex - min ex ey).toNat - my * 2 ^ (ey - min ex ey).toNat)
def topI (m e : Int) : Int := if m = 0 then 0 else (nb m.natAbs : Int) - 1 + e
theorem pow_pos' (n : Nat) : (0 : Int) < 2 ^ n := Int.pow_pos (by decide)
def ordT (X Y : Int) : Int := [2, -1, -1, 1, 0, -1, 1, 1, 2].getD (0 + (IntKind.i64.wrap (sg X + 1)).toNat * 3 + (IntKind.i64.wrap (sg Y + 1)).toNat * 1) 0
theorem ordT_spec (X Y : Int) : (ordT X Y = 2 ∧ sg X = sg Y ∧ X ≠ 0 ∧ Y ≠ 0) ∨ (ordT X Y ≠ 2 ∧ ordT X Y = sg (sg X - sg Y) ∧ (sg X ≠ sg Y ∨ (X = 0 ∧ Y = 0))) := by
 unfold ordT
 have w0 : IntKind.i64.wrap (-1 + 1) = 0 := by decide
 have w1 : IntKind.i64.wrap (0 + 1) = 1 := by decide
 have w2 : IntKind.i64.wrap (1 + 1) = 2 := by decide
 rcases sg_cases X with ⟨h1, h2⟩ | ⟨h1, h2⟩ | ⟨h1, h2⟩ <;> rcases sg_cases Y with ⟨h3, h4⟩ | ⟨h3, h4⟩ | ⟨h3, h4⟩ <;> rw [h2, h4] <;> simp only [w0, w1, w2]
 ·exact .inl ⟨rfl, trivial, by omega, by omega⟩
 ·exact .inr ⟨by decide, by decide, .inl (by decide)⟩
 ·exact .inr ⟨by decide, by decide, .inl (by decide)⟩
 ·exact .inr ⟨by decide, by decide, .inl (by decide)⟩
 ·exact .inr ⟨by decide, by decide, .inr ⟨h1, h3⟩⟩
 ·exact .inr ⟨by decide, by decide, .inl (by decide)⟩
 ·exact .inr ⟨by decide, by decide, .inl (by decide)⟩
 ·exact .inr ⟨by decide, by decide, .inl (by decide)⟩
 ·exact .inl ⟨rfl, trivial, by omega, by omega⟩
theorem sg_pow (X : Int) (n : Nat) : sg (X * 2 ^ n) = sg X := by
 have hp := pow_pos' n
 rcases sg_cases X with ⟨h1, h2⟩ | ⟨h1, h2⟩ | ⟨h1, h2⟩ <;> rw [h2]
 ·exact sg_neg (Int.mul_neg_of_neg_of_pos h1 hp)
 ·rw [h1, Int.zero_mul]; exact sg_zero rfl
 ·exact sg_pos (Int.mul_pos h1 hp)
theorem sg_sub_diff {A B : Int} (h : sg A ≠ sg B) : sg (A - B) = sg (sg A - sg B) := by
 rcases sg_cases A with ⟨h1, h2⟩ | ⟨h1, h2⟩ | ⟨h1, h2⟩ <;> rcases sg_cases B with ⟨h3, h4⟩ | ⟨h3, h4⟩ | ⟨h3, h4⟩ <;> first
  | exact absurd (h2.trans h4.symm) h
  | (rw [h2, h4, sg_neg (show A - B < 0 by omega)]; decide)
  | (rw [h2, h4, sg_pos (show 0 < A - B by omega)]; decide)
theorem cmpD_diff {X e Y f : Int} (h : sg X ≠ sg Y ∨ (X = 0 ∧ Y = 0)) : cmpD X e Y f = sg (sg X - sg Y) := by
 unfold cmpD
 rcases h with h | ⟨h1, h2⟩
 ·have := sg_sub_diff (A := X * 2 ^ (e - min e f).toNat) (B := Y * 2 ^ (f - min e f).toNat) (by rw [sg_pow, sg_pow]; exact h)
  rw [this, sg_pow, sg_pow]
 ·rw [h1, h2]; simp [sg_zero]
theorem top_less {X e Y f : Int} (hX : X ≠ 0) (hY : Y ≠ 0) (h : topI X e < topI Y f) : X.natAbs * 2 ^ (e - min e f).toNat < Y.natAbs * 2 ^ (f - min e f).toNat := by
 unfold topI at h
 rw [if_neg hX, if_neg hY] at h
 have h1 := lt_pow_nb X.natAbs
 have h2 := pow_nb_le (n := Y.natAbs) (by omega)
 have h3 : 0 < nb Y.natAbs := Nat.pos_of_ne_zero (fun h0 => by have := nb_zero_iff.1 h0; omega)
 calc X.natAbs * 2 ^ (e - min e f).toNat < 2 ^ nb X.natAbs * 2 ^ (e - min e f).toNat := Nat.mul_lt_mul_of_pos_right h1 (Nat.pow_pos (by decide))
  _ = 2 ^ (nb X.natAbs + (e - min e f).toNat) := by rw [Nat.pow_add]
  _ ≤ 2 ^ (nb Y.natAbs - 1 + (f - min e f).toNat) := Nat.pow_le_pow_right (by decide) (by omega)
  _ = 2 ^ (nb Y.natAbs - 1) * 2 ^ (f - min e f).toNat := by rw [Nat.pow_add]
  _ ≤ Y.natAbs * 2 ^ (f - min e f).toNat := Nat.mul_le_mul_right _ h2
theorem natAbs_pow2 (X : Int) (n : Nat) : (X * 2 ^ n).natAbs = X.natAbs * 2 ^ n := by rw [Int.natAbs_mul, Int.natAbs_pow]; rfl
theorem cmpD_top {X e Y f : Int} (hX : X ≠ 0) (hs : sg X = sg Y) (ht : topI X e ≠ topI Y f) : cmpD X e Y f = sg X * sg (topI X e - topI Y f) := by
 have hY : Y ≠ 0 := fun h => by rw [h, sg_zero rfl] at hs; rcases sg_cases X with ⟨h1, h2⟩ | ⟨h1, h2⟩ | ⟨h1, h2⟩ <;> omega
 unfold cmpD
 have sa := sg_pow X (e - min e f).toNat
 have sb := sg_pow Y (f - min e f).toNat
 have na := natAbs_pow2 X (e - min e f).toNat
 have nb' := natAbs_pow2 Y (f - min e f).toNat
 rcases Int.lt_or_gt_of_ne ht with h | h
 ·have hl := top_less hX hY h
  rw [sg_neg (show topI X e - topI Y f < 0 by omega)]
  rw [← na, ← nb'] at hl
  generalize X * 2 ^ (e - min e f).toNat = A at *
  generalize Y * 2 ^ (f - min e f).toNat = B at *
  rcases sg_cases X with ⟨h1, h2⟩ | ⟨h1, h2⟩ | ⟨h1, h2⟩
  ·rw [h2] at sa hs ⊢; rw [← hs] at sb
   have := (sg_sign A).1 (by omega); have := (sg_sign B).1 (by omega)
   rw [sg_pos (show 0 < A - B by omega)]; decide
  ·exact absurd h1 hX
  ·rw [h2] at sa hs ⊢; rw [← hs] at sb
   have : 0 < A := by rcases sg_cases A with ⟨_, h5⟩ | ⟨_, h5⟩ | ⟨h5, _⟩ <;> omega
   have : 0 < B := by rcases sg_cases B with ⟨_, h5⟩ | ⟨_, h5⟩ | ⟨h5, _⟩ <;> omega
   rw [sg_neg (show A - B < 0 by omega)]; decide
 ·have hl := top_less hY hX h
  rw [Int.min_comm f e] at hl
  rw [sg_pos (show 0 < topI X e - topI Y f by omega)]
  rw [← na, ← nb'] at hl
  generalize X * 2 ^ (e - min e f).toNat = A at *
  generalize Y * 2 ^ (f - min e f).toNat = B at *
  rcases sg_cases X with ⟨h1, h2⟩ | ⟨h1, h2⟩ | ⟨h1, h2⟩
  ·rw [h2] at sa hs ⊢; rw [← hs] at sb
   have := (sg_sign A).1 (by omega); have := (sg_sign B).1 (by omega)
   rw [sg_neg (show A - B < 0 by omega)]; decide
  ·exact absurd h1 hX
  ·rw [h2] at sa hs ⊢; rw [← hs] at sb
   have : 0 < A := by rcases sg_cases A with ⟨_, h5⟩ | ⟨_, h5⟩ | ⟨h5, _⟩ <;> omega
   have : 0 < B := by rcases sg_cases B with ⟨_, h5⟩ | ⟨_, h5⟩ | ⟨h5, _⟩ <;> omega
   rw [sg_pos (show 0 < A - B by omega)]; decide
end Go.Proofs.YtnjjfakjnkhhjaaGreatDoor.Ev
