import Derived.Test.YtnjjfakjnkhhjaaGreatDoorXv
import Derived.Test.YtnjjfakjnkhhjaaGreatDoorRoot
import Derived.Test.YtnjjfakjnkhhjaaGreatDoorEvd
import Derived.Test.YtnjjfakjnkhhjaaGreatDoorEqc
set_option maxHeartbeats 2000000
set_option maxRecDepth 100000
set_option linter.all false
namespace Go.Proofs.YtnjjfakjnkhhjaaGreatDoor.Ev
open Go Go.RowKit
def sideI (mode : Int) : Int := if mode = 1 then 1 else 0
theorem rd_sgn (s : Bool) (a d : Nat) (mode : Int) (hd : 0 < d) :
  rd (sideI mode) (sgn s a) d = sgn s (a / d + if a % d ≠ 0 ∧ (s = true ↔ mode ≠ 1) then 1 else 0) := by
 have hd' : (0 : Int) < d := by omega
 have e1 : ((a : Int) / (d : Int)) = ((a / d : Nat) : Int) := (Int.natCast_ediv a d).symm
 have e2 : ((a : Int) % (d : Int)) = ((a % d : Nat) : Int) := (Int.natCast_emod a d).symm
 have k1 : a % d = 0 → (-(a : Int)) / (d : Int) = -((a / d : Nat) : Int) := fun h => by rw [neg_ediv_dvd hd' (by rw [e2, h]; rfl), e1]
 have k2 : a % d ≠ 0 → (-(a : Int)) / (d : Int) = -((a / d : Nat) : Int) - 1 := fun h => by rw [neg_ediv_ndvd hd' (by rw [e2]; omega), e1]
 have r0 : ∀ v : Int, rd 0 v d = v / d := fun v => if_pos rfl
 have r1 : ∀ v : Int, rd 1 v d = -((-v) / d) := fun v => by unfold rd; rw [if_neg (by omega), if_pos rfl]
 unfold sideI sgn
 generalize a / d = q at *
 by_cases hm : mode = 1
 ·rw [if_pos hm, r1]
  cases s
  ·simp only [Bool.false_eq_true, if_false, hm, ne_eq, not_true, and_true, iff_self]
   by_cases h : a % d = 0
   ·rw [k1 h, if_neg (by simp [h])]; omega
   ·rw [k2 h, if_pos h]; omega
  ·simp only [if_true, hm, ne_eq, not_true, iff_false, and_false, if_false, Nat.add_zero]
   rw [Int.neg_neg, e1]
 ·rw [if_neg hm, r0]
  cases s
  ·simp only [Bool.false_eq_true, if_false, hm, ne_eq, not_false_eq_true, iff_true, and_false, Nat.add_zero]
   exact e1
  ·simp only [if_true, hm, ne_eq, not_false_eq_true, and_true]
   by_cases h : a % d = 0
   ·rw [k1 h, if_neg (by simp [h])]; omega
   ·rw [k2 h, if_pos h]; omega
def scaleN (N : Nat) (k : Int) : Nat := if 0 ≤ k then N * 2 ^ k.toNat else N / 2 ^ (-k).toNat
theorem scaleN_div (A B : Nat) (k : Int) : scaleN A k / B = (A * 2 ^ k.toNat) / (B * 2 ^ (-k).toNat) := by
 unfold scaleN
 split
 ·rw [show (-k).toNat = 0 by omega, Nat.pow_zero, Nat.mul_one]
 ·rw [show k.toNat = 0 by omega, Nat.pow_zero, Nat.mul_one, Nat.div_div_eq_div_mul, Nat.mul_comm]
theorem nb_low' {N : Nat} (h : N ≠ 0) : 2 ^ (nb N - 1) ≤ N := by
 unfold nb; rw [if_neg h]; exact Nat.log2_self_le h
theorem nb_lt' (N : Nat) : N < 2 ^ nb N := by
 unfold nb; split
 ·omega
 ·exact Nat.lt_log2_self
def topQ (M N : Nat) : Int := if scaleN M (-((nb M : Int) - nb N)) < N then (nb M : Int) - nb N - 1 else (nb M : Int) - nb N
theorem nb_pos {N : Nat} (h : N ≠ 0) : 1 ≤ nb N := by unfold nb; rw [if_neg h]; omega
theorem sq_mul (a b : Nat) : a * b * (a * b) = a * a * (b * b) := by simp only [Nat.mul_left_comm, Nat.mul_comm]
theorem rt_shr (m j : Nat) : rt (m / (2 ^ j * 2 ^ j)) = rt m / 2 ^ j := by
 obtain ⟨h1, h2⟩ := rt_spec m
 generalize rt m = r at *
 have hp : 0 < 2 ^ j := Nat.pow_pos (by decide)
 generalize 2 ^ j = p at *
 refine rt_unique ?_ ?_
 ·rw [Nat.le_div_iff_mul_le (Nat.mul_pos hp hp), ← sq_mul]
  exact Nat.le_trans (Nat.mul_le_mul (Nat.div_mul_le_self _ _) (Nat.div_mul_le_self _ _)) h1
 ·rw [Nat.div_lt_iff_lt_mul (Nat.mul_pos hp hp), ← sq_mul]
  have h3 : r + 1 ≤ (r / p + 1) * p := by
   have := Nat.lt_mul_div_succ r hp
   rw [Nat.mul_comm]; exact this
  exact Nat.lt_of_lt_of_le h2 (Nat.mul_le_mul h3 h3)
def qrM (a d : Nat) (mode : Int) : Nat := rt (a / d) + if rt (a / d) * rt (a / d) * d ≠ a ∧ mode = 1 then 1 else 0
theorem qrM_cross {a d a' d' : Nat} (mode : Int) (hd : 0 < d) (hd' : 0 < d') (h : a * d' = a' * d) : qrM a d mode = qrM a' d' mode := by
 have e : a / d = a' / d' := by
  rw [← Nat.mul_div_mul_right a d hd', h, Nat.mul_comm d d', Nat.mul_div_mul_right a' d' hd]
 unfold qrM
 rw [e]
 generalize rt (a' / d') = r
 have : (r * r * d ≠ a) = (r * r * d' ≠ a') := by
  refine propext ⟨fun h1 h2 => h1 ?_, fun h1 h2 => h1 ?_⟩
  ·refine Nat.eq_of_mul_eq_mul_right hd' ?_
   rw [h, ← h2]; simp only [Nat.mul_left_comm, Nat.mul_comm]
  ·refine Nat.eq_of_mul_eq_mul_right hd ?_
   rw [← h, ← h2]; simp only [Nat.mul_left_comm, Nat.mul_comm]
 simp only [this]
theorem sticky_rdiv (m j : Nat) : (2 * rt m + if rt m * rt m = m then 0 else 1) / 2 ^ (j + 1) = rt (m / (2 ^ j * 2 ^ j)) := by
 rw [rt_shr, Nat.pow_succ, Nat.mul_comm (2 ^ j) 2, ← Nat.div_div_eq_div_mul]
 congr 1
 split <;> omega
theorem sticky_rmod (m j : Nat) : ((2 * rt m + if rt m * rt m = m then 0 else 1) % 2 ^ (j + 1) = 0) ↔ rt (m / (2 ^ j * 2 ^ j)) * rt (m / (2 ^ j * 2 ^ j)) * (2 ^ j * 2 ^ j) = m := by
 have hp : 0 < 2 ^ j := Nat.pow_pos (by decide)
 rw [rt_shr, Nat.pow_succ]
 obtain ⟨h1, h2⟩ := rt_spec m
 generalize rt m = r at *
 generalize 2 ^ j = p at *
 rw [← sq_mul]
 constructor
 ·intro h0
  obtain ⟨c, hc⟩ := Nat.dvd_of_mod_eq_zero h0
  rw [Nat.mul_assoc] at hc
  have h3 : p * (2 * c) = 2 * (p * c) := by rw [Nat.mul_left_comm]
  rw [h3] at hc
  by_cases h : r * r = m
  ·rw [if_pos h] at hc
   have h4 : r = p * c := by omega
   have h5 : r / p * p = r := by rw [h4, Nat.mul_div_cancel_left _ hp, Nat.mul_comm]
   rw [h5]; exact h
  ·rw [if_neg h] at hc; omega
 ·intro h0
  have h5 : r / p * p ≤ r := Nat.div_mul_le_self _ _
  have h6 : r / p * p = r := by
   apply Nat.le_antisymm h5
   apply Nat.le_of_not_lt
   intro c
   have := Nat.mul_le_mul c c
   have h7 : (r / p * p + 1) * (r / p * p + 1) = r / p * p * (r / p * p) + 2 * (r / p * p) + 1 := by grind
   have : (r / p * p) * (r / p * p) < r * r := by
    rw [Nat.succ_eq_add_one, h7] at this; omega
   omega
  rw [h6] at h0
  rw [if_pos h0]
  refine Nat.mod_eq_zero_of_dvd ⟨r / p, ?_⟩
  rw [Nat.mul_assoc, Nat.mul_left_comm, Nat.mul_comm p, h6]; rfl
theorem rd_rsticky (m j : Nat) (mode : Int) : rd (sideI mode) ((2 * rt m + if rt m * rt m = m then 0 else 1 : Nat) : Int) (2 ^ (j + 1)) = (qrM m (2 ^ j * 2 ^ j) mode : Nat) := by
 have e : (2 : Int) ^ (j + 1) = ((2 ^ (j + 1) : Nat) : Int) := by rw [Int.natCast_pow]; rfl
 have h := rd_sgn false (2 * rt m + if rt m * rt m = m then 0 else 1) (2 ^ (j + 1)) mode (Nat.pow_pos (by decide))
 unfold sgn at h
 simp only [Bool.false_eq_true, if_false, false_iff, ne_eq, Classical.not_not] at h
 rw [e, h, sticky_rdiv]
 unfold qrM
 simp only [ne_eq, sticky_rmod]
theorem scaleN_one (A : Nat) (k : Int) : scaleN A k = (A * 2 ^ k.toNat) / 2 ^ (-k).toNat := by
 have := scaleN_div A 1 k
 rwa [Nat.div_one, Nat.one_mul] at this
theorem scaleN_rleft {A : Nat} {k : Int} (hA : A % 2 = 1) : (rt (scaleN A k) * rt (scaleN A k) ≠ scaleN A k ∨ k < 0) ↔ rt (scaleN A k) * rt (scaleN A k) * 2 ^ (-k).toNat ≠ A * 2 ^ k.toNat := by
 generalize hr : rt (scaleN A k) = r
 unfold scaleN
 by_cases h : 0 ≤ k
 ·rw [if_pos h, show (-k).toNat = 0 by omega, Nat.pow_zero, Nat.mul_one]
  exact ⟨fun h => by rcases h with h | h; exact h; omega, .inl⟩
 ·rw [if_neg h, show k.toNat = 0 by omega, Nat.pow_zero, Nat.mul_one]
  refine ⟨fun _ h0 => ?_, fun _ => .inr (by omega)⟩
  obtain ⟨n, hn⟩ : ∃ n, (-k).toNat = n + 1 := ⟨(-k).toNat - 1, by omega⟩
  rw [hn, Nat.pow_succ] at h0
  have : A = 2 * (r * r * 2 ^ n) := by rw [← h0]; simp only [Nat.mul_assoc, Nat.mul_left_comm, Nat.mul_comm]
  omega
theorem qrM_prog {A : Nat} {k : Int} (mode : Int) (hA : A % 2 = 1) : (rt (scaleN A k) + if (rt (scaleN A k) * rt (scaleN A k) ≠ scaleN A k ∨ k < 0) ∧ mode = 1 then 1 else 0) = qrM (A * 2 ^ k.toNat) (2 ^ (-k).toNat) mode := by
 unfold qrM
 rw [← scaleN_one]
 simp only [scaleN_rleft hA]
theorem top_root {A n : Nat} {e : Int} (hA : A ≠ 0) (he : (e - n) % 2 = 0) : ((nb A : Int) - 1 + e) / 2 = (nb (rt (A * 2 ^ n)) : Int) - 1 + (e - n) / 2 := by
 obtain ⟨h1, h2⟩ := rt_spec (A * 2 ^ n)
 have hp : 0 < 2 ^ n := Nat.pow_pos (by decide)
 have hr : rt (A * 2 ^ n) ≠ 0 := by
  intro h
  rw [h] at h2
  have := Nat.mul_pos (show 0 < A by omega) hp
  omega
 have a1 := nb_low' hA; have a2 := nb_lt' A
 have r1 := nb_low' hr; have r2 := nb_lt' (rt (A * 2 ^ n))
 have p1 := nb_pos hA; have p2 := nb_pos hr
 generalize rt (A * 2 ^ n) = r at *
 have c1 : 2 ^ (2 * (nb r - 1)) < 2 ^ (nb A + n) := by
  rw [show 2 * (nb r - 1) = (nb r - 1) + (nb r - 1) by omega, Nat.pow_add]
  refine Nat.lt_of_le_of_lt (Nat.le_trans (Nat.mul_le_mul r1 r1) h1) ?_
  rw [Nat.pow_add]
  exact Nat.mul_lt_mul_of_pos_right a2 hp
 have c2 : 2 ^ (nb A - 1 + n) < 2 ^ (2 * nb r) := by
  rw [show 2 * nb r = nb r + nb r by omega, Nat.pow_add 2 (nb r), Nat.pow_add]
  refine Nat.lt_of_le_of_lt (Nat.mul_le_mul_right _ a1) (Nat.lt_of_lt_of_le h2 ?_)
  exact Nat.mul_le_mul r2 r2
 have d1 := (Nat.pow_lt_pow_iff_right (a := 2) (by decide)).1 c1
 have d2 := (Nat.pow_lt_pow_iff_right (a := 2) (by decide)).1 c2
 omega
end Go.Proofs.YtnjjfakjnkhhjaaGreatDoor.Ev
namespace Go.Proofs.YtnjjfakjnkhhjaaGreatDoor.Ev
open Go Go.RowKit
def qm (X e Y f E mode : Int) : Int := rd (sideI mode) (X * sg Y * 2 ^ (e - f - E).toNat) ((Y.natAbs * 2 ^ (f + E - e).toNat : Nat) : Int)
def bump (l s : Bool) (mode : Int) : Bool := l && !(s == (mode == 1))
theorem bump_iff (l s : Bool) (mode : Int) : bump l s mode = true ↔ l = true ∧ (s = true ↔ mode ≠ 1) := by
 unfold bump
 cases l <;> cases s <;> by_cases h : mode = 1 <;> simp [h]
theorem nb_sticky {q r : Nat} (hq : q ≠ 0) (hr : r ≤ 1) : nb (2 * q + r) = nb q + 1 := by
 have h1 := nb_low' hq; have h2 := nb_lt' q
 have p := nb_pos hq
 have h3 : 2 ^ nb q = 2 * 2 ^ (nb q - 1) := by rw [Nat.mul_comm, ← Nat.pow_succ]; congr 1; omega
 have h4 : 2 * q + r < 2 ^ (nb q + 1) := by rw [Nat.pow_succ]; omega
 have h5 := nb_le_of_lt h4
 apply Nat.le_antisymm h5
 apply Nat.lt_of_not_le
 intro c
 have := nb_lt' (2 * q + r)
 have h6 : 2 ^ nb (2 * q + r) ≤ 2 ^ nb q := Nat.pow_le_pow_right (by decide) c
 omega
theorem topI_sgn (s : Bool) {a : Nat} (e : Int) (ha : a ≠ 0) : topI (sgn s a) e = (nb a : Int) - 1 + e := by
 unfold topI
 have h : (sgn s a).natAbs = a := by unfold sgn; cases s <;> simp
 rw [if_neg (by intro h0; rw [h0] at h; exact ha h.symm), h]
def topD (X e Y f : Int) : Int := topQ X.natAbs Y.natAbs + e - f
theorem canon_eq {k : Nat} {m e E z md : Int} {E0 S : Int} (hm : S = S) (h1 : -(k : Int) ≤ E0) (h2 : -(k : Int) ≤ E) (h : rd md (V k S E0) (2 ^ (E + k).toNat) = z) :
  gm S E0 E md = tmI z ∧ ge S E0 E md = teI z E := by
 have hv := V_grid (k := k) (m := S) md h1 h2
 rw [h, Int.mul_comm] at hv
 have h3 : V k (gm S E0 E md) (ge S E0 E md) = V k z E := hv
 obtain ⟨h4, h5⟩ := V_inj (ge_low md h1 h2) h2 h3
 rw [tm_gm] at h4
 rw [te_gm] at h5
 exact ⟨h4, h5⟩
theorem rd_low {k : Nat} {S E0 E md : Int} {j : Nat} (h1 : -(k : Int) ≤ E0) (hj : E = E0 + j) : rd md (V k S E0) (2 ^ (E + k).toNat) = rd md S (2 ^ j) := by
 unfold V
 rw [show (E + k).toNat = j + (E0 + k).toNat by omega, Int.pow_add]
 exact rd_mul (pow_pos' _) (pow_pos' _)
def qr (X e E mode : Int) : Int := if X ≤ 0 then 0 else (qrM (X.natAbs * 2 ^ (e - 2 * E).toNat) (2 ^ (2 * E - e).toNat) mode : Nat)
def topR (X e : Int) : Int := topI X e / 2
theorem qr_prog {X e E : Int} (mode : Int) (hX : 0 < X) {l : Bool} {k : Int} (hk : k = teI X e - 2 * E)
  (hl : l = true ↔ (rt (scaleN (tmI X).natAbs k) * rt (scaleN (tmI X).natAbs k) ≠ scaleN (tmI X).natAbs k ∨ k < 0)) :
  ((rt (scaleN (tmI X).natAbs k) + if bump l false mode = true then 1 else 0 : Nat) : Int) = qr X e E mode := by
 have ho := tmI_oddN (m := X) (by omega)
 have h1 : X.natAbs = (tmI X).natAbs * 2 ^ tz X.natAbs := by rw [← natAbs_pow2, tmI_mul]
 have h2 : ∀ s : Bool, (bump l false mode = true) = ((rt (scaleN (tmI X).natAbs k) * rt (scaleN (tmI X).natAbs k) ≠ scaleN (tmI X).natAbs k ∨ k < 0) ∧ mode = 1) := fun s => propext (by rw [bump_iff, hl]; simp)
 have key : (rt (scaleN (tmI X).natAbs k) + if bump l false mode = true then 1 else 0) = qrM (X.natAbs * 2 ^ (e - 2 * E).toNat) (2 ^ (2 * E - e).toNat) mode := by
  simp only [h2 true]
  rw [qrM_prog mode ho]
  refine qrM_cross mode (Nat.pow_pos (by decide)) (Nat.pow_pos (by decide)) ?_
  have h3 : teI X e = e + tz X.natAbs := teI_ne (by omega)
  have e1 : (2 : Nat) ^ k.toNat * 2 ^ (2 * E - e).toNat = 2 ^ tz X.natAbs * 2 ^ (e - 2 * E).toNat * 2 ^ (-k).toNat := by
   rw [← Nat.pow_add, ← Nat.pow_add, ← Nat.pow_add]
   congr 1
   omega
  rw [Nat.mul_assoc, e1]
  obtain ⟨A, hA⟩ : ∃ A, A = (tmI X).natAbs := ⟨_, rfl⟩
  obtain ⟨t, ht⟩ : ∃ t, t = tz X.natAbs := ⟨_, rfl⟩
  rw [← hA, ← ht] at h1 ⊢
  rw [h1]
  simp only [Nat.mul_assoc]
 unfold qr
 rw [if_neg (show ¬X ≤ 0 by omega), key]
theorem qr_doc {X e : Int} (p mode : Int) (n : Nat) (hX : 0 < X) (hp1 : 1 ≤ p) (hp2 : p ≤ 4000) (hn : 2 * p + 6 - nb X.natAbs ≤ n) (hev : (e - n) % 2 = 0) (ht1 : -15000 ≤ topR X e) (ht2 : topR X e ≤ 15000)
  {S E0 : Int} (hS : S = ((2 * rt (X.natAbs * 2 ^ n) + if rt (X.natAbs * 2 ^ n) * rt (X.natAbs * 2 ^ n) = X.natAbs * 2 ^ n then 0 else 1 : Nat) : Int)) (hE0 : E0 = (e - n) / 2 - 1) :
  stepI S E0 p = clampE (topR X e - min (max p 1) 4000 + 1) ∧ gm S E0 (stepI S E0 p) (sideI mode) = tmI (qr X e (clampE (topR X e - min (max p 1) 4000 + 1)) mode) ∧
   ge S E0 (stepI S E0 p) (sideI mode) = teI (qr X e (clampE (topR X e - min (max p 1) 4000 + 1)) mode) (clampE (topR X e - min (max p 1) 4000 + 1)) := by
 have hx : X.natAbs ≠ 0 := by omega
 have px := nb_pos hx
 have hT := top_root (e := e) hx hev
 have hr : rt (X.natAbs * 2 ^ n) ≠ 0 := by
  have := rt_pos (N := X.natAbs * 2 ^ n) (Nat.mul_ne_zero hx (Nat.ne_of_gt (Nat.pow_pos (by decide))))
  omega
 have hbig : p + 2 ≤ nb (rt (X.natAbs * 2 ^ n)) := by
  obtain ⟨pn, hpn⟩ : ∃ pn : Nat, p = pn := ⟨p.toNat, by omega⟩
  have h1 : 2 ^ (pn + 2) ≤ rt (X.natAbs * 2 ^ n) := by
   refine le_rt ?_
   rw [← Nat.pow_add]
   refine Nat.le_trans ?_ (Nat.mul_le_mul_right _ (nb_low' hx))
   rw [← Nat.pow_add]
   exact Nat.pow_le_pow_right (by decide) (by omega)
  have h2 := nb_lt' (rt (X.natAbs * 2 ^ n))
  have h3 : 2 ^ (pn + 2) < 2 ^ nb (rt (X.natAbs * 2 ^ n)) := Nat.lt_of_le_of_lt h1 h2
  have := (Nat.pow_lt_pow_iff_right (a := 2) (by decide)).1 h3
  omega
 have htx : topI X e = (nb X.natAbs : Int) - 1 + e := by unfold topI; rw [if_neg (by omega)]
 have htop : topI S E0 = topR X e := by
  have := topI_sgn false E0 (a := 2 * rt (X.natAbs * 2 ^ n) + if rt (X.natAbs * 2 ^ n) * rt (X.natAbs * 2 ^ n) = X.natAbs * 2 ^ n then 0 else 1) (by omega)
  rw [hS]
  refine Eq.trans this ?_
  rw [nb_sticky hr (by split <;> omega), hE0]
  unfold topR
  rw [htx, hT]
  omega
 have hst : stepI S E0 p = clampE (topR X e - min (max p 1) 4000 + 1) := by unfold stepI; rw [htop]
 refine ⟨hst, ?_⟩
 rw [hst]
 obtain ⟨E, hE⟩ : ∃ E, E = clampE (topR X e - min (max p 1) 4000 + 1) := ⟨_, rfl⟩
 rw [← hE]
 have hE2 : E = topR X e - p + 1 := by rw [hE]; unfold clampE; omega
 unfold topR at hE2
 rw [htx, hT] at hE2
 obtain ⟨j, hj⟩ : ∃ j : Nat, E = E0 + (j + 1 : Nat) := ⟨(E - E0 - 1).toNat, by omega⟩
 obtain ⟨k, hk⟩ : ∃ k : Nat, -(k : Int) ≤ E0 := ⟨E0.natAbs, by omega⟩
 refine canon_eq (k := k) (m := 0) (e := 0) rfl hk (by omega) ?_
 rw [rd_low hk hj, hS, rd_rsticky]
 unfold qr
 rw [if_neg (by omega)]
 congr 1
 refine qrM_cross mode (Nat.mul_pos (Nat.pow_pos (by decide)) (Nat.pow_pos (by decide))) (Nat.pow_pos (by decide)) ?_
 rw [Nat.mul_assoc, Nat.mul_assoc, ← Nat.pow_add, ← Nat.pow_add, ← Nat.pow_add]
 congr 2
 omega
end Go.Proofs.YtnjjfakjnkhhjaaGreatDoor.Ev
namespace Go.Proofs.YtnjjfakjnkhhjaaGreatDoor.Ev
open Go Go.RowKit
theorem u32s_app (xs ys : List Nat) : u32s (xs ++ ys) = u32s xs ++ u32s ys := List.map_append
theorem len_u32s (xs : List Nat) : (u32s xs).length = xs.length := List.length_map ..
theorem okC_len {n : Nat} {cs : List D} (h : okC n cs) : (nums cs).length = n := by unfold nums; rw [List.length_map]; exact h.2.1
theorem okC_cat {n m : Nat} {cs es : List D} (h : okC n cs) (h' : okC m es) (hk : n + m ≤ 100000) : okC (n + m) (cs ++ es) := by
 have he : cs ++ es = u32s (nums cs ++ nums es) := by rw [u32s_app, ← h.1, ← h'.1]
 refine ⟨by rw [he, nums_u32s], by rw [List.length_append, h.2.1, h'.2.1], ?_, hk⟩
 rw [he, nums_u32s]
 exact ok_append h.2.2.1 h'.2.2.1
theorem den_fr {w w' : World} {X : Nat → Prop} {ρ : Nat → Option Nat} {A : Option Addr} {n c : Nat} {xs : List Nat} (h : Lm w' A n c xs) (hf : Fr A w.heap.size) (hX : ShutOk true w X) : den ⟨w', X, ρ⟩ (.sl n (u32s xs)) (.slice A n c) := by
 simp only [den]
 refine ⟨A, c, rfl, h.cap, fun h0 => ?_⟩
 have hl := h.len
 have hn : 0 < n := by rw [len_u32s] at h0; omega
 obtain ⟨b, o, rfl, hlt, hc⟩ := h.at_ hn
 refine ⟨b, o, rfl, hlt, fun hx => ?_, nums_denC fun j hj => hc j (by omega)⟩
 rcases hf with hf | ⟨g, o', hf, hg⟩
 ·cases hf
 ·cases hf
  have := (hX b hx).1
  omega
variable {G : World → Prop}
def s_cat2 : FnSpec := ⟨.one .S, fun ds => match ds with | [.sl 2 [.sl n cs, .sl m es]] => okC n cs ∧ okC m es ∧ n + m ≤ 100000 | _ => False, fun _ _ => 0, fun _ _ => false,
 fun ds _ => match ds with | [.sl 2 [.sl n _, .sl m _]] => n + m | _ => 0, fun ds _ => match ds with | [.sl 2 [.sl _ cs, .sl _ es]] => cs ++ es | _ => []⟩
theorem cat2_arg {ds : List D} (h : s_cat2.p ds) : ∃ n cs m es, ds = [.sl 2 [.sl n cs, .sl m es]] ∧ okC n cs ∧ okC m es ∧ n + m ≤ 100000 := by
 unfold s_cat2 at h
 dsimp only at h
 split at h
 ·exact ⟨_, _, _, _, rfl, h⟩
 ·exact h.elim
theorem goodS_cat2 : GoodS Tryz.prog G N0 241 s_cat2 := by
 refine ⟨callable (by kernel_rfl), fun ds hp => ?_⟩
 obtain ⟨n, cs, m, es, rfl, hc, he, hk⟩ := cat2_arg hp
 intro X w vs hG hX hd
 simp only [denL] at hd
 obtain ⟨v, us, rfl, hd, rfl⟩ := hd
 rw [den] at hd
 obtain ⟨A, c, rfl, h2, hb⟩ := hd
 obtain ⟨b, o, rfl, hlt, hx, hcs⟩ := hb (by simp)
 simp only [denC] at hcs
 obtain ⟨⟨v1, h1, _, d1⟩, ⟨v2, h2', _, d2⟩, _⟩ := hcs
 obtain ⟨A1, c1, rfl, l1⟩ := lm_of_den hc d1
 obtain ⟨A2, c2, rfl, l2⟩ := lm_of_den he d2
 refine (concat_two w b o c A1 n c1 (nums cs) A2 m c2 (nums es) ⟨hlt, h1, h2', l1, l2⟩ (by omega) h2).mono fun e w' h => ?_
 obtain ⟨B, d, rfl, hl, hf, hb⟩ := h
 refine ⟨_, _, rfl, rfl, ?_, hb⟩
 have := den_fr (ρ := fun _ => none) hl hf hX
 rw [u32s_app, ← hc.1, ← he.1] at this
 exact this
def s_kAbove : FnSpec := ⟨.one .S, fun ds => match ds with | [.sl n cs, .sl m es] => okC n cs ∧ okC m es ∧ m + n ≤ 100000 | _ => False, fun _ _ => 0, fun _ _ => false,
 fun ds _ => match ds with | [.sl n _, .sl m _] => m + n | _ => 0, fun ds _ => match ds with | [.sl _ cs, .sl _ es] => es ++ cs | _ => []⟩
theorem above_arg {ds : List D} (h : s_kAbove.p ds) : ∃ n cs m es, ds = [.sl n cs, .sl m es] ∧ okC n cs ∧ okC m es ∧ m + n ≤ 100000 := by
 match ds, h with
 | [.sl n cs, .sl m es], h => exact ⟨n, cs, m, es, rfl, h⟩
theorem goodS_kAbove : GoodS Tryz.prog (GWL [0, 1]) N0 228 s_kAbove := by
 refine goodO (l := [0, 1]) (tab := [(241, s_cat2)]) (shs := [(241, .one .S)]) rfl ⟨goodS_cat2, trivial⟩ Tryz.f228 (by kernel_rfl) (by kernel_rfl) (by kernel_rfl) (fun ds hp F A Q hF hA hQ => ⟨0, ?_⟩)
 obtain ⟨n, cs, m, es, rfl, hc, he, hk⟩ := above_arg hp
 clear hp
 cbv
 repeat' (first | with_reducible refine And.intro ?_ ?_ | (with_reducible refine safe_lift hA ?_; kernel_rfl) | (intro hc_; cbv))
 all_goals (repeat (rw [safe_true hA, true_and]; rotate_left; kernel_rfl))
 all_goals subst hF hA
 all_goals simp only [fnOf, find, reduceIte, FnSpec.out, Shape.build, leafCells, oneOf, s_kAbove, s_cat2] at *
 ·exact ⟨he, hc, hk⟩
 ·exact hQ
end Go.Proofs.YtnjjfakjnkhhjaaGreatDoor.Ev
