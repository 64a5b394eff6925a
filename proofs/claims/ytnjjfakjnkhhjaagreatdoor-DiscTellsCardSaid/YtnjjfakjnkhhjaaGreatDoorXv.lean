import Derived.Test.YtnjjfakjnkhhjaaGreatDoorEvu
import Derived.Test.YtnjjfakjnkhhjaaGreatDoorXp
set_option linter.all false
namespace Go.Proofs.YtnjjfakjnkhhjaaGreatDoor.Ev
open Go Go.RowKit
def rd (mode v U : Int) : Int :=
 if mode = 0 then v / U else if mode = 1 then -((-v) / U) else
 if U < 2 * (v % U) ∨ (U = 2 * (v % U) ∧ (v / U).natAbs % 2 = 1) then v / U + 1 else v / U
theorem neg_ediv_dvd {v U : Int} (hU : 0 < U) (h : v % U = 0) : (-v) / U = -(v / U) := by
 have h1 := Int.mul_ediv_add_emod v U
 have := Int.ediv_emod_unique (a := -v) (b := U) (q := -(v / U)) (r := 0) hU
 refine (this.2 ⟨?_, by omega, by omega⟩).1
 rw [Int.mul_neg]; omega
theorem neg_ediv_ndvd {v U : Int} (hU : 0 < U) (h : v % U ≠ 0) : (-v) / U = -(v / U) - 1 := by
 have h1 := Int.mul_ediv_add_emod v U
 have h2 := Int.emod_nonneg v (Int.ne_of_gt hU)
 have h3 := Int.emod_lt_of_pos v hU
 have := Int.ediv_emod_unique (a := -v) (b := U) (q := -(v / U) - 1) (r := U - v % U) hU
 refine (this.2 ⟨?_, by omega, by omega⟩).1
 rw [Int.mul_sub, Int.mul_neg]; omega
theorem rd_dvd {mode v U : Int} (hU : 0 < U) (h : v % U = 0) : rd mode v U = v / U := by
 unfold rd
 rw [h, neg_ediv_dvd hU h]
 split
 ·rfl
 ·split
  ·omega
  ·rw [if_neg (by omega)]
theorem rd_mul {mode a P T : Int} (hP : 0 < P) (hT : 0 < T) : rd mode (a * T) (P * T) = rd mode a P := by
 unfold rd
 rw [← Int.neg_mul, Int.mul_ediv_mul_of_pos_left _ _ hT, Int.mul_ediv_mul_of_pos_left _ _ hT]
 have h1 : a * T % (P * T) = a % P * T := by rw [Int.mul_comm a, Int.mul_comm P, Int.mul_emod_mul_of_pos _ _ hT, Int.mul_comm]
 have h2 : (P * T < 2 * (a % P * T)) = (P < 2 * (a % P)) := by
  rw [← Int.mul_assoc]
  exact propext ⟨fun h => Int.lt_of_mul_lt_mul_right h (Int.le_of_lt hT), fun h => Int.mul_lt_mul_of_pos_right h hT⟩
 have h3 : (P * T = 2 * (a % P * T)) = (P = 2 * (a % P)) := by
  rw [← Int.mul_assoc]
  exact propext ⟨fun h => Int.eq_of_mul_eq_mul_right (Int.ne_of_gt hT) h, fun h => congrArg (· * T) h⟩
 rw [h1]
 simp only [h2, h3]
theorem docI_rd {a : Int} {n : Nat} (ha : a.natAbs % 2 = 1) (hn : 1 ≤ n) (mode : Int) : docI a n mode = rd mode a (2 ^ n) := by
 have hP : (0 : Int) < 2 ^ n := pow_pos' n
 have hr : a % 2 ^ n ≠ 0 := by
  intro h
  obtain ⟨k, rfl⟩ : ∃ k, n = k + 1 := ⟨n - 1, by omega⟩
  have h1 := Int.mul_ediv_add_emod a (2 ^ (k + 1))
  rw [h, Int.pow_succ, Int.add_zero] at h1
  have : a = 2 * (2 ^ k * (a / (2 ^ k * 2))) := by rw [← Int.mul_assoc, Int.mul_comm 2]; exact h1.symm
  omega
 have hm : a - a / 2 ^ n * 2 ^ n = a % 2 ^ n := by
  have := Int.mul_ediv_add_emod a (2 ^ n)
  rw [Int.mul_comm] at this
  omega
 unfold docI rd
 rw [neg_ediv_ndvd hP hr, hm]
 split
 ·rfl
 ·split
  ·omega
  ·have h2 : (2 : Int) ^ 1 = 2 := rfl
   simp only [sg_gt, sg_eq, h2]
   congr 1
   refine propext ⟨fun h => ?_, fun h => ?_⟩
   ·rcases h with h | ⟨h, h'⟩
    ·exact .inl (by omega)
    ·exact .inr ⟨by omega, h'⟩
   ·rcases h with h | ⟨h, h'⟩
    ·exact .inl (by omega)
    ·exact .inr ⟨by omega, h'⟩
theorem pow_split {a b : Int} (h1 : 0 ≤ a) (h2 : a ≤ b) : (2 : Int) ^ b.toNat = 2 ^ (b - a).toNat * 2 ^ a.toNat := by
 rw [← Int.pow_add]; congr 1; omega
theorem V_te {k : Nat} {m e : Int} (h : -(k : Int) ≤ e) : V k m e = tmI m * 2 ^ (teI m e + k).toNat := (V_nrm h).symm
theorem te_ge {m e : Int} (h : m ≠ 0) : e ≤ teI m e := by rw [teI_ne h]; omega
theorem tmI_oddN {m : Int} (h : m ≠ 0) : (tmI m).natAbs % 2 = 1 := (tz0_iff (by have := tmI_ne h; omega)).1 (tmI_odd h)
theorem V_grid {k : Nat} {m e E : Int} (mode : Int) (h1 : -(k : Int) ≤ e) (h2 : -(k : Int) ≤ E) :
  V k (gm m e E mode) (ge m e E mode) = 2 ^ (E + k).toNat * rd mode (V k m e) (2 ^ (E + k).toNat) := by
 have hU : (0 : Int) < 2 ^ (E + k).toNat := pow_pos' _
 unfold gm ge
 by_cases hc : m = 0 ∨ E ≤ teI m e
 ·rw [if_pos hc, if_pos hc, V_nrm h1]
  have hd : V k m e % 2 ^ (E + k).toNat = 0 := by
   by_cases hm : m = 0
   ·rw [hm, V_zero]; exact Int.zero_emod _
   ·have hE : E ≤ teI m e := by rcases hc with h | h; exact absurd h hm; exact h
    rw [V_te h1, pow_split (a := E + k) (b := teI m e + k) (by omega) (by omega), ← Int.mul_assoc]
    exact Int.mul_emod_left _ _
  rw [rd_dvd hU hd]
  have := Int.mul_ediv_add_emod (V k m e) (2 ^ (E + k).toNat)
  omega
 ·rw [if_neg hc, if_neg hc]
  have hm : m ≠ 0 := fun h => hc (.inl h)
  have hE : teI m e < E := by
   rcases Int.lt_or_le (teI m e) E with h | h
   ·exact h
   ·exact absurd (.inr h) hc
  have ht := te_ge (e := e) hm
  have hn : 1 ≤ (E - teI m e).toNat := by omega
  rw [V_nrm h2, grid_eq (tmI_oddN hm) hn mode, docI_rd (tmI_oddN hm) hn mode]
  unfold V
  rw [Int.mul_comm]
  congr 1
  have h3 := V_te (m := m) h1
  unfold V at h3
  rw [h3, pow_split (a := teI m e + k) (b := E + k) (by omega) (by omega), show E + k - (teI m e + k) = E - teI m e by omega, rd_mul (pow_pos' _) (pow_pos' _)]
theorem rd_up {v U : Int} (hU : 0 < U) : rd 1 v U = (if v % U = 0 then rd 0 v U else rd 0 v U + 1) := by
 have h4 : rd 0 v U = v / U := if_pos rfl
 have h5 : rd 1 v U = -((-v) / U) := by unfold rd; rw [if_neg (by omega), if_pos rfl]
 rw [h4, h5]
 split
 ·rename_i h; rw [neg_ediv_dvd hU h]; omega
 ·rename_i h; rw [neg_ediv_ndvd hU h]; omega
theorem tm_gm (m e E mode : Int) : tmI (gm m e E mode) = gm m e E mode := by unfold gm; split <;> exact tmI_idem _
theorem te_gm (m e E mode : Int) : teI (gm m e E mode) (ge m e E mode) = ge m e E mode := by unfold gm ge; split <;> exact teI_idem _ _
theorem teI_low {k m e : Int} (hk : 0 ≤ k) (h : -k ≤ e) : -k ≤ teI m e := by
 by_cases h0 : m = 0
 ·rw [h0, teI_zero]; omega
 ·have := te_ge (e := e) h0; omega
theorem ge_low {k : Nat} {m e E : Int} (mode : Int) (h1 : -(k : Int) ≤ e) (h2 : -(k : Int) ≤ E) : -(k : Int) ≤ ge m e E mode := by
 unfold ge; split
 ·exact teI_low (by omega) h1
 ·exact teI_low (by omega) h2
theorem gm_nrm (m e E mode : Int) : gm (tmI m) (teI m e) E mode = gm m e E mode := by
 unfold gm
 rw [tmI_idem, teI_idem]
 by_cases h : m = 0
 ·rw [h, tmI_zero, if_pos (.inl rfl)]
 ·have := tmI_ne h
  by_cases hE : E ≤ teI m e
  ·rw [if_pos (.inr hE), if_pos (.inr hE)]
  ·rw [if_neg (by omega), if_neg (by omega)]
theorem ge_nrm (m e E mode : Int) : ge (tmI m) (teI m e) E mode = ge m e E mode := by
 unfold ge
 rw [tmI_idem, teI_idem]
 by_cases h : m = 0
 ·rw [h, tmI_zero, if_pos (.inl rfl)]
 ·have := tmI_ne h
  by_cases hE : E ≤ teI m e
  ·rw [if_pos (.inr hE), if_pos (.inr hE)]
  ·rw [if_neg (by omega), if_neg (by omega)]
theorem stepI_nrm (m e p : Int) : stepI (tmI m) (teI m e) p = stepI m e p := by unfold stepI; rw [topI_nrm]
theorem rd_in {mode v U : Int} : rd mode v U = v / U ∨ rd mode v U = v / U + 1 ∨ U ≤ 0 := by
 rcases Int.lt_or_le 0 U with hU | hU
 ·by_cases h : v % U = 0
  ·exact .inl (rd_dvd hU h)
  ·unfold rd
   rw [neg_ediv_ndvd hU h]
   split
   ·exact .inl rfl
   ·split
    ·exact .inr (.inl (by omega))
    ·split
     ·exact .inr (.inl rfl)
     ·exact .inl rfl
 ·exact .inr (.inr hU)
theorem rd_top {mode v U P : Int} (hU : 0 < U) (h1 : v < U * P) (h2 : -(U * P) < v) : -(U * P) ≤ U * rd mode v U ∧ U * rd mode v U ≤ U * P := by
 have h3 := Int.mul_ediv_add_emod v U
 have h4 := Int.emod_nonneg v (Int.ne_of_gt hU)
 have h5 := Int.emod_lt_of_pos v hU
 have ha : v / U < P := Int.lt_of_mul_lt_mul_left (a := U) (by omega) (Int.le_of_lt hU)
 have hb : -P ≤ v / U := by
  have : -P < v / U + 1 := Int.lt_of_mul_lt_mul_left (a := U) (by rw [Int.mul_add, Int.mul_neg]; omega) (Int.le_of_lt hU)
  omega
 have hc : rd mode v U = v / U ∨ rd mode v U = v / U + 1 := by
  rcases rd_in (mode := mode) (v := v) (U := U) with h | h | h
  ·exact .inl h
  ·exact .inr h
  ·omega
 have hlo : -P ≤ rd mode v U := by omega
 have hhi : rd mode v U ≤ P := by omega
 have e1 := Int.mul_le_mul_of_nonneg_left hlo (Int.le_of_lt hU)
 have e2 := Int.mul_le_mul_of_nonneg_left hhi (Int.le_of_lt hU)
 rw [Int.mul_neg] at e1
 exact ⟨e1, e2⟩
theorem V_abs (k : Nat) (m e : Int) : (V k m e).natAbs = m.natAbs * 2 ^ (e + k).toNat := by
 unfold V; rw [Int.natAbs_mul, Int.natAbs_pow]; rfl
theorem pow2_cast (n : Nat) : ((2 ^ n : Nat) : Int) = 2 ^ n := by rw [Int.natCast_pow]; rfl
theorem rd_sides {v U : Int} (hU : 0 < U) :
  (v % U = 0 ∧ U * rd 0 v U = v ∧ U * rd 1 v U = v ∧ U * rd 2 v U = v) ∨
  (v % U ≠ 0 ∧ U * rd 0 v U < v ∧ v < U * rd 0 v U + U ∧ U * rd 1 v U = U * rd 0 v U + U ∧
    ((v - U * rd 0 v U < U * rd 1 v U - v ∧ U * rd 2 v U = U * rd 0 v U) ∨ (U * rd 1 v U - v < v - U * rd 0 v U ∧ U * rd 2 v U = U * rd 1 v U) ∨
     (v - U * rd 0 v U = U * rd 1 v U - v ∧ (U * rd 2 v U = U * rd 0 v U ∨ U * rd 2 v U = U * rd 1 v U)))) := by
 have h3 := Int.mul_ediv_add_emod v U
 have h4 := Int.emod_nonneg v (Int.ne_of_gt hU)
 have h5 := Int.emod_lt_of_pos v hU
 by_cases h : v % U = 0
 ·left
  rw [rd_dvd hU h, rd_dvd hU h, rd_dvd hU h]
  omega
 ·right
  have r0 : rd 0 v U = v / U := if_pos rfl
  have r1 := rd_up (v := v) hU
  rw [if_neg h, r0] at r1
  rw [r0, r1, Int.mul_add, Int.mul_one]
  have r2 : rd 2 v U = if U < 2 * (v % U) ∨ (U = 2 * (v % U) ∧ (v / U).natAbs % 2 = 1) then v / U + 1 else v / U := by unfold rd; rw [if_neg (by omega), if_neg (by omega)]
  rw [r2]
  refine ⟨h, by omega, by omega, rfl, ?_⟩
  split
  ·rename_i hc
   rw [Int.mul_add, Int.mul_one]
   omega
  ·rename_i hc
   omega
theorem k5 : tmI 5 = 5 := tmI_is (k := 0) (by decide) (by decide) (by decide)
theorem k2 : tmI 2 = 1 := tmI_is (k := 1) (by decide) (by decide) (by decide)
theorem k4 : tmI 4 = 1 := tmI_is (k := 2) (by decide) (by decide) (by decide)
theorem k6 : tmI 6 = 3 := tmI_is (k := 1) (by decide) (by decide) (by decide)
theorem k8 : tmI 8 = 1 := tmI_is (k := 3) (by decide) (by decide) (by decide)
end Go.Proofs.YtnjjfakjnkhhjaaGreatDoor.Ev
namespace Go.Proofs.YtnjjfakjnkhhjaaGreatDoor.Ev
open Go Go.RowKit
theorem tmod2_even {n : Int} (h : n % 2 = 0) : n.tmod 2 = 0 := by
 exact Int.tmod_eq_zero_of_dvd (Int.dvd_of_emod_eq_zero h)
theorem tmod2_odd {n : Int} (h : ¬n % 2 = 0) : ¬n.tmod 2 = 0 := fun h1 => h (Int.emod_eq_zero_of_dvd (Int.dvd_of_tmod_eq_zero h1))
end Go.Proofs.YtnjjfakjnkhhjaaGreatDoor.Ev
