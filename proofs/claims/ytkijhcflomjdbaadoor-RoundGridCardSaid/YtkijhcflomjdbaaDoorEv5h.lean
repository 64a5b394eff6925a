/- Rounding: what the laws of grids, halves and of rounding twice lean on. -/
import Derived.Test.YtkijhcflomjdbaaDoorEvv
namespace Go.Proofs.YtkijhcflomjdbaaDoor.Ev
open Go Go.RowKit
set_option linter.unusedSimpArgs false
set_option linter.unusedVariables false
theorem gm_fit {m e p : Int} (mode : Int) (h : fitsB m e p = true) : gm m e (stepI m e p) mode = tmI m ∧ ge m e (stepI m e p) mode = teI m e := by
  unfold fitsB at h
  rw [Bool.or_eq_true, decide_eq_true_eq, decide_eq_true_eq] at h
  exact gm_lies h
theorem gm_neg (m e E : Int) : gm (-m) e E 1 = -gm m e E 0 ∧ ge (-m) e E 1 = ge m e E 0 := by
  obtain ⟨k, hk1, hk2⟩ : ∃ k : Nat, -(k : Int) ≤ e ∧ -(k : Int) ≤ E := ⟨e.natAbs + E.natAbs, by omega, by omega⟩
  have h1 := V_grid (k := k) (m := -m) 1 hk1 hk2
  have h0 := V_grid (k := k) (m := m) 0 hk1 hk2
  have hr : rd 1 (V k (-m) e) (2 ^ (E + k).toNat) = -rd 0 (V k m e) (2 ^ (E + k).toNat) := by
    rw [V_neg]; unfold rd; rw [if_neg (by omega), if_pos rfl, if_pos rfl, Int.neg_neg]
  rw [hr, Int.mul_neg, ← h0, ← V_neg] at h1
  have h2 := V_inj (ge_low 1 hk1 hk2) (ge_low 0 hk1 hk2) h1
  rw [tm_gm, te_gm, tmI_neg, tm_gm, teI_neg, te_gm] at h2
  exact h2
theorem stepI_neg (m e p : Int) : stepI (-m) e p = stepI m e p := by unfold stepI; rw [topI_neg]
theorem gm_scale {m e E k : Int} (mode : Int) : cmpD (gm m (e + k) (E + k) mode) (ge m (e + k) (E + k) mode) (gm m e E mode) (ge m e E mode + k) = 0 := by
  obtain ⟨K, h3, h4, h5⟩ : ∃ K : Nat, -(K : Int) ≤ e + k ∧ -(K : Int) ≤ E + k ∧ -(K : Int) ≤ k := ⟨e.natAbs + E.natAbs + k.natAbs, by omega, by omega, by omega⟩
  obtain ⟨J, hJ⟩ : ∃ J : Nat, (K : Int) + k = J := ⟨(K + k).toNat, by omega⟩
  have h6 : -(J : Int) ≤ e := by omega
  have h7 : -(J : Int) ≤ E := by omega
  have hl := ge_low (m := m) mode h6 h7
  rw [cmp_V (k := K) (ge_low (m := m) mode h3 h4) (by omega), V_scale hJ, V_grid mode h3 h4, V_grid mode h6 h7, V_scale hJ, show E + k + (K : Int) = E + J by omega]
  exact sg_zero (by omega)
theorem stepI_scale {m e p k : Int} (h0 : m ≠ 0) (h1 : -10000 ≤ topI m e) (h2 : topI m e ≤ 10000) (h3 : -1000 ≤ k) (h4 : k ≤ 1000) : stepI m (e + k) p = stepI m e p + k := by
  have h5 : topI m (e + k) = topI m e + k := by unfold topI; rw [if_neg h0, if_neg h0]; omega
  unfold stepI; rw [h5]; unfold clampE; omega
theorem gm_zero (e E mode : Int) : gm 0 e E mode = 0 := (gm_lies (.inl rfl)).1.trans tmI_zero
theorem twice_scale {m e p k : Int} (h1 : -10000 ≤ topI m e) (h2 : topI m e ≤ 10000) (h3 : -1000 ≤ k) (h4 : k ≤ 1000) : cmpD (gm m (e + k) (stepI m (e + k) p) 2) (ge m (e + k) (stepI m (e + k) p) 2) (gm m e (stepI m e p) 2) (ge m e (stepI m e p) 2 + k) = 0 := by
  by_cases h0 : m = 0
  · subst h0
    rw [gm_zero, gm_zero]
    have hk : ∃ K : Nat, -(K : Int) ≤ ge 0 (e + k) (stepI 0 (e + k) p) 2 ∧ -(K : Int) ≤ ge 0 e (stepI 0 e p) 2 + k := ⟨(ge 0 (e + k) (stepI 0 (e + k) p) 2).natAbs + (ge 0 e (stepI 0 e p) 2 + k).natAbs, by omega, by omega⟩
    obtain ⟨K, h5, h6⟩ := hk
    rw [cmp_V h5 h6, V_zero, V_zero]; rfl
  · rw [stepI_scale h0 h1 h2 h3 h4]; exact gm_scale 2
theorem cmp_teR (a e m f E md g : Int) : cmpD a e (gm m f E md) (teI (gm m f E md) g) = cmpD a e (gm m f E md) g := by
  have := cmpD_nrmR a e (gm m f E md) g
  rwa [tm_gm] at this
theorem stepI_0 (m e : Int) : stepI m e 0 = stepI m e 1 := rfl
theorem clamp_stp {m e b : Int} (h0 : 1 ≤ b) (h1 : b ≤ 4000) : clampE (topI m e - b + 1) = stepI m e b := by
  unfold stepI
  rw [show min (max b 1) 4000 = b by omega]
/-- on a grid both sides are neighbours, or the number itself. -/
theorem grid5 (X e K : Int) :
    (cmpD (gm X e K 0) (ge X e K 0) X e = 0 ∧ cmpD X e (gm X e K 1) (ge X e K 1) = 0 ∧ cmpD (gm X e K 1) (ge X e K 1) (gm X e K 0) (ge X e K 0) = 0) ∨
    (cmpD (gm X e K 0) (ge X e K 0) X e = -1 ∧ cmpD X e (gm X e K 1) (ge X e K 1) = -1 ∧ cmpD (gm X e K 1) (ge X e K 1) (gm X e K 0) (ge X e K 0) = 1 ∧ cmpD (addM (gm X e K 1) (ge X e K 1) (-(gm X e K 0)) (ge X e K 0)) (min (ge X e K 1) (ge X e K 0)) 1 K = 0) := by
  obtain ⟨k, h1, h2⟩ : ∃ k : Nat, -(k : Int) ≤ e ∧ -(k : Int) ≤ K := ⟨e.natAbs + K.natAbs, by omega, by omega⟩
  have hU : (0 : Int) < 2 ^ (K + k).toNat := pow_pos' _
  have hl0 := ge_low (m := X) 0 h1 h2
  have hl1 := ge_low (m := X) 1 h1 h2
  rw [cmp_V hl0 h1, cmp_V h1 hl1, cmp_V hl1 hl0, cmp_V (by omega) h2, V_sub hl1 hl0, V_one]
  have hs := rd_sides (v := V k X e) hU
  rw [← V_grid 0 h1 h2, ← V_grid 1 h1 h2] at hs
  generalize V k (gm X e K 0) (ge X e K 0) = a at *
  generalize V k (gm X e K 1) (ge X e K 1) = b at *
  generalize V k X e = v at *
  generalize (2 : Int) ^ (K + k).toNat = U at *
  rcases hs with ⟨h0, h1, h2, h3⟩ | ⟨h0, h1, h2, h3, _⟩
  · left
    exact ⟨sg_zero (by omega), sg_zero (by omega), sg_zero (by omega)⟩
  · right
    exact ⟨sg_neg (by omega), sg_neg (by omega), sg_pos (by omega), sg_zero (by omega)⟩
/-- a finer grid is nearer. -/
theorem grid_fine {X e K K' : Int} (hK : K' ≤ K) : cmpD (gm X e K 0) (ge X e K 0) (gm X e K' 0) (ge X e K' 0) ≤ 0 ∧ cmpD (gm X e K' 0) (ge X e K' 0) X e ≤ 0 := by
  obtain ⟨k, h1, h2, h3⟩ : ∃ k : Nat, -(k : Int) ≤ e ∧ -(k : Int) ≤ K ∧ -(k : Int) ≤ K' := ⟨e.natAbs + K.natAbs + K'.natAbs, by omega, by omega, by omega⟩
  have hU : (0 : Int) < 2 ^ (K' + k).toNat := pow_pos' _
  rw [cmp_V (ge_low (m := X) 0 h1 h2) (ge_low (m := X) 0 h1 h3), cmp_V (ge_low (m := X) 0 h1 h3) h1, V_grid 0 h1 h2, V_grid 0 h1 h3, pow_split (a := K' + k) (b := K + k) (by omega) (by omega)]
  have hT : (0 : Int) < 2 ^ (K + k - (K' + k)).toNat := pow_pos' _
  generalize V k X e = v at *
  generalize (2 : Int) ^ (K' + k).toNat = U at *
  generalize (2 : Int) ^ (K + k - (K' + k)).toNat = T at *
  have e1 := rd_lo (v := v) (Int.mul_pos hT hU)
  have e2 := rd_lo (v := v) hU
  have r0 : rd 0 v U = v / U := if_pos rfl
  have e3 : T * U * rd 0 v (T * U) ≤ U * rd 0 v U := by
    rw [Int.mul_comm T U, Int.mul_assoc, r0]
    refine Int.mul_le_mul_of_nonneg_left ?_ (Int.le_of_lt hU)
    refine Int.le_ediv_of_mul_le hU ?_
    have := e1.1
    rw [Int.mul_comm T U, Int.mul_assoc] at this
    rw [Int.mul_comm]; exact this
  have sg_le : ∀ {x : Int}, x ≤ 0 → sg x ≤ 0 := fun {x} hx => by
    rcases Int.lt_trichotomy x 0 with h | h | h
    · rw [sg_neg h]; decide
    · rw [sg_zero h]; decide
    · omega
  exact ⟨sg_le (by omega), sg_le (by omega)⟩
/-- the middle between two neighbours. -/
theorem half5 {n k : Int} (mode w : Int) (hw : rd mode (2 * n + 1) 2 = w) : cmpD (gm (2 * n + 1) (k - 1) k mode) (ge (2 * n + 1) (k - 1) k mode) w k = 0 := by
  obtain ⟨K, h1, h2⟩ : ∃ K : Nat, -(K : Int) ≤ k - 1 ∧ -(K : Int) ≤ k := ⟨k.natAbs + 1, by omega, by omega⟩
  rw [cmp_V (ge_low (m := 2 * n + 1) mode h1 h2) h2, V_grid mode h1 h2]
  have hp : (2 : Int) ^ (k + K).toNat = 2 * 2 ^ (k - 1 + K).toNat := by
    rw [show (k + (K : Int)).toNat = (k - 1 + K).toNat + 1 by omega, Int.pow_succ, Int.mul_comm]
  have hr : rd mode (V K (2 * n + 1) (k - 1)) (2 ^ (k + K).toNat) = w := by
    rw [hp, ← hw]; exact rd_mul (by decide) (pow_pos' _)
  rw [hr]
  refine sg_zero ?_
  unfold V
  rw [Int.mul_comm]; omega
theorem half_even {n : Int} (h : n % 2 = 0) : rd 2 (2 * n + 1) 2 = n := by
  unfold rd
  rw [if_neg (by omega), if_neg (by omega), if_neg (by omega)]; omega
theorem half_odd {n : Int} (h : ¬n % 2 = 0) : rd 2 (2 * n + 1) 2 = n + 1 := by
  unfold rd
  rw [if_neg (by omega), if_neg (by omega), if_pos (by omega)]; omega
theorem half_down {n : Int} : rd 0 (2 * n + 1) 2 = n := by
  unfold rd
  rw [if_pos rfl]; omega
theorem grid7 (m : Int) (n : Nat) : gridI m n 7 = gridI m n 2 := rfl
theorem gm_7 (m e E : Int) : gm m e E 7 = gm m e E 2 := by unfold gm; rw [grid7]
theorem ge_7 (m e E : Int) : ge m e E 7 = ge m e E 2 := by unfold ge; rw [grid7]
theorem gm_neg0 (m e E : Int) : gm (-m) e E 1 = -gm m e E 0 := (gm_neg m e E).1
theorem ge_neg0 (m e E : Int) : ge (-m) e E 1 = ge m e E 0 := (gm_neg m e E).2
theorem fit_gmm {m e E mode : Int} {k l : Nat} (h : Fit m k) (hl : k + 1 ≤ l) : Fit (gm m e E mode) l := (fit_gm h).mono hl
theorem stepI_in3 {m e p : Int} (h : Fit m 640) (h1 : -2300 ≤ e) (h2 : e ≤ 2300) : -6300 ≤ stepI m e p ∧ stepI m e p ≤ 3000 := by
  have : -2300 ≤ topI m e ∧ topI m e ≤ 2940 := by
    rcases top_bd (e := e) h with h3 | h3 <;> omega
  unfold stepI clampE; omega
theorem te_gmk {m e E mode k a b : Int} (h : Fit m 640) (h1 : a ≤ ge m e E mode) (h2 : ge m e E mode ≤ b) (h3 : -200 ≤ k) (h4 : k ≤ 200) : min 0 (a - 200) ≤ teI (gm m e E mode) (ge m e E mode + k) ∧ teI (gm m e E mode) (ge m e E mode + k) ≤ max 0 (b + 200) := by
  by_cases h0 : gm m e E mode = 0
  · rw [h0, teI_zero]; omega
  · have h5 : teI (gm m e E mode) (ge m e E mode + k) = ge m e E mode + k := by
      have := teI_scale (gm m e E mode) (ge m e E mode) k
      rw [tm_gm, te_gm] at this
      have h6 : teI (gm m e E mode) (ge m e E mode + k) - (ge m e E mode + k) = teI (gm m e E mode) (ge m e E mode) - ge m e E mode := by
        rw [teI_ne h0, teI_ne h0]; omega
      rw [te_gm] at h6; omega
    rw [h5]; omega
theorem gm_nrmN (m e E mode : Int) : gm (-tmI m) (teI m e) E mode = gm (-m) e E mode := by rw [← tmI_neg, ← teI_neg m e]; exact gm_nrm _ _ _ _
theorem ge_nrmN (m e E mode : Int) : ge (-tmI m) (teI m e) E mode = ge (-m) e E mode := by rw [← tmI_neg, ← teI_neg m e]; exact ge_nrm _ _ _ _
theorem stepI_nrmN (m e p : Int) : stepI (-tmI m) (teI m e) p = stepI (-m) e p := by rw [← tmI_neg, ← teI_neg m e]; exact stepI_nrm _ _ _
theorem grid_all {few : Prop} [Decidable few] {X e K : Int} :
    ¬few ∨ (few ∧ gm X e K 0 = 0 ∧ cmpD (gm X e K 0) (ge X e K 0) X e = 0 ∧ cmpD X e (gm X e K 1) (ge X e K 1) = 0 ∧ cmpD (gm X e K 1) (ge X e K 1) (gm X e K 0) (ge X e K 0) = 0) ∨
    (few ∧ gm X e K 0 ≠ 0 ∧ cmpD (gm X e K 0) (ge X e K 0) X e = 0 ∧ cmpD X e (gm X e K 1) (ge X e K 1) = 0 ∧ cmpD (gm X e K 1) (ge X e K 1) (gm X e K 0) (ge X e K 0) = 0) ∨
    (few ∧ gm X e K 0 = 0 ∧ cmpD (gm X e K 0) (ge X e K 0) X e = -1 ∧ cmpD X e (gm X e K 1) (ge X e K 1) = -1 ∧ cmpD (gm X e K 1) (ge X e K 1) (gm X e K 0) (ge X e K 0) = 1 ∧ cmpD (addM (gm X e K 1) (ge X e K 1) (-(gm X e K 0)) (ge X e K 0)) (min (ge X e K 1) (ge X e K 0)) 1 K = 0) ∨
    (few ∧ gm X e K 0 ≠ 0 ∧ cmpD (gm X e K 0) (ge X e K 0) X e = -1 ∧ cmpD X e (gm X e K 1) (ge X e K 1) = -1 ∧ cmpD (gm X e K 1) (ge X e K 1) (gm X e K 0) (ge X e K 0) = 1 ∧ cmpD (addM (gm X e K 1) (ge X e K 1) (-(gm X e K 0)) (ge X e K 0)) (min (ge X e K 1) (ge X e K 0)) 1 K = 0) := by
  by_cases hf : few
  · right
    by_cases h0 : gm X e K 0 = 0 <;> rcases grid5 X e K with h | h
    · exact .inl ⟨hf, h0, h⟩
    · exact .inr (.inr (.inl ⟨hf, h0, h⟩))
    · exact .inr (.inl ⟨hf, h0, h⟩)
    · exact .inr (.inr (.inr ⟨hf, h0, h⟩))
  · exact .inl hf
theorem fit_small {m : Int} (h1 : -100000 ≤ m) (h2 : m ≤ 100000) : Fit m 640 := by
  have h : Fit m 17 := by unfold Fit; omega
  exact h.mono (by decide)
theorem tmod2_even {n : Int} (h : n % 2 = 0) : n.tmod 2 = 0 := by
  exact Int.tmod_eq_zero_of_dvd (Int.dvd_of_emod_eq_zero h)
theorem tmod2_odd {n : Int} (h : ¬n % 2 = 0) : ¬n.tmod 2 = 0 := fun h1 => h (Int.emod_eq_zero_of_dvd (Int.dvd_of_tmod_eq_zero h1))
end Go.Proofs.YtkijhcflomjdbaaDoor.Ev
