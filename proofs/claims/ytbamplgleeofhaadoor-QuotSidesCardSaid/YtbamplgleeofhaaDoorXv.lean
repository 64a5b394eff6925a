/- The laws of rounding: what they lean on. -/
import Derived.Test.YtbamplgleeofhaaDoorEvu
import Derived.Test.YtbamplgleeofhaaDoorXp
namespace Go.Proofs.YtbamplgleeofhaaDoor.Ev
open Go Go.RowKit
set_option linter.unusedSimpArgs false
set_option linter.unusedVariables false
/-- a whole number that is rounded to multiples of U, as a multiple. -/
def rd (mode v U : Int) : Int :=
  if mode = 0 then v / U else if mode = 1 then -((-v) / U) else
  if U < 2 * (v % U) ∨ (U = 2 * (v % U) ∧ (v / U).natAbs % 2 = 1) then v / U + 1 else v / U
theorem neg_ediv_dvd {v U : Int} (hU : 0 < U) (h : v % U = 0) : (-v) / U = -(v / U) := by
  have h1 := Int.mul_ediv_add_emod v U
  have := Int.ediv_emod_unique (a := -v) (b := U) (q := -(v / U)) (r := 0) hU
  refine (this.2 ⟨?_, by omega, by omega⟩).1
  rw [Int.mul_neg]; omega
theorem neg_ediv_ndvd {v U : Int} (hU : 0 < U) (h : v % U ≠ 0) : (-v) / U = -(v / U) - 1 := by
  have h1 := Int.mul_ediv_add_emod v U
  have h2 := Int.emod_nonneg v (Int.ne_of_gt hU)
  have h3 := Int.emod_lt_of_pos v hU
  have := Int.ediv_emod_unique (a := -v) (b := U) (q := -(v / U) - 1) (r := U - v % U) hU
  refine (this.2 ⟨?_, by omega, by omega⟩).1
  rw [Int.mul_sub, Int.mul_neg]; omega
theorem rd_dvd {mode v U : Int} (hU : 0 < U) (h : v % U = 0) : rd mode v U = v / U := by
  unfold rd
  rw [h, neg_ediv_dvd hU h]
  split
  · rfl
  · split
    · omega
    · rw [if_neg (by omega)]
theorem rd_mul {mode a P T : Int} (hP : 0 < P) (hT : 0 < T) : rd mode (a * T) (P * T) = rd mode a P := by
  unfold rd
  rw [← Int.neg_mul, Int.mul_ediv_mul_of_pos_left _ _ hT, Int.mul_ediv_mul_of_pos_left _ _ hT]
  have h1 : a * T % (P * T) = a % P * T := by rw [Int.mul_comm a, Int.mul_comm P, Int.mul_emod_mul_of_pos _ _ hT, Int.mul_comm]
  have h2 : (P * T < 2 * (a % P * T)) = (P < 2 * (a % P)) := by
    rw [← Int.mul_assoc]
    exact propext ⟨fun h => Int.lt_of_mul_lt_mul_right h (Int.le_of_lt hT), fun h => Int.mul_lt_mul_of_pos_right h hT⟩
  have h3 : (P * T = 2 * (a % P * T)) = (P = 2 * (a % P)) := by
    rw [← Int.mul_assoc]
    exact propext ⟨fun h => Int.eq_of_mul_eq_mul_right (Int.ne_of_gt hT) h, fun h => congrArg (· * T) h⟩
  rw [h1]
  simp only [h2, h3]
theorem docI_rd {a : Int} {n : Nat} (ha : a.natAbs % 2 = 1) (hn : 1 ≤ n) (mode : Int) : docI a n mode = rd mode a (2 ^ n) := by
  have hP : (0 : Int) < 2 ^ n := pow_pos' n
  have hr : a % 2 ^ n ≠ 0 := by
    intro h
    obtain ⟨k, rfl⟩ : ∃ k, n = k + 1 := ⟨n - 1, by omega⟩
    have h1 := Int.mul_ediv_add_emod a (2 ^ (k + 1))
    rw [h, Int.pow_succ, Int.add_zero] at h1
    have : a = 2 * (2 ^ k * (a / (2 ^ k * 2))) := by rw [← Int.mul_assoc, Int.mul_comm 2]; exact h1.symm
    omega
  have hm : a - a / 2 ^ n * 2 ^ n = a % 2 ^ n := by
    have := Int.mul_ediv_add_emod a (2 ^ n)
    rw [Int.mul_comm] at this
    omega
  unfold docI rd
  rw [neg_ediv_ndvd hP hr, hm]
  split
  · rfl
  · split
    · omega
    · have h2 : (2 : Int) ^ 1 = 2 := rfl
      simp only [sg_gt, sg_eq, h2]
      congr 1
      refine propext ⟨fun h => ?_, fun h => ?_⟩
      · rcases h with h | ⟨h, h'⟩
        · exact .inl (by omega)
        · exact .inr ⟨by omega, h'⟩
      · rcases h with h | ⟨h, h'⟩
        · exact .inl (by omega)
        · exact .inr ⟨by omega, h'⟩
theorem pow_split {a b : Int} (h1 : 0 ≤ a) (h2 : a ≤ b) : (2 : Int) ^ b.toNat = 2 ^ (b - a).toNat * 2 ^ a.toNat := by
  rw [← Int.pow_add]; congr 1; omega
theorem V_te {k : Nat} {m e : Int} (h : -(k : Int) ≤ e) : V k m e = tmI m * 2 ^ (teI m e + k).toNat := (V_nrm h).symm
theorem te_ge {m e : Int} (h : m ≠ 0) : e ≤ teI m e := by rw [teI_ne h]; omega
theorem tmI_oddN {m : Int} (h : m ≠ 0) : (tmI m).natAbs % 2 = 1 := (tz0_iff (by have := tmI_ne h; omega)).1 (tmI_odd h)
/-- what is rounded, in units of two to the power of -k. -/
theorem V_grid {k : Nat} {m e E : Int} (mode : Int) (h1 : -(k : Int) ≤ e) (h2 : -(k : Int) ≤ E) :
    V k (gm m e E mode) (ge m e E mode) = 2 ^ (E + k).toNat * rd mode (V k m e) (2 ^ (E + k).toNat) := by
  have hU : (0 : Int) < 2 ^ (E + k).toNat := pow_pos' _
  unfold gm ge
  by_cases hc : m = 0 ∨ E ≤ teI m e
  · rw [if_pos hc, if_pos hc, V_nrm h1]
    have hd : V k m e % 2 ^ (E + k).toNat = 0 := by
      by_cases hm : m = 0
      · rw [hm, V_zero]; exact Int.zero_emod _
      · have hE : E ≤ teI m e := by rcases hc with h | h; exact absurd h hm; exact h
        rw [V_te h1, pow_split (a := E + k) (b := teI m e + k) (by omega) (by omega), ← Int.mul_assoc]
        exact Int.mul_emod_left _ _
    rw [rd_dvd hU hd]
    have := Int.mul_ediv_add_emod (V k m e) (2 ^ (E + k).toNat)
    omega
  · rw [if_neg hc, if_neg hc]
    have hm : m ≠ 0 := fun h => hc (.inl h)
    have hE : teI m e < E := by
      rcases Int.lt_or_le (teI m e) E with h | h
      · exact h
      · exact absurd (.inr h) hc
    have ht := te_ge (e := e) hm
    have hn : 1 ≤ (E - teI m e).toNat := by omega
    rw [V_nrm h2, grid_eq (tmI_oddN hm) hn mode, docI_rd (tmI_oddN hm) hn mode]
    unfold V
    rw [Int.mul_comm]
    congr 1
    have h3 := V_te (m := m) h1
    unfold V at h3
    rw [h3, pow_split (a := teI m e + k) (b := E + k) (by omega) (by omega), show E + k - (teI m e + k) = E - teI m e by omega, rd_mul (pow_pos' _) (pow_pos' _)]
theorem rd_lo {v U : Int} (hU : 0 < U) : U * rd 0 v U ≤ v ∧ v < U * rd 0 v U + U := by
  have h1 := Int.mul_ediv_add_emod v U
  have h2 := Int.emod_nonneg v (Int.ne_of_gt hU)
  have h3 := Int.emod_lt_of_pos v hU
  have h4 : rd 0 v U = v / U := if_pos rfl
  rw [h4]; omega
theorem rd_up {v U : Int} (hU : 0 < U) : rd 1 v U = (if v % U = 0 then rd 0 v U else rd 0 v U + 1) := by
  have h4 : rd 0 v U = v / U := if_pos rfl
  have h5 : rd 1 v U = -((-v) / U) := by unfold rd; rw [if_neg (by omega), if_pos rfl]
  rw [h4, h5]
  split
  · rename_i h; rw [neg_ediv_dvd hU h]; omega
  · rename_i h; rw [neg_ediv_ndvd hU h]; omega
theorem tm_gm (m e E mode : Int) : tmI (gm m e E mode) = gm m e E mode := by unfold gm; split <;> exact tmI_idem _
theorem te_gm (m e E mode : Int) : teI (gm m e E mode) (ge m e E mode) = ge m e E mode := by unfold gm ge; split <;> exact teI_idem _ _
theorem teI_low {k m e : Int} (hk : 0 ≤ k) (h : -k ≤ e) : -k ≤ teI m e := by
  by_cases h0 : m = 0
  · rw [h0, teI_zero]; omega
  · have := te_ge (e := e) h0; omega
theorem ge_low {k : Nat} {m e E : Int} (mode : Int) (h1 : -(k : Int) ≤ e) (h2 : -(k : Int) ≤ E) : -(k : Int) ≤ ge m e E mode := by
  unfold ge; split
  · exact teI_low (by omega) h1
  · exact teI_low (by omega) h2
theorem gm_nrm (m e E mode : Int) : gm (tmI m) (teI m e) E mode = gm m e E mode := by
  unfold gm
  rw [tmI_idem, teI_idem]
  by_cases h : m = 0
  · rw [h, tmI_zero, if_pos (.inl rfl)]
  · have := tmI_ne h
    by_cases hE : E ≤ teI m e
    · rw [if_pos (.inr hE), if_pos (.inr hE)]
    · rw [if_neg (by omega), if_neg (by omega)]
theorem ge_nrm (m e E mode : Int) : ge (tmI m) (teI m e) E mode = ge m e E mode := by
  unfold ge
  rw [tmI_idem, teI_idem]
  by_cases h : m = 0
  · rw [h, tmI_zero, if_pos (.inl rfl)]
  · have := tmI_ne h
    by_cases hE : E ≤ teI m e
    · rw [if_pos (.inr hE), if_pos (.inr hE)]
    · rw [if_neg (by omega), if_neg (by omega)]
theorem stepI_nrm (m e p : Int) : stepI (tmI m) (teI m e) p = stepI m e p := by unfold stepI; rw [topI_nrm]
theorem tmI_eq0 (m : Int) : (tmI m = 0) = (m = 0) := propext ⟨tm0, fun h => by rw [h]; exact tmI_zero⟩
/-- whether it lies on the grid, by values. -/
theorem lies_V {k : Nat} {m e E : Int} (h1 : -(k : Int) ≤ e) (h2 : -(k : Int) ≤ E) : (m = 0 ∨ E ≤ teI m e) ↔ V k m e % 2 ^ (E + k).toNat = 0 := by
  constructor
  · intro hc
    by_cases hm : m = 0
    · rw [hm, V_zero]; exact Int.zero_emod _
    · have hE : E ≤ teI m e := by rcases hc with h | h; exact absurd h hm; exact h
      rw [V_te h1, pow_split (a := E + k) (b := teI m e + k) (by omega) (by omega), ← Int.mul_assoc]
      exact Int.mul_emod_left _ _
  · intro h
    by_cases hc : m = 0 ∨ E ≤ teI m e
    · exact hc
    · exfalso
      have hm : m ≠ 0 := fun h => hc (.inl h)
      have hE : ¬E ≤ teI m e := fun h => hc (.inr h)
      have ht := te_ge (e := e) hm
      have ho := tmI_oddN hm
      have hd := Int.mul_ediv_add_emod (V k m e) (2 ^ (E + k).toNat)
      rw [h, Int.add_zero, V_te h1, pow_split (a := teI m e + k) (b := E + k) (by omega) (by omega), show E + k - (teI m e + k) = ((E - teI m e - 1).toNat + 1 : Nat) by omega, Int.toNat_natCast, Int.pow_succ] at hd
      generalize tmI m * 2 ^ (teI m e + k).toNat / (2 ^ (E - teI m e - 1).toNat * 2 * 2 ^ (teI m e + k).toNat) = c at hd
      have h3 : 2 * (2 ^ (E - teI m e - 1).toNat * c) * 2 ^ (teI m e + k).toNat = tmI m * 2 ^ (teI m e + k).toNat := by
        rw [← hd]; simp only [Int.mul_comm, Int.mul_left_comm, Int.mul_assoc]
      have h4 := Int.eq_of_mul_eq_mul_right (Int.ne_of_gt (pow_pos' _)) h3
      omega
theorem fits_V {k : Nat} {m e p : Int} (h1 : -(k : Int) ≤ e) (h2 : -(k : Int) ≤ stepI m e p) : fitsB m e p = decide (V k m e % 2 ^ (stepI m e p + k).toNat = 0) := by
  unfold fitsB
  rw [← Bool.decide_or, Bool.eq_iff_iff, decide_eq_true_eq, decide_eq_true_eq]
  exact lies_V h1 h2
theorem fits_doc {m e p : Int} : fitsB m e p = (decide (ge m e (stepI m e p) 0 = teI m e) && decide (gm m e (stepI m e p) 0 = tmI m)) := by
  have h1 : -((e.natAbs + (stepI m e p).natAbs : Nat) : Int) ≤ e := by omega
  have h2 : -((e.natAbs + (stepI m e p).natAbs : Nat) : Int) ≤ stepI m e p := by omega
  generalize e.natAbs + (stepI m e p).natAbs = k at *
  have hU : (0 : Int) < 2 ^ (stepI m e p + k).toNat := pow_pos' _
  have h3 := V_iff (k := k) (m := gm m e (stepI m e p) 0) (e := ge m e (stepI m e p) 0) (n := m) (f := e) (ge_low (m := m) 0 h1 h2) h1
  rw [tm_gm, te_gm, V_grid 0 h1 h2] at h3
  rw [fits_V h1 h2, Bool.eq_iff_iff, Bool.and_eq_true, decide_eq_true_eq, decide_eq_true_eq, decide_eq_true_eq, And.comm, h3]
  have h4 := Int.mul_ediv_add_emod (V k m e) (2 ^ (stepI m e p + k).toNat)
  have h5 : rd 0 (V k m e) (2 ^ (stepI m e p + k).toNat) = V k m e / 2 ^ (stepI m e p + k).toNat := if_pos rfl
  rw [h5]; omega
theorem ge_ge {m e E mode : Int} (h : gm m e E mode ≠ 0) : E ≤ ge m e E mode := by
  by_cases hc : m = 0 ∨ E ≤ teI m e
  · rw [(gm_lies hc).2]
    rcases hc with h1 | h1
    · rw [(gm_lies (.inl h1)).1, h1, tmI_zero] at h; exact absurd rfl h
    · exact h1
  · rw [(gm_far hc).2]
    refine te_ge fun h0 => h ?_
    rw [(gm_far hc).1, h0]; exact tmI_zero
theorem rd_in {mode v U : Int} : rd mode v U = v / U ∨ rd mode v U = v / U + 1 ∨ U ≤ 0 := by
  rcases Int.lt_or_le 0 U with hU | hU
  · by_cases h : v % U = 0
    · exact .inl (rd_dvd hU h)
    · unfold rd
      rw [neg_ediv_ndvd hU h]
      split
      · exact .inl rfl
      · split
        · exact .inr (.inl (by omega))
        · split
          · exact .inr (.inl rfl)
          · exact .inl rfl
  · exact .inr (.inr hU)
/-- what is rounded isn't beyond the next power of two. -/
theorem rd_top {mode v U P : Int} (hU : 0 < U) (h1 : v < U * P) (h2 : -(U * P) < v) : -(U * P) ≤ U * rd mode v U ∧ U * rd mode v U ≤ U * P := by
  have h3 := Int.mul_ediv_add_emod v U
  have h4 := Int.emod_nonneg v (Int.ne_of_gt hU)
  have h5 := Int.emod_lt_of_pos v hU
  have ha : v / U < P := Int.lt_of_mul_lt_mul_left (a := U) (by omega) (Int.le_of_lt hU)
  have hb : -P ≤ v / U := by
    have : -P < v / U + 1 := Int.lt_of_mul_lt_mul_left (a := U) (by rw [Int.mul_add, Int.mul_neg]; omega) (Int.le_of_lt hU)
    omega
  have hc : rd mode v U = v / U ∨ rd mode v U = v / U + 1 := by
    rcases rd_in (mode := mode) (v := v) (U := U) with h | h | h
    · exact .inl h
    · exact .inr h
    · omega
  have hlo : -P ≤ rd mode v U := by omega
  have hhi : rd mode v U ≤ P := by omega
  have e1 := Int.mul_le_mul_of_nonneg_left hlo (Int.le_of_lt hU)
  have e2 := Int.mul_le_mul_of_nonneg_left hhi (Int.le_of_lt hU)
  rw [Int.mul_neg] at e1
  exact ⟨e1, e2⟩
theorem V_abs (k : Nat) (m e : Int) : (V k m e).natAbs = m.natAbs * 2 ^ (e + k).toNat := by
  unfold V; rw [Int.natAbs_mul, Int.natAbs_pow]; rfl
theorem pow2_cast (n : Nat) : ((2 ^ n : Nat) : Int) = 2 ^ n := by rw [Int.natCast_pow]; rfl
theorem fits_gm {m e p : Int} (mode : Int) (hp1 : 1 ≤ p) (hp2 : p ≤ 4000) (ht1 : -10000 ≤ topI m e) (ht2 : topI m e ≤ 10000) : fitsB (gm m e (stepI m e p) mode) (ge m e (stepI m e p) mode) p = true := by
  have hst : stepI m e p = topI m e - p + 1 := by unfold stepI clampE; omega
  generalize hE : stepI m e p = st at *
  by_cases h0 : gm m e st mode = 0
  · unfold fitsB; rw [h0]; rfl
  have hm : m ≠ 0 := fun h => h0 (by rw [(gm_lies (.inl h)).1, h]; exact tmI_zero)
  have hge := ge_ge h0
  have hodd : (gm m e st mode).natAbs % 2 = 1 := by rw [← tm_gm]; exact tmI_oddN h0
  have hT : topI m e = (nb m.natAbs : Int) - 1 + e := if_neg hm
  have hnb : nb m.natAbs ≠ 0 := fun h => by have := nb_zero_iff.1 h; omega
  obtain ⟨k, hk1, hk2⟩ : ∃ k : Nat, -(k : Int) ≤ e ∧ -(k : Int) ≤ st := ⟨e.natAbs + st.natAbs, by omega, by omega⟩
  have hV := V_grid (k := k) (m := m) mode hk1 hk2
  have hU : (0 : Int) < 2 ^ (st + k).toNat := pow_pos' _
  have hUP : (2 : Int) ^ (st + k).toNat * 2 ^ p.toNat = 2 ^ (topI m e + 1 + k).toNat := by rw [← Int.pow_add]; congr 1; omega
  have hv : (V k m e).natAbs < 2 ^ (topI m e + 1 + k).toNat := by
    rw [V_abs, show (topI m e + 1 + k).toNat = nb m.natAbs + (e + k).toNat by omega, Nat.pow_add]
    exact Nat.mul_lt_mul_of_pos_right (lt_pow_nb _) (Nat.pow_pos (by decide))
  have hc := pow2_cast (topI m e + 1 + k).toNat
  have hb := rd_top (mode := mode) (v := V k m e) (P := 2 ^ p.toNat) hU (by rw [hUP]; omega) (by rw [hUP]; omega)
  rw [← hV, hUP] at hb
  have hw : (V k (gm m e st mode) (ge m e st mode)).natAbs ≤ 2 ^ (topI m e + 1 + k).toNat := by omega
  rw [V_abs] at hw
  clear hb hc hv hV
  generalize gm m e st mode = g at *
  generalize hq : ge m e st mode = q at *
  have hgn : g.natAbs ≠ 0 := by omega
  have hgb : nb g.natAbs ≠ 0 := fun h => by have := nb_zero_iff.1 h; omega
  have htg : topI g q = (nb g.natAbs : Int) - 1 + q := if_neg h0
  have hlow := nb_low hgn
  have h1 : 2 ^ (nb g.natAbs - 1 + (q + k).toNat) ≤ 2 ^ (topI m e + 1 + k).toNat := by
    rw [Nat.pow_add]; exact Nat.le_trans (Nat.mul_le_mul_right _ hlow) hw
  have h2 := (Nat.pow_le_pow_iff_right (by decide : 1 < 2)).1 h1
  have hteq : teI g q = q := by
    rw [teI_ne h0, tz_odd (by omega)]; omega
  unfold fitsB
  rw [hteq, Bool.or_eq_true, decide_eq_true_eq, decide_eq_true_eq]
  right
  have hs : stepI g q p = topI g q - p + 1 := by unfold stepI clampE; omega
  rw [hs]
  by_cases h3 : topI g q ≤ topI m e
  · omega
  · have h4 : nb g.natAbs - 1 + (q + k).toNat = (topI m e + 1 + k).toNat := by omega
    rw [← h4, Nat.pow_add] at hw
    have h5 := Nat.le_of_mul_le_mul_right hw (Nat.pow_pos (by decide))
    have h6 : g.natAbs = 2 ^ (nb g.natAbs - 1) := by omega
    by_cases h7 : nb g.natAbs - 1 = 0
    · omega
    · exfalso
      obtain ⟨j, hj⟩ : ∃ j, nb g.natAbs - 1 = j + 1 := ⟨nb g.natAbs - 1 - 1, by omega⟩
      rw [hj, Nat.pow_succ] at h6
      omega
/-- both sides, and the nearest, of what isn't 0, in units. -/
theorem rd_sides {v U : Int} (hU : 0 < U) :
    (v % U = 0 ∧ U * rd 0 v U = v ∧ U * rd 1 v U = v ∧ U * rd 2 v U = v) ∨
    (v % U ≠ 0 ∧ U * rd 0 v U < v ∧ v < U * rd 0 v U + U ∧ U * rd 1 v U = U * rd 0 v U + U ∧
      ((v - U * rd 0 v U < U * rd 1 v U - v ∧ U * rd 2 v U = U * rd 0 v U) ∨ (U * rd 1 v U - v < v - U * rd 0 v U ∧ U * rd 2 v U = U * rd 1 v U) ∨
       (v - U * rd 0 v U = U * rd 1 v U - v ∧ (U * rd 2 v U = U * rd 0 v U ∨ U * rd 2 v U = U * rd 1 v U)))) := by
  have h3 := Int.mul_ediv_add_emod v U
  have h4 := Int.emod_nonneg v (Int.ne_of_gt hU)
  have h5 := Int.emod_lt_of_pos v hU
  by_cases h : v % U = 0
  · left
    rw [rd_dvd hU h, rd_dvd hU h, rd_dvd hU h]
    omega
  · right
    have r0 : rd 0 v U = v / U := if_pos rfl
    have r1 := rd_up (v := v) hU
    rw [if_neg h, r0] at r1
    rw [r0, r1, Int.mul_add, Int.mul_one]
    have r2 : rd 2 v U = if U < 2 * (v % U) ∨ (U = 2 * (v % U) ∧ (v / U).natAbs % 2 = 1) then v / U + 1 else v / U := by unfold rd; rw [if_neg (by omega), if_neg (by omega)]
    rw [r2]
    refine ⟨h, by omega, by omega, rfl, ?_⟩
    split
    · rename_i hc
      rw [Int.mul_add, Int.mul_one]
      omega
    · rename_i hc
      omega
def s_few5 : FnSpec := s_few
def s_known5 : FnSpec := ⟨.one .b, fun ds => ds = [], fun _ _ => 0, fun _ _ => true, fun _ _ => 0, fun _ _ => []⟩
theorem k5 : tmI 5 = 5 := tmI_is (k := 0) (by decide) (by decide) (by decide)
theorem k5e (e : Int) : teI 5 e = e := (teI_is (c := 5) (k := 0) (by decide) (by decide) (by decide)).trans (Int.add_zero e)
theorem k2 : tmI 2 = 1 := tmI_is (k := 1) (by decide) (by decide) (by decide)
theorem k2e (e : Int) : teI 2 e = e + 1 := teI_is (c := 1) (k := 1) (by decide) (by decide) (by decide)
theorem k4 : tmI 4 = 1 := tmI_is (k := 2) (by decide) (by decide) (by decide)
theorem k4e (e : Int) : teI 4 e = e + 2 := teI_is (c := 1) (k := 2) (by decide) (by decide) (by decide)
theorem k6 : tmI 6 = 3 := tmI_is (k := 1) (by decide) (by decide) (by decide)
theorem k6e (e : Int) : teI 6 e = e + 1 := teI_is (c := 3) (k := 1) (by decide) (by decide) (by decide)
theorem k8 : tmI 8 = 1 := tmI_is (k := 3) (by decide) (by decide) (by decide)
theorem k8e (e : Int) : teI 8 e = e + 3 := teI_is (c := 1) (k := 3) (by decide) (by decide) (by decide)
theorem k3e (e : Int) : teI 3 e = e := (teI_is (c := 3) (k := 0) (by decide) (by decide) (by decide)).trans (Int.add_zero e)
theorem ktop5 : topI 5 0 = 2 := by
  unfold topI
  rw [if_neg (by decide)]
  decide
theorem kst2 : stepI 5 0 2 = 1 := by unfold stepI; rw [ktop5]; decide
theorem kst3 : stepI 5 0 3 = 0 := by unfold stepI; rw [ktop5]; decide
theorem kgm {E mode a b c : Int} {n : Nat} (h1 : E = n) (h2 : 1 ≤ n) (h3 : gridI 5 n mode = a) (h4 : tmI a = b) (h5 : teI a E = c) : gm 5 0 E mode = b ∧ ge 5 0 E mode = c := by
  have h := gm_far (m := 5) (e := 0) (E := E) (mode := mode) (by rw [k5e]; omega)
  rw [k5, k5e, show (E - 0).toNat = n by omega, h3] at h
  exact ⟨h.1.trans h4, h.2.trans h5⟩
theorem kg1 : gm 5 0 1 1 = 3 ∧ ge 5 0 1 1 = 1 := kgm (n := 1) rfl (by decide) (a := 3) (by decide) k3 (k3e 1)
theorem kg0 : gm 5 0 1 0 = 1 ∧ ge 5 0 1 0 = 2 := kgm (n := 1) rfl (by decide) (a := 2) (by decide) k2 (k2e 1)
theorem kg2 : gm 5 0 1 2 = 1 ∧ ge 5 0 1 2 = 2 := kgm (n := 1) rfl (by decide) (a := 2) (by decide) k2 (k2e 1)
theorem kg3 : gm 5 0 2 1 = 1 ∧ ge 5 0 2 1 = 3 := kgm (n := 2) rfl (by decide) (a := 2) (by decide) k2 (k2e 2)
theorem kfit3 : fitsB 5 0 3 = true := by unfold fitsB; rw [kst3, k5e]; decide
theorem kfit2 : fitsB 5 0 2 = false := by unfold fitsB; rw [kst2, k5e]; decide
theorem kcl2 : clampE 2 = 2 := by decide
def s_RoundTells : FnSpec := ⟨.one .b, fun ds => match ds with | [x, .int .i64 _, .int .i64 _, .int .i64 _] => okW x | _ => False, fun _ _ => 0, fun _ _ => true, fun _ _ => 0, fun _ _ => []⟩
theorem tells5_arg {ds : List D} (h : s_RoundTells.p ds) : ∃ x p e k, ds = [x, .int .i64 p, .int .i64 e, .int .i64 k] ∧ okW x := by
  match ds, h with
  | [x, .int .i64 p, .int .i64 e, .int .i64 k], h => exact ⟨x, p, e, k, rfl, h⟩
def s_RoundSides : FnSpec := ⟨.one .b, fun ds => match ds with | [x, .int .u8 b] => okW x ∧ 0 ≤ b ∧ b ≤ 255 | _ => False, fun _ _ => 0, fun _ _ => true, fun _ _ => 0, fun _ _ => []⟩
theorem sides5_arg {ds : List D} (h : s_RoundSides.p ds) : ∃ x b, ds = [x, .int .u8 b] ∧ okW x ∧ 0 ≤ b ∧ b ≤ 255 := by
  match ds, h with
  | [x, .int .u8 b], h => exact ⟨x, b, rfl, h⟩
def s_RoundTwice : FnSpec := ⟨.one .b, fun ds => match ds with | [x, .int .u8 b, .int .i8 k] => okW x ∧ (0 ≤ b ∧ b ≤ 255) ∧ -128 ≤ k ∧ k ≤ 127 | _ => False, fun _ _ => 0, fun _ _ => true, fun _ _ => 0, fun _ _ => []⟩
theorem twice5_arg {ds : List D} (h : s_RoundTwice.p ds) : ∃ x b k, ds = [x, .int .u8 b, .int .i8 k] ∧ okW x ∧ (0 ≤ b ∧ b ≤ 255) ∧ -128 ≤ k ∧ k ≤ 127 := by
  match ds, h with
  | [x, .int .u8 b, .int .i8 k], h => exact ⟨x, b, k, rfl, h⟩
def s_RoundGrid : FnSpec := ⟨.one .b, fun ds => match ds with | [x, .int .i8 k, .int .u8 b] => okW x ∧ (-128 ≤ k ∧ k ≤ 127) ∧ 0 ≤ b ∧ b ≤ 255 | _ => False, fun _ _ => 0, fun _ _ => true, fun _ _ => 0, fun _ _ => []⟩
theorem grid5_arg {ds : List D} (h : s_RoundGrid.p ds) : ∃ x k b, ds = [x, .int .i8 k, .int .u8 b] ∧ okW x ∧ (-128 ≤ k ∧ k ≤ 127) ∧ 0 ≤ b ∧ b ≤ 255 := by
  match ds, h with
  | [x, .int .i8 k, .int .u8 b], h => exact ⟨x, k, b, rfl, h⟩
def s_RoundHalves : FnSpec := ⟨.one .b, fun ds => match ds with | [.int .i16 n, .int .i8 k] => (-32768 ≤ n ∧ n ≤ 32767) ∧ -128 ≤ k ∧ k ≤ 127 | _ => False, fun _ _ => 0, fun _ _ => true, fun _ _ => 0, fun _ _ => []⟩
theorem halves5_arg {ds : List D} (h : s_RoundHalves.p ds) : ∃ n k, ds = [.int .i16 n, .int .i8 k] ∧ (-32768 ≤ n ∧ n ≤ 32767) ∧ -128 ≤ k ∧ k ≤ 127 := by
  match ds, h with
  | [.int .i16 n, .int .i8 k], h => exact ⟨n, k, rfl, h⟩
theorem fit_gm {m e E mode : Int} {k : Nat} (h : Fit m k) : Fit (gm m e E mode) (k + 1) := by
  unfold gm
  split
  · exact (h.le (tmI_le _)).mono (by omega)
  · refine Fit.le ?_ (tmI_le _)
    rename_i hc
    have hm : m ≠ 0 := fun h => hc (.inl h)
    have hE : ¬E ≤ teI m e := fun h => hc (.inr h)
    rw [grid_eq (tmI_oddN hm) (by omega), docI_rd (tmI_oddN hm) (by omega)]
    have h1 := h.le (tmI_le m)
    generalize tmI m = a at *
    have hP := pow_pos' (E - teI m e).toNat
    have h2 := rd_in (mode := mode) (v := a) (U := 2 ^ (E - teI m e).toNat)
    have h3 := Int.natAbs_ediv_le_natAbs a (2 ^ (E - teI m e).toNat)
    generalize rd mode a (2 ^ (E - teI m e).toNat) = r at *
    generalize a / 2 ^ (E - teI m e).toNat = q at *
    unfold Fit at *
    have hp := Nat.pow_pos (n := k) (show 0 < 2 by decide)
    rw [Nat.pow_succ]
    omega
theorem ge_in {m e E mode a b : Int} {k : Nat} (h : Fit m k) (h1 : a ≤ e) (h2 : e ≤ b) (h3 : a ≤ E) (h4 : E ≤ b) (ha : a ≤ 0) (hb : 0 ≤ b) : a ≤ ge m e E mode ∧ ge m e E mode ≤ b + k + 1 := by
  have hf := fit_gm (e := e) (E := E) (mode := mode) h
  have hz := te_gm m e E mode
  unfold ge
  split
  · have := teI_bound (e := e) h; omega
  · rename_i hc
    have hg := (gm_far (mode := mode) hc).1
    have hr : Fit (gridI (tmI m) (E - teI m e).toNat mode) (k + 1) := by
      have hm : m ≠ 0 := fun h => hc (.inl h)
      have hE : ¬E ≤ teI m e := fun h => hc (.inr h)
      rw [grid_eq (tmI_oddN hm) (by omega), docI_rd (tmI_oddN hm) (by omega)]
      have h1 := h.le (tmI_le m)
      generalize tmI m = a at *
      have hP := pow_pos' (E - teI m e).toNat
      have h2 := rd_in (mode := mode) (v := a) (U := 2 ^ (E - teI m e).toNat)
      have h3 := Int.natAbs_ediv_le_natAbs a (2 ^ (E - teI m e).toNat)
      generalize rd mode a (2 ^ (E - teI m e).toNat) = r at *
      generalize a / 2 ^ (E - teI m e).toNat = q at *
      unfold Fit at *
      have hp := Nat.pow_pos (n := k) (show 0 < 2 by decide)
      rw [Nat.pow_succ]
      omega
    have := teI_bound (e := E) hr
    omega
theorem stepI_in {m e p : Int} (h : Fit m 640) (h1 : -2000 ≤ e) (h2 : e ≤ 2000) : -6000 ≤ stepI m e p ∧ stepI m e p ≤ 2641 := by
  have := topI_in h h1 h2
  unfold stepI clampE; omega
theorem clamp40 (e : Int) : (if (if 4000 < e then 4000 else e) > -4000 then if 4000 < e then 4000 else e else -4000) = max (-4000) (min e 4000) := by
  simp only [Int.min_def, Int.max_def]
  repeat' split
  all_goals omega
theorem clamp40e (e : Int) : (if min e 4000 > -4000 then min e 4000 else -4000) = max (-4000) (min e 4000) := by
  simp only [Int.max_def]
  split <;> split <;> omega
theorem clampE40 (e : Int) : clampE (max (-4000) (min e 4000)) = max (-4000) (min e 4000) := by unfold clampE; omega
theorem fit_if01 {m : Int} {k : Nat} : Fit (if m = 0 then 0 else 1) (k + 1) := by
  unfold Fit
  have hp := Nat.pow_pos (n := k) (show 0 < 2 by decide)
  rw [Nat.pow_succ]
  split <;> omega
theorem V_sub {k : Nat} {m e n f : Int} (h1 : -(k : Int) ≤ e) (h2 : -(k : Int) ≤ f) : V k (addM m e (-n) f) (min e f) = V k m e - V k n f := by
  rw [V_add h1 h2, V_neg]; rfl
theorem V_one (k : Nat) (st : Int) : V k 1 st = 2 ^ (st + k).toNat := Int.one_mul _
theorem sides5 {k : Nat} {X e st : Int} (h1 : -(k : Int) ≤ e) (h2 : -(k : Int) ≤ st) :
    (V k X e % 2 ^ (st + k).toNat = 0 ∧ cmpD X e (gm X e st 0) (ge X e st 0) = 0 ∧ cmpD (gm X e st 1) (ge X e st 1) X e = 0 ∧ cmpD (addM X e (-(gm X e st 0)) (ge X e st 0)) (min e (ge X e st 0)) 1 st = -1 ∧ cmpD (addM (gm X e st 1) (ge X e st 1) (-X) e) (min (ge X e st 1) e) 1 st = -1 ∧ cmpD (addM X e (-(gm X e st 0)) (ge X e st 0)) (min e (ge X e st 0)) (addM (gm X e st 1) (ge X e st 1) (-X) e) (min (ge X e st 1) e) = 0 ∧ cmpD (gm X e st 2) (ge X e st 2) (gm X e st 0) (ge X e st 0) = 0 ∧ cmpD (gm X e st 2) (ge X e st 2) (gm X e st 1) (ge X e st 1) = 0 ∧ cmpD (gm X e st 0) (ge X e st 0) (gm X e st 1) (ge X e st 1) = 0) ∨
    (V k X e % 2 ^ (st + k).toNat ≠ 0 ∧ cmpD X e (gm X e st 0) (ge X e st 0) = 1 ∧ cmpD (gm X e st 1) (ge X e st 1) X e = 1 ∧ cmpD (addM X e (-(gm X e st 0)) (ge X e st 0)) (min e (ge X e st 0)) 1 st = -1 ∧ cmpD (addM (gm X e st 1) (ge X e st 1) (-X) e) (min (ge X e st 1) e) 1 st = -1 ∧ cmpD (addM X e (-(gm X e st 0)) (ge X e st 0)) (min e (ge X e st 0)) (addM (gm X e st 1) (ge X e st 1) (-X) e) (min (ge X e st 1) e) = -1 ∧ cmpD (gm X e st 2) (ge X e st 2) (gm X e st 0) (ge X e st 0) = 0 ∧ cmpD (gm X e st 2) (ge X e st 2) (gm X e st 1) (ge X e st 1) = -1 ∧ cmpD (gm X e st 0) (ge X e st 0) (gm X e st 1) (ge X e st 1) = -1) ∨
    (V k X e % 2 ^ (st + k).toNat ≠ 0 ∧ cmpD X e (gm X e st 0) (ge X e st 0) = 1 ∧ cmpD (gm X e st 1) (ge X e st 1) X e = 1 ∧ cmpD (addM X e (-(gm X e st 0)) (ge X e st 0)) (min e (ge X e st 0)) 1 st = -1 ∧ cmpD (addM (gm X e st 1) (ge X e st 1) (-X) e) (min (ge X e st 1) e) 1 st = -1 ∧ cmpD (addM X e (-(gm X e st 0)) (ge X e st 0)) (min e (ge X e st 0)) (addM (gm X e st 1) (ge X e st 1) (-X) e) (min (ge X e st 1) e) = 1 ∧ cmpD (gm X e st 2) (ge X e st 2) (gm X e st 0) (ge X e st 0) = 1 ∧ cmpD (gm X e st 2) (ge X e st 2) (gm X e st 1) (ge X e st 1) = 0 ∧ cmpD (gm X e st 0) (ge X e st 0) (gm X e st 1) (ge X e st 1) = -1) ∨
    (V k X e % 2 ^ (st + k).toNat ≠ 0 ∧ cmpD X e (gm X e st 0) (ge X e st 0) = 1 ∧ cmpD (gm X e st 1) (ge X e st 1) X e = 1 ∧ cmpD (addM X e (-(gm X e st 0)) (ge X e st 0)) (min e (ge X e st 0)) 1 st = -1 ∧ cmpD (addM (gm X e st 1) (ge X e st 1) (-X) e) (min (ge X e st 1) e) 1 st = -1 ∧ cmpD (addM X e (-(gm X e st 0)) (ge X e st 0)) (min e (ge X e st 0)) (addM (gm X e st 1) (ge X e st 1) (-X) e) (min (ge X e st 1) e) = 0 ∧ cmpD (gm X e st 2) (ge X e st 2) (gm X e st 0) (ge X e st 0) = 0 ∧ cmpD (gm X e st 2) (ge X e st 2) (gm X e st 1) (ge X e st 1) = -1 ∧ cmpD (gm X e st 0) (ge X e st 0) (gm X e st 1) (ge X e st 1) = -1) ∨
    (V k X e % 2 ^ (st + k).toNat ≠ 0 ∧ cmpD X e (gm X e st 0) (ge X e st 0) = 1 ∧ cmpD (gm X e st 1) (ge X e st 1) X e = 1 ∧ cmpD (addM X e (-(gm X e st 0)) (ge X e st 0)) (min e (ge X e st 0)) 1 st = -1 ∧ cmpD (addM (gm X e st 1) (ge X e st 1) (-X) e) (min (ge X e st 1) e) 1 st = -1 ∧ cmpD (addM X e (-(gm X e st 0)) (ge X e st 0)) (min e (ge X e st 0)) (addM (gm X e st 1) (ge X e st 1) (-X) e) (min (ge X e st 1) e) = 0 ∧ cmpD (gm X e st 2) (ge X e st 2) (gm X e st 0) (ge X e st 0) = 1 ∧ cmpD (gm X e st 2) (ge X e st 2) (gm X e st 1) (ge X e st 1) = 0 ∧ cmpD (gm X e st 0) (ge X e st 0) (gm X e st 1) (ge X e st 1) = -1) := by
  have hU : (0 : Int) < 2 ^ (st + k).toNat := pow_pos' _
  have hl0 := ge_low (m := X) 0 h1 h2
  have hl1 := ge_low (m := X) 1 h1 h2
  have hl2 := ge_low (m := X) 2 h1 h2
  have hm0 : -(k : Int) ≤ min e (ge X e st 0) := by omega
  have hm1 : -(k : Int) ≤ min (ge X e st 1) e := by omega
  rw [cmp_V h1 hl0, cmp_V hl1 h1, cmp_V hm0 h2, cmp_V hm1 h2, cmp_V hm0 hm1, cmp_V hl2 hl0, cmp_V hl2 hl1, cmp_V hl0 hl1, V_sub h1 hl0, V_sub hl1 h1, V_one]
  have hv0 := V_grid (k := k) (m := X) 0 h1 h2
  have hv1 := V_grid (k := k) (m := X) 1 h1 h2
  have hv2 := V_grid (k := k) (m := X) 2 h1 h2
  have hs := rd_sides (v := V k X e) hU
  rw [← hv0, ← hv1, ← hv2] at hs
  clear hv0 hv1 hv2 hl0 hl1 hl2 hm0 hm1 h1 h2
  generalize V k (gm X e st 0) (ge X e st 0) = a at *
  generalize V k (gm X e st 1) (ge X e st 1) = b at *
  generalize V k (gm X e st 2) (ge X e st 2) = c at *
  generalize V k X e = v at *
  generalize (2 : Int) ^ (st + k).toNat = U at *
  rcases hs with ⟨h0, h1, h2, h3⟩ | ⟨h0, h1, h2, h3, ⟨h4, h5⟩ | ⟨h4, h5⟩ | ⟨h4, h5 | h5⟩⟩
  · left
    refine ⟨h0, ?_, ?_, ?_, ?_, ?_, ?_, ?_, ?_⟩ <;> first | exact sg_zero (by omega) | exact sg_neg (by omega) | exact sg_pos (by omega)
  · right; left
    refine ⟨h0, ?_, ?_, ?_, ?_, ?_, ?_, ?_, ?_⟩ <;> first | exact sg_zero (by omega) | exact sg_neg (by omega) | exact sg_pos (by omega)
  · right; right; left
    refine ⟨h0, ?_, ?_, ?_, ?_, ?_, ?_, ?_, ?_⟩ <;> first | exact sg_zero (by omega) | exact sg_neg (by omega) | exact sg_pos (by omega)
  · right; right; right; left
    refine ⟨h0, ?_, ?_, ?_, ?_, ?_, ?_, ?_, ?_⟩ <;> first | exact sg_zero (by omega) | exact sg_neg (by omega) | exact sg_pos (by omega)
  · right; right; right; right
    refine ⟨h0, ?_, ?_, ?_, ?_, ?_, ?_, ?_, ?_⟩ <;> first | exact sg_zero (by omega) | exact sg_neg (by omega) | exact sg_pos (by omega)
theorem not0_V {k : Nat} {X e st : Int} (h : V k X e % 2 ^ (st + k).toNat ≠ 0) : X ≠ 0 := fun h0 => h (by rw [h0, V_zero]; exact Int.zero_emod _)
theorem sides_all {few : Prop} [Decidable few] {X e p : Int} (h : few → Fit X 640 ∧ -2000 ≤ e ∧ e ≤ 2000) :
    ¬few ∨ (few ∧ X = 0 ∧ (fitsB X e p = true ∧ cmpD X e (gm X e (stepI X e p) 0) (ge X e (stepI X e p) 0) = 0 ∧ cmpD (gm X e (stepI X e p) 1) (ge X e (stepI X e p) 1) X e = 0 ∧ cmpD (addM X e (-(gm X e (stepI X e p) 0)) (ge X e (stepI X e p) 0)) (min e (ge X e (stepI X e p) 0)) 1 (stepI X e p) = -1 ∧ cmpD (addM (gm X e (stepI X e p) 1) (ge X e (stepI X e p) 1) (-X) e) (min (ge X e (stepI X e p) 1) e) 1 (stepI X e p) = -1 ∧ cmpD (addM X e (-(gm X e (stepI X e p) 0)) (ge X e (stepI X e p) 0)) (min e (ge X e (stepI X e p) 0)) (addM (gm X e (stepI X e p) 1) (ge X e (stepI X e p) 1) (-X) e) (min (ge X e (stepI X e p) 1) e) = 0 ∧ cmpD (gm X e (stepI X e p) 2) (ge X e (stepI X e p) 2) (gm X e (stepI X e p) 0) (ge X e (stepI X e p) 0) = 0 ∧ cmpD (gm X e (stepI X e p) 2) (ge X e (stepI X e p) 2) (gm X e (stepI X e p) 1) (ge X e (stepI X e p) 1) = 0 ∧ cmpD (gm X e (stepI X e p) 0) (ge X e (stepI X e p) 0) (gm X e (stepI X e p) 1) (ge X e (stepI X e p) 1) = 0)) ∨ (few ∧ X ≠ 0 ∧ (fitsB X e p = true ∧ cmpD X e (gm X e (stepI X e p) 0) (ge X e (stepI X e p) 0) = 0 ∧ cmpD (gm X e (stepI X e p) 1) (ge X e (stepI X e p) 1) X e = 0 ∧ cmpD (addM X e (-(gm X e (stepI X e p) 0)) (ge X e (stepI X e p) 0)) (min e (ge X e (stepI X e p) 0)) 1 (stepI X e p) = -1 ∧ cmpD (addM (gm X e (stepI X e p) 1) (ge X e (stepI X e p) 1) (-X) e) (min (ge X e (stepI X e p) 1) e) 1 (stepI X e p) = -1 ∧ cmpD (addM X e (-(gm X e (stepI X e p) 0)) (ge X e (stepI X e p) 0)) (min e (ge X e (stepI X e p) 0)) (addM (gm X e (stepI X e p) 1) (ge X e (stepI X e p) 1) (-X) e) (min (ge X e (stepI X e p) 1) e) = 0 ∧ cmpD (gm X e (stepI X e p) 2) (ge X e (stepI X e p) 2) (gm X e (stepI X e p) 0) (ge X e (stepI X e p) 0) = 0 ∧ cmpD (gm X e (stepI X e p) 2) (ge X e (stepI X e p) 2) (gm X e (stepI X e p) 1) (ge X e (stepI X e p) 1) = 0 ∧ cmpD (gm X e (stepI X e p) 0) (ge X e (stepI X e p) 0) (gm X e (stepI X e p) 1) (ge X e (stepI X e p) 1) = 0)) ∨ (few ∧ X ≠ 0 ∧ (fitsB X e p = false ∧ cmpD X e (gm X e (stepI X e p) 0) (ge X e (stepI X e p) 0) = 1 ∧ cmpD (gm X e (stepI X e p) 1) (ge X e (stepI X e p) 1) X e = 1 ∧ cmpD (addM X e (-(gm X e (stepI X e p) 0)) (ge X e (stepI X e p) 0)) (min e (ge X e (stepI X e p) 0)) 1 (stepI X e p) = -1 ∧ cmpD (addM (gm X e (stepI X e p) 1) (ge X e (stepI X e p) 1) (-X) e) (min (ge X e (stepI X e p) 1) e) 1 (stepI X e p) = -1 ∧ cmpD (addM X e (-(gm X e (stepI X e p) 0)) (ge X e (stepI X e p) 0)) (min e (ge X e (stepI X e p) 0)) (addM (gm X e (stepI X e p) 1) (ge X e (stepI X e p) 1) (-X) e) (min (ge X e (stepI X e p) 1) e) = -1 ∧ cmpD (gm X e (stepI X e p) 2) (ge X e (stepI X e p) 2) (gm X e (stepI X e p) 0) (ge X e (stepI X e p) 0) = 0 ∧ cmpD (gm X e (stepI X e p) 2) (ge X e (stepI X e p) 2) (gm X e (stepI X e p) 1) (ge X e (stepI X e p) 1) = -1 ∧ cmpD (gm X e (stepI X e p) 0) (ge X e (stepI X e p) 0) (gm X e (stepI X e p) 1) (ge X e (stepI X e p) 1) = -1)) ∨ (few ∧ X ≠ 0 ∧ (fitsB X e p = false ∧ cmpD X e (gm X e (stepI X e p) 0) (ge X e (stepI X e p) 0) = 1 ∧ cmpD (gm X e (stepI X e p) 1) (ge X e (stepI X e p) 1) X e = 1 ∧ cmpD (addM X e (-(gm X e (stepI X e p) 0)) (ge X e (stepI X e p) 0)) (min e (ge X e (stepI X e p) 0)) 1 (stepI X e p) = -1 ∧ cmpD (addM (gm X e (stepI X e p) 1) (ge X e (stepI X e p) 1) (-X) e) (min (ge X e (stepI X e p) 1) e) 1 (stepI X e p) = -1 ∧ cmpD (addM X e (-(gm X e (stepI X e p) 0)) (ge X e (stepI X e p) 0)) (min e (ge X e (stepI X e p) 0)) (addM (gm X e (stepI X e p) 1) (ge X e (stepI X e p) 1) (-X) e) (min (ge X e (stepI X e p) 1) e) = 1 ∧ cmpD (gm X e (stepI X e p) 2) (ge X e (stepI X e p) 2) (gm X e (stepI X e p) 0) (ge X e (stepI X e p) 0) = 1 ∧ cmpD (gm X e (stepI X e p) 2) (ge X e (stepI X e p) 2) (gm X e (stepI X e p) 1) (ge X e (stepI X e p) 1) = 0 ∧ cmpD (gm X e (stepI X e p) 0) (ge X e (stepI X e p) 0) (gm X e (stepI X e p) 1) (ge X e (stepI X e p) 1) = -1)) ∨ (few ∧ X ≠ 0 ∧ (fitsB X e p = false ∧ cmpD X e (gm X e (stepI X e p) 0) (ge X e (stepI X e p) 0) = 1 ∧ cmpD (gm X e (stepI X e p) 1) (ge X e (stepI X e p) 1) X e = 1 ∧ cmpD (addM X e (-(gm X e (stepI X e p) 0)) (ge X e (stepI X e p) 0)) (min e (ge X e (stepI X e p) 0)) 1 (stepI X e p) = -1 ∧ cmpD (addM (gm X e (stepI X e p) 1) (ge X e (stepI X e p) 1) (-X) e) (min (ge X e (stepI X e p) 1) e) 1 (stepI X e p) = -1 ∧ cmpD (addM X e (-(gm X e (stepI X e p) 0)) (ge X e (stepI X e p) 0)) (min e (ge X e (stepI X e p) 0)) (addM (gm X e (stepI X e p) 1) (ge X e (stepI X e p) 1) (-X) e) (min (ge X e (stepI X e p) 1) e) = 0 ∧ cmpD (gm X e (stepI X e p) 2) (ge X e (stepI X e p) 2) (gm X e (stepI X e p) 0) (ge X e (stepI X e p) 0) = 0 ∧ cmpD (gm X e (stepI X e p) 2) (ge X e (stepI X e p) 2) (gm X e (stepI X e p) 1) (ge X e (stepI X e p) 1) = -1 ∧ cmpD (gm X e (stepI X e p) 0) (ge X e (stepI X e p) 0) (gm X e (stepI X e p) 1) (ge X e (stepI X e p) 1) = -1)) ∨ (few ∧ X ≠ 0 ∧ (fitsB X e p = false ∧ cmpD X e (gm X e (stepI X e p) 0) (ge X e (stepI X e p) 0) = 1 ∧ cmpD (gm X e (stepI X e p) 1) (ge X e (stepI X e p) 1) X e = 1 ∧ cmpD (addM X e (-(gm X e (stepI X e p) 0)) (ge X e (stepI X e p) 0)) (min e (ge X e (stepI X e p) 0)) 1 (stepI X e p) = -1 ∧ cmpD (addM (gm X e (stepI X e p) 1) (ge X e (stepI X e p) 1) (-X) e) (min (ge X e (stepI X e p) 1) e) 1 (stepI X e p) = -1 ∧ cmpD (addM X e (-(gm X e (stepI X e p) 0)) (ge X e (stepI X e p) 0)) (min e (ge X e (stepI X e p) 0)) (addM (gm X e (stepI X e p) 1) (ge X e (stepI X e p) 1) (-X) e) (min (ge X e (stepI X e p) 1) e) = 0 ∧ cmpD (gm X e (stepI X e p) 2) (ge X e (stepI X e p) 2) (gm X e (stepI X e p) 0) (ge X e (stepI X e p) 0) = 1 ∧ cmpD (gm X e (stepI X e p) 2) (ge X e (stepI X e p) 2) (gm X e (stepI X e p) 1) (ge X e (stepI X e p) 1) = 0 ∧ cmpD (gm X e (stepI X e p) 0) (ge X e (stepI X e p) 0) (gm X e (stepI X e p) 1) (ge X e (stepI X e p) 1) = -1)) := by
  by_cases hf : few
  · right
    obtain ⟨h1, h2, h3⟩ := h hf
    have h4 := stepI_in (p := p) h1 h2 h3
    have k1 : -((7000 : Nat) : Int) ≤ e := by omega
    have k2 : -((7000 : Nat) : Int) ≤ stepI X e p := by omega
    have hF := fits_V (m := X) k1 k2
    rcases sides5 (X := X) k1 k2 with h1 | h1 | h1 | h1 | h1
    · rw [decide_eq_true h1.1] at hF
      by_cases h0 : X = 0
      · exact .inl ⟨hf, h0, hF, h1.2⟩
      · exact .inr (.inl ⟨hf, h0, hF, h1.2⟩)
    all_goals rw [decide_eq_false h1.1] at hF
    · exact .inr (.inr (.inl ⟨hf, not0_V h1.1, hF, h1.2⟩))
    · exact .inr (.inr (.inr (.inl ⟨hf, not0_V h1.1, hF, h1.2⟩)))
    · exact .inr (.inr (.inr (.inr (.inl ⟨hf, not0_V h1.1, hF, h1.2⟩))))
    · exact .inr (.inr (.inr (.inr (.inr ⟨hf, not0_V h1.1, hF, h1.2⟩))))
  · exact .inl hf
theorem ge_inc {m e E mode a b c : Int} {k : Nat} (h : Fit m k) (h1 : a ≤ e) (h2 : e ≤ b) (h3 : a ≤ E) (h4 : E ≤ b) (ha : a ≤ 0) (hb : 0 ≤ b) (hc : b + (k : Int) + 1 = c) : a ≤ ge m e E mode ∧ ge m e E mode ≤ c := by
  have := ge_in (mode := mode) h h1 h2 h3 h4 ha hb
  omega
end Go.Proofs.YtbamplgleeofhaaDoor.Ev
/- Rounding: what the laws of grids, halves and of rounding twice lean on. -/
namespace Go.Proofs.YtbamplgleeofhaaDoor.Ev
open Go Go.RowKit
set_option linter.unusedSimpArgs false
set_option linter.unusedVariables false
theorem gm_fit {m e p : Int} (mode : Int) (h : fitsB m e p = true) : gm m e (stepI m e p) mode = tmI m ∧ ge m e (stepI m e p) mode = teI m e := by
  unfold fitsB at h
  rw [Bool.or_eq_true, decide_eq_true_eq, decide_eq_true_eq] at h
  exact gm_lies h
theorem gm_neg (m e E : Int) : gm (-m) e E 1 = -gm m e E 0 ∧ ge (-m) e E 1 = ge m e E 0 := by
  obtain ⟨k, hk1, hk2⟩ : ∃ k : Nat, -(k : Int) ≤ e ∧ -(k : Int) ≤ E := ⟨e.natAbs + E.natAbs, by omega, by omega⟩
  have h1 := V_grid (k := k) (m := -m) 1 hk1 hk2
  have h0 := V_grid (k := k) (m := m) 0 hk1 hk2
  have hr : rd 1 (V k (-m) e) (2 ^ (E + k).toNat) = -rd 0 (V k m e) (2 ^ (E + k).toNat) := by
    rw [V_neg]; unfold rd; rw [if_neg (by omega), if_pos rfl, if_pos rfl, Int.neg_neg]
  rw [hr, Int.mul_neg, ← h0, ← V_neg] at h1
  have h2 := V_inj (ge_low 1 hk1 hk2) (ge_low 0 hk1 hk2) h1
  rw [tm_gm, te_gm, tmI_neg, tm_gm, teI_neg, te_gm] at h2
  exact h2
theorem stepI_neg (m e p : Int) : stepI (-m) e p = stepI m e p := by unfold stepI; rw [topI_neg]
theorem gm_scale {m e E k : Int} (mode : Int) : cmpD (gm m (e + k) (E + k) mode) (ge m (e + k) (E + k) mode) (gm m e E mode) (ge m e E mode + k) = 0 := by
  obtain ⟨K, h3, h4, h5⟩ : ∃ K : Nat, -(K : Int) ≤ e + k ∧ -(K : Int) ≤ E + k ∧ -(K : Int) ≤ k := ⟨e.natAbs + E.natAbs + k.natAbs, by omega, by omega, by omega⟩
  obtain ⟨J, hJ⟩ : ∃ J : Nat, (K : Int) + k = J := ⟨(K + k).toNat, by omega⟩
  have h6 : -(J : Int) ≤ e := by omega
  have h7 : -(J : Int) ≤ E := by omega
  have hl := ge_low (m := m) mode h6 h7
  rw [cmp_V (k := K) (ge_low (m := m) mode h3 h4) (by omega), V_scale hJ, V_grid mode h3 h4, V_grid mode h6 h7, V_scale hJ, show E + k + (K : Int) = E + J by omega]
  exact sg_zero (by omega)
theorem stepI_scale {m e p k : Int} (h0 : m ≠ 0) (h1 : -10000 ≤ topI m e) (h2 : topI m e ≤ 10000) (h3 : -1000 ≤ k) (h4 : k ≤ 1000) : stepI m (e + k) p = stepI m e p + k := by
  have h5 : topI m (e + k) = topI m e + k := by unfold topI; rw [if_neg h0, if_neg h0]; omega
  unfold stepI; rw [h5]; unfold clampE; omega
theorem gm_zero (e E mode : Int) : gm 0 e E mode = 0 := (gm_lies (.inl rfl)).1.trans tmI_zero
theorem twice_scale {m e p k : Int} (h1 : -10000 ≤ topI m e) (h2 : topI m e ≤ 10000) (h3 : -1000 ≤ k) (h4 : k ≤ 1000) : cmpD (gm m (e + k) (stepI m (e + k) p) 2) (ge m (e + k) (stepI m (e + k) p) 2) (gm m e (stepI m e p) 2) (ge m e (stepI m e p) 2 + k) = 0 := by
  by_cases h0 : m = 0
  · subst h0
    rw [gm_zero, gm_zero]
    have hk : ∃ K : Nat, -(K : Int) ≤ ge 0 (e + k) (stepI 0 (e + k) p) 2 ∧ -(K : Int) ≤ ge 0 e (stepI 0 e p) 2 + k := ⟨(ge 0 (e + k) (stepI 0 (e + k) p) 2).natAbs + (ge 0 e (stepI 0 e p) 2 + k).natAbs, by omega, by omega⟩
    obtain ⟨K, h5, h6⟩ := hk
    rw [cmp_V h5 h6, V_zero, V_zero]; rfl
  · rw [stepI_scale h0 h1 h2 h3 h4]; exact gm_scale 2
theorem cmp_teR (a e m f E md g : Int) : cmpD a e (gm m f E md) (teI (gm m f E md) g) = cmpD a e (gm m f E md) g := by
  have := cmpD_nrmR a e (gm m f E md) g
  rwa [tm_gm] at this
theorem stepI_0 (m e : Int) : stepI m e 0 = stepI m e 1 := rfl
theorem clamp_stp {m e b : Int} (h0 : 1 ≤ b) (h1 : b ≤ 4000) : clampE (topI m e - b + 1) = stepI m e b := by
  unfold stepI
  rw [show min (max b 1) 4000 = b by omega]
/-- on a grid both sides are neighbours, or the number itself. -/
theorem grid5 (X e K : Int) :
    (cmpD (gm X e K 0) (ge X e K 0) X e = 0 ∧ cmpD X e (gm X e K 1) (ge X e K 1) = 0 ∧ cmpD (gm X e K 1) (ge X e K 1) (gm X e K 0) (ge X e K 0) = 0) ∨
    (cmpD (gm X e K 0) (ge X e K 0) X e = -1 ∧ cmpD X e (gm X e K 1) (ge X e K 1) = -1 ∧ cmpD (gm X e K 1) (ge X e K 1) (gm X e K 0) (ge X e K 0) = 1 ∧ cmpD (addM (gm X e K 1) (ge X e K 1) (-(gm X e K 0)) (ge X e K 0)) (min (ge X e K 1) (ge X e K 0)) 1 K = 0) := by
  obtain ⟨k, h1, h2⟩ : ∃ k : Nat, -(k : Int) ≤ e ∧ -(k : Int) ≤ K := ⟨e.natAbs + K.natAbs, by omega, by omega⟩
  have hU : (0 : Int) < 2 ^ (K + k).toNat := pow_pos' _
  have hl0 := ge_low (m := X) 0 h1 h2
  have hl1 := ge_low (m := X) 1 h1 h2
  rw [cmp_V hl0 h1, cmp_V h1 hl1, cmp_V hl1 hl0, cmp_V (by omega) h2, V_sub hl1 hl0, V_one]
  have hs := rd_sides (v := V k X e) hU
  rw [← V_grid 0 h1 h2, ← V_grid 1 h1 h2] at hs
  generalize V k (gm X e K 0) (ge X e K 0) = a at *
  generalize V k (gm X e K 1) (ge X e K 1) = b at *
  generalize V k X e = v at *
  generalize (2 : Int) ^ (K + k).toNat = U at *
  rcases hs with ⟨h0, h1, h2, h3⟩ | ⟨h0, h1, h2, h3, _⟩
  · left
    exact ⟨sg_zero (by omega), sg_zero (by omega), sg_zero (by omega)⟩
  · right
    exact ⟨sg_neg (by omega), sg_neg (by omega), sg_pos (by omega), sg_zero (by omega)⟩
/-- a finer grid is nearer. -/
theorem grid_fine {X e K K' : Int} (hK : K' ≤ K) : cmpD (gm X e K 0) (ge X e K 0) (gm X e K' 0) (ge X e K' 0) ≤ 0 ∧ cmpD (gm X e K' 0) (ge X e K' 0) X e ≤ 0 := by
  obtain ⟨k, h1, h2, h3⟩ : ∃ k : Nat, -(k : Int) ≤ e ∧ -(k : Int) ≤ K ∧ -(k : Int) ≤ K' := ⟨e.natAbs + K.natAbs + K'.natAbs, by omega, by omega, by omega⟩
  have hU : (0 : Int) < 2 ^ (K' + k).toNat := pow_pos' _
  rw [cmp_V (ge_low (m := X) 0 h1 h2) (ge_low (m := X) 0 h1 h3), cmp_V (ge_low (m := X) 0 h1 h3) h1, V_grid 0 h1 h2, V_grid 0 h1 h3, pow_split (a := K' + k) (b := K + k) (by omega) (by omega)]
  have hT : (0 : Int) < 2 ^ (K + k - (K' + k)).toNat := pow_pos' _
  generalize V k X e = v at *
  generalize (2 : Int) ^ (K' + k).toNat = U at *
  generalize (2 : Int) ^ (K + k - (K' + k)).toNat = T at *
  have e1 := rd_lo (v := v) (Int.mul_pos hT hU)
  have e2 := rd_lo (v := v) hU
  have r0 : rd 0 v U = v / U := if_pos rfl
  have e3 : T * U * rd 0 v (T * U) ≤ U * rd 0 v U := by
    rw [Int.mul_comm T U, Int.mul_assoc, r0]
    refine Int.mul_le_mul_of_nonneg_left ?_ (Int.le_of_lt hU)
    refine Int.le_ediv_of_mul_le hU ?_
    have := e1.1
    rw [Int.mul_comm T U, Int.mul_assoc] at this
    rw [Int.mul_comm]; exact this
  have sg_le : ∀ {x : Int}, x ≤ 0 → sg x ≤ 0 := fun {x} hx => by
    rcases Int.lt_trichotomy x 0 with h | h | h
    · rw [sg_neg h]; decide
    · rw [sg_zero h]; decide
    · omega
  exact ⟨sg_le (by omega), sg_le (by omega)⟩
/-- the middle between two neighbours. -/
theorem half5 {n k : Int} (mode w : Int) (hw : rd mode (2 * n + 1) 2 = w) : cmpD (gm (2 * n + 1) (k - 1) k mode) (ge (2 * n + 1) (k - 1) k mode) w k = 0 := by
  obtain ⟨K, h1, h2⟩ : ∃ K : Nat, -(K : Int) ≤ k - 1 ∧ -(K : Int) ≤ k := ⟨k.natAbs + 1, by omega, by omega⟩
  rw [cmp_V (ge_low (m := 2 * n + 1) mode h1 h2) h2, V_grid mode h1 h2]
  have hp : (2 : Int) ^ (k + K).toNat = 2 * 2 ^ (k - 1 + K).toNat := by
    rw [show (k + (K : Int)).toNat = (k - 1 + K).toNat + 1 by omega, Int.pow_succ, Int.mul_comm]
  have hr : rd mode (V K (2 * n + 1) (k - 1)) (2 ^ (k + K).toNat) = w := by
    rw [hp, ← hw]; exact rd_mul (by decide) (pow_pos' _)
  rw [hr]
  refine sg_zero ?_
  unfold V
  rw [Int.mul_comm]; omega
theorem half_even {n : Int} (h : n % 2 = 0) : rd 2 (2 * n + 1) 2 = n := by
  unfold rd
  rw [if_neg (by omega), if_neg (by omega), if_neg (by omega)]; omega
theorem half_odd {n : Int} (h : ¬n % 2 = 0) : rd 2 (2 * n + 1) 2 = n + 1 := by
  unfold rd
  rw [if_neg (by omega), if_neg (by omega), if_pos (by omega)]; omega
theorem half_down {n : Int} : rd 0 (2 * n + 1) 2 = n := by
  unfold rd
  rw [if_pos rfl]; omega
theorem grid7 (m : Int) (n : Nat) : gridI m n 7 = gridI m n 2 := rfl
theorem gm_7 (m e E : Int) : gm m e E 7 = gm m e E 2 := by unfold gm; rw [grid7]
theorem ge_7 (m e E : Int) : ge m e E 7 = ge m e E 2 := by unfold ge; rw [grid7]
theorem gm_neg0 (m e E : Int) : gm (-m) e E 1 = -gm m e E 0 := (gm_neg m e E).1
theorem ge_neg0 (m e E : Int) : ge (-m) e E 1 = ge m e E 0 := (gm_neg m e E).2
theorem fit_gmm {m e E mode : Int} {k l : Nat} (h : Fit m k) (hl : k + 1 ≤ l) : Fit (gm m e E mode) l := (fit_gm h).mono hl
theorem stepI_in3 {m e p : Int} (h : Fit m 640) (h1 : -2300 ≤ e) (h2 : e ≤ 2300) : -6300 ≤ stepI m e p ∧ stepI m e p ≤ 3000 := by
  have : -2300 ≤ topI m e ∧ topI m e ≤ 2940 := by
    rcases top_bd (e := e) h with h3 | h3 <;> omega
  unfold stepI clampE; omega
theorem te_gmk {m e E mode k a b : Int} (h : Fit m 640) (h1 : a ≤ ge m e E mode) (h2 : ge m e E mode ≤ b) (h3 : -200 ≤ k) (h4 : k ≤ 200) : min 0 (a - 200) ≤ teI (gm m e E mode) (ge m e E mode + k) ∧ teI (gm m e E mode) (ge m e E mode + k) ≤ max 0 (b + 200) := by
  by_cases h0 : gm m e E mode = 0
  · rw [h0, teI_zero]; omega
  · have h5 : teI (gm m e E mode) (ge m e E mode + k) = ge m e E mode + k := by
      have := teI_scale (gm m e E mode) (ge m e E mode) k
      rw [tm_gm, te_gm] at this
      have h6 : teI (gm m e E mode) (ge m e E mode + k) - (ge m e E mode + k) = teI (gm m e E mode) (ge m e E mode) - ge m e E mode := by
        rw [teI_ne h0, teI_ne h0]; omega
      rw [te_gm] at h6; omega
    rw [h5]; omega
theorem gm_nrmN (m e E mode : Int) : gm (-tmI m) (teI m e) E mode = gm (-m) e E mode := by rw [← tmI_neg, ← teI_neg m e]; exact gm_nrm _ _ _ _
theorem ge_nrmN (m e E mode : Int) : ge (-tmI m) (teI m e) E mode = ge (-m) e E mode := by rw [← tmI_neg, ← teI_neg m e]; exact ge_nrm _ _ _ _
theorem stepI_nrmN (m e p : Int) : stepI (-tmI m) (teI m e) p = stepI (-m) e p := by rw [← tmI_neg, ← teI_neg m e]; exact stepI_nrm _ _ _
theorem grid_all {few : Prop} [Decidable few] {X e K : Int} :
    ¬few ∨ (few ∧ gm X e K 0 = 0 ∧ cmpD (gm X e K 0) (ge X e K 0) X e = 0 ∧ cmpD X e (gm X e K 1) (ge X e K 1) = 0 ∧ cmpD (gm X e K 1) (ge X e K 1) (gm X e K 0) (ge X e K 0) = 0) ∨
    (few ∧ gm X e K 0 ≠ 0 ∧ cmpD (gm X e K 0) (ge X e K 0) X e = 0 ∧ cmpD X e (gm X e K 1) (ge X e K 1) = 0 ∧ cmpD (gm X e K 1) (ge X e K 1) (gm X e K 0) (ge X e K 0) = 0) ∨
    (few ∧ gm X e K 0 = 0 ∧ cmpD (gm X e K 0) (ge X e K 0) X e = -1 ∧ cmpD X e (gm X e K 1) (ge X e K 1) = -1 ∧ cmpD (gm X e K 1) (ge X e K 1) (gm X e K 0) (ge X e K 0) = 1 ∧ cmpD (addM (gm X e K 1) (ge X e K 1) (-(gm X e K 0)) (ge X e K 0)) (min (ge X e K 1) (ge X e K 0)) 1 K = 0) ∨
    (few ∧ gm X e K 0 ≠ 0 ∧ cmpD (gm X e K 0) (ge X e K 0) X e = -1 ∧ cmpD X e (gm X e K 1) (ge X e K 1) = -1 ∧ cmpD (gm X e K 1) (ge X e K 1) (gm X e K 0) (ge X e K 0) = 1 ∧ cmpD (addM (gm X e K 1) (ge X e K 1) (-(gm X e K 0)) (ge X e K 0)) (min (ge X e K 1) (ge X e K 0)) 1 K = 0) := by
  by_cases hf : few
  · right
    by_cases h0 : gm X e K 0 = 0 <;> rcases grid5 X e K with h | h
    · exact .inl ⟨hf, h0, h⟩
    · exact .inr (.inr (.inl ⟨hf, h0, h⟩))
    · exact .inr (.inl ⟨hf, h0, h⟩)
    · exact .inr (.inr (.inr ⟨hf, h0, h⟩))
  · exact .inl hf
theorem fit_small {m : Int} (h1 : -100000 ≤ m) (h2 : m ≤ 100000) : Fit m 640 := by
  have h : Fit m 17 := by unfold Fit; omega
  exact h.mono (by decide)
theorem tmod2_even {n : Int} (h : n % 2 = 0) : n.tmod 2 = 0 := by
  exact Int.tmod_eq_zero_of_dvd (Int.dvd_of_emod_eq_zero h)
theorem tmod2_odd {n : Int} (h : ¬n % 2 = 0) : ¬n.tmod 2 = 0 := fun h1 => h (Int.emod_eq_zero_of_dvd (Int.dvd_of_tmod_eq_zero h1))
end Go.Proofs.YtbamplgleeofhaaDoor.Ev
