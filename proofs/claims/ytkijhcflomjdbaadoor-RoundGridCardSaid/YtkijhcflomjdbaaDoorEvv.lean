/- The laws of rounding: what they lean on. -/
import Derived.Test.YtkijhcflomjdbaaDoorEvu
import Derived.Test.YtkijhcflomjdbaaDoorEvh
namespace Go.Proofs.YtkijhcflomjdbaaDoor.Ev
open Go Go.RowKit
set_option linter.unusedSimpArgs false
set_option linter.unusedVariables false
/-- a whole number that is rounded to multiples of U, as a multiple. -/
def rd (mode v U : Int) : Int :=
  if mode = 0 then v / U else if mode = 1 then -((-v) / U) else
  if U < 2 * (v % U) ∨ (U = 2 * (v % U) ∧ (v / U).natAbs % 2 = 1) then v / U + 1 else v / U
theorem neg_ediv_dvd {v U : Int} (hU : 0 < U) (h : v % U = 0) : (-v) / U = -(v / U) := by
  have h1 := Int.mul_ediv_add_emod v U
  have := Int.ediv_emod_unique (a := -v) (b := U) (q := -(v / U)) (r := 0) hU
  refine (this.2 ⟨?_, by omega, by omega⟩).1
  rw [Int.mul_neg]; omega
theorem neg_ediv_ndvd {v U : Int} (hU : 0 < U) (h : v % U ≠ 0) : (-v) / U = -(v / U) - 1 := by
  have h1 := Int.mul_ediv_add_emod v U
  have h2 := Int.emod_nonneg v (Int.ne_of_gt hU)
  have h3 := Int.emod_lt_of_pos v hU
  have := Int.ediv_emod_unique (a := -v) (b := U) (q := -(v / U) - 1) (r := U - v % U) hU
  refine (this.2 ⟨?_, by omega, by omega⟩).1
  rw [Int.mul_sub, Int.mul_neg]; omega
theorem rd_dvd {mode v U : Int} (hU : 0 < U) (h : v % U = 0) : rd mode v U = v / U := by
  unfold rd
  rw [h, neg_ediv_dvd hU h]
  split
  · rfl
  · split
    · omega
    · rw [if_neg (by omega)]
theorem rd_mul {mode a P T : Int} (hP : 0 < P) (hT : 0 < T) : rd mode (a * T) (P * T) = rd mode a P := by
  unfold rd
  rw [← Int.neg_mul, Int.mul_ediv_mul_of_pos_left _ _ hT, Int.mul_ediv_mul_of_pos_left _ _ hT]
  have h1 : a * T % (P * T) = a % P * T := by rw [Int.mul_comm a, Int.mul_comm P, Int.mul_emod_mul_of_pos _ _ hT, Int.mul_comm]
  have h2 : (P * T < 2 * (a % P * T)) = (P < 2 * (a % P)) := by
    rw [← Int.mul_assoc]
    exact propext ⟨fun h => Int.lt_of_mul_lt_mul_right h (Int.le_of_lt hT), fun h => Int.mul_lt_mul_of_pos_right h hT⟩
  have h3 : (P * T = 2 * (a % P * T)) = (P = 2 * (a % P)) := by
    rw [← Int.mul_assoc]
    exact propext ⟨fun h => Int.eq_of_mul_eq_mul_right (Int.ne_of_gt hT) h, fun h => congrArg (· * T) h⟩
  rw [h1]
  simp only [h2, h3]
theorem docI_rd {a : Int} {n : Nat} (ha : a.natAbs % 2 = 1) (hn : 1 ≤ n) (mode : Int) : docI a n mode = rd mode a (2 ^ n) := by
  have hP : (0 : Int) < 2 ^ n := pow_pos' n
  have hr : a % 2 ^ n ≠ 0 := by
    intro h
    obtain ⟨k, rfl⟩ : ∃ k, n = k + 1 := ⟨n - 1, by omega⟩
    have h1 := Int.mul_ediv_add_emod a (2 ^ (k + 1))
    rw [h, Int.pow_succ, Int.add_zero] at h1
    have : a = 2 * (2 ^ k * (a / (2 ^ k * 2))) := by rw [← Int.mul_assoc, Int.mul_comm 2]; exact h1.symm
    omega
  have hm : a - a / 2 ^ n * 2 ^ n = a % 2 ^ n := by
    have := Int.mul_ediv_add_emod a (2 ^ n)
    rw [Int.mul_comm] at this
    omega
  unfold docI rd
  rw [neg_ediv_ndvd hP hr, hm]
  split
  · rfl
  · split
    · omega
    · have h2 : (2 : Int) ^ 1 = 2 := rfl
      simp only [sg_gt, sg_eq, h2]
      congr 1
      refine propext ⟨fun h => ?_, fun h => ?_⟩
      · rcases h with h | ⟨h, h'⟩
        · exact .inl (by omega)
        · exact .inr ⟨by omega, h'⟩
      · rcases h with h | ⟨h, h'⟩
        · exact .inl (by omega)
        · exact .inr ⟨by omega, h'⟩
theorem pow_split {a b : Int} (h1 : 0 ≤ a) (h2 : a ≤ b) : (2 : Int) ^ b.toNat = 2 ^ (b - a).toNat * 2 ^ a.toNat := by
  rw [← Int.pow_add]; congr 1; omega
theorem V_te {k : Nat} {m e : Int} (h : -(k : Int) ≤ e) : V k m e = tmI m * 2 ^ (teI m e + k).toNat := (V_nrm h).symm
theorem te_ge {m e : Int} (h : m ≠ 0) : e ≤ teI m e := by rw [teI_ne h]; omega
theorem tmI_oddN {m : Int} (h : m ≠ 0) : (tmI m).natAbs % 2 = 1 := (tz0_iff (by have := tmI_ne h; omega)).1 (tmI_odd h)
/-- what is rounded, in units of two to the power of -k. -/
theorem V_grid {k : Nat} {m e E : Int} (mode : Int) (h1 : -(k : Int) ≤ e) (h2 : -(k : Int) ≤ E) :
    V k (gm m e E mode) (ge m e E mode) = 2 ^ (E + k).toNat * rd mode (V k m e) (2 ^ (E + k).toNat) := by
  have hU : (0 : Int) < 2 ^ (E + k).toNat := pow_pos' _
  unfold gm ge
  by_cases hc : m = 0 ∨ E ≤ teI m e
  · rw [if_pos hc, if_pos hc, V_nrm h1]
    have hd : V k m e % 2 ^ (E + k).toNat = 0 := by
      by_cases hm : m = 0
      · rw [hm, V_zero]; exact Int.zero_emod _
      · have hE : E ≤ teI m e := by rcases hc with h | h; exact absurd h hm; exact h
        rw [V_te h1, pow_split (a := E + k) (b := teI m e + k) (by omega) (by omega), ← Int.mul_assoc]
        exact Int.mul_emod_left _ _
    rw [rd_dvd hU hd]
    have := Int.mul_ediv_add_emod (V k m e) (2 ^ (E + k).toNat)
    omega
  · rw [if_neg hc, if_neg hc]
    have hm : m ≠ 0 := fun h => hc (.inl h)
    have hE : teI m e < E := by
      rcases Int.lt_or_le (teI m e) E with h | h
      · exact h
      · exact absurd (.inr h) hc
    have ht := te_ge (e := e) hm
    have hn : 1 ≤ (E - teI m e).toNat := by omega
    rw [V_nrm h2, grid_eq (tmI_oddN hm) hn mode, docI_rd (tmI_oddN hm) hn mode]
    unfold V
    rw [Int.mul_comm]
    congr 1
    have h3 := V_te (m := m) h1
    unfold V at h3
    rw [h3, pow_split (a := teI m e + k) (b := E + k) (by omega) (by omega), show E + k - (teI m e + k) = E - teI m e by omega, rd_mul (pow_pos' _) (pow_pos' _)]
theorem rd_lo {v U : Int} (hU : 0 < U) : U * rd 0 v U ≤ v ∧ v < U * rd 0 v U + U := by
  have h1 := Int.mul_ediv_add_emod v U
  have h2 := Int.emod_nonneg v (Int.ne_of_gt hU)
  have h3 := Int.emod_lt_of_pos v hU
  have h4 : rd 0 v U = v / U := if_pos rfl
  rw [h4]; omega
theorem rd_up {v U : Int} (hU : 0 < U) : rd 1 v U = (if v % U = 0 then rd 0 v U else rd 0 v U + 1) := by
  have h4 : rd 0 v U = v / U := if_pos rfl
  have h5 : rd 1 v U = -((-v) / U) := by unfold rd; rw [if_neg (by omega), if_pos rfl]
  rw [h4, h5]
  split
  · rename_i h; rw [neg_ediv_dvd hU h]; omega
  · rename_i h; rw [neg_ediv_ndvd hU h]; omega
theorem tm_gm (m e E mode : Int) : tmI (gm m e E mode) = gm m e E mode := by unfold gm; split <;> exact tmI_idem _
theorem te_gm (m e E mode : Int) : teI (gm m e E mode) (ge m e E mode) = ge m e E mode := by unfold gm ge; split <;> exact teI_idem _ _
theorem teI_low {k m e : Int} (hk : 0 ≤ k) (h : -k ≤ e) : -k ≤ teI m e := by
  by_cases h0 : m = 0
  · rw [h0, teI_zero]; omega
  · have := te_ge (e := e) h0; omega
theorem ge_low {k : Nat} {m e E : Int} (mode : Int) (h1 : -(k : Int) ≤ e) (h2 : -(k : Int) ≤ E) : -(k : Int) ≤ ge m e E mode := by
  unfold ge; split
  · exact teI_low (by omega) h1
  · exact teI_low (by omega) h2
theorem gm_nrm (m e E mode : Int) : gm (tmI m) (teI m e) E mode = gm m e E mode := by
  unfold gm
  rw [tmI_idem, teI_idem]
  by_cases h : m = 0
  · rw [h, tmI_zero, if_pos (.inl rfl)]
  · have := tmI_ne h
    by_cases hE : E ≤ teI m e
    · rw [if_pos (.inr hE), if_pos (.inr hE)]
    · rw [if_neg (by omega), if_neg (by omega)]
theorem ge_nrm (m e E mode : Int) : ge (tmI m) (teI m e) E mode = ge m e E mode := by
  unfold ge
  rw [tmI_idem, teI_idem]
  by_cases h : m = 0
  · rw [h, tmI_zero, if_pos (.inl rfl)]
  · have := tmI_ne h
    by_cases hE : E ≤ teI m e
    · rw [if_pos (.inr hE), if_pos (.inr hE)]
    · rw [if_neg (by omega), if_neg (by omega)]
theorem stepI_nrm (m e p : Int) : stepI (tmI m) (teI m e) p = stepI m e p := by unfold stepI; rw [topI_nrm]
theorem tmI_eq0 (m : Int) : (tmI m = 0) = (m = 0) := propext ⟨tm0, fun h => by rw [h]; exact tmI_zero⟩
/-- whether it lies on the grid, by values. -/
theorem lies_V {k : Nat} {m e E : Int} (h1 : -(k : Int) ≤ e) (h2 : -(k : Int) ≤ E) : (m = 0 ∨ E ≤ teI m e) ↔ V k m e % 2 ^ (E + k).toNat = 0 := by
  constructor
  · intro hc
    by_cases hm : m = 0
    · rw [hm, V_zero]; exact Int.zero_emod _
    · have hE : E ≤ teI m e := by rcases hc with h | h; exact absurd h hm; exact h
      rw [V_te h1, pow_split (a := E + k) (b := teI m e + k) (by omega) (by omega), ← Int.mul_assoc]
      exact Int.mul_emod_left _ _
  · intro h
    by_cases hc : m = 0 ∨ E ≤ teI m e
    · exact hc
    · exfalso
      have hm : m ≠ 0 := fun h => hc (.inl h)
      have hE : ¬E ≤ teI m e := fun h => hc (.inr h)
      have ht := te_ge (e := e) hm
      have ho := tmI_oddN hm
      have hd := Int.mul_ediv_add_emod (V k m e) (2 ^ (E + k).toNat)
      rw [h, Int.add_zero, V_te h1, pow_split (a := teI m e + k) (b := E + k) (by omega) (by omega), show E + k - (teI m e + k) = ((E - teI m e - 1).toNat + 1 : Nat) by omega, Int.toNat_natCast, Int.pow_succ] at hd
      generalize tmI m * 2 ^ (teI m e + k).toNat / (2 ^ (E - teI m e - 1).toNat * 2 * 2 ^ (teI m e + k).toNat) = c at hd
      have h3 : 2 * (2 ^ (E - teI m e - 1).toNat * c) * 2 ^ (teI m e + k).toNat = tmI m * 2 ^ (teI m e + k).toNat := by
        rw [← hd]; simp only [Int.mul_comm, Int.mul_left_comm, Int.mul_assoc]
      have h4 := Int.eq_of_mul_eq_mul_right (Int.ne_of_gt (pow_pos' _)) h3
      omega
theorem fits_V {k : Nat} {m e p : Int} (h1 : -(k : Int) ≤ e) (h2 : -(k : Int) ≤ stepI m e p) : fitsB m e p = decide (V k m e % 2 ^ (stepI m e p + k).toNat = 0) := by
  unfold fitsB
  rw [← Bool.decide_or, Bool.eq_iff_iff, decide_eq_true_eq, decide_eq_true_eq]
  exact lies_V h1 h2
theorem fits_doc {m e p : Int} : fitsB m e p = (decide (ge m e (stepI m e p) 0 = teI m e) && decide (gm m e (stepI m e p) 0 = tmI m)) := by
  have h1 : -((e.natAbs + (stepI m e p).natAbs : Nat) : Int) ≤ e := by omega
  have h2 : -((e.natAbs + (stepI m e p).natAbs : Nat) : Int) ≤ stepI m e p := by omega
  generalize e.natAbs + (stepI m e p).natAbs = k at *
  have hU : (0 : Int) < 2 ^ (stepI m e p + k).toNat := pow_pos' _
  have h3 := V_iff (k := k) (m := gm m e (stepI m e p) 0) (e := ge m e (stepI m e p) 0) (n := m) (f := e) (ge_low (m := m) 0 h1 h2) h1
  rw [tm_gm, te_gm, V_grid 0 h1 h2] at h3
  rw [fits_V h1 h2, Bool.eq_iff_iff, Bool.and_eq_true, decide_eq_true_eq, decide_eq_true_eq, decide_eq_true_eq, And.comm, h3]
  have h4 := Int.mul_ediv_add_emod (V k m e) (2 ^ (stepI m e p + k).toNat)
  have h5 : rd 0 (V k m e) (2 ^ (stepI m e p + k).toNat) = V k m e / 2 ^ (stepI m e p + k).toNat := if_pos rfl
  rw [h5]; omega
theorem ge_ge {m e E mode : Int} (h : gm m e E mode ≠ 0) : E ≤ ge m e E mode := by
  by_cases hc : m = 0 ∨ E ≤ teI m e
  · rw [(gm_lies hc).2]
    rcases hc with h1 | h1
    · rw [(gm_lies (.inl h1)).1, h1, tmI_zero] at h; exact absurd rfl h
    · exact h1
  · rw [(gm_far hc).2]
    refine te_ge fun h0 => h ?_
    rw [(gm_far hc).1, h0]; exact tmI_zero
theorem rd_in {mode v U : Int} : rd mode v U = v / U ∨ rd mode v U = v / U + 1 ∨ U ≤ 0 := by
  rcases Int.lt_or_le 0 U with hU | hU
  · by_cases h : v % U = 0
    · exact .inl (rd_dvd hU h)
    · unfold rd
      rw [neg_ediv_ndvd hU h]
      split
      · exact .inl rfl
      · split
        · exact .inr (.inl (by omega))
        · split
          · exact .inr (.inl rfl)
          · exact .inl rfl
  · exact .inr (.inr hU)
/-- what is rounded isn't beyond the next power of two. -/
theorem rd_top {mode v U P : Int} (hU : 0 < U) (h1 : v < U * P) (h2 : -(U * P) < v) : -(U * P) ≤ U * rd mode v U ∧ U * rd mode v U ≤ U * P := by
  have h3 := Int.mul_ediv_add_emod v U
  have h4 := Int.emod_nonneg v (Int.ne_of_gt hU)
  have h5 := Int.emod_lt_of_pos v hU
  have ha : v / U < P := Int.lt_of_mul_lt_mul_left (a := U) (by omega) (Int.le_of_lt hU)
  have hb : -P ≤ v / U := by
    have : -P < v / U + 1 := Int.lt_of_mul_lt_mul_left (a := U) (by rw [Int.mul_add, Int.mul_neg]; omega) (Int.le_of_lt hU)
    omega
  have hc : rd mode v U = v / U ∨ rd mode v U = v / U + 1 := by
    rcases rd_in (mode := mode) (v := v) (U := U) with h | h | h
    · exact .inl h
    · exact .inr h
    · omega
  have hlo : -P ≤ rd mode v U := by omega
  have hhi : rd mode v U ≤ P := by omega
  have e1 := Int.mul_le_mul_of_nonneg_left hlo (Int.le_of_lt hU)
  have e2 := Int.mul_le_mul_of_nonneg_left hhi (Int.le_of_lt hU)
  rw [Int.mul_neg] at e1
  exact ⟨e1, e2⟩
theorem V_abs (k : Nat) (m e : Int) : (V k m e).natAbs = m.natAbs * 2 ^ (e + k).toNat := by
  unfold V; rw [Int.natAbs_mul, Int.natAbs_pow]; rfl
theorem pow2_cast (n : Nat) : ((2 ^ n : Nat) : Int) = 2 ^ n := by rw [Int.natCast_pow]; rfl
theorem fits_gm {m e p : Int} (mode : Int) (hp1 : 1 ≤ p) (hp2 : p ≤ 4000) (ht1 : -10000 ≤ topI m e) (ht2 : topI m e ≤ 10000) : fitsB (gm m e (stepI m e p) mode) (ge m e (stepI m e p) mode) p = true := by
  have hst : stepI m e p = topI m e - p + 1 := by unfold stepI clampE; omega
  generalize hE : stepI m e p = st at *
  by_cases h0 : gm m e st mode = 0
  · unfold fitsB; rw [h0]; rfl
  have hm : m ≠ 0 := fun h => h0 (by rw [(gm_lies (.inl h)).1, h]; exact tmI_zero)
  have hge := ge_ge h0
  have hodd : (gm m e st mode).natAbs % 2 = 1 := by rw [← tm_gm]; exact tmI_oddN h0
  have hT : topI m e = (nb m.natAbs : Int) - 1 + e := if_neg hm
  have hnb : nb m.natAbs ≠ 0 := fun h => by have := nb_zero_iff.1 h; omega
  obtain ⟨k, hk1, hk2⟩ : ∃ k : Nat, -(k : Int) ≤ e ∧ -(k : Int) ≤ st := ⟨e.natAbs + st.natAbs, by omega, by omega⟩
  have hV := V_grid (k := k) (m := m) mode hk1 hk2
  have hU : (0 : Int) < 2 ^ (st + k).toNat := pow_pos' _
  have hUP : (2 : Int) ^ (st + k).toNat * 2 ^ p.toNat = 2 ^ (topI m e + 1 + k).toNat := by rw [← Int.pow_add]; congr 1; omega
  have hv : (V k m e).natAbs < 2 ^ (topI m e + 1 + k).toNat := by
    rw [V_abs, show (topI m e + 1 + k).toNat = nb m.natAbs + (e + k).toNat by omega, Nat.pow_add]
    exact Nat.mul_lt_mul_of_pos_right (lt_pow_nb _) (Nat.pow_pos (by decide))
  have hc := pow2_cast (topI m e + 1 + k).toNat
  have hb := rd_top (mode := mode) (v := V k m e) (P := 2 ^ p.toNat) hU (by rw [hUP]; omega) (by rw [hUP]; omega)
  rw [← hV, hUP] at hb
  have hw : (V k (gm m e st mode) (ge m e st mode)).natAbs ≤ 2 ^ (topI m e + 1 + k).toNat := by omega
  rw [V_abs] at hw
  clear hb hc hv hV
  generalize gm m e st mode = g at *
  generalize hq : ge m e st mode = q at *
  have hgn : g.natAbs ≠ 0 := by omega
  have hgb : nb g.natAbs ≠ 0 := fun h => by have := nb_zero_iff.1 h; omega
  have htg : topI g q = (nb g.natAbs : Int) - 1 + q := if_neg h0
  have hlow := nb_low hgn
  have h1 : 2 ^ (nb g.natAbs - 1 + (q + k).toNat) ≤ 2 ^ (topI m e + 1 + k).toNat := by
    rw [Nat.pow_add]; exact Nat.le_trans (Nat.mul_le_mul_right _ hlow) hw
  have h2 := (Nat.pow_le_pow_iff_right (by decide : 1 < 2)).1 h1
  have hteq : teI g q = q := by
    rw [teI_ne h0, tz_odd (by omega)]; omega
  unfold fitsB
  rw [hteq, Bool.or_eq_true, decide_eq_true_eq, decide_eq_true_eq]
  right
  have hs : stepI g q p = topI g q - p + 1 := by unfold stepI clampE; omega
  rw [hs]
  by_cases h3 : topI g q ≤ topI m e
  · omega
  · have h4 : nb g.natAbs - 1 + (q + k).toNat = (topI m e + 1 + k).toNat := by omega
    rw [← h4, Nat.pow_add] at hw
    have h5 := Nat.le_of_mul_le_mul_right hw (Nat.pow_pos (by decide))
    have h6 : g.natAbs = 2 ^ (nb g.natAbs - 1) := by omega
    by_cases h7 : nb g.natAbs - 1 = 0
    · omega
    · exfalso
      obtain ⟨j, hj⟩ : ∃ j, nb g.natAbs - 1 = j + 1 := ⟨nb g.natAbs - 1 - 1, by omega⟩
      rw [hj, Nat.pow_succ] at h6
      omega
/-- both sides, and the nearest, of what isn't 0, in units. -/
theorem rd_sides {v U : Int} (hU : 0 < U) :
    (v % U = 0 ∧ U * rd 0 v U = v ∧ U * rd 1 v U = v ∧ U * rd 2 v U = v) ∨
    (v % U ≠ 0 ∧ U * rd 0 v U < v ∧ v < U * rd 0 v U + U ∧ U * rd 1 v U = U * rd 0 v U + U ∧
      ((v - U * rd 0 v U < U * rd 1 v U - v ∧ U * rd 2 v U = U * rd 0 v U) ∨ (U * rd 1 v U - v < v - U * rd 0 v U ∧ U * rd 2 v U = U * rd 1 v U) ∨
       (v - U * rd 0 v U = U * rd 1 v U - v ∧ (U * rd 2 v U = U * rd 0 v U ∨ U * rd 2 v U = U * rd 1 v U)))) := by
  have h3 := Int.mul_ediv_add_emod v U
  have h4 := Int.emod_nonneg v (Int.ne_of_gt hU)
  have h5 := Int.emod_lt_of_pos v hU
  by_cases h : v % U = 0
  · left
    rw [rd_dvd hU h, rd_dvd hU h, rd_dvd hU h]
    omega
  · right
    have r0 : rd 0 v U = v / U := if_pos rfl
    have r1 := rd_up (v := v) hU
    rw [if_neg h, r0] at r1
    rw [r0, r1, Int.mul_add, Int.mul_one]
    have r2 : rd 2 v U = if U < 2 * (v % U) ∨ (U = 2 * (v % U) ∧ (v / U).natAbs % 2 = 1) then v / U + 1 else v / U := by unfold rd; rw [if_neg (by omega), if_neg (by omega)]
    rw [r2]
    refine ⟨h, by omega, by omega, rfl, ?_⟩
    split
    · rename_i hc
      rw [Int.mul_add, Int.mul_one]
      omega
    · rename_i hc
      omega
def s_few5 : FnSpec := s_few
def s_known5 : FnSpec := ⟨.one .b, fun ds => ds = [], fun _ _ => 0, fun _ _ => true, fun _ _ => 0, fun _ _ => []⟩
theorem k5 : tmI 5 = 5 := tmI_is (k := 0) (by decide) (by decide) (by decide)
theorem k5e (e : Int) : teI 5 e = e := (teI_is (c := 5) (k := 0) (by decide) (by decide) (by decide)).trans (Int.add_zero e)
theorem k2 : tmI 2 = 1 := tmI_is (k := 1) (by decide) (by decide) (by decide)
theorem k2e (e : Int) : teI 2 e = e + 1 := teI_is (c := 1) (k := 1) (by decide) (by decide) (by decide)
theorem k4 : tmI 4 = 1 := tmI_is (k := 2) (by decide) (by decide) (by decide)
theorem k4e (e : Int) : teI 4 e = e + 2 := teI_is (c := 1) (k := 2) (by decide) (by decide) (by decide)
theorem k6 : tmI 6 = 3 := tmI_is (k := 1) (by decide) (by decide) (by decide)
theorem k6e (e : Int) : teI 6 e = e + 1 := teI_is (c := 3) (k := 1) (by decide) (by decide) (by decide)
theorem k8 : tmI 8 = 1 := tmI_is (k := 3) (by decide) (by decide) (by decide)
theorem k8e (e : Int) : teI 8 e = e + 3 := teI_is (c := 1) (k := 3) (by decide) (by decide) (by decide)
theorem k3e (e : Int) : teI 3 e = e := (teI_is (c := 3) (k := 0) (by decide) (by decide) (by decide)).trans (Int.add_zero e)
theorem ktop5 : topI 5 0 = 2 := by
  unfold topI
  rw [if_neg (by decide)]
  decide
theorem kst2 : stepI 5 0 2 = 1 := by unfold stepI; rw [ktop5]; decide
theorem kst3 : stepI 5 0 3 = 0 := by unfold stepI; rw [ktop5]; decide
theorem kgm {E mode a b c : Int} {n : Nat} (h1 : E = n) (h2 : 1 ≤ n) (h3 : gridI 5 n mode = a) (h4 : tmI a = b) (h5 : teI a E = c) : gm 5 0 E mode = b ∧ ge 5 0 E mode = c := by
  have h := gm_far (m := 5) (e := 0) (E := E) (mode := mode) (by rw [k5e]; omega)
  rw [k5, k5e, show (E - 0).toNat = n by omega, h3] at h
  exact ⟨h.1.trans h4, h.2.trans h5⟩
theorem kg1 : gm 5 0 1 1 = 3 ∧ ge 5 0 1 1 = 1 := kgm (n := 1) rfl (by decide) (a := 3) (by decide) k3 (k3e 1)
theorem kg0 : gm 5 0 1 0 = 1 ∧ ge 5 0 1 0 = 2 := kgm (n := 1) rfl (by decide) (a := 2) (by decide) k2 (k2e 1)
theorem kg2 : gm 5 0 1 2 = 1 ∧ ge 5 0 1 2 = 2 := kgm (n := 1) rfl (by decide) (a := 2) (by decide) k2 (k2e 1)
theorem kg3 : gm 5 0 2 1 = 1 ∧ ge 5 0 2 1 = 3 := kgm (n := 2) rfl (by decide) (a := 2) (by decide) k2 (k2e 2)
theorem kfit3 : fitsB 5 0 3 = true := by unfold fitsB; rw [kst3, k5e]; decide
theorem kfit2 : fitsB 5 0 2 = false := by unfold fitsB; rw [kst2, k5e]; decide
theorem kcl2 : clampE 2 = 2 := by decide
def s_RoundTells : FnSpec := ⟨.one .b, fun ds => match ds with | [x, .int .i64 _, .int .i64 _, .int .i64 _] => okW x | _ => False, fun _ _ => 0, fun _ _ => true, fun _ _ => 0, fun _ _ => []⟩
theorem tells5_arg {ds : List D} (h : s_RoundTells.p ds) : ∃ x p e k, ds = [x, .int .i64 p, .int .i64 e, .int .i64 k] ∧ okW x := by
  match ds, h with
  | [x, .int .i64 p, .int .i64 e, .int .i64 k], h => exact ⟨x, p, e, k, rfl, h⟩
def s_RoundSides : FnSpec := ⟨.one .b, fun ds => match ds with | [x, .int .u8 b] => okW x ∧ 0 ≤ b ∧ b ≤ 255 | _ => False, fun _ _ => 0, fun _ _ => true, fun _ _ => 0, fun _ _ => []⟩
theorem sides5_arg {ds : List D} (h : s_RoundSides.p ds) : ∃ x b, ds = [x, .int .u8 b] ∧ okW x ∧ 0 ≤ b ∧ b ≤ 255 := by
  match ds, h with
  | [x, .int .u8 b], h => exact ⟨x, b, rfl, h⟩
def s_RoundTwice : FnSpec := ⟨.one .b, fun ds => match ds with | [x, .int .u8 b, .int .i8 k] => okW x ∧ (0 ≤ b ∧ b ≤ 255) ∧ -128 ≤ k ∧ k ≤ 127 | _ => False, fun _ _ => 0, fun _ _ => true, fun _ _ => 0, fun _ _ => []⟩
theorem twice5_arg {ds : List D} (h : s_RoundTwice.p ds) : ∃ x b k, ds = [x, .int .u8 b, .int .i8 k] ∧ okW x ∧ (0 ≤ b ∧ b ≤ 255) ∧ -128 ≤ k ∧ k ≤ 127 := by
  match ds, h with
  | [x, .int .u8 b, .int .i8 k], h => exact ⟨x, b, k, rfl, h⟩
def s_RoundGrid : FnSpec := ⟨.one .b, fun ds => match ds with | [x, .int .i8 k, .int .u8 b] => okW x ∧ (-128 ≤ k ∧ k ≤ 127) ∧ 0 ≤ b ∧ b ≤ 255 | _ => False, fun _ _ => 0, fun _ _ => true, fun _ _ => 0, fun _ _ => []⟩
theorem grid5_arg {ds : List D} (h : s_RoundGrid.p ds) : ∃ x k b, ds = [x, .int .i8 k, .int .u8 b] ∧ okW x ∧ (-128 ≤ k ∧ k ≤ 127) ∧ 0 ≤ b ∧ b ≤ 255 := by
  match ds, h with
  | [x, .int .i8 k, .int .u8 b], h => exact ⟨x, k, b, rfl, h⟩
def s_RoundHalves : FnSpec := ⟨.one .b, fun ds => match ds with | [.int .i16 n, .int .i8 k] => (-32768 ≤ n ∧ n ≤ 32767) ∧ -128 ≤ k ∧ k ≤ 127 | _ => False, fun _ _ => 0, fun _ _ => true, fun _ _ => 0, fun _ _ => []⟩
theorem halves5_arg {ds : List D} (h : s_RoundHalves.p ds) : ∃ n k, ds = [.int .i16 n, .int .i8 k] ∧ (-32768 ≤ n ∧ n ≤ 32767) ∧ -128 ≤ k ∧ k ≤ 127 := by
  match ds, h with
  | [.int .i16 n, .int .i8 k], h => exact ⟨n, k, rfl, h⟩
theorem fit_gm {m e E mode : Int} {k : Nat} (h : Fit m k) : Fit (gm m e E mode) (k + 1) := by
  unfold gm
  split
  · exact (h.le (tmI_le _)).mono (by omega)
  · refine Fit.le ?_ (tmI_le _)
    rename_i hc
    have hm : m ≠ 0 := fun h => hc (.inl h)
    have hE : ¬E ≤ teI m e := fun h => hc (.inr h)
    rw [grid_eq (tmI_oddN hm) (by omega), docI_rd (tmI_oddN hm) (by omega)]
    have h1 := h.le (tmI_le m)
    generalize tmI m = a at *
    have hP := pow_pos' (E - teI m e).toNat
    have h2 := rd_in (mode := mode) (v := a) (U := 2 ^ (E - teI m e).toNat)
    have h3 := Int.natAbs_ediv_le_natAbs a (2 ^ (E - teI m e).toNat)
    generalize rd mode a (2 ^ (E - teI m e).toNat) = r at *
    generalize a / 2 ^ (E - teI m e).toNat = q at *
    unfold Fit at *
    have hp := Nat.pow_pos (n := k) (show 0 < 2 by decide)
    rw [Nat.pow_succ]
    omega
theorem ge_in {m e E mode a b : Int} {k : Nat} (h : Fit m k) (h1 : a ≤ e) (h2 : e ≤ b) (h3 : a ≤ E) (h4 : E ≤ b) (ha : a ≤ 0) (hb : 0 ≤ b) : a ≤ ge m e E mode ∧ ge m e E mode ≤ b + k + 1 := by
  have hf := fit_gm (e := e) (E := E) (mode := mode) h
  have hz := te_gm m e E mode
  unfold ge
  split
  · have := teI_bound (e := e) h; omega
  · rename_i hc
    have hg := (gm_far (mode := mode) hc).1
    have hr : Fit (gridI (tmI m) (E - teI m e).toNat mode) (k + 1) := by
      have hm : m ≠ 0 := fun h => hc (.inl h)
      have hE : ¬E ≤ teI m e := fun h => hc (.inr h)
      rw [grid_eq (tmI_oddN hm) (by omega), docI_rd (tmI_oddN hm) (by omega)]
      have h1 := h.le (tmI_le m)
      generalize tmI m = a at *
      have hP := pow_pos' (E - teI m e).toNat
      have h2 := rd_in (mode := mode) (v := a) (U := 2 ^ (E - teI m e).toNat)
      have h3 := Int.natAbs_ediv_le_natAbs a (2 ^ (E - teI m e).toNat)
      generalize rd mode a (2 ^ (E - teI m e).toNat) = r at *
      generalize a / 2 ^ (E - teI m e).toNat = q at *
      unfold Fit at *
      have hp := Nat.pow_pos (n := k) (show 0 < 2 by decide)
      rw [Nat.pow_succ]
      omega
    have := teI_bound (e := E) hr
    omega
theorem stepI_in {m e p : Int} (h : Fit m 640) (h1 : -2000 ≤ e) (h2 : e ≤ 2000) : -6000 ≤ stepI m e p ∧ stepI m e p ≤ 2641 := by
  have := topI_in h h1 h2
  unfold stepI clampE; omega
theorem clamp40 (e : Int) : (if (if 4000 < e then 4000 else e) > -4000 then if 4000 < e then 4000 else e else -4000) = max (-4000) (min e 4000) := by
  simp only [Int.min_def, Int.max_def]
  repeat' split
  all_goals omega
theorem clamp40e (e : Int) : (if min e 4000 > -4000 then min e 4000 else -4000) = max (-4000) (min e 4000) := by
  simp only [Int.max_def]
  split <;> split <;> omega
theorem clampE40 (e : Int) : clampE (max (-4000) (min e 4000)) = max (-4000) (min e 4000) := by unfold clampE; omega
theorem fit_if01 {m : Int} {k : Nat} : Fit (if m = 0 then 0 else 1) (k + 1) := by
  unfold Fit
  have hp := Nat.pow_pos (n := k) (show 0 < 2 by decide)
  rw [Nat.pow_succ]
  split <;> omega
theorem V_sub {k : Nat} {m e n f : Int} (h1 : -(k : Int) ≤ e) (h2 : -(k : Int) ≤ f) : V k (addM m e (-n) f) (min e f) = V k m e - V k n f := by
  rw [V_add h1 h2, V_neg]; rfl
theorem V_one (k : Nat) (st : Int) : V k 1 st = 2 ^ (st + k).toNat := Int.one_mul _
theorem sides5 {k : Nat} {X e st : Int} (h1 : -(k : Int) ≤ e) (h2 : -(k : Int) ≤ st) :
    (V k X e % 2 ^ (st + k).toNat = 0 ∧ cmpD X e (gm X e st 0) (ge X e st 0) = 0 ∧ cmpD (gm X e st 1) (ge X e st 1) X e = 0 ∧ cmpD (addM X e (-(gm X e st 0)) (ge X e st 0)) (min e (ge X e st 0)) 1 st = -1 ∧ cmpD (addM (gm X e st 1) (ge X e st 1) (-X) e) (min (ge X e st 1) e) 1 st = -1 ∧ cmpD (addM X e (-(gm X e st 0)) (ge X e st 0)) (min e (ge X e st 0)) (addM (gm X e st 1) (ge X e st 1) (-X) e) (min (ge X e st 1) e) = 0 ∧ cmpD (gm X e st 2) (ge X e st 2) (gm X e st 0) (ge X e st 0) = 0 ∧ cmpD (gm X e st 2) (ge X e st 2) (gm X e st 1) (ge X e st 1) = 0 ∧ cmpD (gm X e st 0) (ge X e st 0) (gm X e st 1) (ge X e st 1) = 0) ∨
    (V k X e % 2 ^ (st + k).toNat ≠ 0 ∧ cmpD X e (gm X e st 0) (ge X e st 0) = 1 ∧ cmpD (gm X e st 1) (ge X e st 1) X e = 1 ∧ cmpD (addM X e (-(gm X e st 0)) (ge X e st 0)) (min e (ge X e st 0)) 1 st = -1 ∧ cmpD (addM (gm X e st 1) (ge X e st 1) (-X) e) (min (ge X e st 1) e) 1 st = -1 ∧ cmpD (addM X e (-(gm X e st 0)) (ge X e st 0)) (min e (ge X e st 0)) (addM (gm X e st 1) (ge X e st 1) (-X) e) (min (ge X e st 1) e) = -1 ∧ cmpD (gm X e st 2) (ge X e st 2) (gm X e st 0) (ge X e st 0) = 0 ∧ cmpD (gm X e st 2) (ge X e st 2) (gm X e st 1) (ge X e st 1) = -1 ∧ cmpD (gm X e st 0) (ge X e st 0) (gm X e st 1) (ge X e st 1) = -1) ∨
    (V k X e % 2 ^ (st + k).toNat ≠ 0 ∧ cmpD X e (gm X e st 0) (ge X e st 0) = 1 ∧ cmpD (gm X e st 1) (ge X e st 1) X e = 1 ∧ cmpD (addM X e (-(gm X e st 0)) (ge X e st 0)) (min e (ge X e st 0)) 1 st = -1 ∧ cmpD (addM (gm X e st 1) (ge X e st 1) (-X) e) (min (ge X e st 1) e) 1 st = -1 ∧ cmpD (addM X e (-(gm X e st 0)) (ge X e st 0)) (min e (ge X e st 0)) (addM (gm X e st 1) (ge X e st 1) (-X) e) (min (ge X e st 1) e) = 1 ∧ cmpD (gm X e st 2) (ge X e st 2) (gm X e st 0) (ge X e st 0) = 1 ∧ cmpD (gm X e st 2) (ge X e st 2) (gm X e st 1) (ge X e st 1) = 0 ∧ cmpD (gm X e st 0) (ge X e st 0) (gm X e st 1) (ge X e st 1) = -1) ∨
    (V k X e % 2 ^ (st + k).toNat ≠ 0 ∧ cmpD X e (gm X e st 0) (ge X e st 0) = 1 ∧ cmpD (gm X e st 1) (ge X e st 1) X e = 1 ∧ cmpD (addM X e (-(gm X e st 0)) (ge X e st 0)) (min e (ge X e st 0)) 1 st = -1 ∧ cmpD (addM (gm X e st 1) (ge X e st 1) (-X) e) (min (ge X e st 1) e) 1 st = -1 ∧ cmpD (addM X e (-(gm X e st 0)) (ge X e st 0)) (min e (ge X e st 0)) (addM (gm X e st 1) (ge X e st 1) (-X) e) (min (ge X e st 1) e) = 0 ∧ cmpD (gm X e st 2) (ge X e st 2) (gm X e st 0) (ge X e st 0) = 0 ∧ cmpD (gm X e st 2) (ge X e st 2) (gm X e st 1) (ge X e st 1) = -1 ∧ cmpD (gm X e st 0) (ge X e st 0) (gm X e st 1) (ge X e st 1) = -1) ∨
    (V k X e % 2 ^ (st + k).toNat ≠ 0 ∧ cmpD X e (gm X e st 0) (ge X e st 0) = 1 ∧ cmpD (gm X e st 1) (ge X e st 1) X e = 1 ∧ cmpD (addM X e (-(gm X e st 0)) (ge X e st 0)) (min e (ge X e st 0)) 1 st = -1 ∧ cmpD (addM (gm X e st 1) (ge X e st 1) (-X) e) (min (ge X e st 1) e) 1 st = -1 ∧ cmpD (addM X e (-(gm X e st 0)) (ge X e st 0)) (min e (ge X e st 0)) (addM (gm X e st 1) (ge X e st 1) (-X) e) (min (ge X e st 1) e) = 0 ∧ cmpD (gm X e st 2) (ge X e st 2) (gm X e st 0) (ge X e st 0) = 1 ∧ cmpD (gm X e st 2) (ge X e st 2) (gm X e st 1) (ge X e st 1) = 0 ∧ cmpD (gm X e st 0) (ge X e st 0) (gm X e st 1) (ge X e st 1) = -1) := by
  have hU : (0 : Int) < 2 ^ (st + k).toNat := pow_pos' _
  have hl0 := ge_low (m := X) 0 h1 h2
  have hl1 := ge_low (m := X) 1 h1 h2
  have hl2 := ge_low (m := X) 2 h1 h2
  have hm0 : -(k : Int) ≤ min e (ge X e st 0) := by omega
  have hm1 : -(k : Int) ≤ min (ge X e st 1) e := by omega
  rw [cmp_V h1 hl0, cmp_V hl1 h1, cmp_V hm0 h2, cmp_V hm1 h2, cmp_V hm0 hm1, cmp_V hl2 hl0, cmp_V hl2 hl1, cmp_V hl0 hl1, V_sub h1 hl0, V_sub hl1 h1, V_one]
  have hv0 := V_grid (k := k) (m := X) 0 h1 h2
  have hv1 := V_grid (k := k) (m := X) 1 h1 h2
  have hv2 := V_grid (k := k) (m := X) 2 h1 h2
  have hs := rd_sides (v := V k X e) hU
  rw [← hv0, ← hv1, ← hv2] at hs
  clear hv0 hv1 hv2 hl0 hl1 hl2 hm0 hm1 h1 h2
  generalize V k (gm X e st 0) (ge X e st 0) = a at *
  generalize V k (gm X e st 1) (ge X e st 1) = b at *
  generalize V k (gm X e st 2) (ge X e st 2) = c at *
  generalize V k X e = v at *
  generalize (2 : Int) ^ (st + k).toNat = U at *
  rcases hs with ⟨h0, h1, h2, h3⟩ | ⟨h0, h1, h2, h3, ⟨h4, h5⟩ | ⟨h4, h5⟩ | ⟨h4, h5 | h5⟩⟩
  · left
    refine ⟨h0, ?_, ?_, ?_, ?_, ?_, ?_, ?_, ?_⟩ <;> first | exact sg_zero (by omega) | exact sg_neg (by omega) | exact sg_pos (by omega)
  · right; left
    refine ⟨h0, ?_, ?_, ?_, ?_, ?_, ?_, ?_, ?_⟩ <;> first | exact sg_zero (by omega) | exact sg_neg (by omega) | exact sg_pos (by omega)
  · right; right; left
    refine ⟨h0, ?_, ?_, ?_, ?_, ?_, ?_, ?_, ?_⟩ <;> first | exact sg_zero (by omega) | exact sg_neg (by omega) | exact sg_pos (by omega)
  · right; right; right; left
    refine ⟨h0, ?_, ?_, ?_, ?_, ?_, ?_, ?_, ?_⟩ <;> first | exact sg_zero (by omega) | exact sg_neg (by omega) | exact sg_pos (by omega)
  · right; right; right; right
    refine ⟨h0, ?_, ?_, ?_, ?_, ?_, ?_, ?_, ?_⟩ <;> first | exact sg_zero (by omega) | exact sg_neg (by omega) | exact sg_pos (by omega)
theorem not0_V {k : Nat} {X e st : Int} (h : V k X e % 2 ^ (st + k).toNat ≠ 0) : X ≠ 0 := fun h0 => h (by rw [h0, V_zero]; exact Int.zero_emod _)
theorem sides_all {few : Prop} [Decidable few] {X e p : Int} (h : few → Fit X 640 ∧ -2000 ≤ e ∧ e ≤ 2000) :
    ¬few ∨ (few ∧ X = 0 ∧ (fitsB X e p = true ∧ cmpD X e (gm X e (stepI X e p) 0) (ge X e (stepI X e p) 0) = 0 ∧ cmpD (gm X e (stepI X e p) 1) (ge X e (stepI X e p) 1) X e = 0 ∧ cmpD (addM X e (-(gm X e (stepI X e p) 0)) (ge X e (stepI X e p) 0)) (min e (ge X e (stepI X e p) 0)) 1 (stepI X e p) = -1 ∧ cmpD (addM (gm X e (stepI X e p) 1) (ge X e (stepI X e p) 1) (-X) e) (min (ge X e (stepI X e p) 1) e) 1 (stepI X e p) = -1 ∧ cmpD (addM X e (-(gm X e (stepI X e p) 0)) (ge X e (stepI X e p) 0)) (min e (ge X e (stepI X e p) 0)) (addM (gm X e (stepI X e p) 1) (ge X e (stepI X e p) 1) (-X) e) (min (ge X e (stepI X e p) 1) e) = 0 ∧ cmpD (gm X e (stepI X e p) 2) (ge X e (stepI X e p) 2) (gm X e (stepI X e p) 0) (ge X e (stepI X e p) 0) = 0 ∧ cmpD (gm X e (stepI X e p) 2) (ge X e (stepI X e p) 2) (gm X e (stepI X e p) 1) (ge X e (stepI X e p) 1) = 0 ∧ cmpD (gm X e (stepI X e p) 0) (ge X e (stepI X e p) 0) (gm X e (stepI X e p) 1) (ge X e (stepI X e p) 1) = 0)) ∨ (few ∧ X ≠ 0 ∧ (fitsB X e p = true ∧ cmpD X e (gm X e (stepI X e p) 0) (ge X e (stepI X e p) 0) = 0 ∧ cmpD (gm X e (stepI X e p) 1) (ge X e (stepI X e p) 1) X e = 0 ∧ cmpD (addM X e (-(gm X e (stepI X e p) 0)) (ge X e (stepI X e p) 0)) (min e (ge X e (stepI X e p) 0)) 1 (stepI X e p) = -1 ∧ cmpD (addM (gm X e (stepI X e p) 1) (ge X e (stepI X e p) 1) (-X) e) (min (ge X e (stepI X e p) 1) e) 1 (stepI X e p) = -1 ∧ cmpD (addM X e (-(gm X e (stepI X e p) 0)) (ge X e (stepI X e p) 0)) (min e (ge X e (stepI X e p) 0)) (addM (gm X e (stepI X e p) 1) (ge X e (stepI X e p) 1) (-X) e) (min (ge X e (stepI X e p) 1) e) = 0 ∧ cmpD (gm X e (stepI X e p) 2) (ge X e (stepI X e p) 2) (gm X e (stepI X e p) 0) (ge X e (stepI X e p) 0) = 0 ∧ cmpD (gm X e (stepI X e p) 2) (ge X e (stepI X e p) 2) (gm X e (stepI X e p) 1) (ge X e (stepI X e p) 1) = 0 ∧ cmpD (gm X e (stepI X e p) 0) (ge X e (stepI X e p) 0) (gm X e (stepI X e p) 1) (ge X e (stepI X e p) 1) = 0)) ∨ (few ∧ X ≠ 0 ∧ (fitsB X e p = false ∧ cmpD X e (gm X e (stepI X e p) 0) (ge X e (stepI X e p) 0) = 1 ∧ cmpD (gm X e (stepI X e p) 1) (ge X e (stepI X e p) 1) X e = 1 ∧ cmpD (addM X e (-(gm X e (stepI X e p) 0)) (ge X e (stepI X e p) 0)) (min e (ge X e (stepI X e p) 0)) 1 (stepI X e p) = -1 ∧ cmpD (addM (gm X e (stepI X e p) 1) (ge X e (stepI X e p) 1) (-X) e) (min (ge X e (stepI X e p) 1) e) 1 (stepI X e p) = -1 ∧ cmpD (addM X e (-(gm X e (stepI X e p) 0)) (ge X e (stepI X e p) 0)) (min e (ge X e (stepI X e p) 0)) (addM (gm X e (stepI X e p) 1) (ge X e (stepI X e p) 1) (-X) e) (min (ge X e (stepI X e p) 1) e) = -1 ∧ cmpD (gm X e (stepI X e p) 2) (ge X e (stepI X e p) 2) (gm X e (stepI X e p) 0) (ge X e (stepI X e p) 0) = 0 ∧ cmpD (gm X e (stepI X e p) 2) (ge X e (stepI X e p) 2) (gm X e (stepI X e p) 1) (ge X e (stepI X e p) 1) = -1 ∧ cmpD (gm X e (stepI X e p) 0) (ge X e (stepI X e p) 0) (gm X e (stepI X e p) 1) (ge X e (stepI X e p) 1) = -1)) ∨ (few ∧ X ≠ 0 ∧ (fitsB X e p = false ∧ cmpD X e (gm X e (stepI X e p) 0) (ge X e (stepI X e p) 0) = 1 ∧ cmpD (gm X e (stepI X e p) 1) (ge X e (stepI X e p) 1) X e = 1 ∧ cmpD (addM X e (-(gm X e (stepI X e p) 0)) (ge X e (stepI X e p) 0)) (min e (ge X e (stepI X e p) 0)) 1 (stepI X e p) = -1 ∧ cmpD (addM (gm X e (stepI X e p) 1) (ge X e (stepI X e p) 1) (-X) e) (min (ge X e (stepI X e p) 1) e) 1 (stepI X e p) = -1 ∧ cmpD (addM X e (-(gm X e (stepI X e p) 0)) (ge X e (stepI X e p) 0)) (min e (ge X e (stepI X e p) 0)) (addM (gm X e (stepI X e p) 1) (ge X e (stepI X e p) 1) (-X) e) (min (ge X e (stepI X e p) 1) e) = 1 ∧ cmpD (gm X e (stepI X e p) 2) (ge X e (stepI X e p) 2) (gm X e (stepI X e p) 0) (ge X e (stepI X e p) 0) = 1 ∧ cmpD (gm X e (stepI X e p) 2) (ge X e (stepI X e p) 2) (gm X e (stepI X e p) 1) (ge X e (stepI X e p) 1) = 0 ∧ cmpD (gm X e (stepI X e p) 0) (ge X e (stepI X e p) 0) (gm X e (stepI X e p) 1) (ge X e (stepI X e p) 1) = -1)) ∨ (few ∧ X ≠ 0 ∧ (fitsB X e p = false ∧ cmpD X e (gm X e (stepI X e p) 0) (ge X e (stepI X e p) 0) = 1 ∧ cmpD (gm X e (stepI X e p) 1) (ge X e (stepI X e p) 1) X e = 1 ∧ cmpD (addM X e (-(gm X e (stepI X e p) 0)) (ge X e (stepI X e p) 0)) (min e (ge X e (stepI X e p) 0)) 1 (stepI X e p) = -1 ∧ cmpD (addM (gm X e (stepI X e p) 1) (ge X e (stepI X e p) 1) (-X) e) (min (ge X e (stepI X e p) 1) e) 1 (stepI X e p) = -1 ∧ cmpD (addM X e (-(gm X e (stepI X e p) 0)) (ge X e (stepI X e p) 0)) (min e (ge X e (stepI X e p) 0)) (addM (gm X e (stepI X e p) 1) (ge X e (stepI X e p) 1) (-X) e) (min (ge X e (stepI X e p) 1) e) = 0 ∧ cmpD (gm X e (stepI X e p) 2) (ge X e (stepI X e p) 2) (gm X e (stepI X e p) 0) (ge X e (stepI X e p) 0) = 0 ∧ cmpD (gm X e (stepI X e p) 2) (ge X e (stepI X e p) 2) (gm X e (stepI X e p) 1) (ge X e (stepI X e p) 1) = -1 ∧ cmpD (gm X e (stepI X e p) 0) (ge X e (stepI X e p) 0) (gm X e (stepI X e p) 1) (ge X e (stepI X e p) 1) = -1)) ∨ (few ∧ X ≠ 0 ∧ (fitsB X e p = false ∧ cmpD X e (gm X e (stepI X e p) 0) (ge X e (stepI X e p) 0) = 1 ∧ cmpD (gm X e (stepI X e p) 1) (ge X e (stepI X e p) 1) X e = 1 ∧ cmpD (addM X e (-(gm X e (stepI X e p) 0)) (ge X e (stepI X e p) 0)) (min e (ge X e (stepI X e p) 0)) 1 (stepI X e p) = -1 ∧ cmpD (addM (gm X e (stepI X e p) 1) (ge X e (stepI X e p) 1) (-X) e) (min (ge X e (stepI X e p) 1) e) 1 (stepI X e p) = -1 ∧ cmpD (addM X e (-(gm X e (stepI X e p) 0)) (ge X e (stepI X e p) 0)) (min e (ge X e (stepI X e p) 0)) (addM (gm X e (stepI X e p) 1) (ge X e (stepI X e p) 1) (-X) e) (min (ge X e (stepI X e p) 1) e) = 0 ∧ cmpD (gm X e (stepI X e p) 2) (ge X e (stepI X e p) 2) (gm X e (stepI X e p) 0) (ge X e (stepI X e p) 0) = 1 ∧ cmpD (gm X e (stepI X e p) 2) (ge X e (stepI X e p) 2) (gm X e (stepI X e p) 1) (ge X e (stepI X e p) 1) = 0 ∧ cmpD (gm X e (stepI X e p) 0) (ge X e (stepI X e p) 0) (gm X e (stepI X e p) 1) (ge X e (stepI X e p) 1) = -1)) := by
  by_cases hf : few
  · right
    obtain ⟨h1, h2, h3⟩ := h hf
    have h4 := stepI_in (p := p) h1 h2 h3
    have k1 : -((7000 : Nat) : Int) ≤ e := by omega
    have k2 : -((7000 : Nat) : Int) ≤ stepI X e p := by omega
    have hF := fits_V (m := X) k1 k2
    rcases sides5 (X := X) k1 k2 with h1 | h1 | h1 | h1 | h1
    · rw [decide_eq_true h1.1] at hF
      by_cases h0 : X = 0
      · exact .inl ⟨hf, h0, hF, h1.2⟩
      · exact .inr (.inl ⟨hf, h0, hF, h1.2⟩)
    all_goals rw [decide_eq_false h1.1] at hF
    · exact .inr (.inr (.inl ⟨hf, not0_V h1.1, hF, h1.2⟩))
    · exact .inr (.inr (.inr (.inl ⟨hf, not0_V h1.1, hF, h1.2⟩)))
    · exact .inr (.inr (.inr (.inr (.inl ⟨hf, not0_V h1.1, hF, h1.2⟩))))
    · exact .inr (.inr (.inr (.inr (.inr ⟨hf, not0_V h1.1, hF, h1.2⟩))))
  · exact .inl hf
theorem ge_inc {m e E mode a b c : Int} {k : Nat} (h : Fit m k) (h1 : a ≤ e) (h2 : e ≤ b) (h3 : a ≤ E) (h4 : E ≤ b) (ha : a ≤ 0) (hb : 0 ≤ b) (hc : b + (k : Int) + 1 = c) : a ≤ ge m e E mode ∧ ge m e E mode ≤ c := by
  have := ge_in (mode := mode) h h1 h2 h3 h4 ha hb
  omega
set_option maxRecDepth 100000 in
set_option maxHeartbeats 2000000 in
theorem good_few5 : Good Tryd.prog GW N0 13 s_few5 := by
  refine good (tab := []) (shs := []) rfl trivial Tryd.f13 (by kernel_rfl) (by kernel_rfl) (by kernel_rfl) (fun ds hp F A Q hF hA hQ => ⟨0, ?_⟩)
  obtain ⟨x, rfl, hx⟩ := sp1_arg hp
  obtain ⟨s, n, cs, e, rfl, hw, hr1, hr2⟩ := okW_arg hx
  clear hp hx
  cbv
  repeat' (first | with_reducible refine And.intro ?_ ?_ | (with_reducible refine safe_lift hA ?_; kernel_rfl) | (intro hc_; cbv))
  all_goals (repeat (rw [safe_true hA, true_and]; rotate_left; kernel_rfl))
  all_goals subst hF hA
  all_goals simp only [fnOf, find, std, reduceIte, Nat.reduceEqDiff, sp1, sp2, a1, a2, FnSpec.out, Shape.build, leafs, leafCells, tups, oneOf, List.cons_append, List.nil_append, List.length_cons, List.length_nil, s_few5, s_few, dx, dcn] at *
  case refine_1.refine_1 => rename_i h; exact Post.b hQ (few1 h hc_)
  case refine_1.refine_2 => exact Post.b hQ (few2 (.inr (of_decide_eq_false hc_)))
  case refine_2 => exact Post.b hQ (few2 (.inl (of_decide_eq_false hc_)))
set_option maxRecDepth 100000 in
set_option maxHeartbeats 2000000 in
theorem good_known5 : Good Tryd.prog GWR N0 12 s_known5 := by
  refine goodR (tab := [(31, s_qOf), (16, s_oTo), (26, s_dSame), (20, s_oUlp), (22, s_oFits), (18, s_oGrid)]) (shs := [(31, .agg [.I, .i .i64]), (16, .agg [.I, .i .i64]), (26, .one .b), (20, .agg [.I, .i .i64]), (22, .one .b), (18, .agg [.I, .i .i64])]) rfl ⟨(good_qOf.mono fun _ h => h.base), good_oTo, (good_dSame.mono fun _ h => h.base), (good_oUlp.mono fun _ h => h.base), (good_oFits.mono fun _ h => h.base), good_oGrid, trivial⟩ Tryd.f12 (by kernel_rfl) (by kernel_rfl) (by kernel_rfl) (fun ds hp F A Q hF hA hQ => ⟨0, ?_⟩)
  have hp : ds = [] := hp
  subst hp
  cbv
  repeat' (first | with_reducible refine And.intro ?_ ?_ | (with_reducible refine safe_lift hA ?_; kernel_rfl) | (intro hc_; cbv))
  all_goals (repeat (rw [safe_true hA, true_and]; rotate_left; kernel_rfl))
  all_goals subst hF hA
  all_goals simp only [fnOf, find, std, reduceIte, Nat.reduceEqDiff, sp1, sp2, a1, a2, FnSpec.out, Shape.build, leafs, leafCells, tups, oneOf, List.cons_append, List.nil_append, List.length_cons, List.length_nil, s_known5, s_qOf, s_oTo, s_dSame, s_oUlp, s_oFits, s_oGrid, dm_N0, dm_raw, dz, dx, dcn, vI_N0, k1, k1e, k2, k2e, k3, k3e, k4, k4e, k5, k5e, k6, k6e, k8, k8e, ktop5, kst2, kst3, kg0.1, kg0.2, kg1.1, kg1.2, kg2.1, kg2.2, kg3.1, kg3.2, kfit2, kfit3, kcl2, cmpD_self, Int.zero_add, Int.add_zero, Int.reduceAdd, Int.reduceEq, reduceIte] at *
  all_goals try (exfalso; revert hc_; decide)
  all_goals try (repeat' (first | exact okC_small (by decide) | exact okC_nil | exact Nat.le_trans (ln_small (by decide)) (by decide) | exact fun _ _ => ⟨by decide, by decide⟩ | exact rfl | decide | refine And.intro ?_ ?_))
  all_goals first
    | exact Post.b hQ (by decide)
    | (exfalso; simp at *; done)
    | (exfalso; simp_all; done)
    | trace_state
end Go.Proofs.YtkijhcflomjdbaaDoor.Ev
