/- The laws of quotients and roots: what they lean on. -/
import Derived.Test.YtbamplgleeofhaaDoorEq5
namespace Go.Proofs.YtbamplgleeofhaaDoor.Ev
open Go Go.RowKit
set_option linter.unusedSimpArgs false
set_option linter.unusedVariables false
theorem qm_nrmL (X e Y f E mode : Int) : qm (tmI X) (teI X e) Y f E mode = qm X e Y f E mode := by
  by_cases hY : Y = 0
  · rw [hY, qm_zY, qm_zY]
  by_cases hX : X = 0
  · rw [hX, tmI_zero, teI_zero, qm_zX, qm_zX]
  have h1 := te_ge (e := e) hX
  obtain ⟨K, hK⟩ : ∃ K : Nat, -(K : Int) ≤ E ∧ -(K : Int) ≤ f ∧ -(K : Int) ≤ e := ⟨E.natAbs + f.natAbs + e.natAbs, by omega⟩
  rw [qm_V (K := K) (L := K) mode hY (by omega) (by omega) (by omega), qm_V (K := K) (L := K) mode hY (by omega) (by omega) (by omega), V_nrm (by omega)]
theorem topD_nrmL {X Y : Int} (e f : Int) (hX : X ≠ 0) (hY : Y ≠ 0) : topD (tmI X) (teI X e) Y f = topD X e Y f := by
  unfold topD
  have h1 : X.natAbs = (tmI X).natAbs * 2 ^ tz X.natAbs := by rw [← natAbs_pow2, tmI_mul]
  have hx := tmI_ne hX
  have := topQ_scale (tz X.natAbs) 0 (show (tmI X).natAbs ≠ 0 by omega) (show Y.natAbs ≠ 0 by omega)
  rw [← h1, Nat.pow_zero, Nat.mul_one] at this
  rw [this, teI_ne hX]
  omega
theorem qE_nrmL {X Y : Int} (e f p : Int) (hX : X ≠ 0) (hY : Y ≠ 0) : qE (tmI X) (teI X e) Y f p = qE X e Y f p := by unfold qE; rw [topD_nrmL e f hX hY]
theorem rE_nrm (X e p : Int) : rE (tmI X) (teI X e) p = rE X e p := by unfold rE topR; rw [topI_nrm]
theorem tmI_pos {X : Int} : (tmI X ≤ 0) = (X ≤ 0) := by
  have h1 := tmI_mul X
  have hp := pow_pos' (tz X.natAbs)
  refine propext ⟨fun h => ?_, fun h => ?_⟩
  · rw [← h1]; exact Int.mul_nonpos_of_nonpos_of_nonneg h (Int.le_of_lt hp)
  · rcases Int.lt_or_le 0 (tmI X) with h2 | h2
    · have := Int.mul_pos h2 hp; omega
    · exact h2
theorem qr_nrm (X e E mode : Int) : qr (tmI X) (teI X e) E mode = qr X e E mode := by
  unfold qr
  simp only [tmI_pos]
  split
  · rfl
  · rename_i h
    have hX : X ≠ 0 := by omega
    have h1 : X.natAbs = (tmI X).natAbs * 2 ^ tz X.natAbs := by rw [← natAbs_pow2, tmI_mul]
    have h3 : teI X e = e + tz X.natAbs := teI_ne hX
    have key : qrM ((tmI X).natAbs * 2 ^ (teI X e - 2 * E).toNat) (2 ^ (2 * E - teI X e).toNat) mode = qrM (X.natAbs * 2 ^ (e - 2 * E).toNat) (2 ^ (2 * E - e).toNat) mode := by
      refine qrM_cross mode (Nat.pow_pos (by decide)) (Nat.pow_pos (by decide)) ?_
      have e1 : (2 : Nat) ^ (teI X e - 2 * E).toNat * 2 ^ (2 * E - e).toNat = 2 ^ tz X.natAbs * 2 ^ (e - 2 * E).toNat * 2 ^ (2 * E - teI X e).toNat := by
        rw [← Nat.pow_add, ← Nat.pow_add, ← Nat.pow_add]
        congr 1
        omega
      obtain ⟨A, hA⟩ : ∃ A, A = (tmI X).natAbs := ⟨_, rfl⟩
      obtain ⟨t, ht⟩ : ∃ t, t = tz X.natAbs := ⟨_, rfl⟩
      rw [Nat.mul_assoc, e1]
      rw [← hA, ← ht] at h1 ⊢
      rw [h1]
      simp only [Nat.mul_assoc]
    rw [key]
theorem topD_in {X e Y f : Int} (fX : Fit X 640) (fY : Fit Y 640) (h1 : -2000 ≤ e) (h2 : e ≤ 2000) (h3 : -2000 ≤ f) (h4 : f ≤ 2000) : -4641 ≤ topD X e Y f ∧ topD X e Y f ≤ 4640 := by
  have tb := topQ_low (M := X.natAbs) (N := Y.natAbs)
  have nX := nb_le_of_lt fX
  have nY := nb_le_of_lt fY
  unfold topD; omega
theorem qE_is {X e Y f p : Int} (hp1 : 1 ≤ p) (hp2 : p ≤ 4000) (h1 : -15000 ≤ topD X e Y f) (h2 : topD X e Y f ≤ 15000) : qE X e Y f p = topD X e Y f - p + 1 := by unfold qE clampE; omega
theorem rE_is {X e p : Int} (hp1 : 1 ≤ p) (hp2 : p ≤ 4000) (h1 : -15000 ≤ topR X e) (h2 : topR X e ≤ 15000) : rE X e p = topR X e - p + 1 := by unfold rE clampE; omega
/-- what lies between two multiples: N by W, in units of U. -/
theorem lo_spec {N D : Int} (hD : 0 < D) : rd 0 N D * D ≤ N ∧ N < rd 0 N D * D + D := by
  have := rd_lo (v := N) hD
  rw [Int.mul_comm D] at this
  exact this
theorem up_spec {N D : Int} (hD : 0 < D) : N ≤ rd 1 N D * D ∧ rd 1 N D * D < N + D := by
  have h1 := lo_spec (N := N) hD
  rw [rd_up hD]
  split
  · rename_i h
    have h2 := Int.mul_ediv_add_emod N D
    have h3 : rd 0 N D = N / D := if_pos rfl
    rw [h3, Int.mul_comm]
    omega
  · rename_i h
    have h2 := Int.mul_ediv_add_emod N D
    have h3 : rd 0 N D = N / D := if_pos rfl
    have h4 := Int.emod_nonneg N (Int.ne_of_gt hD)
    have h5 := Int.emod_lt_of_pos N hD
    rw [h3, Int.add_mul, Int.one_mul, Int.mul_comm _ D]
    omega
theorem lo_le_up {N D : Int} (hD : 0 < D) : rd 0 N D ≤ rd 1 N D ∧ rd 1 N D ≤ rd 0 N D + 1 := by rw [rd_up hD]; split <;> omega
theorem same_if {N D : Int} (hD : 0 < D) {q : Int} (h : q * D = N) : rd 0 N D = q ∧ rd 1 N D = q := by
  have h1 : N % D = 0 := by rw [← h]; exact Int.mul_emod_left _ _
  have h2 : rd 0 N D = N / D := if_pos rfl
  have h3 : N / D = q := by rw [← h]; exact Int.mul_ediv_cancel _ (Int.ne_of_gt hD)
  exact ⟨by rw [h2, h3], by rw [rd_up hD, if_pos h1, h2, h3]⟩
theorem le_of_mulR {a b D : Int} (hD : 0 < D) (h : a * D ≤ b * D) : a ≤ b := Int.le_of_mul_le_mul_right h hD
theorem sg_nonpos (z : Int) : sg z ≤ 0 ↔ z ≤ 0 := by rcases sg_cases z with ⟨h1, h2⟩ | ⟨h1, h2⟩ | ⟨h1, h2⟩ <;> rw [h2] <;> omega
theorem sg_nonneg (z : Int) : 0 ≤ sg z ↔ 0 ≤ z := by rcases sg_cases z with ⟨h1, h2⟩ | ⟨h1, h2⟩ | ⟨h1, h2⟩ <;> rw [h2] <;> omega
theorem sg_mul (X Y : Int) : sg X * sg Y = sg (X * Y) := by
  have h := sg_mulW X Y
  rw [wrap_in (by rcases sg_cases X with ⟨_, h2⟩ | ⟨_, h2⟩ | ⟨_, h2⟩ <;> rcases sg_cases Y with ⟨_, h4⟩ | ⟨_, h4⟩ | ⟨_, h4⟩ <;> rw [h2, h4] <;> decide) (by rcases sg_cases X with ⟨_, h2⟩ | ⟨_, h2⟩ | ⟨_, h2⟩ <;> rcases sg_cases Y with ⟨_, h4⟩ | ⟨_, h4⟩ | ⟨_, h4⟩ <;> rw [h2, h4] <;> decide)] at h
  exact h
theorem sg_sg (X : Int) : sg (sg X) = sg X := by rcases sg_cases X with ⟨h1, h2⟩ | ⟨h1, h2⟩ | ⟨h1, h2⟩ <;> rw [h2] <;> decide
theorem sg_abs_mul (Y : Int) : Y * sg Y = (Y.natAbs : Int) := by
  rcases sg_cases Y with ⟨h1, h2⟩ | ⟨h1, h2⟩ | ⟨h1, h2⟩ <;> rw [h2] <;> omega
/-- a quotient in common units. -/
theorem q_units {X e Y f E : Int} (hY : Y ≠ 0) : ∃ (K L : Nat) (N U W : Int), -(K : Int) ≤ E ∧ -(L : Int) ≤ f ∧ -((K + L : Nat) : Int) ≤ e ∧ -((K + L : Nat) : Int) ≤ E + f ∧ 0 < U ∧ 0 < W ∧ U = 2 ^ (E + K).toNat ∧ W = ((V L Y f).natAbs : Int) ∧ N = V (K + L) X e * sg Y ∧
    (∀ md, qm X e Y f E md = rd (sideI md) N (W * U)) ∧ (∀ m, V K m E = m * U) ∧ (∀ m, V (K + L) (m * Y) (E + f) * sg Y = m * (W * U)) := by
  obtain ⟨K, hK⟩ : ∃ K : Nat, -(K : Int) ≤ E ∧ -(K : Int) ≤ f ∧ -(K : Int) ≤ e := ⟨E.natAbs + f.natAbs + e.natAbs, by omega⟩
  have hW : (0 : Int) < ((V K Y f).natAbs : Int) := by
    rw [V_abs]
    exact Int.natCast_pos.2 (Nat.mul_pos (by omega) (Nat.pow_pos (by decide)))
  refine ⟨K, K, _, _, _, by omega, by omega, by omega, by omega, pow_pos' _, hW, rfl, rfl, rfl, fun md => ?_, fun m => rfl, fun m => ?_⟩
  · rw [qm_V (K := K) (L := K) md hY (by omega) (by omega) (by omega), Int.natCast_mul, pow2_cast]
  · rw [V_mul (by omega) (by omega), Int.mul_assoc, ← sg_V K Y f, sg_abs_mul]
    unfold V
    rw [Int.mul_assoc, Int.mul_comm (2 ^ _)]
theorem qm_sides {X e Y f E : Int} (hY : Y ≠ 0) :
    sg Y * cmpD (qm X e Y f E 0 * Y) (E + f) X e ≤ 0 ∧ 0 ≤ sg Y * cmpD (qm X e Y f E 1 * Y) (E + f) X e ∧
      (qm X e Y f E 0 ≠ qm X e Y f E 1 → cmpD (qm X e Y f E 0 * Y) (E + f) X e ≠ 0 ∧ cmpD (qm X e Y f E 1 * Y) (E + f) X e ≠ 0) ∧ qm X e Y f E 0 ≤ qm X e Y f E 1 := by
  obtain ⟨K, L, N, U, W, h1, h2, h3, h4, hU, hW, hUU, hWW, hN, hq, hv, hm⟩ := q_units (X := X) (e := e) (f := f) (E := E) hY
  have hD : 0 < W * U := Int.mul_pos hW hU
  have q0 : qm X e Y f E 0 = rd 0 N (W * U) := hq 0
  have q1 : qm X e Y f E 1 = rd 1 N (W * U) := hq 1
  have key : ∀ m : Int, sg Y * cmpD (m * Y) (E + f) X e = sg (m * (W * U) - N) := fun m => by
    rw [cmp_V (k := K + L) (by omega) (by omega), ← sg_sg Y, sg_mul, Int.mul_sub, Int.mul_comm (sg Y), Int.mul_comm (sg Y), hm, hN]
  have hy : sg Y ≠ 0 := fun h => hY ((sg_eq Y).1 h)
  have ne : ∀ m : Int, m * (W * U) ≠ N → cmpD (m * Y) (E + f) X e ≠ 0 := fun m h h0 => by
    have := key m
    rw [h0, Int.mul_zero] at this
    have := (sg_eq _).1 this.symm
    omega
  have l1 := lo_spec (N := N) hD
  have l2 := up_spec (N := N) hD
  have l3 := lo_le_up (N := N) hD
  rw [key, key, q0, q1]
  refine ⟨(sg_nonpos _).2 (by omega), (sg_nonneg _).2 (by omega), fun h => ⟨ne _ fun h1 => h ?_, ne _ fun h1 => h ?_⟩, l3.1⟩
  · have := same_if hD h1; omega
  · have := same_if hD h1; omega
/-- with more bits it is nearer. -/
theorem qm_near {X e Y f E E' : Int} (hY : Y ≠ 0) (hE : E' ≤ E) :
    cmpD (qm X e Y f E 0) E (qm X e Y f E' 0) E' ≤ 0 ∧ cmpD (qm X e Y f E' 0) E' (qm X e Y f E' 1) E' ≤ 0 ∧ cmpD (qm X e Y f E' 1) E' (qm X e Y f E 1) E ≤ 0 := by
  obtain ⟨K, hK⟩ : ∃ K : Nat, -(K : Int) ≤ E ∧ -(K : Int) ≤ E' ∧ -(K : Int) ≤ f ∧ -(K : Int) ≤ e := ⟨E.natAbs + E'.natAbs + f.natAbs + e.natAbs, by omega⟩
  have hW : (0 : Int) < ((V K Y f).natAbs : Int) := by
    rw [V_abs]
    exact Int.natCast_pos.2 (Nat.mul_pos (by omega) (Nat.pow_pos (by decide)))
  have hq : ∀ F md, -(K : Int) ≤ F → qm X e Y f F md = rd (sideI md) (V (K + K) X e * sg Y) (((V K Y f).natAbs : Int) * 2 ^ (F + K).toNat) := fun F md hF => by
    rw [qm_V (K := K) (L := K) md hY (by omega) (by omega) (by omega), Int.natCast_mul, pow2_cast]
  obtain ⟨N, hN⟩ : ∃ N, N = V (K + K) X e * sg Y := ⟨_, rfl⟩
  obtain ⟨W, hWW⟩ : ∃ W, W = ((V K Y f).natAbs : Int) := ⟨_, rfl⟩
  simp only [← hN, ← hWW] at hq hW
  obtain ⟨c, hc⟩ : ∃ c : Nat, E = E' + c := ⟨(E - E').toNat, by omega⟩
  obtain ⟨U, hU⟩ : ∃ U : Int, U = 2 ^ (E' + K).toNat := ⟨_, rfl⟩
  obtain ⟨P, hP⟩ : ∃ P : Int, P = 2 ^ c := ⟨_, rfl⟩
  have hU0 : 0 < U := by rw [hU]; exact pow_pos' _
  have hP0 : 0 < P := by rw [hP]; exact pow_pos' _
  have hUP : (2 : Int) ^ (E + K).toNat = U * P := by rw [hU, hP, ← Int.pow_add]; congr 1; omega
  have d1 : 0 < W * U := Int.mul_pos hW hU0
  have d2 : 0 < W * (U * P) := Int.mul_pos hW (Int.mul_pos hU0 hP0)
  have a0 := hq E 0 (by omega); have a1 := hq E 1 (by omega); have b0 := hq E' 0 (by omega); have b1 := hq E' 1 (by omega)
  rw [hUP] at a0 a1
  rw [← hU] at b0 b1
  have s0 : sideI 0 = 0 := rfl
  have s1 : sideI 1 = 1 := rfl
  rw [s0] at a0 b0
  rw [s1] at a1 b1
  have v1 : ∀ m, V K m E = m * (U * P) := fun m => by unfold V; rw [hUP]
  have v2 : ∀ m, V K m E' = m * U := fun m => by unfold V; rw [hU]
  have la := lo_spec (N := N) d2; have ua := up_spec (N := N) d2; have lb := lo_spec (N := N) d1; have ub := up_spec (N := N) d1
  have ll := lo_le_up (N := N) d1
  rw [← a0] at la; rw [← a1] at ua; rw [← b0] at lb; rw [← b1] at ub
  rw [← b0, ← b1] at ll
  have comm : ∀ m : Int, m * (W * (U * P)) = m * P * (W * U) := fun m => by simp only [Int.mul_assoc, Int.mul_left_comm, Int.mul_comm]
  rw [comm] at la ua
  have i1 : qm X e Y f E 0 * P ≤ qm X e Y f E' 0 := by
    apply Int.lt_add_one_iff.1
    refine Int.lt_of_mul_lt_mul_right (a := W * U) ?_ (Int.le_of_lt d1)
    rw [Int.add_mul, Int.one_mul]; omega
  have i2 : qm X e Y f E' 1 ≤ qm X e Y f E 1 * P := by
    apply Int.lt_add_one_iff.1
    refine Int.lt_of_mul_lt_mul_right (a := W * U) ?_ (Int.le_of_lt d1)
    rw [Int.add_mul, Int.one_mul]; omega
  have tr : ∀ m : Int, m * (U * P) = m * P * U := fun m => by simp only [Int.mul_assoc, Int.mul_left_comm, Int.mul_comm]
  refine ⟨?_, ?_, ?_⟩ <;> rw [cmp_V (k := K) (by omega) (by omega), sg_nonpos]
  · rw [v1, v2, tr]
    have := Int.mul_le_mul_of_nonneg_right i1 (Int.le_of_lt hU0)
    omega
  · rw [v2, v2]
    have := Int.mul_le_mul_of_nonneg_right ll.1 (Int.le_of_lt hU0)
    omega
  · rw [v1, v2, tr]
    have := Int.mul_le_mul_of_nonneg_right i2 (Int.le_of_lt hU0)
    omega
/-- a product by one of both is the other one. -/
theorem qm_exact {X e Y f E : Int} (hY : Y ≠ 0) (hE : X = 0 ∨ E ≤ teI X e) (md : Int) : cmpD (qm (X * Y) (e + f) Y f E md) E X e = 0 := by
  obtain ⟨K, hK⟩ : ∃ K : Nat, -(K : Int) ≤ E ∧ -(K : Int) ≤ f ∧ -(K : Int) ≤ e := ⟨E.natAbs + f.natAbs + e.natAbs, by omega⟩
  have hW : (0 : Int) < ((V K Y f).natAbs : Int) := by
    rw [V_abs]
    exact Int.natCast_pos.2 (Nat.mul_pos (by omega) (Nat.pow_pos (by decide)))
  have hU : (0 : Int) < 2 ^ (E + K).toNat := pow_pos' _
  have h1 := (lies_V (k := K) (by omega) (by omega)).1 hE
  have h2 := Int.mul_ediv_add_emod (V K X e) (2 ^ (E + K).toNat)
  have h3 : V (K + K) (X * Y) (e + f) * sg Y = V K X e / 2 ^ (E + K).toNat * (((V K Y f).natAbs : Int) * 2 ^ (E + K).toNat) := by
    rw [V_mul (by omega) (by omega), Int.mul_assoc, ← sg_V K Y f, sg_abs_mul, Int.mul_comm _ (2 ^ (E + K).toNat), ← Int.mul_assoc, Int.mul_comm (V K X e / _)]
    congr 1
    omega
  have h4 : qm (X * Y) (e + f) Y f E md = V K X e / 2 ^ (E + K).toNat := by
    rw [qm_V (K := K) (L := K) md hY (by omega) (by omega) (by omega), Int.natCast_mul, pow2_cast, h3]
    have := same_if (Int.mul_pos hW hU) (q := V K X e / 2 ^ (E + K).toNat) rfl
    unfold sideI
    split
    · exact this.2
    · exact this.1
  rw [cmp_V (k := K) (by omega) (by omega), h4]
  have : V K (V K X e / 2 ^ (E + K).toNat) E = V K X e := by
    unfold V at h1 h2 ⊢
    rw [Int.mul_comm]; omega
  rw [this, Int.sub_self]
  exact sg_zero rfl
theorem topD_mul {X e Y f : Int} (hX : X ≠ 0) (hY : Y ≠ 0) : topD (X * Y) (e + f) Y f = topI X e := by
  unfold topD topI
  have hx : X.natAbs ≠ 0 := by omega
  have hy : Y.natAbs ≠ 0 := by omega
  have p := nb_pos hx
  have : topQ (X * Y).natAbs Y.natAbs = (nb X.natAbs : Int) - 1 := by
    rw [Int.natAbs_mul]
    refine topQ_uniq (Nat.mul_ne_zero hx hy) hy ?_ ?_
    · rw [le2_iff (K := 0) (by omega), Nat.pow_zero, Nat.mul_one, show ((nb X.natAbs : Int) - 1 + (0 : Nat)).toNat = nb X.natAbs - 1 by omega, Nat.mul_comm]
      exact Nat.mul_le_mul_right _ (nb_low' hx)
    · rw [le2_iff (K := 0) (by omega), Nat.pow_zero, Nat.mul_one, show ((nb X.natAbs : Int) - 1 + 1 + (0 : Nat)).toNat = nb X.natAbs by omega, Nat.mul_comm, Nat.not_le]
      exact Nat.mul_lt_mul_of_pos_right (nb_lt' _) (by omega)
  rw [this, if_neg hX]
  omega
theorem top_te {X e : Int} {k : Nat} (h : Fit X k) (hX : X ≠ 0) : topI X e ≤ teI X e + k - 1 := by
  rw [← topI_nrm]
  unfold topI
  rw [if_neg (tmI_ne hX)]
  have := nb_le_of_lt (fit_tm h)
  omega
end Go.Proofs.YtbamplgleeofhaaDoor.Ev
/- The laws of quotients and roots: what fits, roots, thirds. -/
namespace Go.Proofs.YtbamplgleeofhaaDoor.Ev
open Go Go.RowKit
set_option linter.unusedSimpArgs false
set_option linter.unusedVariables false
theorem nb_eq {r p : Nat} (h1 : 2 ^ p ≤ r) (h2 : r < 2 ^ (p + 1)) : nb r = p + 1 := by
  have hr : r ≠ 0 := by have : 0 < 2 ^ p := Nat.pow_pos (by decide); omega
  have a1 := nb_low' hr; have a2 := nb_lt' r; have a3 := nb_pos hr
  have b1 := (Nat.pow_lt_pow_iff_right (a := 2) (by decide)).1 (Nat.lt_of_le_of_lt a1 h2)
  have b2 := (Nat.pow_lt_pow_iff_right (a := 2) (by decide)).1 (Nat.lt_of_le_of_lt h1 a2)
  omega
theorem fits_of_le {m E p : Int} (hp1 : 1 ≤ p) (hp2 : p ≤ 4000) (h : m.natAbs ≤ 2 ^ p.toNat) (h1 : -15000 ≤ E) (h2 : E ≤ 15000) : fitsB m E p = true := by
  unfold fitsB
  by_cases hm : m = 0
  · rw [decide_eq_true hm, Bool.true_or]
  · rw [decide_eq_false hm, Bool.false_or]
    refine decide_eq_true ?_
    have ht := te_ge (e := E) hm
    have htop : topI m E = (nb m.natAbs : Int) - 1 + E := by unfold topI; rw [if_neg hm]
    rcases Nat.lt_or_ge m.natAbs (2 ^ p.toNat) with h3 | h3
    · have := nb_le_of_lt h3
      unfold stepI clampE
      rw [htop]
      omega
    · have h4 : m.natAbs = 2 ^ p.toNat := Nat.le_antisymm h h3
      have h5 : nb m.natAbs = p.toNat + 1 := nb_eq (by omega) (by rw [h4]; exact Nat.pow_lt_pow_right (by decide) (by omega))
      have h6 : teI m E = E + p.toNat := by
        have hc : ((2 : Int) ^ p.toNat) = ((2 ^ p.toNat : Nat) : Int) := (pow2_cast _).symm
        rcases Int.natAbs_eq m with h7 | h7
        · exact teI_is (c := 1) (k := p.toNat) (by rw [Int.one_mul, hc, ← h4]; exact h7) (by decide) hm
        · exact teI_is (c := -1) (k := p.toNat) (by rw [Int.neg_mul, Int.one_mul, hc, ← h4]; exact h7) (by decide) hm
      unfold stepI clampE
      rw [htop, h5, h6]
      omega
theorem fits_nrm (m E p : Int) : fitsB (tmI m) (teI m E) p = fitsB m E p := by
  unfold fitsB
  rw [stepI_nrm, teI_idem]
  simp only [tmI_eq0]
theorem qm_le {X e Y f : Int} (p : Int) (hY : Y ≠ 0) (hp : 1 ≤ p) (md : Int) : (qm X e Y f (topD X e Y f - p + 1) md).natAbs ≤ 2 ^ p.toNat := by
  by_cases hX : X = 0
  · rw [hX, qm_zX]; simp
  have hx : X.natAbs ≠ 0 := by omega
  have hy : Y.natAbs ≠ 0 := by omega
  have h1 := (topQ_spec hx hy).2
  obtain ⟨t, ht⟩ : ∃ t, t = topQ X.natAbs Y.natAbs := ⟨_, rfl⟩
  rw [← ht] at h1
  obtain ⟨a, ha⟩ : ∃ a, a = p - 1 - t := ⟨_, rfl⟩
  have e1 : e - f - (topD X e Y f - p + 1) = a := by unfold topD; omega
  have e2 : f + (topD X e Y f - p + 1) - e = -a := by omega
  have hlt : X.natAbs * 2 ^ a.toNat < 2 ^ p.toNat * (Y.natAbs * 2 ^ (-a).toNat) := by
    obtain ⟨K, hK⟩ : ∃ K : Nat, -(K : Int) ≤ t + 1 ∧ a.toNat ≤ K := ⟨(-t).toNat + a.toNat, by omega, by omega⟩
    rw [le2_iff (K := K) hK.1, Nat.not_le] at h1
    refine Nat.lt_of_mul_lt_mul_right (a := 2 ^ (K - a.toNat)) ?_
    rw [Nat.mul_assoc, ← Nat.pow_add, show a.toNat + (K - a.toNat) = K by omega]
    refine Nat.lt_of_lt_of_le h1 (Nat.le_of_eq ?_)
    rw [Nat.mul_left_comm, Nat.mul_assoc, Nat.mul_assoc, ← Nat.pow_add, ← Nat.pow_add]
    congr 2
    omega
  have hD : (0 : Int) < ((Y.natAbs * 2 ^ (-a).toNat : Nat) : Int) := Int.natCast_pos.2 (Nat.mul_pos (by omega) (Nat.pow_pos (by decide)))
  unfold qm
  rw [e1, e2]
  have hs : (X * sg Y * 2 ^ a.toNat).natAbs = X.natAbs * 2 ^ a.toNat := by
    rw [natAbs_pow2, Int.natAbs_mul]
    have : (sg Y).natAbs = 1 := by rcases sg_cases Y with ⟨h1, h2⟩ | ⟨h1, h2⟩ | ⟨h1, h2⟩ <;> rw [h2] <;> first | rfl | exact absurd h1 hY
    rw [this, Nat.mul_one]
  generalize X * sg Y * 2 ^ a.toNat = N at *
  generalize Y.natAbs * 2 ^ (-a).toNat = D at *
  have hP : (2 : Int) ^ p.toNat = ((2 ^ p.toNat : Nat) : Int) := (pow2_cast _).symm
  generalize 2 ^ p.toNat = P at *
  have hN : N.natAbs < P * D := by rw [hs]; exact hlt
  have hN2 : ((P * D : Nat) : Int) = (D : Int) * (P : Int) := by rw [Int.natCast_mul, Int.mul_comm]
  obtain ⟨r1, r2⟩ := rd_top (mode := sideI md) (v := N) (U := (D : Int)) (P := (P : Int)) hD (by omega) (by omega)
  generalize rd (sideI md) N D = q at *
  have r3 : q ≤ P := Int.le_of_mul_le_mul_left r2 hD
  have r4 : -(P : Int) ≤ q := by
    refine Int.le_of_mul_le_mul_left (a := (D : Int)) ?_ hD
    rw [Int.mul_neg]; exact r1
  omega
theorem fit_le {m : Int} {p : Nat} (h : m.natAbs ≤ 2 ^ p) : Fit m (p + 1) := by
  unfold Fit
  rw [Nat.pow_succ]
  have : 0 < 2 ^ p := Nat.pow_pos (by decide)
  omega
/-- what a root is, in whole numbers. -/
theorem qr_parts {X e E : Int} (hX : 0 < X) : ∃ r a d : Nat, 0 < d ∧ a = X.natAbs * 2 ^ (e - 2 * E).toNat ∧ d = 2 ^ (2 * E - e).toNat ∧ r * r * d ≤ a ∧ a < (r + 1) * (r + 1) * d ∧ qr X e E 0 = (r : Int) ∧ qr X e E 1 = ((r + if r * r * d = a then 0 else 1 : Nat) : Int) := by
  have hd : 0 < 2 ^ (2 * E - e).toNat := Nat.pow_pos (by decide)
  obtain ⟨h1, h2⟩ := rt_spec (X.natAbs * 2 ^ (e - 2 * E).toNat / 2 ^ (2 * E - e).toNat)
  refine ⟨rt (X.natAbs * 2 ^ (e - 2 * E).toNat / 2 ^ (2 * E - e).toNat), _, _, hd, rfl, rfl, (Nat.le_div_iff_mul_le hd).1 h1, (Nat.div_lt_iff_lt_mul hd).1 h2, ?_, ?_⟩
  · unfold qr qrM
    rw [if_neg (show ¬X ≤ 0 by omega), if_neg (fun h => absurd h.2 (by decide)), Nat.add_zero]
  · unfold qr qrM
    rw [if_neg (show ¬X ≤ 0 by omega)]
    congr 2
    split
    · rename_i h; rw [if_neg h.1]
    · rename_i h
      rw [if_pos (Classical.byContradiction fun hc => h ⟨hc, rfl⟩)]
theorem qr_cmp {X e E : Int} (hX : 0 < X) (m : Int) : cmpD (m * m) (E + E) X e = sg (m * m * ((2 ^ (2 * E - e).toNat : Nat) : Int) - ((X.natAbs * 2 ^ (e - 2 * E).toNat : Nat) : Int)) := by
  obtain ⟨k, hk⟩ : ∃ k : Nat, -(k : Int) ≤ E + E ∧ -(k : Int) ≤ e := ⟨E.natAbs + E.natAbs + e.natAbs, by omega⟩
  rw [cmp_V hk.1 hk.2]
  unfold V
  have hj : ∃ j : Nat, (E + E + k).toNat = (2 * E - e).toNat + j ∧ (e + k).toNat = (e - 2 * E).toNat + j := ⟨(min (2 * E) e + k).toNat, by omega, by omega⟩
  obtain ⟨j, h1, h2⟩ := hj
  rw [h1, h2, Int.pow_add, Int.pow_add, ← Int.mul_assoc, ← Int.mul_assoc, ← Int.sub_mul, sg_pow, Int.natCast_mul, pow2_cast, pow2_cast]
  rw [show ((X.natAbs : Nat) : Int) = X by omega]
theorem qr_sides {X e E : Int} (hX : 0 < X) : cmpD (qr X e E 0 * qr X e E 0) (E + E) X e ≤ 0 ∧ 0 ≤ cmpD (qr X e E 1 * qr X e E 1) (E + E) X e ∧ (qr X e E 1 = qr X e E 0 ∨ qr X e E 1 = qr X e E 0 + 1) ∧ 0 ≤ qr X e E 0 := by
  obtain ⟨r, a, d, hd, ha, hdd, h1, h2, h3, h4⟩ := qr_parts (e := e) (E := E) hX
  rw [qr_cmp hX, qr_cmp hX, h3, h4, ← ha, ← hdd]
  have c : ∀ x y : Nat, ((x : Int) * x * ((d : Nat) : Int) - (y : Int)) = (((x * x * d : Nat) : Int) - y) := fun x y => by rw [Int.natCast_mul, Int.natCast_mul]
  rw [c, c, sg_nonpos, sg_nonneg]
  split
  · rename_i h
    rw [Nat.add_zero]
    exact ⟨by omega, by omega, .inl rfl, by omega⟩
  · exact ⟨by omega, by omega, .inr (by omega), by omega⟩
theorem qr_top {X e p : Int} (hX : 0 < X) (hp : 1 ≤ p) : ∃ r : Nat, qr X e (topR X e - p + 1) 0 = (r : Int) ∧ 2 ^ (p.toNat - 1) ≤ r ∧ r < 2 ^ p.toNat := by
  obtain ⟨E, hE⟩ : ∃ E, E = topR X e - p + 1 := ⟨_, rfl⟩
  rw [← hE]
  obtain ⟨r, a, d, hd, ha, hdd, h1, h2, h3, h4⟩ := qr_parts (e := e) (E := E) hX
  refine ⟨r, h3, ?_⟩
  have hx : X.natAbs ≠ 0 := by omega
  have n1 := nb_low' hx; have n2 := nb_lt' X.natAbs; have n3 := nb_pos hx
  have ht : topI X e = (nb X.natAbs : Int) - 1 + e := by unfold topI; rw [if_neg (by omega)]
  unfold topR at hE
  rw [ht] at hE
  have b1 : 2 ^ (p.toNat - 1) * 2 ^ (p.toNat - 1) * d ≤ a := by
    rw [ha, hdd, ← Nat.pow_add, ← Nat.pow_add]
    refine Nat.le_trans ?_ (Nat.mul_le_mul_right _ n1)
    rw [← Nat.pow_add]
    exact Nat.pow_le_pow_right (by decide) (by omega)
  have b2 : a < 2 ^ p.toNat * 2 ^ p.toNat * d := by
    rw [ha, hdd, ← Nat.pow_add, ← Nat.pow_add]
    refine Nat.lt_of_lt_of_le (Nat.mul_lt_mul_of_pos_right n2 (Nat.pow_pos (by decide))) ?_
    rw [← Nat.pow_add]
    exact Nat.pow_le_pow_right (by decide) (by omega)
  have c1 := Nat.lt_of_mul_lt_mul_right (Nat.lt_of_le_of_lt b1 h2)
  have c2 := Nat.lt_of_mul_lt_mul_right (Nat.lt_of_le_of_lt h1 b2)
  constructor
  · apply Nat.le_of_not_lt
    intro h
    have := Nat.mul_le_mul (show r + 1 ≤ 2 ^ (p.toNat - 1) from h) (show r + 1 ≤ 2 ^ (p.toNat - 1) from h)
    omega
  · apply Nat.lt_of_not_le
    intro h
    have := Nat.mul_le_mul h h
    omega
theorem qr_ulp {X e p : Int} (hX : 0 < X) (hp1 : 1 ≤ p) (hp2 : p ≤ 4000) (h1 : -15000 ≤ topR X e - p + 1) (h2 : topR X e - p + 1 ≤ 15000) : stepI (qr X e (topR X e - p + 1) 0) (topR X e - p + 1) p = topR X e - p + 1 ∧ qr X e (topR X e - p + 1) 0 ≠ 0 ∧
    (qr X e (topR X e - p + 1) 0).natAbs ≤ 2 ^ p.toNat ∧ (qr X e (topR X e - p + 1) 1).natAbs ≤ 2 ^ p.toNat := by
  obtain ⟨r, hr, b1, b2⟩ := qr_top (e := e) hX hp1
  have hs := (qr_sides (e := e) (E := topR X e - p + 1) hX).2.2.1
  have hnb : nb r = p.toNat := by
    have := nb_eq (p := p.toNat - 1) b1 (by rw [show p.toNat - 1 + 1 = p.toNat by omega]; exact b2)
    omega
  have hr0 : r ≠ 0 := by have : 0 < 2 ^ (p.toNat - 1) := Nat.pow_pos (by decide); omega
  rw [hr] at hs ⊢
  refine ⟨?_, by omega, by omega, by omega⟩
  unfold stepI topI clampE
  rw [if_neg (by omega), Int.natAbs_natCast, hnb]
  omega
theorem qr_exact {X e E : Int} (hE : X = 0 ∨ E ≤ teI X e) (md : Int) : cmpD (qr (X * X) (e + e) E md) E (X.natAbs : Int) e = 0 := by
  by_cases hX : X = 0
  · have : qr (X * X) (e + e) E md = 0 := by unfold qr; rw [if_pos (by rw [hX]; decide)]
    rw [this, hX]
    unfold cmpD
    simp
    rfl
  have hte : E ≤ teI X e := hE.resolve_left hX
  have h3 : teI X e = e + tz X.natAbs := teI_ne hX
  have h1 : X.natAbs = (tmI X).natAbs * 2 ^ tz X.natAbs := by rw [← natAbs_pow2, tmI_mul]
  have hq : qr (X * X) (e + e) E md = (((tmI X).natAbs * 2 ^ (teI X e - E).toNat : Nat) : Int) := by
    have hXX : ¬X * X ≤ 0 := by
      have : 0 < X * X := by rcases Int.lt_or_gt_of_ne hX with h | h; exact Int.mul_pos_of_neg_of_neg h h; exact Int.mul_pos h h
      omega
    unfold qr
    rw [if_neg hXX]
    congr 1
    have key : (X * X).natAbs * 2 ^ (e + e - 2 * E).toNat = (tmI X).natAbs * 2 ^ (teI X e - E).toNat * ((tmI X).natAbs * 2 ^ (teI X e - E).toNat) * 2 ^ (2 * E - (e + e)).toNat := by
      rw [Int.natAbs_mul, h1, sq_mul, sq_mul, Nat.mul_assoc, Nat.mul_assoc ((tmI X).natAbs * (tmI X).natAbs), ← Nat.pow_add, ← Nat.pow_add, ← Nat.pow_add, ← Nat.pow_add]
      congr 2
      rw [h3] at hte ⊢
      omega
    unfold qrM
    have hd : 0 < 2 ^ (2 * E - (e + e)).toNat := Nat.pow_pos (by decide)
    rw [key, Nat.mul_div_cancel _ hd]
    have hr : ∀ q : Nat, rt (q * q) = q := fun q => rt_unique (Nat.le_refl _) (by grind)
    rw [hr, if_neg (fun h => h.1 rfl), Nat.add_zero]
  obtain ⟨k, hk⟩ : ∃ k : Nat, -(k : Int) ≤ E ∧ -(k : Int) ≤ e := ⟨E.natAbs + e.natAbs, by omega⟩
  rw [hq, cmp_V hk.1 hk.2]
  have : V k (((tmI X).natAbs * 2 ^ (teI X e - E).toNat : Nat) : Int) E = V k (X.natAbs : Int) e := by
    unfold V
    rw [h1, Int.natCast_mul, Int.natCast_mul, pow2_cast, pow2_cast, Int.mul_assoc, Int.mul_assoc, ← Int.pow_add, ← Int.pow_add]
    congr 2
    omega
  rw [this, Int.sub_self]
  exact sg_zero rfl
theorem topR_sq {X e : Int} (hX : X ≠ 0) : topR (X * X) (e + e) = topI X e := by
  have hx : X.natAbs ≠ 0 := by omega
  have n1 := nb_low' hx; have n2 := nb_lt' X.natAbs; have n3 := nb_pos hx
  have hXX : X * X ≠ 0 := Int.mul_ne_zero hX hX
  have hq : X.natAbs * X.natAbs ≠ 0 := Nat.mul_ne_zero hx hx
  have a1 : 2 ^ (nb X.natAbs - 1 + (nb X.natAbs - 1)) < 2 ^ nb (X.natAbs * X.natAbs) := by
    rw [Nat.pow_add]
    exact Nat.lt_of_le_of_lt (Nat.mul_le_mul n1 n1) (nb_lt' _)
  have a2 : 2 ^ (nb (X.natAbs * X.natAbs) - 1) < 2 ^ (nb X.natAbs + nb X.natAbs) := by
    rw [Nat.pow_add]
    exact Nat.lt_of_le_of_lt (nb_low' hq) (Nat.mul_lt_mul'' n2 n2)
  have b1 := (Nat.pow_lt_pow_iff_right (a := 2) (by decide)).1 a1
  have b2 := (Nat.pow_lt_pow_iff_right (a := 2) (by decide)).1 a2
  have b3 := nb_pos hq
  unfold topR topI
  rw [if_neg hXX, if_neg hX, Int.natAbs_mul]
  omega
end Go.Proofs.YtbamplgleeofhaaDoor.Ev
