import Derived.Test.YtkfojbelnemhbaaGreatDoorEq5
set_option linter.all false
namespace Go.Proofs.YtkfojbelnemhbaaGreatDoor.Ev
open Go Go.RowKit
theorem topD_in {X e Y f : Int} (fX : Fit X 640) (fY : Fit Y 640) (h1 : -2000 ≤ e) (h2 : e ≤ 2000) (h3 : -2000 ≤ f) (h4 : f ≤ 2000) : -4641 ≤ topD X e Y f ∧ topD X e Y f ≤ 4640 := by
 have tb := topQ_low (M := X.natAbs) (N := Y.natAbs)
 have nX := nb_le_of_lt fX
 have nY := nb_le_of_lt fY
 unfold topD; omega
theorem qE_is {X e Y f p : Int} (hp1 : 1 ≤ p) (hp2 : p ≤ 4000) (h1 : -15000 ≤ topD X e Y f) (h2 : topD X e Y f ≤ 15000) : qE X e Y f p = topD X e Y f - p + 1 := by unfold qE clampE; omega
theorem lo_spec {N D : Int} (hD : 0 < D) : rd 0 N D * D ≤ N ∧ N < rd 0 N D * D + D := by
 have := rd_lo (v := N) hD
 rw [Int.mul_comm D] at this
 exact this
theorem up_spec {N D : Int} (hD : 0 < D) : N ≤ rd 1 N D * D ∧ rd 1 N D * D < N + D := by
 have h1 := lo_spec (N := N) hD
 rw [rd_up hD]
 split
 ·rename_i h
  have h2 := Int.mul_ediv_add_emod N D
  have h3 : rd 0 N D = N / D := if_pos rfl
  rw [h3, Int.mul_comm]
  omega
 ·rename_i h
  have h2 := Int.mul_ediv_add_emod N D
  have h3 : rd 0 N D = N / D := if_pos rfl
  have h4 := Int.emod_nonneg N (Int.ne_of_gt hD)
  have h5 := Int.emod_lt_of_pos N hD
  rw [h3, Int.add_mul, Int.one_mul, Int.mul_comm _ D]
  omega
theorem lo_le_up {N D : Int} (hD : 0 < D) : rd 0 N D ≤ rd 1 N D ∧ rd 1 N D ≤ rd 0 N D + 1 := by rw [rd_up hD]; split <;> omega
theorem same_if {N D : Int} (hD : 0 < D) {q : Int} (h : q * D = N) : rd 0 N D = q ∧ rd 1 N D = q := by
 have h1 : N % D = 0 := by rw [← h]; exact Int.mul_emod_left _ _
 have h2 : rd 0 N D = N / D := if_pos rfl
 have h3 : N / D = q := by rw [← h]; exact Int.mul_ediv_cancel _ (Int.ne_of_gt hD)
 exact ⟨by rw [h2, h3], by rw [rd_up hD, if_pos h1, h2, h3]⟩
theorem sg_nonpos (z : Int) : sg z ≤ 0 ↔ z ≤ 0 := by rcases sg_cases z with ⟨h1, h2⟩ | ⟨h1, h2⟩ | ⟨h1, h2⟩ <;> rw [h2] <;> omega
theorem sg_nonneg (z : Int) : 0 ≤ sg z ↔ 0 ≤ z := by rcases sg_cases z with ⟨h1, h2⟩ | ⟨h1, h2⟩ | ⟨h1, h2⟩ <;> rw [h2] <;> omega
theorem sg_mul (X Y : Int) : sg X * sg Y = sg (X * Y) := by
 have h := sg_mulW X Y
 rw [wrap_in (by rcases sg_cases X with ⟨_, h2⟩ | ⟨_, h2⟩ | ⟨_, h2⟩ <;> rcases sg_cases Y with ⟨_, h4⟩ | ⟨_, h4⟩ | ⟨_, h4⟩ <;> rw [h2, h4] <;> decide) (by rcases sg_cases X with ⟨_, h2⟩ | ⟨_, h2⟩ | ⟨_, h2⟩ <;> rcases sg_cases Y with ⟨_, h4⟩ | ⟨_, h4⟩ | ⟨_, h4⟩ <;> rw [h2, h4] <;> decide)] at h
 exact h
theorem sg_sg (X : Int) : sg (sg X) = sg X := by rcases sg_cases X with ⟨h1, h2⟩ | ⟨h1, h2⟩ | ⟨h1, h2⟩ <;> rw [h2] <;> decide
theorem sg_abs_mul (Y : Int) : Y * sg Y = (Y.natAbs : Int) := by
 rcases sg_cases Y with ⟨h1, h2⟩ | ⟨h1, h2⟩ | ⟨h1, h2⟩ <;> rw [h2] <;> omega
theorem q_units {X e Y f E : Int} (hY : Y ≠ 0) : ∃ (K L : Nat) (N U W : Int), -(K : Int) ≤ E ∧ -(L : Int) ≤ f ∧ -((K + L : Nat) : Int) ≤ e ∧ -((K + L : Nat) : Int) ≤ E + f ∧ 0 < U ∧ 0 < W ∧ U = 2 ^ (E + K).toNat ∧ W = ((V L Y f).natAbs : Int) ∧ N = V (K + L) X e * sg Y ∧
  (∀ md, qm X e Y f E md = rd (sideI md) N (W * U)) ∧ (∀ m, V K m E = m * U) ∧ (∀ m, V (K + L) (m * Y) (E + f) * sg Y = m * (W * U)) := by
 obtain ⟨K, hK⟩ : ∃ K : Nat, -(K : Int) ≤ E ∧ -(K : Int) ≤ f ∧ -(K : Int) ≤ e := ⟨E.natAbs + f.natAbs + e.natAbs, by omega⟩
 have hW : (0 : Int) < ((V K Y f).natAbs : Int) := by
  rw [V_abs]
  exact Int.natCast_pos.2 (Nat.mul_pos (by omega) (Nat.pow_pos (by decide)))
 refine ⟨K, K, _, _, _, by omega, by omega, by omega, by omega, pow_pos' _, hW, rfl, rfl, rfl, fun md => ?_, fun m => rfl, fun m => ?_⟩
 ·rw [qm_V (K := K) (L := K) md hY (by omega) (by omega) (by omega), Int.natCast_mul, pow2_cast]
 ·rw [V_mul (by omega) (by omega), Int.mul_assoc, ← sg_V K Y f, sg_abs_mul]
  unfold V
  rw [Int.mul_assoc, Int.mul_comm (2 ^ _)]
theorem qm_sides {X e Y f E : Int} (hY : Y ≠ 0) :
  sg Y * cmpD (qm X e Y f E 0 * Y) (E + f) X e ≤ 0 ∧ 0 ≤ sg Y * cmpD (qm X e Y f E 1 * Y) (E + f) X e ∧
   (qm X e Y f E 0 ≠ qm X e Y f E 1 → cmpD (qm X e Y f E 0 * Y) (E + f) X e ≠ 0 ∧ cmpD (qm X e Y f E 1 * Y) (E + f) X e ≠ 0) ∧ qm X e Y f E 0 ≤ qm X e Y f E 1 := by
 obtain ⟨K, L, N, U, W, h1, h2, h3, h4, hU, hW, hUU, hWW, hN, hq, hv, hm⟩ := q_units (X := X) (e := e) (f := f) (E := E) hY
 have hD : 0 < W * U := Int.mul_pos hW hU
 have q0 : qm X e Y f E 0 = rd 0 N (W * U) := hq 0
 have q1 : qm X e Y f E 1 = rd 1 N (W * U) := hq 1
 have key : ∀ m : Int, sg Y * cmpD (m * Y) (E + f) X e = sg (m * (W * U) - N) := fun m => by
  rw [cmp_V (k := K + L) (by omega) (by omega), ← sg_sg Y, sg_mul, Int.mul_sub, Int.mul_comm (sg Y), Int.mul_comm (sg Y), hm, hN]
 have hy : sg Y ≠ 0 := fun h => hY ((sg_eq Y).1 h)
 have ne : ∀ m : Int, m * (W * U) ≠ N → cmpD (m * Y) (E + f) X e ≠ 0 := fun m h h0 => by
  have := key m
  rw [h0, Int.mul_zero] at this
  have := (sg_eq _).1 this.symm
  omega
 have l1 := lo_spec (N := N) hD
 have l2 := up_spec (N := N) hD
 have l3 := lo_le_up (N := N) hD
 rw [key, key, q0, q1]
 refine ⟨(sg_nonpos _).2 (by omega), (sg_nonneg _).2 (by omega), fun h => ⟨ne _ fun h1 => h ?_, ne _ fun h1 => h ?_⟩, l3.1⟩
 ·have := same_if hD h1; omega
 ·have := same_if hD h1; omega
end Go.Proofs.YtkfojbelnemhbaaGreatDoor.Ev
namespace Go.Proofs.YtkfojbelnemhbaaGreatDoor.Ev
open Go Go.RowKit
theorem qm_le {X e Y f : Int} (p : Int) (hY : Y ≠ 0) (hp : 1 ≤ p) (md : Int) : (qm X e Y f (topD X e Y f - p + 1) md).natAbs ≤ 2 ^ p.toNat := by
 by_cases hX : X = 0
 ·rw [hX, qm_zX]; simp
 have hx : X.natAbs ≠ 0 := by omega
 have hy : Y.natAbs ≠ 0 := by omega
 have h1 := (topQ_spec hx hy).2
 obtain ⟨t, ht⟩ : ∃ t, t = topQ X.natAbs Y.natAbs := ⟨_, rfl⟩
 rw [← ht] at h1
 obtain ⟨a, ha⟩ : ∃ a, a = p - 1 - t := ⟨_, rfl⟩
 have e1 : e - f - (topD X e Y f - p + 1) = a := by unfold topD; omega
 have e2 : f + (topD X e Y f - p + 1) - e = -a := by omega
 have hlt : X.natAbs * 2 ^ a.toNat < 2 ^ p.toNat * (Y.natAbs * 2 ^ (-a).toNat) := by
  obtain ⟨K, hK⟩ : ∃ K : Nat, -(K : Int) ≤ t + 1 ∧ a.toNat ≤ K := ⟨(-t).toNat + a.toNat, by omega, by omega⟩
  rw [le2_iff (K := K) hK.1, Nat.not_le] at h1
  refine Nat.lt_of_mul_lt_mul_right (a := 2 ^ (K - a.toNat)) ?_
  rw [Nat.mul_assoc, ← Nat.pow_add, show a.toNat + (K - a.toNat) = K by omega]
  refine Nat.lt_of_lt_of_le h1 (Nat.le_of_eq ?_)
  rw [Nat.mul_left_comm, Nat.mul_assoc, Nat.mul_assoc, ← Nat.pow_add, ← Nat.pow_add]
  congr 2
  omega
 have hD : (0 : Int) < ((Y.natAbs * 2 ^ (-a).toNat : Nat) : Int) := Int.natCast_pos.2 (Nat.mul_pos (by omega) (Nat.pow_pos (by decide)))
 unfold qm
 rw [e1, e2]
 have hs : (X * sg Y * 2 ^ a.toNat).natAbs = X.natAbs * 2 ^ a.toNat := by
  rw [natAbs_pow2, Int.natAbs_mul]
  have : (sg Y).natAbs = 1 := by rcases sg_cases Y with ⟨h1, h2⟩ | ⟨h1, h2⟩ | ⟨h1, h2⟩ <;> rw [h2] <;> first | rfl | exact absurd h1 hY
  rw [this, Nat.mul_one]
 generalize X * sg Y * 2 ^ a.toNat = N at *
 generalize Y.natAbs * 2 ^ (-a).toNat = D at *
 have hP : (2 : Int) ^ p.toNat = ((2 ^ p.toNat : Nat) : Int) := (pow2_cast _).symm
 generalize 2 ^ p.toNat = P at *
 have hN : N.natAbs < P * D := by rw [hs]; exact hlt
 have hN2 : ((P * D : Nat) : Int) = (D : Int) * (P : Int) := by rw [Int.natCast_mul, Int.mul_comm]
 obtain ⟨r1, r2⟩ := rd_top (mode := sideI md) (v := N) (U := (D : Int)) (P := (P : Int)) hD (by omega) (by omega)
 generalize rd (sideI md) N D = q at *
 have r3 : q ≤ P := Int.le_of_mul_le_mul_left r2 hD
 have r4 : -(P : Int) ≤ q := by
  refine Int.le_of_mul_le_mul_left (a := (D : Int)) ?_ hD
  rw [Int.mul_neg]; exact r1
 omega
theorem fit_le {m : Int} {p : Nat} (h : m.natAbs ≤ 2 ^ p) : Fit m (p + 1) := by
 unfold Fit
 rw [Nat.pow_succ]
 have : 0 < 2 ^ p := Nat.pow_pos (by decide)
 omega
end Go.Proofs.YtkfojbelnemhbaaGreatDoor.Ev
