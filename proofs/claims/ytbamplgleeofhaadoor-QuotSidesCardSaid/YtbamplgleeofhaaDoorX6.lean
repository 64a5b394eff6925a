/- The laws of quotients: exact ones, sides. -/
import Derived.Test.YtbamplgleeofhaaDoorEq6
namespace Go.Proofs.YtbamplgleeofhaaDoor.Ev
open Go Go.RowKit
set_option linter.unusedSimpArgs false
set_option linter.unusedVariables false
theorem seven {a b c d y z : Prop} [Decidable a] [Decidable b] [Decidable c] [Decidable d] [Decidable y] [Decidable z] :
    ¬a ∨ (a ∧ ¬b) ∨ (a ∧ b ∧ ¬c) ∨ (a ∧ b ∧ c ∧ ¬d) ∨ (a ∧ b ∧ c ∧ d ∧ y) ∨ (a ∧ b ∧ c ∧ d ∧ ¬y ∧ z) ∨ (a ∧ b ∧ c ∧ d ∧ ¬y ∧ ¬z) := by
  by_cases a <;> by_cases b <;> by_cases c <;> by_cases d <;> by_cases y <;> by_cases z <;> simp_all
theorem qr_z (e E md : Int) : qr 0 e E md = 0 := if_pos (Int.le_refl 0)
theorem cmpD_00 (a b : Int) : cmpD 0 a 0 b = 0 := by unfold cmpD; rw [Int.zero_mul, Int.zero_mul]; rfl
theorem fits_0 (e p : Int) : fitsB 0 e p = true := by unfold fitsB; rw [decide_eq_true rfl, Bool.true_or]
theorem wrap_0 : IntKind.i64.wrap 0 = 0 := wrap_in (by decide) (by decide)
theorem addM_00 (a b : Int) : addM 0 a 0 b = 0 := by unfold addM; rw [Int.zero_mul, Int.zero_mul]; rfl
theorem sq_pos {X : Int} (hX : X ≠ 0) : 0 < X * X := by rcases Int.lt_or_gt_of_ne hX with h | h; exact Int.mul_pos_of_neg_of_neg h h; exact Int.mul_pos h h
theorem tm_neg {X : Int} (h : 0 ≤ X) : (tmI X < 0) = False := eq_false (by
  have h1 := tmI_mul X
  have hp := pow_pos' (tz X.natAbs)
  intro h2
  have := Int.mul_neg_of_neg_of_pos h2 hp
  omega)
theorem qr_sq {X e E : Int} (hX : X ≠ 0) (hte : E ≤ teI X e) (md : Int) : qr (X * X) (e + e) E md = (((tmI X).natAbs * 2 ^ (teI X e - E).toNat : Nat) : Int) := by
  have h3 : teI X e = e + tz X.natAbs := teI_ne hX
  have h1 : X.natAbs = (tmI X).natAbs * 2 ^ tz X.natAbs := by rw [← natAbs_pow2, tmI_mul]
  have hXX : ¬X * X ≤ 0 := by have := sq_pos hX; omega
  unfold qr
  rw [if_neg hXX]
  congr 1
  have key : (X * X).natAbs * 2 ^ (e + e - 2 * E).toNat = (tmI X).natAbs * 2 ^ (teI X e - E).toNat * ((tmI X).natAbs * 2 ^ (teI X e - E).toNat) * 2 ^ (2 * E - (e + e)).toNat := by
    rw [Int.natAbs_mul, h1, sq_mul, sq_mul, Nat.mul_assoc, Nat.mul_assoc ((tmI X).natAbs * (tmI X).natAbs), ← Nat.pow_add, ← Nat.pow_add, ← Nat.pow_add, ← Nat.pow_add]
    congr 2
    rw [h3] at hte ⊢
    omega
  unfold qrM
  have hd : 0 < 2 ^ (2 * E - (e + e)).toNat := Nat.pow_pos (by decide)
  rw [key, Nat.mul_div_cancel _ hd]
  have hr : ∀ q : Nat, rt (q * q) = q := fun q => rt_unique (Nat.le_refl _) (by grind)
  rw [hr, if_neg (fun h => h.1 rfl), Nat.add_zero]
/-- what the law of exact quotients leans on. -/
theorem exact6 {X e Y f E : Int} (hX : X ≠ 0) (hY : Y ≠ 0) (fX : Fit X 192) (fY : Fit Y 192) (h1 : -2000 ≤ e) (h2 : e ≤ 2000) (h3 : -2000 ≤ f) (h4 : f ≤ 2000) (hE : E = topI X e - 199) :
    qE (tmI (X * Y)) (teI (X * Y) (e + f)) Y f 200 = E ∧ rE (X * X) (e + e) 200 = E ∧ (∀ md, cmpD (qm (X * Y) (e + f) Y f E md) E X e = 0) ∧ (∀ md, cmpD (qr (X * X) (e + e) E md) E (X.natAbs : Int) e = 0) ∧ qr (X * X) (e + e) E 1 = qr (X * X) (e + e) E 0 ∧
      (∀ md, Fit (qm (X * Y) (e + f) Y f E md) 201) ∧ (∀ md, Fit (qr (X * X) (e + e) E md) 201) ∧ -2300 ≤ E ∧ E ≤ 2000 := by
  have ht := top_te (e := e) fX hX
  have htx : topI X e = (nb X.natAbs : Int) - 1 + e := by unfold topI; rw [if_neg hX]
  have hnb := nb_le_of_lt fX
  have hnb1 := nb_pos (N := X.natAbs) (by omega)
  have hEt : E ≤ teI X e := by omega
  have hd := topD_mul (e := e) (f := f) hX hY
  have hXY : X * Y ≠ 0 := Int.mul_ne_zero hX hY
  have hr := topR_sq (e := e) hX
  have hb1 : E = topD (X * Y) (e + f) Y f - 200 + 1 := by omega
  have hb2 : E = topR (X * X) (e + e) - 200 + 1 := by omega
  have q1 : ∀ md, Fit (qm (X * Y) (e + f) Y f E md) 201 := fun md => by rw [hb1]; exact fit_le (qm_le (p := 200) hY (by decide) md)
  have hs := qr_ulp (X := X * X) (e := e + e) (p := 200) (sq_pos hX) (by decide) (by decide) (by omega) (by omega)
  rw [← hb2] at hs
  have r10 : qr (X * X) (e + e) E 1 = qr (X * X) (e + e) E 0 := by rw [qr_sq hX hEt, qr_sq hX hEt]
  have q2 : ∀ md, Fit (qr (X * X) (e + e) E md) 201 := fun md => by
    have : qr (X * X) (e + e) E md = qr (X * X) (e + e) E 0 := by rw [qr_sq hX hEt, qr_sq hX hEt]
    rw [this]; exact fit_le hs.2.2.1
  refine ⟨?_, ?_, fun md => qm_exact hY (.inr hEt) md, fun md => qr_exact (.inr hEt) md, r10, q1, q2, by omega, by omega⟩
  · rw [qE_nrmL _ _ _ hXY hY, qE_is (by decide) (by decide) (by omega) (by omega)]; omega
  · rw [rE_is (by decide) (by decide) (by omega) (by omega)]; omega
end Go.Proofs.YtbamplgleeofhaaDoor.Ev
/- The laws of quotients: sides. -/
namespace Go.Proofs.YtbamplgleeofhaaDoor.Ev
open Go Go.RowKit
set_option linter.unusedSimpArgs false
set_option linter.unusedVariables false
theorem topR_in {X e : Int} (fX : Fit X 640) (h1 : -2000 ≤ e) (h2 : e ≤ 2000) : -1001 ≤ topR X e ∧ topR X e ≤ 1320 := by
  have := topI_in fX h1 h2
  unfold topR; omega
/-- where a root of few bits lies. -/
theorem qr_few {X e p : Int} (hX : 0 < X) (fX : Fit X 640) (h1 : -2000 ≤ e) (h2 : e ≤ 2000) (hp : 1 ≤ p) (hq : p ≤ 400) :
    cmpD (qr X e (rE X e p) 0 * qr X e (rE X e p) 0) (rE X e p + rE X e p) X e ≤ 0 ∧ 0 ≤ cmpD (qr X e (rE X e p) 1 * qr X e (rE X e p) 1) (rE X e p + rE X e p) X e ∧
      cmpD (addM (qr X e (rE X e p) 1) (rE X e p) (-qr X e (rE X e p) 0) (rE X e p)) (min (rE X e p) (rE X e p)) 1 (rE X e p) ≤ 0 ∧
      stepI (qr X e (rE X e p) 0) (rE X e p) p = rE X e p ∧ qr X e (rE X e p) 0 ≠ 0 ∧
      fitsB (qr X e (rE X e p) 0) (rE X e p) p = true ∧ fitsB (qr X e (rE X e p) 1) (rE X e p) p = true ∧
      Fit (qr X e (rE X e p) 0) 401 ∧ Fit (qr X e (rE X e p) 1) 401 ∧ -1500 ≤ rE X e p ∧ rE X e p ≤ 1400 ∧
      Fit (addM (qr X e (rE X e p) 1) (rE X e p) (-qr X e (rE X e p) 0) (rE X e p)) 401 := by
  have ht := topR_in fX h1 h2
  have hE := rE_is (X := X) (e := e) hp (by omega) (by omega) (by omega)
  obtain ⟨u1, u2, u3, u4⟩ := qr_ulp (e := e) hX hp (by omega) (by omega) (by omega)
  rw [← hE] at u1 u2 u3 u4
  obtain ⟨E, hEE⟩ : ∃ E, E = rE X e p := ⟨_, rfl⟩
  rw [← hEE] at u1 u2 u3 u4 hE ⊢
  obtain ⟨s1, s2, s3, s4⟩ := qr_sides (e := e) (E := E) hX
  have ha : addM (qr X e E 1) E (-qr X e E 0) E = qr X e E 1 - qr X e E 0 := by
    unfold addM
    rw [show (E - min E E).toNat = 0 by omega]
    omega
  refine ⟨s1, s2, ?_, u1, u2, fits_of_le hp (by omega) u3 (by omega) (by omega), fits_of_le hp (by omega) u4 (by omega) (by omega), (fit_le u3).mono (by omega), (fit_le u4).mono (by omega), by omega, by omega, ?_⟩
  · rw [ha, show min E E = E by omega]
    unfold cmpD
    rw [show (E - min E E).toNat = 0 by omega, sg_nonpos]
    rcases s3 with h | h <;> rw [h] <;> omega
  · rw [ha]
    have : (qr X e E 1 - qr X e E 0).natAbs ≤ 2 ^ 0 := by rw [Nat.pow_zero]; omega
    exact (fit_le this).mono (by omega)
theorem sides6 {X e Y f p : Int} (hY : Y ≠ 0) :
    (0 < IntKind.i64.wrap (sg Y * cmpD (qm X e Y f (qE X e Y f p) 0 * Y) (qE X e Y f p + f) X e)) = False ∧ (IntKind.i64.wrap (sg Y * cmpD (qm X e Y f (qE X e Y f p) 1 * Y) (qE X e Y f p + f) X e) < 0) = False ∧
      (qm X e Y f (qE X e Y f p) 1 = qm X e Y f (qE X e Y f p) 0 ∨
        (cmpD (qm X e Y f (qE X e Y f p) 0) (qE X e Y f p) (qm X e Y f (qE X e Y f p) 1) (qE X e Y f p) ≠ 0 ∧ cmpD (qm X e Y f (qE X e Y f p) 0 * Y) (qE X e Y f p + f) X e ≠ 0 ∧ cmpD (qm X e Y f (qE X e Y f p) 1 * Y) (qE X e Y f p + f) X e ≠ 0)) := by
  obtain ⟨E, hE⟩ : ∃ E, E = qE X e Y f p := ⟨_, rfl⟩
  rw [← hE]
  obtain ⟨s1, s2, s3, s4⟩ := qm_sides (X := X) (e := e) (f := f) (E := E) hY
  have b : ∀ a b c d e' : Int, IntKind.i64.wrap (sg Y * cmpD a b c d) = sg Y * cmpD a b c d := fun a b c d e' => by
    have h1 : -1 ≤ sg Y ∧ sg Y ≤ 1 := by rcases sg_cases Y with ⟨_, h⟩ | ⟨_, h⟩ | ⟨_, h⟩ <;> rw [h] <;> decide
    have h2 : -1 ≤ cmpD a b c d ∧ cmpD a b c d ≤ 1 := by
      unfold cmpD
      generalize a * _ - _ = z
      rcases sg_cases z with ⟨_, h⟩ | ⟨_, h⟩ | ⟨_, h⟩ <;> rw [h] <;> decide
    have h3 : -1 ≤ sg Y * cmpD a b c d ∧ sg Y * cmpD a b c d ≤ 1 := by
      rcases (show sg Y = -1 ∨ sg Y = 0 ∨ sg Y = 1 by omega) with h | h | h <;> rw [h] <;> omega
    exact wrap_in (by omega) (by omega)
  rw [b _ _ _ _ 0, b _ _ _ _ 0]
  refine ⟨eq_false (by omega), eq_false (by omega), ?_⟩
  by_cases h : qm X e Y f E 0 = qm X e Y f E 1
  · exact .inl h.symm
  · obtain ⟨a1, a2⟩ := s3 h
    refine .inr ⟨fun h0 => h ?_, a1, a2⟩
    obtain ⟨k, hk⟩ : ∃ k : Nat, -(k : Int) ≤ E := ⟨E.natAbs, by omega⟩
    rw [cmp_V hk hk] at h0
    have h1 := (sg_eq _).1 h0
    unfold V at h1
    rw [← Int.sub_mul] at h1
    rcases Int.mul_eq_zero.1 h1 with h2 | h2
    · omega
    · have := pow_pos' (E + k).toNat; omega
theorem six_cases {a b y z w : Prop} [Decidable a] [Decidable b] [Decidable y] [Decidable z] [Decidable w] :
    ¬a ∨ (a ∧ ¬b) ∨ (a ∧ b ∧ y) ∨ (a ∧ b ∧ ¬y ∧ z) ∨ (a ∧ b ∧ ¬y ∧ ¬z ∧ w) ∨ (a ∧ b ∧ ¬y ∧ ¬z ∧ ¬w) := by
  by_cases a <;> by_cases b <;> by_cases y <;> by_cases z <;> by_cases w <;> simp_all
end Go.Proofs.YtbamplgleeofhaaDoor.Ev
