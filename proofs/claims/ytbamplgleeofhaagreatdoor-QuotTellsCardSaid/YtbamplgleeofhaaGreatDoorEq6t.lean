/- The laws of quotients: what the document tells. -/
import Derived.Test.YtbamplgleeofhaaGreatDoorX6
import Derived.Test.YtbamplgleeofhaaGreatDoorEqr
namespace Go.Proofs.YtbamplgleeofhaaGreatDoor.Ev
open Go Go.RowKit
set_option linter.unusedSimpArgs false
set_option linter.unusedVariables false
theorem five_tells {a b : Prop} [Decidable a] [Decidable b] {p : Int} :
    ¬a ∨ (a ∧ ¬b) ∨ (a ∧ b ∧ 400 < p ∧ p ≤ 4000) ∨ (a ∧ b ∧ ¬400 < p) ∨ (a ∧ b ∧ 400 < p ∧ ¬p ≤ 4000) := by
  by_cases a <;> by_cases b <;> by_cases 400 < p <;> by_cases p ≤ 4000 <;> simp_all
theorem qE_nrm6 {X Y : Int} (e f p : Int) (hX : X ≠ 0) (hY : Y ≠ 0) : qE (tmI X) (teI X e) (tmI Y) (teI Y f) p = qE X e Y f p := by unfold qE; rw [topD_nrm hX hY]
theorem qmq_nrm (X e Y f p md : Int) : qm (tmI X) (teI X e) (tmI Y) (teI Y f) (qE (tmI X) (teI X e) (tmI Y) (teI Y f) p) md = qm X e Y f (qE X e Y f p) md := by
  by_cases hX : X = 0
  · subst hX; rw [tmI_zero, qm_zX, qm_zX]
  · by_cases hY : Y = 0
    · subst hY; rw [tmI_zero, qm_zY, qm_zY]
    · rw [qE_nrm6 _ _ _ hX hY, qm_nrm hX hY]
theorem qeq_nrm (X e Y f p md : Int) : teI (qm X e Y f (qE X e Y f p) md) (qE (tmI X) (teI X e) (tmI Y) (teI Y f) p) = teI (qm X e Y f (qE X e Y f p) md) (qE X e Y f p) := by
  by_cases hX : X = 0
  · subst hX; rw [qm_zX, teI_zero, teI_zero]
  · by_cases hY : Y = 0
    · subst hY; rw [qm_zY, teI_zero, teI_zero]
    · rw [qE_nrm6 _ _ _ hX hY]
theorem tm_lt0 (X : Int) : (tmI X < 0) = (X < 0) := propext (by
  have h1 := tmI_mul X
  have hp := pow_pos' (tz X.natAbs)
  constructor
  · intro h2
    have := Int.mul_neg_of_neg_of_pos h2 hp
    omega
  · intro h
    apply Int.lt_of_not_ge
    intro h2
    have := Int.mul_nonneg h2 (Int.le_of_lt hp)
    omega)
/-- the errors. -/
def er11 (Y : Int) : Int := if Y = 0 then 11 else 0
def er12 (Y : Int) : Int := if Y < 0 then 12 else 0
theorem er_11 (Y : Int) {i : Decidable (Y = 0)} : @ite Int (Y = 0) i 11 0 = er11 Y := by unfold er11; by_cases h : Y = 0 <;> simp [h]
theorem er_12 (Y : Int) {i : Decidable (Y < 0)} : @ite Int (Y < 0) i 12 0 = er12 Y := by unfold er12; by_cases h : Y < 0 <;> simp [h]
theorem wrap_11 (Y : Int) : IntKind.i64.wrap (er11 Y) = er11 Y := by unfold er11; split <;> exact wrap_in (by decide) (by decide)
theorem wrap_12 (Y : Int) : IntKind.i64.wrap (er12 Y) = er12 Y := by unfold er12; split <;> exact wrap_in (by decide) (by decide)
theorem er11_tm (Y : Int) : er11 (tmI Y) = er11 Y := by unfold er11; simp only [tmI_eq0]
theorem er12_tm (Y : Int) : er12 (tmI Y) = er12 Y := by unfold er12; simp only [tm_lt0]
theorem qm_fit6 {X e Y f p : Int} (fX : Fit X 640) (fY : Fit Y 640) (h1 : -2000 ≤ e) (h2 : e ≤ 2000) (h3 : -2000 ≤ f) (h4 : f ≤ 2000) (hq : p ≤ 400) (md : Int) : Fit (qm X e Y f (qE X e Y f p) md) 401 := by
  by_cases hY : Y = 0
  · subst hY; rw [qm_zY]; exact fit_0
  · have e1 : qE X e Y f p = qE X e Y f (max p 1) := by
      unfold qE
      rw [show min (max p 1) 4000 = min (max (max p 1) 1) 4000 by omega]
    rw [e1]
    exact (qm_few (p := max p 1) hY fX fY h1 h2 h3 h4 (by omega) (by omega) md).1
theorem qr_fit6 {X e p : Int} (fX : Fit X 640) (h1 : -2000 ≤ e) (h2 : e ≤ 2000) (hq : p ≤ 400) (md : Int) : Fit (qr X e (rE X e p) md) 401 := by
  by_cases hX : X ≤ 0
  · have : qr X e (rE X e p) md = 0 := if_pos hX
    rw [this]; exact fit_0
  · have e1 : rE X e p = rE X e (max p 1) := by
      unfold rE
      rw [show min (max p 1) 4000 = min (max (max p 1) 1) 4000 by omega]
    rw [e1]
    obtain ⟨_, _, _, _, _, _, _, a, b, _⟩ := qr_few (p := max p 1) (by omega) fX h1 h2 (by omega) (by omega)
    by_cases hm : md = 1
    · rw [hm]; exact b
    · have : qr X e (rE X e (max p 1)) md = qr X e (rE X e (max p 1)) 0 := by
        have e2 : ∀ a d : Nat, qrM a d md = qrM a d 0 := fun a d => by
          unfold qrM
          rw [if_neg (fun h => hm h.2), if_neg (fun h => absurd h.2 (by decide))]
        unfold qr
        rw [e2]
      rw [this]; exact a
end Go.Proofs.YtbamplgleeofhaaGreatDoor.Ev
