/- Package round: to so many bits. -/
import Derived.Test.YtgmencbhkkcpiaaGreatDoorEve
namespace Go.Proofs.YtgmencbhkkcpiaaGreatDoor.Ev
open Go Go.RowKit
set_option linter.unusedSimpArgs false
set_option linter.unusedVariables false
def modeN (mode : Int) : Int := if mode = 0 ∨ mode = 1 then mode else 2
/-- how many multiples farther from 0 a mode goes. -/
def outw (mode sign between : Int) : Int := outwardL.getD (0 + (modeN mode).toNat * 8 + ((IntKind.i64.wrap ((IntKind.i64.wrap (sign + 1)).tdiv 2))).toNat * 4 + between.toNat * 1) 0
/-- what stands between a number and the multiple beside it. -/
def restN (h g : Nat) (gone : Int) : Int := if h % 2 = 0 then 0 else if 1 < gone then 3 else if g % 2 = 1 then 2 else 1
/-- the multiple that m is rounded to, of two to the power of n, as a multiple. -/
def gridI (m : Int) (n : Nat) (mode : Int) : Int := sgn (decide (m < 0)) (m.natAbs / 2 ^ n + (outw mode (sg m) (restN (m.natAbs / 2 ^ (n - 1)) (m.natAbs / 2 ^ n) n)).toNat)
def clampE (e : Int) : Int := min (max e (-20000)) 20000
def stepI (m e p : Int) : Int := clampE (topI m e - min (max p 1) 4000 + 1)
/-- a dyad that is rounded to multiples of two to the power of E. -/
def gm (m e E mode : Int) : Int := if m = 0 ∨ E ≤ teI m e then tmI m else tmI (gridI (tmI m) (E - teI m e).toNat mode)
def ge (m e E mode : Int) : Int := if m = 0 ∨ E ≤ teI m e then teI m e else teI (gridI (tmI m) (E - teI m e).toNat mode) E
theorem sg_eq (z : Int) : sg z = 0 ↔ z = 0 := by rcases sg_cases z with ⟨h1, h2⟩ | ⟨h1, h2⟩ | ⟨h1, h2⟩ <;> rw [h2] <;> omega
theorem lm_len (z : Int) : (N0.lm z).length = N0.ln z := by
  show (u32s (lim z.natAbs)).length = ln z.natAbs
  unfold u32s ln; rw [List.length_map]
theorem z00 : min (max (0 : Int) (-20000)) 20000 = 0 := by decide
theorem tm0 {X : Int} (h : tmI X = 0) : X = 0 := Classical.byContradiction fun h1 => tmI_ne h1 h
theorem te_bd {m e : Int} {k : Nat} (h : Fit m k) : teI m e = 0 ∨ (e ≤ teI m e ∧ teI m e ≤ e + k) := by
  by_cases h0 : m = 0
  · exact .inl (by rw [h0]; exact teI_zero _)
  · have := tz_lt h h0
    have h1 : teI m e = e + tz m.natAbs := if_neg h0
    exact .inr ⟨by omega, by omega⟩
theorem te_add {m e : Int} (h : m ≠ 0) : e + teI m 0 = teI m e := by
  have h1 : teI m e = e + tz m.natAbs := if_neg h
  have h2 : teI m 0 = 0 + tz m.natAbs := if_neg h
  omega
theorem max_if1 (k : Int) : (if 1 > k then 1 else k) = max k 1 := by simp only [Int.max_def]; repeat' split <;> omega
theorem Post.z0 {Q : Post} {m e : Int} (h : Q.R (.agg [.bool (N0.neg m), .sl (N0.ln m) (N0.lm m), .int .i64 e])) (hm : m = 0) (he : e = 0) : Q.R (.agg [.bool false, .sl 0 [], .int .i64 0]) := by
  subst hm he
  rw [N0_neg0, N0_ln0, N0_lm0] at h
  exact h
theorem or_true {X E T : Int} {i1 : Decidable (tmI X = 0)} {i2 : Decidable (E ≤ T)} (h : (@decide _ i1 || @decide _ i2) = true) : X = 0 ∨ E ≤ T := by
  rw [Bool.or_eq_true, decide_eq_true_eq, decide_eq_true_eq] at h
  rcases h with h | h
  · exact .inl (tm0 h)
  · exact .inr h
end Go.Proofs.YtgmencbhkkcpiaaGreatDoor.Ev
