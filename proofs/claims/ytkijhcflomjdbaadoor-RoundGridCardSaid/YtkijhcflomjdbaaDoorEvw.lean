/- The laws of dyads. -/
import Derived.Test.YtkijhcflomjdbaaDoorEvp
namespace Go.Proofs.YtkijhcflomjdbaaDoor.Ev
open Go Go.RowKit
set_option linter.unusedSimpArgs false
set_option linter.unusedVariables false
/-- a dyad as an argument: what lies in its slice is told only of few limbs. -/
def okW : D → Prop | .agg [.bool _, .sl n cs, .int .i64 e] => (n ≤ 100000 → okC n cs) ∧ -9223372036854775808 ≤ e ∧ e ≤ 9223372036854775807 | _ => False
theorem okW_arg {x : D} (h : okW x) : ∃ s n cs e, x = .agg [.bool s, .sl n cs, .int .i64 e] ∧ (n ≤ 100000 → okC n cs) ∧ -9223372036854775808 ≤ e ∧ e ≤ 9223372036854775807 := by
  match x, h with
  | .agg [.bool s, .sl n cs, .int .i64 e], h => exact ⟨s, n, cs, e, rfl, h⟩
theorem okW_mk {s : Bool} {n : Nat} {cs : List D} {e : Int} (h : n ≤ 100000 → okC n cs) (h1 : -9223372036854775808 ≤ e) (h2 : e ≤ 9223372036854775807) : okW (.agg [.bool s, .sl n cs, .int .i64 e]) := ⟨h, h1, h2⟩
def s_few : FnSpec := sp1 (.one .b) okW (fun _ _ => 0) (fun x _ => decide (dcn x ≤ 20 ∧ -2000 ≤ dx x ∧ dx x ≤ 2000))
def s_known4 : FnSpec := ⟨.one .b, fun ds => ds = [], fun _ _ => 0, fun _ _ => true, fun _ _ => 0, fun _ _ => []⟩
theorem tz_is {m c : Int} {k : Nat} (h : m = c * 2 ^ k) (hc : c.natAbs % 2 = 1) : tz m.natAbs = k := by
  have h1 : m.natAbs = c.natAbs * 2 ^ k := by rw [h, Int.natAbs_mul, Int.natAbs_pow]; rfl
  have h2 := tz_mul_pow (n := c.natAbs) (by omega) k
  rw [h1, h2, tz_odd hc, Nat.zero_add]
theorem tmI_is {m c : Int} {k : Nat} (h : m = c * 2 ^ k) (hc : c.natAbs % 2 = 1) (hm : m ≠ 0) : tmI m = c := by
  have h1 := tmI_mul m
  rw [tz_is h hc] at h1
  refine Int.eq_of_mul_eq_mul_right (Int.ne_of_gt (pow_pos' k)) ?_
  rw [h1, h]
theorem teI_is {m c e : Int} {k : Nat} (h : m = c * 2 ^ k) (hc : c.natAbs % 2 = 1) (hm : m ≠ 0) : teI m e = e + k := by
  rw [teI_ne hm, tz_is h hc]
theorem isCan_N0 (z : Int) : isCan (.agg [.bool (N0.neg z), .sl (N0.ln z) (N0.lm z)]) = true := by
  have h1 : nums (N0.lm z) = lim z.natAbs := nums_u32s _
  have h2 : decide (lim (val (nums (N0.lm z))) = nums (N0.lm z)) = true := decide_eq_true (by rw [h1, val_lim])
  have h3 : (N0.neg z && decide (N0.ln z = 0)) = false := by
    by_cases h : z = 0
    · subst h; rfl
    · have : N0.ln z ≠ 0 := fun h2 => by have := ln_zero_iff.1 (show ln z.natAbs = 0 from h2); omega
      rw [decide_eq_false this, Bool.and_false]
  show (decide (lim (val (nums (N0.lm z))) = nums (N0.lm z)) && !(N0.neg z && decide (N0.ln z = 0))) = true
  rw [h2, h3]; rfl
theorem isCan_0 : isCan (.agg [.bool false, .sl 0 []]) = true := by
  have h := isCan_N0 0
  rwa [N0_ln0, N0_lm0, N0_neg0] at h
theorem vI_nil : vI false [] = 0 := rfl
theorem okC_nil : okC 0 [] := by
  have h := okC_N0 (z := 0) (by rw [show (0 : Int).natAbs = 0 from rfl, ln_zero]; decide)
  rwa [N0_ln0, N0_lm0] at h
theorem few1 {n : Nat} {e : Int} {i : Decidable (n ≤ 20 ∧ -2000 ≤ e ∧ e ≤ 2000)} (h1 : decide ((n : Int) ≤ 20) = true) (h2 : decide (-2000 ≤ e) = true) : @decide _ i = decide (e ≤ 2000) := by
  have h1 := of_decide_eq_true h1
  have h2 := of_decide_eq_true h2
  rw [Bool.eq_iff_iff, decide_eq_true_eq, decide_eq_true_eq]
  omega
theorem few2 {n : Nat} {e : Int} {i : Decidable (n ≤ 20 ∧ -2000 ≤ e ∧ e ≤ 2000)} (h : ¬((n : Int) ≤ 20) ∨ ¬(-2000 ≤ e)) : @decide _ i = false := by
  rw [decide_eq_false_iff_not]
  omega
theorem k12 : tmI 12 = 3 := tmI_is (k := 2) (by decide) (by decide) (by decide)
theorem k12e (e : Int) : teI 12 e = e + 2 := teI_is (c := 3) (k := 2) (by decide) (by decide) (by decide)
theorem k1n : tmI (-1) = -1 := tmI_is (k := 0) (by decide) (by decide) (by decide)
theorem k1ne (e : Int) : teI (-1) e = e := (teI_is (c := -1) (k := 0) (by decide) (by decide) (by decide)).trans (Int.add_zero e)
theorem k3 : tmI 3 = 3 := tmI_is (k := 0) (by decide) (by decide) (by decide)
theorem k3z : tz (Int.natAbs 3) = 0 := tz_is (c := 3) (k := 0) (by decide) (by decide)
theorem k47 : tmI 47 = 47 := tmI_is (k := 0) (by decide) (by decide) (by decide)
theorem k47e (e : Int) : teI 47 e = e := (teI_is (c := 47) (k := 0) (by decide) (by decide) (by decide)).trans (Int.add_zero e)
theorem k3n : tmI (-3) = -3 := tmI_is (k := 0) (by decide) (by decide) (by decide)
theorem k3ne (e : Int) : teI (-3) e = e := (teI_is (c := -3) (k := 0) (by decide) (by decide) (by decide)).trans (Int.add_zero e)
theorem k1 : tmI 1 = 1 := tmI_is (k := 0) (by decide) (by decide) (by decide)
theorem k1e (e : Int) : teI 1 e = e := (teI_is (c := 1) (k := 0) (by decide) (by decide) (by decide)).trans (Int.add_zero e)
theorem kmm0 : min (max (0 : Int) (-20000)) 20000 = 0 := by decide
theorem kmm2 : min (max (-2 : Int) (-20000)) 20000 = -2 := by decide
theorem kmm4 : min (max (-4 : Int) (-20000)) 20000 = -4 := by decide
theorem kadd : addM 3 2 (-1) (-2) = 47 := by decide
theorem kcmp : cmpD 3 2 (-1) (-2) = 1 := by decide
theorem kpow : (-1 : Int) ^ powN 2 = 1 := by decide
theorem kpowN : (powN 2 : Int) = 2 := by decide
theorem cmpD_self (m e : Int) : cmpD m e m e = 0 := by unfold cmpD; rw [Int.sub_self]; exact sg_zero rfl
theorem ktop : topI 3 2 = 3 := by
  unfold topI
  rw [if_neg (by decide)]
  decide
theorem ln_small {z : Int} (h : z.natAbs < 4294967296) : N0.ln z ≤ 1 := (show Fit z 32 from h).ln (by omega)
theorem okC_small {z : Int} (h : z.natAbs < 4294967296) : okC (N0.ln z) (N0.lm z) := okC_fitN (k := 32) h (by omega)
theorem kmin : min (2 : Int) (-2) = -2 := by decide
theorem kmin2 : (2 : Int) + -2 = 0 := by decide
theorem kmm1 : (-1 : Int) * 3 = -3 := by decide
theorem kmm3 : (3 : Int) * -1 = -3 := by decide
theorem kmul : (2 : Int) * -2 = -4 := by decide
end Go.Proofs.YtkijhcflomjdbaaDoor.Ev
