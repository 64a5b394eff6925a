/- Powers of dyads. -/
import Derived.Test.YtglmnhjkmdpefaaDoorEvq
namespace Go.Proofs.YtglmnhjkmdpefaaDoor.Ev
open Go Go.RowKit
set_option linter.unusedSimpArgs false
set_option linter.unusedVariables false
def powN (k : Int) : Nat := (min (max k 0) 64).toNat
def s_dPow : FnSpec := sp2 (.agg [.I, .i .i64]) (fun x y => okD x ∧ isi .i64 y ∧ dcn x ≤ 3) (fun x y i => match i with | 0 => tmI (tmI (dm x) ^ powN (dz y)) | _ => teI (tmI (dm x) ^ powN (dz y)) (powN (dz y) * teI (dm x) (dx x))) (fun _ _ _ => false)
def s_qPow : FnSpec := sp2 (.agg [.I, .i .i64]) (fun x y => canD x ∧ isi .i64 y ∧ dcn x ≤ 3 ∧ -1000000 ≤ dx x ∧ dx x ≤ 1000000) (fun x y i => match i with | 0 => tmI (tmI (dm x) ^ powN (dz y)) | _ => teI (tmI (dm x) ^ powN (dz y)) (powN (dz y) * teI (dm x) (dx x))) (fun _ _ _ => false)
theorem mul_bound {p t B : Int} (h0 : 0 ≤ p) (h1 : p ≤ 64) (h2 : -B ≤ t) (h3 : t ≤ B) (hB : 0 ≤ B) : -(64 * B) ≤ p * t ∧ p * t ≤ 64 * B := by
  have a := Int.mul_le_mul_of_nonneg_left h3 h0
  have b := Int.mul_le_mul_of_nonneg_left h2 h0
  have c := Int.mul_le_mul_of_nonneg_right h1 hB
  rw [Int.mul_neg] at b
  omega
theorem fit_powI {x : Int} {k : Nat} (h : Fit x k) : ∀ i : Nat, Fit (x ^ i) (k * i + 1)
  | 0 => by rw [Int.pow_zero]; unfold Fit; rw [Nat.mul_zero]; decide
  | i + 1 => by
    rw [Int.pow_succ]
    exact (fit_powI h i).mul h (by rw [Nat.mul_succ]; omega)
theorem pow_fit {x : Int} (h : Fit x 96) {i : Nat} (hi : i ≤ 64) : Fit (x ^ i) 6145 := (fit_powI h i).mono (by omega)
theorem powN_le (k : Int) : powN k ≤ 64 := by unfold powN; omega
theorem powN_min (k : Int) : min (if 0 > k then 0 else k) 64 = (powN k : Int) := by
  unfold powN
  split <;> omega
theorem tmI_mulL (a b : Int) : tmI (tmI a * b) = tmI (a * b) := by
  rw [← tmI_shift (tmI a * b) (tz a.natAbs), Int.mul_assoc, Int.mul_comm b, ← Int.mul_assoc, tmI_mul]
theorem teI_mulL (a b x e : Int) : teI (tmI a * b) (teI a x + e) = teI (a * b) (x + e) := by
  by_cases h : a = 0
  · rw [h, tmI_zero, Int.zero_mul, teI_zero, teI_zero]
  · rw [teI_ne h]
    have := teI_shift (tmI a * b) (x + e) (tz a.natAbs)
    rw [Int.mul_assoc, Int.mul_comm b, ← Int.mul_assoc, tmI_mul] at this
    rw [this]
    congr 1
    omega
set_option maxRecDepth 100000 in
set_option maxHeartbeats 2000000 in
theorem good_dPow : Good Tryd.prog GWM N0 41 s_dPow := by
  refine goodM (tab := [(71, s_dWritten), (65, s_wOf), (75, s_wMul), (63, s_dTold)]) (shs := [(71, .agg [.I, .i .i64]), (65, .agg [.I]), (75, .agg [.I]), (63, .agg [.I, .i .i64])]) rfl ⟨(good_dWritten.mono fun _ h => h.base), good_wOf, (good_wMul fun _ h => h.products), (good_dTold.mono fun _ h => h.base), trivial⟩ Tryd.f41 (by kernel_rfl) (by kernel_rfl) (by kernel_rfl) (fun ds hp F A Q hF hA hQ => ⟨0, ?_⟩)
  obtain ⟨x, y, rfl, hx, hy, hb⟩ := sp2_arg hp
  obtain ⟨s, n, cs, e, rfl, hc, he1, he2⟩ := okD_arg hx
  obtain ⟨k, rfl⟩ := isi_arg hy
  clear hp hx hy
  cbv
  obtain ⟨Z, hZ⟩ : ∃ Z : Nat → Int, ∀ i : Nat, Z i = tmI (vI s cs) ^ i := ⟨_, fun _ => rfl⟩
  obtain ⟨J, hJ⟩ : ∃ J : Nat → Int, ∀ i : Nat, J i = Int.ofNat i := ⟨_, fun _ => rfl⟩
  obtain ⟨M, hM⟩ : ∃ M, M = powN k := ⟨_, rfl⟩
  refine And.intro ?_ (And.intro ?_ (loop_by (fun i st => (st.setT 13 (.int .i64 (J i))).setC 2 [.bool (F.neg (Z i)), .sl (F.ln (Z i)) (F.lm (Z i))]) (M) ?_ (fun i hi => ?_)))
  all_goals try cbv
  repeat' (first | with_reducible refine And.intro ?_ ?_ | (refine safe_lift hA ?_; kernel_rfl) | (intro hc_; cbv))
  all_goals (repeat (rw [safe_true hA, true_and]; rotate_left; kernel_rfl))
  all_goals subst hF hA
  all_goals simp only [fnOf, find, std, reduceIte, Nat.reduceEqDiff, sp1, sp2, a1, a2, FnSpec.out, Shape.build, leafs, leafCells, tups, oneOf, List.cons_append, List.nil_append, List.length_cons, List.length_nil, s_dPow, s_dWritten, s_wOf, s_wMul, s_dTold, dm_raw, dm_N0, dz, dx, dcn, min_if, powN_min] at *
  all_goals
    have hZ0 : Z 0 = 1 := by rw [hZ, Int.pow_zero]
    have hn3 := powN_le k
    have hf : Fit (tmI (vI s cs)) 96 := ((okC_fit hc s).le (tmI_le _)).mono (by omega)
  case refine_1 => exact ⟨⟨hc, he1, he2⟩, by omega⟩
  case refine_2 => exact ⟨rfl, by decide, by decide⟩
  case refine_3.refine_1.refine_1 => rw [hJ]; rfl
  case refine_3.refine_2.refine_1.refine_1 => rw [hZ0]
  case refine_3.refine_2.refine_1.refine_2.refine_1 => rw [hZ0]
  all_goals
    have hJi : J i = (i : Int) := hJ i
    rw [hJi] at hc_
    have hFi : Fit (Z i) 6145 := by rw [hZ]; exact pow_fit hf (by omega)
    have hS : Z (i + 1) = Z i * tmI (vI s cs) := by rw [hZ, hZ, Int.pow_succ]
    have hJ1 : J (i + 1) = J i + 1 := by rw [hJ, hJ]; rfl
    try simp only [vI_N0] at *
  case refine_4.refine_1.refine_1 => exact ⟨okC_fitN hFi (by omega), okC_fitN hf (by omega)⟩
  case refine_4.refine_1.refine_2.refine_1 =>
    have := of_decide_eq_true hc_
    exact (show i + 1 ≤ M by omega)
  case refine_4.refine_1.refine_2.refine_2.refine_1.refine_1 => rw [hJ1, wrap_in (by omega) (by omega)]
  case refine_4.refine_1.refine_2.refine_2.refine_2.refine_1.refine_1 => rw [hS]
  case refine_4.refine_1.refine_2.refine_2.refine_2.refine_1.refine_2.refine_1 => rw [hS]
  all_goals
    have hi2 : i = powN k := by have := of_decide_eq_false hc_; omega
    have hte := teI_bound (e := e) (okC_fit hc s)
    have hmb := mul_bound (p := (powN k : Int)) (t := teI (vI s cs) e) (B := 100000100) (by omega) (by omega) (by omega) (by omega) (by omega)
    have hw : IntKind.i64.wrap ((powN k : Int) * teI (vI s cs) e) = (powN k : Int) * teI (vI s cs) e := wrap_in (by omega) (by omega)
    rw [hw]
  case refine_4.refine_2.refine_1 => exact ⟨canI_N0 hFi (by omega), rfl, by omega, by omega⟩
  case refine_4.refine_2.refine_2 => rw [hZ, hi2]; exact hQ
set_option maxRecDepth 100000 in
set_option maxHeartbeats 2000000 in
theorem good_qPow : Good Tryd.prog GW N0 42 s_qPow := by
  refine good (tab := [(21, s_qOf), (31, s_qMul)]) (shs := [(21, .agg [.I, .i .i64]), (31, .agg [.I, .i .i64])]) rfl ⟨good_qOf, good_qMul, trivial⟩ Tryd.f42 (by kernel_rfl) (by kernel_rfl) (by kernel_rfl) (fun ds hp F A Q hF hA hQ => ⟨0, ?_⟩)
  obtain ⟨x, y, rfl, hx, hy, hb, hg1, hg2⟩ := sp2_arg hp
  obtain ⟨z, e, s, n, cs, rfl, hs, hn, hcs, hz, he, hfz, he1, he2⟩ := canD_arg hx
  obtain ⟨k, rfl⟩ := isi_arg hy
  clear hp hx hy
  cbv
  obtain ⟨Z, hZ⟩ : ∃ Z : Nat → Int, ∀ i : Nat, Z i = tmI (z ^ i) := ⟨_, fun _ => rfl⟩
  obtain ⟨E, hE⟩ : ∃ E : Nat → Int, ∀ i : Nat, E i = teI (z ^ i) (Int.ofNat i * e) := ⟨_, fun _ => rfl⟩
  obtain ⟨J, hJ⟩ : ∃ J : Nat → Int, ∀ i : Nat, J i = Int.ofNat i := ⟨_, fun _ => rfl⟩
  obtain ⟨M, hM⟩ : ∃ M, M = powN k := ⟨_, rfl⟩
  refine And.intro ?_ (loop_by (fun i st => (st.setT 6 (.int .i64 (J i))).setC 2 [.bool (F.neg (Z i)), .sl (F.ln (Z i)) (F.lm (Z i)), .int .i64 (E i)]) (M) ?_ (fun i hi => ?_))
  all_goals try cbv
  repeat' (first | with_reducible refine And.intro ?_ ?_ | (refine safe_lift hA ?_; kernel_rfl) | (intro hc_; cbv))
  all_goals (repeat (rw [safe_true hA, true_and]; rotate_left; kernel_rfl))
  all_goals subst hF hA
  all_goals simp only [fnOf, find, std, reduceIte, Nat.reduceEqDiff, sp1, sp2, a1, a2, FnSpec.out, Shape.build, leafs, leafCells, tups, oneOf, List.cons_append, List.nil_append, List.length_cons, List.length_nil, s_qPow, s_qOf, s_qMul, dm_raw, dm_N0, dz, dx, dcn, min_if] at *
  all_goals subst hs hn hcs
  all_goals try simp only [vI_N0, hz, he] at *
  all_goals
    have hZ0 : Z 0 = tmI 1 := by rw [hZ, Int.pow_zero]
    have hE0 : E 0 = teI 1 0 := by rw [hE, Int.pow_zero]; congr 1; exact Int.zero_mul e
    have hf : Fit z 96 := fit_ln (n := 3) hb
    have hn3 := powN_le k
    have hp : (powN k : Int) = min (max k 0) 64 := by unfold powN; omega
  case refine_1 => exact ⟨rfl, by decide, by decide⟩
  case refine_2.refine_1.refine_1 => rw [hJ]; rfl
  case refine_2.refine_2.refine_1.refine_1 => rw [hZ0]
  case refine_2.refine_2.refine_1.refine_2.refine_1 => rw [hZ0]
  case refine_2.refine_2.refine_1.refine_2.refine_2.refine_1 => rw [hE0]
  all_goals
    have hJi : J i = (i : Int) := hJ i
    rw [hJi] at hc_
    have hJ1 : J (i + 1) = J i + 1 := by rw [hJ, hJ]; rfl
    have hFp : Fit (z ^ i) 6145 := pow_fit hf (by omega)
    have hFi : Fit (Z i) 6145 := by rw [hZ]; exact hFp.le (tmI_le _)
    have hZ1 : Z (i + 1) = tmI (Z i * z) := by rw [hZ, hZ, tmI_mulL, Int.pow_succ]
    have hE1 : E (i + 1) = teI (Z i * z) (E i + e) := by
      rw [hE, hE, hZ, teI_mulL, Int.pow_succ]
      congr 1
      rw [show Int.ofNat (i + 1) = Int.ofNat i + 1 from rfl, Int.add_mul, Int.one_mul]
    have hmb := mul_bound (p := (i : Int)) (t := e) (B := 1000000) (by omega) (by omega) (by omega) (by omega) (by omega)
    have hEb : E i = 0 ∨ (z ^ i ≠ 0 ∧ (i : Int) * e ≤ E i ∧ E i ≤ (i : Int) * e + (6145 : Nat)) := by rw [hE]; exact teI_bound hFp
  case refine_3.refine_1.refine_1 => exact ⟨⟨okC_fitN hFi (by omega), by omega, by omega⟩, ⟨okC_fitN hf (by omega), by omega, by omega⟩, Nat.le_trans (hFi.ln (n := 200) (by omega)) (by omega), by omega, (hFi.mul hf (Nat.le_refl _)).mono (by omega)⟩
  case refine_3.refine_1.refine_2.refine_1 =>
    have := of_decide_eq_true hc_
    exact (show i + 1 ≤ M by omega)
  case refine_3.refine_1.refine_2.refine_2.refine_1.refine_1 => rw [hJ1, wrap_in (by omega) (by omega)]
  case refine_3.refine_1.refine_2.refine_2.refine_2.refine_1.refine_1 => rw [hZ1]
  case refine_3.refine_1.refine_2.refine_2.refine_2.refine_1.refine_2.refine_1 => rw [hZ1]
  case refine_3.refine_1.refine_2.refine_2.refine_2.refine_1.refine_2.refine_2.refine_1 => rw [hE1]
  case refine_3.refine_2 =>
    have hi2 : i = powN k := by have := of_decide_eq_false hc_; omega
    rw [hZ, hE, hi2]
    exact hQ
end Go.Proofs.YtglmnhjkmdpefaaDoor.Ev
