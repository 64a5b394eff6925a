/- A law of digits: DigitsSums. -/
import Derived.Test.YtnnnolmldmbaaaaDoorEt4
namespace Go.Proofs.YtnnnolmldmbaaaaDoor.Ev
open Go Go.RowKit
set_option linter.unusedSimpArgs false
set_option linter.unusedVariables false
theorem Good.liftD {l l' : List Nat} {f : Nat} {s : FnSpec} (h : Good Tryd.prog (GD l) N0 f s) (hl : l.all (l'.contains ·) = true) : Good Tryd.prog (GD l') N0 f s := h.mono fun _ k => ⟨GWL.mono hl k.g, k.t4, k.p10⟩
theorem okL_3 {n : Nat} {cs : List D} (h : okC n cs) : okL (.sl n cs) := h
theorem exit_3 {i K : Nat} (h : ¬(i : Int) < (K : Int)) (hi : i ≤ K) : i = K := by omega
theorem step_3 {i K : Nat} (h : (i : Int) < (K : Int)) : (Nat.succ i).le K := show i < K from by omega
theorem fit1_3 : Fit 1 8 := by unfold Fit; decide
theorem fit10_3 : Fit 10 4 := by unfold Fit; decide
theorem fit_p10 {i : Nat} (h : i ≤ 7) : Fit (10 ^ i) 30 := by
  unfold Fit
  have h : i = 0 ∨ i = 1 ∨ i = 2 ∨ i = 3 ∨ i = 4 ∨ i = 5 ∨ i = 6 ∨ i = 7 := by omega
  rcases h with rfl | rfl | rfl | rfl | rfl | rfl | rfl | rfl <;> decide
theorem fit_p16 {i : Nat} (h : i ≤ 7) : Fit (16 ^ i) 30 := by
  unfold Fit
  have h : i = 0 ∨ i = 1 ∨ i = 2 ∨ i = 3 ∨ i = 4 ∨ i = 5 ∨ i = 6 ∨ i = 7 := by omega
  rcases h with rfl | rfl | rfl | rfl | rfl | rfl | rfl | rfl <;> decide
theorem heldN_4 {K : Nat} (h : K ≤ 7) : heldN (4 * (K : Int)) = 4 * K := by
  unfold heldN
  rw [Int.max_eq_left (by omega), Int.min_eq_left (by omega)]
  omega
theorem fit_sgn3 (b : Bool) {z : Int} {k : Nat} (h : Fit z k) : Fit (sgn b z.natAbs) k := by
  unfold Fit sgn at *
  split <;> simpa using h
theorem ntx_mono (Z : Int) : (ntx 16 Z).size ≤ (ntx 10 Z).size := by
  unfold ntx
  rw [ba_size, ba_size, List.length_append, List.length_append]
  have h : (tx0 16 Z.natAbs).length ≤ (tx0 10 Z.natAbs).length := by
    unfold tx0
    split
    · exact Nat.le_refl _
    · unfold txt; rw [low_len, low_len]; exact nd_mono (by decide) (by decide) _
  omega
theorem ntx_shift {b : Nat} (hb : 2 ≤ b) {Z : Int} (h : Z ≠ 0) (k : Nat) : ntx b (Z * (b : Int) ^ k) = ntx b Z ++ ⟨(List.replicate k 48).toArray⟩ := by
  have hp : (0 : Int) < (b : Int) ^ k := Int.pow_pos (by omega)
  have hn : (Z * (b : Int) ^ k).natAbs = Z.natAbs * b ^ k := by rw [Int.natAbs_mul, Int.natAbs_pow]; rfl
  have hN : Z.natAbs ≠ 0 := by omega
  have hq : 0 < b ^ k := Nat.pow_pos (by omega)
  have h0 : tx0 b (Z.natAbs * b ^ k) = tx0 b Z.natAbs ++ List.replicate k 48 := by
    unfold tx0
    rw [if_neg (Nat.mul_ne_zero hN (by omega)), if_neg hN, txt_shift hb hN]
  unfold ntx
  rw [hn, cat_two, h0]
  by_cases hz : Z < 0
  · rw [if_pos hz, if_pos (Int.mul_neg_of_neg_of_pos hz hp), List.append_assoc]
  · rw [if_neg hz, if_neg (by have := Int.mul_nonneg (show 0 ≤ Z by omega) (Int.le_of_lt hp); omega), List.append_assoc]
theorem three_s {a b : Prop} [Decidable a] [Decidable b] : ¬a ∨ (a ∧ b) ∨ (a ∧ ¬b) := by by_cases a <;> by_cases b <;> simp_all
def s_DigitsSums : FnSpec := ⟨.one .b, fun ds => match ds with | [.sl n cs, .bool b, .int .u8 c] => (n ≤ 100000 → okC n cs) ∧ 0 ≤ c ∧ c ≤ 255 | _ => False, fun _ _ => 0, fun _ _ => true, fun _ _ => 0, fun _ _ => []⟩
theorem DigitsSums_arg {ds : List D} (h : s_DigitsSums.p ds) : ∃ n cs b c, ds = [.sl n cs, .bool b, .int .u8 c] ∧ (n ≤ 100000 → okC n cs) ∧ 0 ≤ c ∧ c ≤ 255 := by
  unfold s_DigitsSums at h
  dsimp only at h
  split at h
  · exact ⟨_, _, _, _, rfl, h⟩
  · exact h.elim
set_option maxRecDepth 100000 in
set_option maxHeartbeats 16000000 in
theorem good_DigitsSums : Good Tryd.prog (GD [0, 3]) N0 6 s_DigitsSums := by
  refine goodD (l := [0, 3]) (tab := [(7, s_known3), (18, s_wOf), (17, s_wNorm), (19, s_rTrim), (20, s_wSign), (10, s_gText), (12, s_gHex), (21, s_wMul), (22, s_wShl)]) (shs := [(7, .one .b), (18, .agg [.I]), (17, .agg [.I]), (19, .one .L), (20, .one (.i .i64)), (10, .one .T), (12, .one .T), (21, .agg [.I]), (22, .agg [.I])]) rfl ⟨(good_known3.liftD (by decide)), good_wOf, good_wNorm, good_rTrim, good_wSign, good_gText, good_gHex, (good_wMul fun _ h => products_at h.g (by decide)), good_wShl, trivial⟩ Tryd.f6 (by kernel_rfl) (by kernel_rfl) (by kernel_rfl) (fun ds hp F A Q hF hA hQ => ⟨0, ?_⟩)
  obtain ⟨n, cs, b, c, rfl, hw, hc1, hc2⟩ := DigitsSums_arg hp
  clear hp
  rcases three_s (a := n ≤ 16) (b := (sgn b (vL cs).natAbs) = 0) with hn | ⟨hn, h0⟩ | ⟨hn, h0⟩
  · have hl : ((16 : Int) < (n : Int)) = True := eq_true (by omega)
    cbv
    repeat' (first | (with_reducible refine loop_by (fun i st => match st.heap.length with | 1 => (((st.setT 9 (.str (H i))).setT 10 (.str (H i))).setT 11 (.int .i64 (J i))).setC 0 [.bool (F.neg (M i)), .sl (F.ln (M i)) (F.lm (M i))] | _ => (st.setT 14 (.int .i64 (J i))).setC 2 [.bool (F.neg (P i)), .sl (F.ln (P i)) (F.lm (P i))]) K ?_ (fun i hi => ?_) <;> cbv) | with_reducible refine And.intro ?_ ?_ | (with_reducible refine safe_lift hA ?_; kernel_rfl) | ((try clear hc_); intro hc_; (first | (with_reducible exfalso; clear hQ; subst hF hA; simp only [fnOf, find, std, reduceIte, Nat.reduceEqDiff, sp1, sp2, a1, a2, FnSpec.out, Shape.build, leafs, leafCells, tups, oneOf, List.cons_append, List.nil_append, List.length_cons, List.length_nil, strOf, s_DigitsSums, s_known3, s_wOf, s_wNorm, s_rTrim, s_wSign, s_gText, s_gHex, s_wMul, s_wShl, dm_raw, dm_N0, dz, dcn, vI_N0, sameI_N0, eq_self, Bool.not_eq_eq_eq_not, decide_eq_true_eq, decide_eq_false_iff_not, not_true_eq_false, not_false_eq_true, decide_true, decide_false, Bool.true_and, Bool.and_true, Bool.not_true, Bool.not_false, beq_self_eq_true, Bool.true_eq_false, Bool.false_eq_true, reduceCtorEq, gt_iff_lt, ge_iff_le, true_and, and_true, and_self, Bool.and_self, Int.reduceNeg, Int.reduceEq, Int.reduceLT, Int.reduceLE, Int.reduceBEq, hl] at hc_; done) | ((try simp only [hF, hA, fnOf, find, std, reduceIte, Nat.reduceEqDiff, sp1, sp2, a1, a2, FnSpec.out, Shape.build, leafs, leafCells, tups, oneOf, List.cons_append, List.nil_append, List.length_cons, List.length_nil, strOf, s_DigitsSums, s_known3, s_wOf, s_wNorm, s_rTrim, s_wSign, s_gText, s_gHex, s_wMul, s_wShl, dm_raw, dm_N0, dz, dcn, vI_N0, sameI_N0, eq_self, Bool.not_eq_eq_eq_not, decide_eq_true_eq, decide_eq_false_iff_not, not_true_eq_false, not_false_eq_true, decide_true, decide_false, Bool.true_and, Bool.and_true, Bool.not_true, Bool.not_false, beq_self_eq_true, Bool.true_eq_false, Bool.false_eq_true, reduceCtorEq, gt_iff_lt, ge_iff_le, true_and, and_true, and_self, Bool.and_self, Int.reduceNeg, Int.reduceEq, Int.reduceLT, Int.reduceLE, Int.reduceBEq, hl] at hc_); (try (have hk_ := exit_3 hc_ hi)); cbv))))
    all_goals subst hF hA
    all_goals (try simp only [fnOf, find, std, reduceIte, Nat.reduceEqDiff, sp1, sp2, a1, a2, FnSpec.out, Shape.build, leafs, leafCells, tups, oneOf, List.cons_append, List.nil_append, List.length_cons, List.length_nil, strOf, s_DigitsSums, s_known3, s_wOf, s_wNorm, s_rTrim, s_wSign, s_gText, s_gHex, s_wMul, s_wShl, dm_raw, dm_N0, dz, dcn, vI_N0, sameI_N0, eq_self, Bool.not_eq_eq_eq_not, decide_eq_true_eq, decide_eq_false_iff_not, not_true_eq_false, not_false_eq_true, decide_true, decide_false, Bool.true_and, Bool.and_true, Bool.not_true, Bool.not_false, beq_self_eq_true, Bool.true_eq_false, Bool.false_eq_true, reduceCtorEq, gt_iff_lt, ge_iff_le, true_and, and_true, and_self, Bool.and_self, Int.reduceNeg, Int.reduceEq, Int.reduceLT, Int.reduceLE, Int.reduceBEq, hl] at hQ ⊢)
    all_goals (repeat' (first
      | with_reducible exact hQ
      | with_reducible assumption
      | with_reducible exact isi_int3 _ _
      | with_reducible exact True.intro
      | with_reducible refine okI_mk3 ?_
      | with_reducible exact okL_3 hc
      | with_reducible exact oP _ hi
      | with_reducible exact lP _ hi
      | with_reducible exact (congrArg (D.int .i64) (hJ1 _ hi)).symm
      | (with_reducible refine y1 _ ?_; assumption)
      | (with_reducible refine y10 _ ?_; assumption)
      | (with_reducible refine y16 _ ?_; assumption)
      | (exfalso; refine Bool.false_ne_true (hc_.symm.trans (x10 _ _ ?_ ?_)) <;> assumption)
      | (exfalso; refine Bool.false_ne_true (hc_.symm.trans (x16 _ ?_)) <;> assumption)
      | with_reducible refine And.intro ?_ ?_
      | exact step_3 hc_
      | exact Post.b hQ (decide_eq_true (Int.ofNat_le.2 (ntx_mono Z))).symm
      | (show D.int IntKind.i64 _ = D.int IntKind.i64 _; rfl)
      | decide))
  · have hl : ((16 : Int) < (n : Int)) = False := eq_false (by omega)
    have hc := hw (by omega)
    obtain ⟨Z, hZ⟩ : ∃ Z, (sgn b (vL cs).natAbs) = Z := ⟨_, rfl⟩
    have hV : vI b (N0.lm (vL cs)) = Z := (vI_mk ..).trans hZ
    have fL : Fit (vL cs) 512 := (okC_fit hc false).mono (by omega)
    have fZ : Fit Z 512 := by rw [← hZ]; exact fit_sgn3 b fL
    have oL := okC_512 fL (by omega)
    have oZ := okC_512 fZ (by omega)
    have lZ : N0.ln Z ≤ 1000 := ln_512 fZ (by omega)
    have o0 := okC_512 fit0_3 (by omega)
    have l0 : N0.ln 0 ≤ 1000 := ln_512 fit0_3 (by omega)
    rw [hZ] at h0
    cbv
    repeat' (first | (with_reducible refine loop_by (fun i st => match st.heap.length with | 1 => (((st.setT 9 (.str (H i))).setT 10 (.str (H i))).setT 11 (.int .i64 (J i))).setC 0 [.bool (F.neg (M i)), .sl (F.ln (M i)) (F.lm (M i))] | _ => (st.setT 14 (.int .i64 (J i))).setC 2 [.bool (F.neg (P i)), .sl (F.ln (P i)) (F.lm (P i))]) K ?_ (fun i hi => ?_) <;> cbv) | with_reducible refine And.intro ?_ ?_ | (with_reducible refine safe_lift hA ?_; kernel_rfl) | ((try clear hc_); intro hc_; (first | (with_reducible exfalso; clear hQ; subst hF hA; simp only [fnOf, find, std, reduceIte, Nat.reduceEqDiff, sp1, sp2, a1, a2, FnSpec.out, Shape.build, leafs, leafCells, tups, oneOf, List.cons_append, List.nil_append, List.length_cons, List.length_nil, strOf, s_DigitsSums, s_known3, s_wOf, s_wNorm, s_rTrim, s_wSign, s_gText, s_gHex, s_wMul, s_wShl, dm_raw, dm_N0, dz, dcn, vI_N0, sameI_N0, eq_self, Bool.not_eq_eq_eq_not, decide_eq_true_eq, decide_eq_false_iff_not, not_true_eq_false, not_false_eq_true, decide_true, decide_false, Bool.true_and, Bool.and_true, Bool.not_true, Bool.not_false, beq_self_eq_true, Bool.true_eq_false, Bool.false_eq_true, reduceCtorEq, gt_iff_lt, ge_iff_le, true_and, and_true, and_self, Bool.and_self, Int.reduceNeg, Int.reduceEq, Int.reduceLT, Int.reduceLE, Int.reduceBEq, hl, hV, h0, dl, sg0_3, q_t0, q_h0] at hc_; done) | ((try simp only [hF, hA, fnOf, find, std, reduceIte, Nat.reduceEqDiff, sp1, sp2, a1, a2, FnSpec.out, Shape.build, leafs, leafCells, tups, oneOf, List.cons_append, List.nil_append, List.length_cons, List.length_nil, strOf, s_DigitsSums, s_known3, s_wOf, s_wNorm, s_rTrim, s_wSign, s_gText, s_gHex, s_wMul, s_wShl, dm_raw, dm_N0, dz, dcn, vI_N0, sameI_N0, eq_self, Bool.not_eq_eq_eq_not, decide_eq_true_eq, decide_eq_false_iff_not, not_true_eq_false, not_false_eq_true, decide_true, decide_false, Bool.true_and, Bool.and_true, Bool.not_true, Bool.not_false, beq_self_eq_true, Bool.true_eq_false, Bool.false_eq_true, reduceCtorEq, gt_iff_lt, ge_iff_le, true_and, and_true, and_self, Bool.and_self, Int.reduceNeg, Int.reduceEq, Int.reduceLT, Int.reduceLE, Int.reduceBEq, hl, hV, h0, dl, sg0_3, q_t0, q_h0] at hc_); (try (have hk_ := exit_3 hc_ hi)); cbv))))
    all_goals subst hF hA
    all_goals (try simp only [fnOf, find, std, reduceIte, Nat.reduceEqDiff, sp1, sp2, a1, a2, FnSpec.out, Shape.build, leafs, leafCells, tups, oneOf, List.cons_append, List.nil_append, List.length_cons, List.length_nil, strOf, s_DigitsSums, s_known3, s_wOf, s_wNorm, s_rTrim, s_wSign, s_gText, s_gHex, s_wMul, s_wShl, dm_raw, dm_N0, dz, dcn, vI_N0, sameI_N0, eq_self, Bool.not_eq_eq_eq_not, decide_eq_true_eq, decide_eq_false_iff_not, not_true_eq_false, not_false_eq_true, decide_true, decide_false, Bool.true_and, Bool.and_true, Bool.not_true, Bool.not_false, beq_self_eq_true, Bool.true_eq_false, Bool.false_eq_true, reduceCtorEq, gt_iff_lt, ge_iff_le, true_and, and_true, and_self, Bool.and_self, Int.reduceNeg, Int.reduceEq, Int.reduceLT, Int.reduceLE, Int.reduceBEq, hl, hV, h0, dl, sg0_3, q_t0, q_h0] at hQ ⊢)
    all_goals (repeat' (first
      | with_reducible exact hQ
      | with_reducible assumption
      | with_reducible exact isi_int3 _ _
      | with_reducible exact True.intro
      | with_reducible refine okI_mk3 ?_
      | with_reducible exact okL_3 hc
      | with_reducible exact oP _ hi
      | with_reducible exact lP _ hi
      | with_reducible exact (congrArg (D.int .i64) (hJ1 _ hi)).symm
      | (with_reducible refine y1 _ ?_; assumption)
      | (with_reducible refine y10 _ ?_; assumption)
      | (with_reducible refine y16 _ ?_; assumption)
      | (exfalso; refine Bool.false_ne_true (hc_.symm.trans (x10 _ _ ?_ ?_)) <;> assumption)
      | (exfalso; refine Bool.false_ne_true (hc_.symm.trans (x16 _ ?_)) <;> assumption)
      | with_reducible refine And.intro ?_ ?_
      | exact step_3 hc_
      | exact Post.b hQ (decide_eq_true (Int.ofNat_le.2 (ntx_mono Z))).symm
      | (show D.int IntKind.i64 _ = D.int IntKind.i64 _; rfl)
      | decide))
  · have hl : ((16 : Int) < (n : Int)) = False := eq_false (by omega)
    have hc := hw (by omega)
    obtain ⟨Z, hZ⟩ : ∃ Z, (sgn b (vL cs).natAbs) = Z := ⟨_, rfl⟩
    have hV : vI b (N0.lm (vL cs)) = Z := (vI_mk ..).trans hZ
    have fL : Fit (vL cs) 512 := (okC_fit hc false).mono (by omega)
    have fZ : Fit Z 512 := by rw [← hZ]; exact fit_sgn3 b fL
    have oL := okC_512 fL (by omega)
    have oZ := okC_512 fZ (by omega)
    have lZ : N0.ln Z ≤ 1000 := ln_512 fZ (by omega)
    have o0 := okC_512 fit0_3 (by omega)
    have l0 : N0.ln 0 ≤ 1000 := ln_512 fit0_3 (by omega)
    rw [hZ] at h0
    have hS : (sg Z == 0) = false := by rcases sg_cases Z with ⟨h1, h2⟩ | ⟨h1, h2⟩ | ⟨h1, h2⟩ <;> rw [h2] <;> first | rfl | exact absurd h1 h0
    obtain ⟨K, hK⟩ : ∃ K : Nat, (K : Int) = c.tmod 8 := ⟨(c.tmod 8).toNat, Int.toNat_of_nonneg (by rw [Int.tmod_eq_emod_of_nonneg hc1]; omega)⟩
    obtain ⟨H, hH⟩ : ∃ H : Nat → ByteArray, ∀ i : Nat, H i = ⟨(List.replicate i (48 : UInt8)).toArray⟩ := ⟨_, fun _ => rfl⟩
    obtain ⟨J, hJ⟩ : ∃ J : Nat → Int, ∀ i : Nat, J i = (i : Int) := ⟨_, fun _ => rfl⟩
    obtain ⟨M, hM⟩ : ∃ M : Nat → Int, ∀ i : Nat, M i = Z := ⟨_, fun _ => rfl⟩
    obtain ⟨P, hP⟩ : ∃ P : Nat → Int, ∀ i : Nat, P i = Z * 10 ^ i := ⟨_, fun _ => rfl⟩
    have e8 := Int.tmod_eq_emod_of_nonneg (b := 8) hc1
    have hK7 : K ≤ 7 := by omega
    have hKr : c.tmod 8 = (K : Int) := hK.symm
    have hW1 : IntKind.i64.wrap (K : Int) = (K : Int) := IntWalk.i64_in _ (by omega)
    have hW3 : heldN (IntKind.i64.wrap (4 * (K : Int))) = 4 * K := by rw [IntWalk.i64_in _ (by omega)]; exact heldN_4 hK7
    have hE : Z * 2 ^ (4 * K) = Z * 16 ^ K := by rw [Int.pow_mul]; rfl
    have hH0 : H 0 = ⟨⟨[]⟩⟩ := hH 0
    have hHz : ∀ i, (H i).size = i := fun i => by rw [hH]; exact (ba_size _).trans List.length_replicate
    have hHs : ∀ i, H i ++ ⟨⟨[48]⟩⟩ = H (i + 1) := fun i => by rw [hH, hH, List.replicate_succ']; exact cat_two _ _
    have hP0 : P 0 = Z := by rw [hP]; exact Int.mul_one Z
    have hP1 : ∀ i, P i * 10 = P (i + 1) := fun i => by rw [hP, hP, Int.pow_succ, Int.mul_assoc]
    have hM1 : Z * 1 = Z := Int.mul_one Z
    have hJ1 : ∀ i : Nat, i ≤ K → IntKind.i64.wrap ((i : Int) + 1) = ((i + 1 : Nat) : Int) := fun i hi => by rw [IntWalk.i64_in _ (by omega)]; rfl
    have fP : ∀ i, i ≤ K → Fit (P i) 600 := fun i hi => by rw [hP]; exact fZ.mul (fit_p10 (show i ≤ 7 by omega)) (by omega)
    have oP : ∀ i, i ≤ K → okC (N0.ln (P i)) (N0.lm (P i)) := fun i hi => okC_512 (fP i hi) (by omega)
    have lP : ∀ i, i ≤ K → N0.ln (P i) ≤ 1000 := fun i hi => ln_512 (fP i hi) (by omega)
    have fS : Fit (Z * 16 ^ K) 600 := fZ.mul (fit_p16 hK7) (by omega)
    have oS := okC_512 fS (by omega)
    have lS : N0.ln (Z * 16 ^ K) ≤ 1000 := ln_512 fS (by omega)
    have o1 := okC_512 fit1_3 (by omega)
    have o10 := okC_512 fit10_3 (by omega)
    have z10 : (ntx 10 Z).size ≤ 160 := (back1 fZ).2.2
    have z16 : (ntx 16 Z).size ≤ 160 := Nat.le_trans (ntx_mono Z) z10
    have e10 : ntx 10 (P K) = ntx 10 Z ++ H K := by rw [hP, hH]; exact ntx_shift (b := 10) (by decide) h0 K
    have e16 : ntx 16 (Z * 16 ^ K) = ntx 16 Z ++ H K := by rw [hH]; exact ntx_shift (b := 16) (by decide) h0 K
    have x10 : ∀ i j, i = K → j = K → ((ntx 10 (P i)).toList == (ntx 10 Z ++ H j).toList) = true := fun i j hi hj => by rw [hi, hj, e10]; exact beq_self_eq_true _
    have x16 : ∀ j, j = K → ((ntx 16 (Z * 16 ^ K)).toList == (ntx 16 Z ++ H j).toList) = true := fun j hj => by rw [hj, e16]; exact beq_self_eq_true _
    have e1 : ByteArray.size { data := { toList := [48] } } = 1 := rfl
    have y1 : ∀ i, i ≤ K → (((H i).size + ByteArray.size { data := { toList := [48] } } : Nat) : Int) ≤ IntKind.i64.max := fun i hi => by rw [hHz, e1, max_i64]; omega
    have y10 : ∀ i, i ≤ K → (((ntx 10 Z).size + (H i).size : Nat) : Int) ≤ IntKind.i64.max := fun i hi => by rw [hHz, max_i64]; omega
    have y16 : ∀ i, i ≤ K → (((ntx 16 Z).size + (H i).size : Nat) : Int) ≤ IntKind.i64.max := fun i hi => by rw [hHz, max_i64]; omega
    cbv
    repeat' (first | (with_reducible refine loop_by (fun i st => match st.heap.length with | 1 => (((st.setT 9 (.str (H i))).setT 10 (.str (H i))).setT 11 (.int .i64 (J i))).setC 0 [.bool (F.neg (M i)), .sl (F.ln (M i)) (F.lm (M i))] | _ => (st.setT 14 (.int .i64 (J i))).setC 2 [.bool (F.neg (P i)), .sl (F.ln (P i)) (F.lm (P i))]) K ?_ (fun i hi => ?_) <;> cbv) | with_reducible refine And.intro ?_ ?_ | (with_reducible refine safe_lift hA ?_; kernel_rfl) | ((try clear hc_); intro hc_; (first | (with_reducible exfalso; clear hQ; subst hF hA; simp only [fnOf, find, std, reduceIte, Nat.reduceEqDiff, sp1, sp2, a1, a2, FnSpec.out, Shape.build, leafs, leafCells, tups, oneOf, List.cons_append, List.nil_append, List.length_cons, List.length_nil, strOf, s_DigitsSums, s_known3, s_wOf, s_wNorm, s_rTrim, s_wSign, s_gText, s_gHex, s_wMul, s_wShl, dm_raw, dm_N0, dz, dcn, vI_N0, sameI_N0, eq_self, Bool.not_eq_eq_eq_not, decide_eq_true_eq, decide_eq_false_iff_not, not_true_eq_false, not_false_eq_true, decide_true, decide_false, Bool.true_and, Bool.and_true, Bool.not_true, Bool.not_false, beq_self_eq_true, Bool.true_eq_false, Bool.false_eq_true, reduceCtorEq, gt_iff_lt, ge_iff_le, true_and, and_true, and_self, Bool.and_self, Int.reduceNeg, Int.reduceEq, Int.reduceLT, Int.reduceLE, Int.reduceBEq, hl, hV, dl, hS, hJ, hM, hH0, hP0, hP1, hM1, hHs, hKr, hW1, hW3, hE] at hc_; done) | ((try simp only [hF, hA, fnOf, find, std, reduceIte, Nat.reduceEqDiff, sp1, sp2, a1, a2, FnSpec.out, Shape.build, leafs, leafCells, tups, oneOf, List.cons_append, List.nil_append, List.length_cons, List.length_nil, strOf, s_DigitsSums, s_known3, s_wOf, s_wNorm, s_rTrim, s_wSign, s_gText, s_gHex, s_wMul, s_wShl, dm_raw, dm_N0, dz, dcn, vI_N0, sameI_N0, eq_self, Bool.not_eq_eq_eq_not, decide_eq_true_eq, decide_eq_false_iff_not, not_true_eq_false, not_false_eq_true, decide_true, decide_false, Bool.true_and, Bool.and_true, Bool.not_true, Bool.not_false, beq_self_eq_true, Bool.true_eq_false, Bool.false_eq_true, reduceCtorEq, gt_iff_lt, ge_iff_le, true_and, and_true, and_self, Bool.and_self, Int.reduceNeg, Int.reduceEq, Int.reduceLT, Int.reduceLE, Int.reduceBEq, hl, hV, dl, hS, hJ, hM, hH0, hP0, hP1, hM1, hHs, hKr, hW1, hW3, hE] at hc_); (try (have hk_ := exit_3 hc_ hi)); cbv))))
    all_goals subst hF hA
    all_goals (try simp only [fnOf, find, std, reduceIte, Nat.reduceEqDiff, sp1, sp2, a1, a2, FnSpec.out, Shape.build, leafs, leafCells, tups, oneOf, List.cons_append, List.nil_append, List.length_cons, List.length_nil, strOf, s_DigitsSums, s_known3, s_wOf, s_wNorm, s_rTrim, s_wSign, s_gText, s_gHex, s_wMul, s_wShl, dm_raw, dm_N0, dz, dcn, vI_N0, sameI_N0, eq_self, Bool.not_eq_eq_eq_not, decide_eq_true_eq, decide_eq_false_iff_not, not_true_eq_false, not_false_eq_true, decide_true, decide_false, Bool.true_and, Bool.and_true, Bool.not_true, Bool.not_false, beq_self_eq_true, Bool.true_eq_false, Bool.false_eq_true, reduceCtorEq, gt_iff_lt, ge_iff_le, true_and, and_true, and_self, Bool.and_self, Int.reduceNeg, Int.reduceEq, Int.reduceLT, Int.reduceLE, Int.reduceBEq, hl, hV, dl, hS, hJ, hM, hH0, hP0, hP1, hM1, hHs, hKr, hW1, hW3, hE] at hQ ⊢)
    all_goals (repeat' (first
      | with_reducible exact hQ
      | with_reducible assumption
      | with_reducible exact isi_int3 _ _
      | with_reducible exact True.intro
      | with_reducible refine okI_mk3 ?_
      | with_reducible exact okL_3 hc
      | with_reducible exact oP _ hi
      | with_reducible exact lP _ hi
      | with_reducible exact (congrArg (D.int .i64) (hJ1 _ hi)).symm
      | (with_reducible refine y1 _ ?_; assumption)
      | (with_reducible refine y10 _ ?_; assumption)
      | (with_reducible refine y16 _ ?_; assumption)
      | (exfalso; refine Bool.false_ne_true (hc_.symm.trans (x10 _ _ ?_ ?_)) <;> assumption)
      | (exfalso; refine Bool.false_ne_true (hc_.symm.trans (x16 _ ?_)) <;> assumption)
      | with_reducible refine And.intro ?_ ?_
      | exact step_3 hc_
      | exact Post.b hQ (decide_eq_true (Int.ofNat_le.2 (ntx_mono Z))).symm
      | (show D.int IntKind.i64 _ = D.int IntKind.i64 _; rfl)
      | decide))
end Go.Proofs.YtnnnolmldmbaaaaDoor.Ev
