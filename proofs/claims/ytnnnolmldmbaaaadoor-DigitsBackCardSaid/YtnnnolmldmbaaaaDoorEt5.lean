/- A law of digits: DigitsBack. -/
import Derived.Test.YtnnnolmldmbaaaaDoorEt4
namespace Go.Proofs.YtnnnolmldmbaaaaDoor.Ev
open Go Go.RowKit
set_option linter.unusedSimpArgs false
set_option linter.unusedVariables false
def s_DigitsBack : FnSpec := ⟨.one .b, fun ds => match ds with | [x, .int .u8 c] => okJ3 x ∧ 0 ≤ c ∧ c ≤ 255 | _ => False, fun _ _ => 0, fun _ _ => true, fun _ _ => 0, fun _ _ => []⟩
theorem DigitsBack_arg {ds : List D} (h : s_DigitsBack.p ds) : ∃ x c, ds = [x, .int .u8 c] ∧ okJ3 x ∧ 0 ≤ c ∧ c ≤ 255 := by
  unfold s_DigitsBack at h
  dsimp only at h
  split at h
  · exact ⟨_, _, rfl, h⟩
  · exact h.elim
set_option maxRecDepth 100000 in
set_option maxHeartbeats 16000000 in
theorem good_DigitsBack : Good Tryd.prog (GD [0]) N0 4 s_DigitsBack := by
  refine goodD (l := [0]) (tab := [(7, s_known3), (10, s_gText), (8, s_gParse), (15, s_rNorm), (14, s_rSameI), (16, s_rSign)]) (shs := [(7, .one .b), (10, .one .T), (8, .tup [(true, [.I]), (false, [.i .i64]), (false, [.i .i64])]), (15, .agg [.I]), (14, .one .b), (16, .one (.i .i64))]) rfl ⟨good_known3, good_gText, good_gParse, good_rNorm, good_rSameD, good_rSign, trivial⟩ Tryd.f4 (by kernel_rfl) (by kernel_rfl) (by kernel_rfl) (fun ds hp F A Q hF hA hQ => ⟨0, ?_⟩)
  obtain ⟨x, c, rfl, hx, hc1, hc2⟩ := DigitsBack_arg hp
  obtain ⟨s, n, cs, rfl, hw⟩ := okJ3_arg hx
  clear hp hx
  rcases back_any (s := s) hw hc1 hc2 with hn | ⟨hn, hB⟩ | ⟨hn, hB⟩
  · have hl : ((16 : Int) < (n : Int)) = True := eq_true (by omega)
    cbv
    repeat' (first | with_reducible refine And.intro ?_ ?_ | (with_reducible refine safe_lift hA ?_; kernel_rfl) | (intro hc_; (first | (with_reducible exfalso; clear hQ; subst hF hA; simp only [fnOf, find, std, reduceIte, Nat.reduceEqDiff, sp1, sp2, a1, a2, FnSpec.out, Shape.build, leafs, leafCells, tups, oneOf, List.cons_append, List.nil_append, List.length_cons, List.length_nil, strOf, s_DigitsBack, s_known3, s_gText, s_gParse, s_rNorm, s_rSameI, s_rSign, dm_raw, dm_N0, dz, dcn, vI_N0, sameI_N0, eq_self, Bool.not_eq_eq_eq_not, decide_eq_true_eq, decide_eq_false_iff_not, not_true_eq_false, not_false_eq_true, decide_true, decide_false, Bool.true_and, Bool.and_true, Bool.not_true, Bool.not_false, beq_self_eq_true, Bool.true_eq_false, Bool.false_eq_true, reduceCtorEq, gt_iff_lt, ge_iff_le, true_and, and_true, and_self, Bool.and_self, Int.reduceNeg, Int.reduceEq, Int.reduceLT, Int.reduceLE, Int.reduceBEq, hl] at hc_; done) | (clear hc_; cbv))))
    all_goals subst hF hA
    all_goals (try simp only [fnOf, find, std, reduceIte, Nat.reduceEqDiff, sp1, sp2, a1, a2, FnSpec.out, Shape.build, leafs, leafCells, tups, oneOf, List.cons_append, List.nil_append, List.length_cons, List.length_nil, strOf, s_DigitsBack, s_known3, s_gText, s_gParse, s_rNorm, s_rSameI, s_rSign, dm_raw, dm_N0, dz, dcn, vI_N0, sameI_N0, eq_self, Bool.not_eq_eq_eq_not, decide_eq_true_eq, decide_eq_false_iff_not, not_true_eq_false, not_false_eq_true, decide_true, decide_false, Bool.true_and, Bool.and_true, Bool.not_true, Bool.not_false, beq_self_eq_true, Bool.true_eq_false, Bool.false_eq_true, reduceCtorEq, gt_iff_lt, ge_iff_le, true_and, and_true, and_self, Bool.and_self, Int.reduceNeg, Int.reduceEq, Int.reduceLT, Int.reduceLE, Int.reduceBEq, hl] at hQ ⊢)
    all_goals (repeat' (first
      | with_reducible exact hQ
      | with_reducible assumption
      | with_reducible exact isi_int3 _ _
      | with_reducible exact True.intro
      | with_reducible refine okI_mk3 ?_
      | decide
      | omega
      | with_reducible refine And.intro ?_ ?_))
  · have hl : ((16 : Int) < (n : Int)) = False := eq_false (by omega)
    have hc := hw (by omega)
    have fX : Fit (vI s cs) 512 := (okC_fit hc s).mono (by omega)
    obtain ⟨Z, hZ⟩ : ∃ Z, vI s cs = Z := ⟨_, rfl⟩
    rw [hZ] at fX
    obtain ⟨k1_, k2_, k3_⟩ := back1 fX
    obtain ⟨C, hC, hCc⟩ := q_str hc1 hc2
    have hu := q_u8 hc1 hc2
    obtain ⟨k4_, k5_⟩ := back_sz fX C
    have oZ := okC_512 fX (by omega)
    have lZ : N0.ln Z ≤ 1000 := ln_512 fX (by omega)
    obtain ⟨m1_, m2_, m3_, m4_⟩ := back_len fX C
    have o0 := okC_512 fit0_3 (by omega)
    rw [hZ, hC] at hB
    have hb := hB
    cbv
    repeat' (first | with_reducible refine And.intro ?_ ?_ | (with_reducible refine safe_lift hA ?_; kernel_rfl) | (intro hc_; (first | (with_reducible exfalso; clear hQ; subst hF hA; simp only [fnOf, find, std, reduceIte, Nat.reduceEqDiff, sp1, sp2, a1, a2, FnSpec.out, Shape.build, leafs, leafCells, tups, oneOf, List.cons_append, List.nil_append, List.length_cons, List.length_nil, strOf, s_DigitsBack, s_known3, s_gText, s_gParse, s_rNorm, s_rSameI, s_rSign, dm_raw, dm_N0, dz, dcn, vI_N0, sameI_N0, eq_self, Bool.not_eq_eq_eq_not, decide_eq_true_eq, decide_eq_false_iff_not, not_true_eq_false, not_false_eq_true, decide_true, decide_false, Bool.true_and, Bool.and_true, Bool.not_true, Bool.not_false, beq_self_eq_true, Bool.true_eq_false, Bool.false_eq_true, reduceCtorEq, gt_iff_lt, ge_iff_le, true_and, and_true, and_self, Bool.and_self, Int.reduceNeg, Int.reduceEq, Int.reduceLT, Int.reduceLE, Int.reduceBEq, hl, hZ, k1_, k2_, hC, k5_, m4_, sg0_3, hb] at hc_; done) | (clear hc_; cbv))))
    all_goals subst hF hA
    all_goals (try simp only [fnOf, find, std, reduceIte, Nat.reduceEqDiff, sp1, sp2, a1, a2, FnSpec.out, Shape.build, leafs, leafCells, tups, oneOf, List.cons_append, List.nil_append, List.length_cons, List.length_nil, strOf, s_DigitsBack, s_known3, s_gText, s_gParse, s_rNorm, s_rSameI, s_rSign, dm_raw, dm_N0, dz, dcn, vI_N0, sameI_N0, eq_self, Bool.not_eq_eq_eq_not, decide_eq_true_eq, decide_eq_false_iff_not, not_true_eq_false, not_false_eq_true, decide_true, decide_false, Bool.true_and, Bool.and_true, Bool.not_true, Bool.not_false, beq_self_eq_true, Bool.true_eq_false, Bool.false_eq_true, reduceCtorEq, gt_iff_lt, ge_iff_le, true_and, and_true, and_self, Bool.and_self, Int.reduceNeg, Int.reduceEq, Int.reduceLT, Int.reduceLE, Int.reduceBEq, hl, hZ, k1_, k2_, hC, k5_, m4_, sg0_3, hb] at hQ ⊢)
    all_goals (repeat' (first
      | with_reducible exact hQ
      | with_reducible assumption
      | with_reducible exact isi_int3 _ _
      | with_reducible exact True.intro
      | with_reducible refine okI_mk3 ?_
      | decide
      | omega
      | with_reducible refine And.intro ?_ ?_))
  · have hl : ((16 : Int) < (n : Int)) = False := eq_false (by omega)
    have hc := hw (by omega)
    have fX : Fit (vI s cs) 512 := (okC_fit hc s).mono (by omega)
    obtain ⟨Z, hZ⟩ : ∃ Z, vI s cs = Z := ⟨_, rfl⟩
    rw [hZ] at fX
    obtain ⟨k1_, k2_, k3_⟩ := back1 fX
    obtain ⟨C, hC, hCc⟩ := q_str hc1 hc2
    have hu := q_u8 hc1 hc2
    obtain ⟨k4_, k5_⟩ := back_sz fX C
    have oZ := okC_512 fX (by omega)
    have lZ : N0.ln Z ≤ 1000 := ln_512 fX (by omega)
    obtain ⟨m1_, m2_, m3_, m4_⟩ := back_len fX C
    have o0 := okC_512 fit0_3 (by omega)
    rw [hZ, hC] at hB
    obtain ⟨b1_, b2_, b3_, b4_⟩ := hB
    have oY := okC_512 b4_ (by omega)
    have lY : N0.ln (zs (ntx 10 Z ++ ⟨#[C]⟩)) ≤ 1000 := ln_512 b4_ (by omega)
    have hcl : ((48 : Int) ≤ c) = True := eq_true (by omega)
    have hcg : (c ≤ (57 : Int)) = True := eq_true (by omega)
    cbv
    repeat' (first | with_reducible refine And.intro ?_ ?_ | (with_reducible refine safe_lift hA ?_; kernel_rfl) | (intro hc_; (first | (with_reducible exfalso; clear hQ; subst hF hA; simp only [fnOf, find, std, reduceIte, Nat.reduceEqDiff, sp1, sp2, a1, a2, FnSpec.out, Shape.build, leafs, leafCells, tups, oneOf, List.cons_append, List.nil_append, List.length_cons, List.length_nil, strOf, s_DigitsBack, s_known3, s_gText, s_gParse, s_rNorm, s_rSameI, s_rSign, dm_raw, dm_N0, dz, dcn, vI_N0, sameI_N0, eq_self, Bool.not_eq_eq_eq_not, decide_eq_true_eq, decide_eq_false_iff_not, not_true_eq_false, not_false_eq_true, decide_true, decide_false, Bool.true_and, Bool.and_true, Bool.not_true, Bool.not_false, beq_self_eq_true, Bool.true_eq_false, Bool.false_eq_true, reduceCtorEq, gt_iff_lt, ge_iff_le, true_and, and_true, and_self, Bool.and_self, Int.reduceNeg, Int.reduceEq, Int.reduceLT, Int.reduceLE, Int.reduceBEq, hl, hZ, k1_, k2_, hC, k5_, m4_, sg0_3, b1_, b3_, hcl, hcg] at hc_; done) | (clear hc_; cbv))))
    all_goals subst hF hA
    all_goals (try simp only [fnOf, find, std, reduceIte, Nat.reduceEqDiff, sp1, sp2, a1, a2, FnSpec.out, Shape.build, leafs, leafCells, tups, oneOf, List.cons_append, List.nil_append, List.length_cons, List.length_nil, strOf, s_DigitsBack, s_known3, s_gText, s_gParse, s_rNorm, s_rSameI, s_rSign, dm_raw, dm_N0, dz, dcn, vI_N0, sameI_N0, eq_self, Bool.not_eq_eq_eq_not, decide_eq_true_eq, decide_eq_false_iff_not, not_true_eq_false, not_false_eq_true, decide_true, decide_false, Bool.true_and, Bool.and_true, Bool.not_true, Bool.not_false, beq_self_eq_true, Bool.true_eq_false, Bool.false_eq_true, reduceCtorEq, gt_iff_lt, ge_iff_le, true_and, and_true, and_self, Bool.and_self, Int.reduceNeg, Int.reduceEq, Int.reduceLT, Int.reduceLE, Int.reduceBEq, hl, hZ, k1_, k2_, hC, k5_, m4_, sg0_3, b1_, b3_, hcl, hcg] at hQ ⊢)
    all_goals (repeat' (first
      | with_reducible exact hQ
      | with_reducible assumption
      | with_reducible exact isi_int3 _ _
      | with_reducible exact True.intro
      | with_reducible refine okI_mk3 ?_
      | decide
      | omega
      | with_reducible refine And.intro ?_ ?_))
end Go.Proofs.YtnnnolmldmbaaaaDoor.Ev
