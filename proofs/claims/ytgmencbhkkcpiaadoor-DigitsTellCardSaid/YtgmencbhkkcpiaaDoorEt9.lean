/- A law of digits: DigitsTell. -/
import Derived.Test.YtgmencbhkkcpiaaDoorEt8
namespace Go.Proofs.YtgmencbhkkcpiaaDoor.Ev
open Go Go.RowKit
set_option linter.unusedSimpArgs false
set_option linter.unusedVariables false
theorem three_t {a b : Prop} [Decidable a] [Decidable b] : ¬a ∨ (a ∧ ¬b) ∨ (a ∧ b) := by by_cases a <;> by_cases b <;> simp_all
theorem str_same (s : ByteArray) : (s.toList == s.toList) = true := beq_self_eq_true _
theorem fau_ans (t : ByteArray) : ((fau t).2 ≠ 0 ∧ ((fau t).2 = 14 ∨ (fau t).2 = 15)) ∨ ((fau t).2 = 0 ∧ (∀ j, j < t.size → byt t j = 45 ∨ (48 ≤ byt t j ∧ byt t j ≤ 57)) ∧ sgn (neg1 t) (vat t t.size) = zs t) := by
  have hf : frm t ≤ t.size := by have := bdy_size t; omega
  have hC := cut_is hf
  rcases doc_seven rfl hf hC with ⟨_, _, h⟩ | ⟨_, _, h⟩ | ⟨_, _, _, h⟩ | ⟨_, _, _, _, h⟩ | ⟨_, _, _, h⟩ | ⟨_, _, _, _, h⟩ | ⟨_, _, _, k, h⟩
  · rw [h]; exact .inl ⟨show (15 : Int) ≠ 0 by decide, .inr rfl⟩
  · rw [h]; exact .inl ⟨show (14 : Int) ≠ 0 by decide, .inl rfl⟩
  · rw [h]; exact .inl ⟨show (14 : Int) ≠ 0 by decide, .inl rfl⟩
  · rw [h]; exact .inl ⟨show (14 : Int) ≠ 0 by decide, .inl rfl⟩
  · rw [h]; exact .inl ⟨show (14 : Int) ≠ 0 by decide, .inl rfl⟩
  · rw [h]; exact .inl ⟨show (14 : Int) ≠ 0 by decide, .inl rfl⟩
  · rw [h]; exact .inr ⟨rfl, cut_all rfl hC k⟩
theorem fau_wrap (t : ByteArray) : IntKind.i64.wrap (fau t).2 = (fau t).2 := by
  unfold fau
  split
  · rfl
  · dsimp only
    split <;> rfl
theorem par_fit {t : ByteArray} (ht : t.size ≤ 120) : Fit (if (fau t).2 = 0 then zs t else 0) 480 := by
  rcases fau_ans t with ⟨h, _⟩ | ⟨h, h2, h3⟩
  · rw [if_neg h]; exact fit0_3.mono (by decide)
  · rw [if_pos h, ← h3]
    have h4 := vat_fit h2 (Nat.le_refl _) (K := 480) (by omega)
    unfold Fit at h4 ⊢
    rw [sgn_natAbs]
    rw [Int.natAbs_natCast] at h4
    exact h4
def s_DigitsTell : FnSpec := ⟨.one .b, fun ds => match ds with | [x, .str t] => okJ3 x ∧ t.size ≤ maxLen | _ => False, fun _ _ => 0, fun _ _ => true, fun _ _ => 0, fun _ _ => []⟩
theorem DigitsTell_arg {ds : List D} (h : s_DigitsTell.p ds) : ∃ x t, ds = [x, .str t] ∧ okJ3 x ∧ t.size ≤ maxLen := by
  unfold s_DigitsTell at h
  dsimp only at h
  split at h
  · exact ⟨_, _, rfl, h⟩
  · exact h.elim
set_option maxRecDepth 100000 in
set_option maxHeartbeats 16000000 in
theorem good_DigitsTell : Good Tryd.prog (GD [0]) N0 3 s_DigitsTell := by
  refine goodD (l := [0]) (tab := [(5, s_known3), (6, s_gParse), (7, s_rParse), (8, s_gText), (9, s_rText), (10, s_gHex), (11, s_rHex), (12, s_rSameI)]) (shs := [(5, .one .b), (6, .tup [(true, [.I]), (false, [.i .i64]), (false, [.i .i64])]), (7, .tup [(true, [.I]), (false, [.i .i64]), (false, [.i .i64])]), (8, .one .T), (9, .one .T), (10, .one .T), (11, .one .T), (12, .one .b)]) rfl ⟨good_known3, good_gParse, good_rParse, good_gText, (good_rText.toD (l := [0]) (by decide)), good_gHex, (good_rHex.toD (l := [0]) (by decide)), good_rSameD, trivial⟩ Tryd.f3 (by kernel_rfl) (by kernel_rfl) (by kernel_rfl) (fun ds hp F A Q hF hA hQ => ⟨0, ?_⟩)
  obtain ⟨x, t, rfl, hx, ht⟩ := DigitsTell_arg hp
  obtain ⟨s, n, cs, rfl, hw⟩ := okJ3_arg hx
  clear hp hx
  rcases three_t (a := n ≤ 16) (b := t.size ≤ 120) with hn | ⟨hn, hm⟩ | ⟨hn, hm⟩
  · have hl : ((16 : Int) < (n : Int)) = True := eq_true (by omega)
    cbv
    repeat' (first | with_reducible refine And.intro ?_ ?_ | (with_reducible refine safe_lift hA ?_; kernel_rfl) | (intro hc_; (first | (with_reducible exfalso; clear hQ; subst hF hA; simp only [fnOf, find, std, reduceIte, Nat.reduceEqDiff, sp1, sp2, a1, a2, FnSpec.out, Shape.build, leafs, leafCells, tups, oneOf, List.cons_append, List.nil_append, List.length_cons, List.length_nil, strOf, s_DigitsTell, s_known3, s_gParse, s_rParse, s_gText, s_rText, s_gHex, s_rHex, s_rSameI, dm_raw, dm_N0, dz, dcn, vI_N0, sameI_N0, eq_self, Bool.not_eq_eq_eq_not, decide_eq_true_eq, decide_eq_false_iff_not, not_true_eq_false, not_false_eq_true, decide_true, decide_false, Bool.true_and, Bool.and_true, Bool.not_true, Bool.not_false, beq_self_eq_true, Bool.true_eq_false, Bool.false_eq_true, reduceCtorEq, gt_iff_lt, ge_iff_le, true_and, and_true, and_self, Bool.and_self, Int.reduceNeg, Int.reduceEq, Int.reduceLT, Int.reduceLE, Int.reduceBEq, hl] at hc_; done) | (clear hc_; cbv))))
    all_goals subst hF hA
    all_goals (try simp only [fnOf, find, std, reduceIte, Nat.reduceEqDiff, sp1, sp2, a1, a2, FnSpec.out, Shape.build, leafs, leafCells, tups, oneOf, List.cons_append, List.nil_append, List.length_cons, List.length_nil, strOf, s_DigitsTell, s_known3, s_gParse, s_rParse, s_gText, s_rText, s_gHex, s_rHex, s_rSameI, dm_raw, dm_N0, dz, dcn, vI_N0, sameI_N0, eq_self, Bool.not_eq_eq_eq_not, decide_eq_true_eq, decide_eq_false_iff_not, not_true_eq_false, not_false_eq_true, decide_true, decide_false, Bool.true_and, Bool.and_true, Bool.not_true, Bool.not_false, beq_self_eq_true, Bool.true_eq_false, Bool.false_eq_true, reduceCtorEq, gt_iff_lt, ge_iff_le, true_and, and_true, and_self, Bool.and_self, Int.reduceNeg, Int.reduceEq, Int.reduceLT, Int.reduceLE, Int.reduceBEq, hl] at hQ ⊢)
    all_goals (repeat' (first
      | with_reducible exact hQ
      | with_reducible assumption
      | with_reducible exact isi_int3 _ _
      | with_reducible exact True.intro
      | with_reducible refine okI_mk3 ?_
      | decide
      | omega
      | with_reducible refine And.intro ?_ ?_))
  · have hl : ((16 : Int) < (n : Int)) = False := eq_false (by omega)
    have hs : ((120 : Int) < ((t.size : Nat) : Int)) = True := eq_true (by omega)
    cbv
    repeat' (first | with_reducible refine And.intro ?_ ?_ | (with_reducible refine safe_lift hA ?_; kernel_rfl) | (intro hc_; (first | (with_reducible exfalso; clear hQ; subst hF hA; simp only [fnOf, find, std, reduceIte, Nat.reduceEqDiff, sp1, sp2, a1, a2, FnSpec.out, Shape.build, leafs, leafCells, tups, oneOf, List.cons_append, List.nil_append, List.length_cons, List.length_nil, strOf, s_DigitsTell, s_known3, s_gParse, s_rParse, s_gText, s_rText, s_gHex, s_rHex, s_rSameI, dm_raw, dm_N0, dz, dcn, vI_N0, sameI_N0, eq_self, Bool.not_eq_eq_eq_not, decide_eq_true_eq, decide_eq_false_iff_not, not_true_eq_false, not_false_eq_true, decide_true, decide_false, Bool.true_and, Bool.and_true, Bool.not_true, Bool.not_false, beq_self_eq_true, Bool.true_eq_false, Bool.false_eq_true, reduceCtorEq, gt_iff_lt, ge_iff_le, true_and, and_true, and_self, Bool.and_self, Int.reduceNeg, Int.reduceEq, Int.reduceLT, Int.reduceLE, Int.reduceBEq, hl, hs] at hc_; done) | (clear hc_; cbv))))
    all_goals subst hF hA
    all_goals (try simp only [fnOf, find, std, reduceIte, Nat.reduceEqDiff, sp1, sp2, a1, a2, FnSpec.out, Shape.build, leafs, leafCells, tups, oneOf, List.cons_append, List.nil_append, List.length_cons, List.length_nil, strOf, s_DigitsTell, s_known3, s_gParse, s_rParse, s_gText, s_rText, s_gHex, s_rHex, s_rSameI, dm_raw, dm_N0, dz, dcn, vI_N0, sameI_N0, eq_self, Bool.not_eq_eq_eq_not, decide_eq_true_eq, decide_eq_false_iff_not, not_true_eq_false, not_false_eq_true, decide_true, decide_false, Bool.true_and, Bool.and_true, Bool.not_true, Bool.not_false, beq_self_eq_true, Bool.true_eq_false, Bool.false_eq_true, reduceCtorEq, gt_iff_lt, ge_iff_le, true_and, and_true, and_self, Bool.and_self, Int.reduceNeg, Int.reduceEq, Int.reduceLT, Int.reduceLE, Int.reduceBEq, hl, hs] at hQ ⊢)
    all_goals (repeat' (first
      | with_reducible exact hQ
      | with_reducible assumption
      | with_reducible exact isi_int3 _ _
      | with_reducible exact True.intro
      | with_reducible refine okI_mk3 ?_
      | decide
      | omega
      | with_reducible refine And.intro ?_ ?_))
  · have hl : ((16 : Int) < (n : Int)) = False := eq_false (by omega)
    have hs : ((120 : Int) < ((t.size : Nat) : Int)) = False := eq_false (by omega)
    have hc := hw (by omega)
    have fX : Fit (vI s cs) 512 := (okC_fit hc s).mono (by omega)
    obtain ⟨Z, hZ⟩ : ∃ Z, vI s cs = Z := ⟨_, rfl⟩
    have t1 : t.size ≤ maxLen := ht
    have t2 : t.size ≤ 1000 := by omega
    have t3 : n ≤ 1000 := by omega
    obtain ⟨E, hE⟩ : ∃ E : Int, (fau t).2 = E := ⟨_, rfl⟩
    obtain ⟨W, hW⟩ : ∃ W : Int, (if E = 0 then zs t else 0) = W := ⟨_, rfl⟩
    have fW : Fit W 480 := by rw [← hW, ← hE]; exact par_fit (by omega)
    have oW := okC_512 fW (by omega)
    have hE2 : IntKind.i64.wrap E = E := by rw [← hE]; exact fau_wrap t
    cbv
    repeat' (first | with_reducible refine And.intro ?_ ?_ | (with_reducible refine safe_lift hA ?_; kernel_rfl) | (intro hc_; (first | (with_reducible exfalso; clear hQ; subst hF hA; simp only [fnOf, find, std, reduceIte, Nat.reduceEqDiff, sp1, sp2, a1, a2, FnSpec.out, Shape.build, leafs, leafCells, tups, oneOf, List.cons_append, List.nil_append, List.length_cons, List.length_nil, strOf, s_DigitsTell, s_known3, s_gParse, s_rParse, s_gText, s_rText, s_gHex, s_rHex, s_rSameI, dm_raw, dm_N0, dz, dcn, vI_N0, sameI_N0, eq_self, Bool.not_eq_eq_eq_not, decide_eq_true_eq, decide_eq_false_iff_not, not_true_eq_false, not_false_eq_true, decide_true, decide_false, Bool.true_and, Bool.and_true, Bool.not_true, Bool.not_false, beq_self_eq_true, Bool.true_eq_false, Bool.false_eq_true, reduceCtorEq, gt_iff_lt, ge_iff_le, true_and, and_true, and_self, Bool.and_self, Int.reduceNeg, Int.reduceEq, Int.reduceLT, Int.reduceLE, Int.reduceBEq, hl, hs, hZ, hW, hE, hE2, str_same] at hc_; done) | (clear hc_; cbv))))
    all_goals subst hF hA
    all_goals (try simp only [fnOf, find, std, reduceIte, Nat.reduceEqDiff, sp1, sp2, a1, a2, FnSpec.out, Shape.build, leafs, leafCells, tups, oneOf, List.cons_append, List.nil_append, List.length_cons, List.length_nil, strOf, s_DigitsTell, s_known3, s_gParse, s_rParse, s_gText, s_rText, s_gHex, s_rHex, s_rSameI, dm_raw, dm_N0, dz, dcn, vI_N0, sameI_N0, eq_self, Bool.not_eq_eq_eq_not, decide_eq_true_eq, decide_eq_false_iff_not, not_true_eq_false, not_false_eq_true, decide_true, decide_false, Bool.true_and, Bool.and_true, Bool.not_true, Bool.not_false, beq_self_eq_true, Bool.true_eq_false, Bool.false_eq_true, reduceCtorEq, gt_iff_lt, ge_iff_le, true_and, and_true, and_self, Bool.and_self, Int.reduceNeg, Int.reduceEq, Int.reduceLT, Int.reduceLE, Int.reduceBEq, hl, hs, hZ, hW, hE, hE2, str_same] at hQ ⊢)
    all_goals (repeat' (first
      | with_reducible exact hQ
      | with_reducible assumption
      | with_reducible exact isi_int3 _ _
      | with_reducible exact True.intro
      | with_reducible refine okI_mk3 ?_
      | decide
      | omega
      | with_reducible refine And.intro ?_ ?_))
end Go.Proofs.YtgmencbhkkcpiaaDoor.Ev
