/- The laws of digits: what they lean on. -/
import Derived.Test.YtgmencbhkkcpiaaDoorTb
namespace Go.Proofs.YtgmencbhkkcpiaaDoor.Ev
open Go Go.RowKit
set_option linter.unusedSimpArgs false
set_option linter.unusedVariables false
def s_known3 : FnSpec := ⟨.one .b, fun ds => ds = [], fun _ _ => 0, fun _ _ => true, fun _ _ => 0, fun _ _ => []⟩
def okJ3 : D → Prop | .agg [.bool _, .sl n cs] => n ≤ 100000 → okC n cs | _ => False
theorem okJ3_arg {x : D} (h : okJ3 x) : ∃ s n cs, x = .agg [.bool s, .sl n cs] ∧ (n ≤ 100000 → okC n cs) := by
  match x, h with
  | .agg [.bool s, .sl n cs], h => exact ⟨s, n, cs, rfl, h⟩
theorem okI_mk3 {s : Bool} {n : Nat} {cs : List D} (h : okC n cs) : okI (.agg [.bool s, .sl n cs]) := h
theorem isi_int3 (k : IntKind) (z : Int) : isi k (.int k z) := rfl
theorem q_f1 : fau { data := { toList := [45, 49, 50] } } = (3, 0) := by decide
theorem q_f2 : fau { data := { toList := [49, 120] } } = (1, 14) := by decide
theorem q_f3 : fau { data := { toList := [45] } } = (1, 15) := by decide
theorem q_z1 : zs { data := { toList := [45, 49, 50] } } = -12 := by decide
theorem nd_10_12 : nd 10 12 = 2 := by
  have a := (nd_le (b := 10) (k := 2) (N := 12) (by decide)).2 (by decide)
  have b := (nd_lt (b := 10) (k := 1) (N := 12) (by decide)).2 (by decide)
  omega
theorem nd_16_12 : nd 16 12 = 1 := by
  have a := (nd_le (b := 16) (k := 1) (N := 12) (by decide)).2 (by decide)
  have b := (nd_lt (b := 16) (k := 0) (N := 12) (by decide)).2 (by decide)
  omega
theorem q_t1 : ntx 10 (-12) = { data := { toList := [45, 49, 50] } } := by
  have e : tx0 10 (Int.natAbs (-12)) = low 10 12 2 := by
    show tx0 10 12 = _
    unfold tx0 txt
    rw [if_neg (by decide), nd_10_12]
  unfold ntx
  rw [e]; rfl
theorem q_h1 : ntx 16 (-12) = { data := { toList := [45, 99] } } := by
  have e : tx0 16 (Int.natAbs (-12)) = low 16 12 1 := by
    show tx0 16 12 = _
    unfold tx0 txt
    rw [if_neg (by decide), nd_16_12]
  unfold ntx
  rw [e]; rfl
theorem q_c3 : ((3 : Nat) : Int) = 3 := rfl
theorem q_c1 : ((1 : Nat) : Int) = 1 := rfl
theorem okC_512 {z : Int} {k : Nat} (h : Fit z k) (hk : k ≤ 3200000) : okC (N0.ln z) (N0.lm z) := okC_N0 (h.ln (by omega))
theorem ln_512 {z : Int} {k n : Nat} (h : Fit z k) (hk : k ≤ 32 * n) : N0.ln z ≤ n := h.ln hk
theorem fit12 : Fit (-12) 8 := by unfold Fit; decide
theorem max_i64 : IntKind.i64.max = 9223372036854775807 := rfl
theorem fit0_3 : Fit 0 8 := by unfold Fit; decide
set_option maxRecDepth 100000 in
set_option maxHeartbeats 2000000 in
theorem good_rSameD : Good Tryd.prog (GD [0]) N0 12 s_rSameI := by
  refine goodD (l := [0]) (tab := [(27, s_rSame)]) (shs := [(27, .one .b)]) rfl ⟨good_rSame, trivial⟩ Tryd.f12 (by kernel_rfl) (by kernel_rfl) (by kernel_rfl) (fun ds hp F A Q hF hA hQ => ⟨0, ?_⟩)
  obtain ⟨x, y, rfl, hx, hy⟩ := sp2_arg hp
  obtain ⟨s, n, cs, rfl, hc⟩ := okI_arg hx
  obtain ⟨t, m, es, rfl, hc2⟩ := okI_arg hy
  clear hp hx hy
  cbv
  repeat' (first | with_reducible refine And.intro ?_ ?_ | (with_reducible refine safe_lift hA ?_; kernel_rfl) | (intro hc_; cbv))
  all_goals (repeat (rw [safe_true hA, true_and]; rotate_left; kernel_rfl))
  all_goals subst hF hA
  all_goals simp only [fnOf, find, std, reduceIte, Nat.reduceEqDiff, sp1, sp2, a1, a2, FnSpec.out, Shape.build, leafs, leafCells, tups, oneOf, List.cons_append, List.nil_append, List.length_cons, List.length_nil, strOf, s_rSameI, s_rSame, sameI, dcs] at *
  all_goals first
    | exact ⟨hc, hc2⟩
    | exact Post.b hQ (by rw [hc_, Bool.true_and]; exact Bool.eq_iff_iff.2 ⟨fun h => decide_eq_true (of_decide_eq_true h), fun h => decide_eq_true (of_decide_eq_true h)⟩)
    | (refine Post.b hQ ?_; rw [hc_]; rfl)
set_option maxRecDepth 100000 in
set_option maxHeartbeats 16000000 in
theorem good_known3 : Good Tryd.prog (GD [0]) N0 5 s_known3 := by
  refine goodD (l := [0]) (tab := [(6, s_gParse), (13, s_rOf), (12, s_rSameI), (8, s_gText), (10, s_gHex)]) (shs := [(6, .tup [(true, [.I]), (false, [.i .i64]), (false, [.i .i64])]), (13, .agg [.I]), (12, .one .b), (8, .one .T), (10, .one .T)]) rfl ⟨good_gParse, good_rOf, good_rSameD, good_gText, good_gHex, trivial⟩ Tryd.f5 (by kernel_rfl) (by kernel_rfl) (by kernel_rfl) (fun ds hp F A Q hF hA hQ => ⟨0, ?_⟩)
  have hp : ds = [] := hp
  subst hp
  · have o1 := okC_512 fit12 (by omega)
    have o2 : N0.ln (-12) ≤ 1000 := ln_512 fit12 (by omega)
    cbv
    repeat' (first | with_reducible refine And.intro ?_ ?_ | (with_reducible refine safe_lift hA ?_; kernel_rfl) | (intro hc_; (first | (with_reducible exfalso; clear hQ; subst hF hA; simp only [fnOf, find, std, reduceIte, Nat.reduceEqDiff, sp1, sp2, a1, a2, FnSpec.out, Shape.build, leafs, leafCells, tups, oneOf, List.cons_append, List.nil_append, List.length_cons, List.length_nil, strOf, s_known3, s_gParse, s_rOf, s_rSameI, s_gText, s_gHex, dm_raw, dm_N0, dz, dcn, vI_N0, sameI_N0, eq_self, Bool.not_eq_eq_eq_not, decide_eq_true_eq, decide_eq_false_iff_not, not_true_eq_false, not_false_eq_true, decide_true, decide_false, Bool.true_and, Bool.and_true, Bool.not_true, Bool.not_false, beq_self_eq_true, Bool.true_eq_false, Bool.false_eq_true, reduceCtorEq, gt_iff_lt, ge_iff_le, true_and, and_true, and_self, Bool.and_self, Int.reduceNeg, Int.reduceEq, Int.reduceLT, Int.reduceLE, Int.reduceBEq, q_f1, q_f2, q_f3, q_z1, q_t1, q_h1, q_c3, q_c1] at hc_; done) | (clear hc_; cbv))))
    all_goals subst hF hA
    all_goals (try simp only [fnOf, find, std, reduceIte, Nat.reduceEqDiff, sp1, sp2, a1, a2, FnSpec.out, Shape.build, leafs, leafCells, tups, oneOf, List.cons_append, List.nil_append, List.length_cons, List.length_nil, strOf, s_known3, s_gParse, s_rOf, s_rSameI, s_gText, s_gHex, dm_raw, dm_N0, dz, dcn, vI_N0, sameI_N0, eq_self, Bool.not_eq_eq_eq_not, decide_eq_true_eq, decide_eq_false_iff_not, not_true_eq_false, not_false_eq_true, decide_true, decide_false, Bool.true_and, Bool.and_true, Bool.not_true, Bool.not_false, beq_self_eq_true, Bool.true_eq_false, Bool.false_eq_true, reduceCtorEq, gt_iff_lt, ge_iff_le, true_and, and_true, and_self, Bool.and_self, Int.reduceNeg, Int.reduceEq, Int.reduceLT, Int.reduceLE, Int.reduceBEq, q_f1, q_f2, q_f3, q_z1, q_t1, q_h1, q_c3, q_c1] at hQ ⊢)
    all_goals (repeat' (first
      | with_reducible exact hQ
      | with_reducible assumption
      | with_reducible exact isi_int3 _ _
      | with_reducible exact True.intro
      | with_reducible refine okI_mk3 ?_
      | decide
      | omega
      | with_reducible refine And.intro ?_ ?_))
end Go.Proofs.YtgmencbhkkcpiaaDoor.Ev
