import Derived.Test.YtnjjfakjnkhhjaaGreatDoorJh
set_option maxHeartbeats 2000000
set_option maxRecDepth 100000
set_option linter.all false
namespace Go.Proofs.YtnjjfakjnkhhjaaGreatDoor.Ev
open Go Go.RowKit
def s_few10 : FnSpec := sp1 (.one .b) okW (fun _ _ => 0) (fun x _ => decide (dcn x ≤ 10 ∧ -1000 ≤ dx x ∧ dx x ≤ 1000))
def s_fewC10 : FnSpec := sp1 (.one .b) okX (fun _ _ => 0) (fun x _ => raw6 false (fun _ n _ e _ m _ f => decide ((n ≤ 10 ∧ -1000 ≤ e ∧ e ≤ 1000) ∧ m ≤ 10 ∧ -1000 ≤ f ∧ f ≤ 1000)) x)
def okXD (x : D) : Prop := match x with
 | .agg [.bool _, .sl n1 c1, .int .i64 e1, .bool _, .sl n2 c2, .int .i64 e2, .bool _, .sl n3 c3, .int .i64 e3] => ((n1 ≤ 100000 → okC n1 c1) ∧ -9223372036854775808 ≤ e1 ∧ e1 ≤ 9223372036854775807) ∧ ((n2 ≤ 100000 → okC n2 c2) ∧ -9223372036854775808 ≤ e2 ∧ e2 ≤ 9223372036854775807) ∧ (n3 ≤ 100000 → okC n3 c3) ∧ -9223372036854775808 ≤ e3 ∧ e3 ≤ 9223372036854775807
 | _ => False
theorem okXD_arg {x : D} (h : okXD x) : ∃ s1 n1 c1 e1 s2 n2 c2 e2 s3 n3 c3 e3, x = .agg [.bool s1, .sl n1 c1, .int .i64 e1, .bool s2, .sl n2 c2, .int .i64 e2, .bool s3, .sl n3 c3, .int .i64 e3] ∧ ((n1 ≤ 100000 → okC n1 c1) ∧ -9223372036854775808 ≤ e1 ∧ e1 ≤ 9223372036854775807) ∧ ((n2 ≤ 100000 → okC n2 c2) ∧ -9223372036854775808 ≤ e2 ∧ e2 ≤ 9223372036854775807) ∧ (n3 ≤ 100000 → okC n3 c3) ∧ -9223372036854775808 ≤ e3 ∧ e3 ≤ 9223372036854775807 := by
 unfold okXD at h
 split at h
 ·exact ⟨_, _, _, _, _, _, _, _, _, _, _, _, rfl, h⟩
 ·exact h.elim
def fewDQ (n1 : Nat) (e1 : Int) (n2 : Nat) (e2 : Int) (n3 : Nat) (e3 : Int) : Prop := ((n1 ≤ 10 ∧ -1000 ≤ e1 ∧ e1 ≤ 1000) ∧ n2 ≤ 10 ∧ -1000 ≤ e2 ∧ e2 ≤ 1000) ∧ n3 ≤ 10 ∧ -1000 ≤ e3 ∧ e3 ≤ 1000
instance {n1 : Nat} {e1 : Int} {n2 : Nat} {e2 : Int} {n3 : Nat} {e3 : Int} : Decidable (fewDQ n1 e1 n2 e2 n3 e3) := by unfold fewDQ; infer_instance
def s_fewD10 : FnSpec := sp1 (.one .b) okXD (fun _ _ => 0) (fun x _ => rw9 false (fun _ n1 _ e1 _ n2 _ e2 _ n3 _ e3 => decide (fewDQ n1 e1 n2 e2 n3 e3)) x)
def isI64 (x : D) : Prop := isi .i64 x ∧ -9223372036854775808 ≤ dz x ∧ dz x ≤ 9223372036854775807
def s_of10 : FnSpec := ⟨DS, fun ds => match ds with | [x, y, z] => isI64 x ∧ isI64 y ∧ isI64 z | _ => False, fun ds i => match ds with | [x, y, z] => re6 (ca ((dz x, 0), (dz y, 0)), Dy.n (dz z, 0)) i | _ => 0, fun _ _ => false, fun _ _ => 0, fun _ _ => []⟩
theorem of10_arg {ds : List D} (h : s_of10.p ds) : ∃ x y z, ds = [x, y, z] ∧ isI64 x ∧ isI64 y ∧ isI64 z := by
 unfold s_of10 at h
 dsimp only at h
 split at h
 ·exact ⟨_, _, _, rfl, h⟩
 ·exact h.elim
theorem good_few10 : Good Tryz.prog (GWL [0, 1]) N0 85 s_few10 := by
 refine goodM 0 gn Tryz.f85 (by kernel_rfl) (by kernel_rfl) fun ds hp F A Q hF hA hQ => ?_
 obtain ⟨x, rfl, hx⟩ := sp1_arg hp
 obtain ⟨s, n, cs, e, rfl, hw, hr1, hr2⟩ := okW_arg hx
 clear hp hx
 cbv
 repeat' (first | with_reducible refine And.intro ?_ ?_ | (with_reducible refine safe_lift hA ?_; kernel_rfl) | (intro hc_; cbv))
 all_goals (repeat (rw [safe_true hA, true_and]; rotate_left; kernel_rfl))
 all_goals subst hF hA
 all_goals simp only [fnOf, find, std, reduceIte, Nat.reduceEqDiff, sp1, sp2, a1, a2, FnSpec.out, Shape.build, leafs, leafCells, tups, oneOf, List.cons_append, List.nil_append, List.length_cons, List.length_nil, s_few10, dx, dcn, decide_eq_true_eq, decide_eq_false_iff_not, gt_iff_lt, ge_iff_le] at *
 all_goals first
  | exact Post.b hQ (dec_eq (by omega))
  | exact Post.b hQ (dec_no (by have hk := of_decide_eq_false hc_; omega))
  | trace_state
theorem good_fewC10 : Good Tryz.prog (GWL [0, 1]) N0 14 s_fewC10 := by
 refine goodM 0 (gc good_few10 gn) Tryz.f14 (by kernel_rfl) (by kernel_rfl) fun ds hp F A Q hF hA hQ => ?_
 obtain ⟨x, rfl, hx⟩ := sp1_arg hp
 obtain ⟨s, n, cs, e, t, m, es, f, rfl, hw, hr, hw2, hr2⟩ := okX_arg hx
 clear hp hx
 cbv
 repeat' (first | with_reducible refine And.intro ?_ ?_ | (with_reducible refine safe_lift hA ?_; kernel_rfl) | (intro hc_; cbv))
 all_goals (repeat (rw [safe_true hA, true_and]; rotate_left; kernel_rfl))
 all_goals subst hF hA
 all_goals simp only [fnOf, find, std, reduceIte, Nat.reduceEqDiff, sp1, sp2, a1, a2, FnSpec.out, Shape.build, leafs, leafCells, tups, oneOf, List.cons_append, List.nil_append, List.length_cons, List.length_nil, s_fewC10, s_few10, dx, dcn, raw6_is, decide_eq_true_eq, decide_eq_false_iff_not] at *
 all_goals first
  | exact okW_mk hw hr.1 hr.2
  | exact okW_mk hw2 hr2.1 hr2.2
  | exact Post.b hQ (dec_eq ⟨fun k => k.2, fun k => ⟨of_decide_eq_true hc_, k⟩⟩)
  | exact Post.b hQ (dec_no (fun k => of_decide_eq_false hc_ k.1))
  | trace_state
theorem good_fewD10 : Good Tryz.prog (GWL [0, 1]) N0 13 s_fewD10 := by
 refine goodM 0 (gc good_fewC10 <| gc good_few10 gn) Tryz.f13 (by kernel_rfl) (by kernel_rfl) fun ds hp F A Q hF hA hQ => ?_
 obtain ⟨x, rfl, hx⟩ := sp1_arg hp
 obtain ⟨s1, n1, c1, e1, s2, n2, c2, e2, s3, n3, c3, e3, rfl, ⟨g1, h1⟩, ⟨g2, h2⟩, g3, h3⟩ := okXD_arg hx
 have k1 := okX_mk (s := s1) (t := s2) g1 h1 g2 h2
 have k3 := okW_mk (s := s3) g3 h3.1 h3.2
 clear hp hx
 cbv
 repeat' (first | with_reducible refine And.intro ?_ ?_ | (with_reducible refine safe_lift hA ?_; kernel_rfl) | (intro hc_; cbv))
 all_goals (repeat (rw [safe_true hA, true_and]; rotate_left; kernel_rfl))
 all_goals subst hF hA
 all_goals simp only [fnOf, find, std, reduceIte, Nat.reduceEqDiff, sp1, sp2, a1, a2, FnSpec.out, Shape.build, leafs, leafCells, tups, oneOf, List.cons_append, List.nil_append, List.length_cons, List.length_nil, s_fewD10, s_fewC10, s_few10, rv_raw, rv_N0, dv, dz, dx, dcn, dm_raw, dm_N0, vI_N0, raw6_is, Prod.eta, rv9_raw, re2, re4, re6, decide_eq_true_eq, decide_eq_false_iff_not, rw9_is] at *
 all_goals (repeat' (first
  | with_reducible exact hQ
  | with_reducible assumption
  | with_reducible exact isi_int _ _
  | with_reducible refine And.intro ?_ ?_
  | omega))
 all_goals first
  | exact Post.b hQ (dec_eq (by unfold fewDQ; omega))
  | exact Post.b hQ (dec_no (by unfold fewDQ; omega))
  | exact Post.b hQ (dec_no (by unfold fewDQ; have hk := of_decide_eq_false hc_; omega))
  | trace_state
theorem good_of10 : Good Tryz.prog (GWL [0, 1]) N0 84 s_of10 := by
 refine goodM 0 (gc good_vOf <| gc good_qOf gn) Tryz.f84 (by kernel_rfl) (by kernel_rfl) fun ds hp F A Q hF hA hQ => ?_
 obtain ⟨x, y, z, rfl, ⟨hx, hx2⟩, ⟨hy, hy2⟩, hz, hz2⟩ := of10_arg hp
 obtain ⟨a, rfl⟩ := isi_arg hx
 obtain ⟨b, rfl⟩ := isi_arg hy
 obtain ⟨c, rfl⟩ := isi_arg hz
 clear hp
 cbv
 repeat' (first | with_reducible refine And.intro ?_ ?_ | (with_reducible refine safe_lift hA ?_; kernel_rfl) | (intro hc_; cbv))
 all_goals (repeat (rw [safe_true hA, true_and]; rotate_left; kernel_rfl))
 all_goals subst hF hA
 all_goals simp only [fnOf, find, std, reduceIte, Nat.reduceEqDiff, sp1, sp2, a1, a2, FnSpec.out, Shape.build, leafs, leafCells, tups, oneOf, List.cons_append, List.nil_append, List.length_cons, List.length_nil, s_of10, s_vOf, s_qOf, rv_raw, rv_N0, dv, dz, dx, dcn, dm_raw, dm_N0, vI_N0, raw6_is, Prod.eta, rv9_raw, re2, re4, re6, decide_eq_true_eq, decide_eq_false_iff_not, s_uOf, Dy.n] at *
 all_goals (repeat' (first
  | with_reducible exact hQ
  | with_reducible assumption
  | with_reducible exact isi_int _ _
  | with_reducible refine And.intro ?_ ?_
  | omega))
 all_goals first
  | exact hQ
  | trace_state
end Go.Proofs.YtnjjfakjnkhhjaaGreatDoor.Ev
