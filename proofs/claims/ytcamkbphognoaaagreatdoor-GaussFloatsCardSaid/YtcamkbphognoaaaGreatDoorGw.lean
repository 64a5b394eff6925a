/- The laws of points: what they lean on. -/
import Derived.Test.YtcamkbphognoaaaGreatDoorGv
namespace Go.Proofs.YtcamkbphognoaaaGreatDoor.Ev
open Go Go.RowKit
set_option linter.unusedSimpArgs false
set_option linter.unusedVariables false
def s_few8 : FnSpec := sp1 (.one .b) okW (fun _ _ => 0) (fun x _ => decide (dcn x ≤ 10 ∧ -1000 ≤ dx x ∧ dx x ≤ 1000))
def s_fewC : FnSpec := sp1 (.one .b) okX (fun _ _ => 0) (fun x _ => raw6 false (fun _ n _ e _ m _ f => decide ((n ≤ 10 ∧ -1000 ≤ e ∧ e ≤ 1000) ∧ m ≤ 10 ∧ -1000 ≤ f ∧ f ≤ 1000)) x)
def s_known8 : FnSpec := ⟨.one .b, fun ds => ds = [], fun _ _ => 0, fun _ _ => true, fun _ _ => 0, fun _ _ => []⟩
/-- the number of a float, out of its bits. -/
def s_bits8 : FnSpec := ⟨.agg [.I, .i .i64], fun ds => match ds with | [.int .u64 z] => (0 ≤ z ∧ z < 18446744073709551616) ∧ rgo z.toNat < infR | _ => False,
  fun ds i => match ds with | [.int _ z] => (match i with | 0 => (Dy.n (xm z.toNat, xe z.toNat)).1 | _ => (Dy.n (xm z.toNat, xe z.toNat)).2) | _ => 0, fun _ _ => false, fun _ _ => 0, fun _ _ => []⟩
theorem bits8_arg {ds : List D} (h : s_bits8.p ds) : ∃ (z : Int) (u : Nat), ds = [.int .u64 z] ∧ (u : Int) = z ∧ z.toNat = u ∧ u < 18446744073709551616 ∧ rgo u < infR := by
  unfold s_bits8 at h
  dsimp only at h
  split at h
  · rename_i z
    exact ⟨z, z.toNat, rfl, Int.toNat_of_nonneg h.1.1, rfl, by omega, h.2⟩
  · exact h.elim
def s_plain8 : FnSpec := sp1 (.one .b) canD (fun _ _ => 0) (fun x _ => decide (-1000 ≤ topI (dm x) (dx x)) && decide (topI (dm x) (dx x) ≤ 1000))
theorem sv_sgn (s : Bool) (n : Nat) : sgn s n = sv s n := rfl
theorem mask_52 {u : Nat} (hu : u < 18446744073709551616) : std.and .u64 (u : Int) 4503599627370495 = ((u % 4503599627370496 : Nat) : Int) := by
  refine (and_nat hu (show 4503599627370495 < 18446744073709551616 by omega)).trans ?_
  congr 1
  exact Nat.and_two_pow_sub_one_eq_mod u 52
theorem shr_n {u : Nat} (n : Int) (k : Nat) (hk : (2 : Int) ^ min n.toNat 64 = (k : Int)) (h0 : 0 < k) : std.shr .u64 (u : Int) n = ((u / k : Nat) : Int) := by
  show Int.fdiv (u : Int) (2 ^ min n.toNat 64) = _
  rw [hk, Int.fdiv_eq_ediv_of_nonneg _ (by omega)]
  omega
theorem cv_u32 (m : Nat) : std.cv .u32 (m : Int) = ((m % 4294967296 : Nat) : Int) := by
  show IntKind.u32.wrap (m : Int) = _
  simp only [IntKind.wrap, IntKind.signed, IntKind.bits, Bool.false_and, Bool.false_eq_true, if_false]
  omega
theorem okC_two (m : Nat) (hm : m < 18446744073709551616) (s : Bool) : okC 2 [.int .u32 ((m % 4294967296 : Nat) : Int), .int .u32 ((m / 4294967296 : Nat) : Int)] ∧ vI s [.int .u32 ((m % 4294967296 : Nat) : Int), .int .u32 ((m / 4294967296 : Nat) : Int)] = sv s m := by
  have hn : nums [D.int .u32 ((m % 4294967296 : Nat) : Int), D.int .u32 ((m / 4294967296 : Nat) : Int)] = [m % 4294967296, m / 4294967296] := rfl
  refine ⟨⟨rfl, rfl, ?_, by omega⟩, ?_⟩
  · rw [hn]
    exact Ok.of_mem fun x hx => by
      rw [Bs_eq]
      rcases List.mem_cons.1 hx with h | h
      · rw [h]; exact Nat.mod_lt _ (by decide)
      · rw [List.mem_singleton.1 h]; omega
  · unfold vI
    rw [hn, sv_sgn]
    congr 1
    rw [val_cons, val_cons, val_nil, Bs_eq]; omega
theorem bits_facts {u : Nat} (hu : u < 18446744073709551616) (hr : rgo u < infR) :
    std.shr .u64 (u : Int) 52 = (u / 4503599627370496 : Nat) ∧ std.and .u64 ((u / 4503599627370496 : Nat) : Int) 2047 = (fE (rgo u) : Nat) ∧ std.cv .i64 ((fE (rgo u) : Nat) : Int) = (fE (rgo u) : Nat) ∧ std.and .u64 (u : Int) 4503599627370495 = (fF (rgo u) : Nat) ∧
    std.shr .u64 (u : Int) 63 = (u / 9223372036854775808 : Nat) ∧ (((u / 9223372036854775808 : Nat) : Int) == 1) = sgo u ∧ Fit (xm u) 53 ∧ (-1074 ≤ xe u ∧ xe u ≤ 971) ∧ ∃ m : Nat, m < 18446744073709551616 ∧ m = fmag (rgo u) ∧ sv (sgo u) m = xm u ∧
    std.cv .u32 (m : Int) = ((m % 4294967296 : Nat) : Int) ∧ std.shr .u64 (m : Int) 32 = ((m / 4294967296 : Nat) : Int) ∧ std.cv .u32 ((m / 4294967296 : Nat) : Int) = ((m / 4294967296 : Nat) : Int) := by
  have hi := infR_is
  have hm := fmag_lt (r := rgo u)
  refine ⟨shr_52 hu, ?_, wrap_in (by unfold fE; omega) (by unfold fE; omega), ?_, shr_n 63 _ (by decide) (by decide), ?_, ?_, ⟨fpl_ge, fpl_le hr⟩, fmag (rgo u), by omega, rfl, rfl, cv_u32 _, shr_n 32 _ (by decide) (by decide), ?_⟩
  · rw [and_2047u (by omega)]; congr 1; unfold fE rgo; omega
  · rw [mask_52 hu]; congr 1; unfold fF rgo; omega
  · unfold sgo
    by_cases h : 9223372036854775808 ≤ u
    · rw [decide_eq_true h]; have : u / 9223372036854775808 = 1 := by omega
      rw [this]; rfl
    · rw [decide_eq_false h]; have : u / 9223372036854775808 = 0 := by omega
      rw [this]; rfl
  · unfold Fit xm; rw [sv_abs]; simpa using hm
  · rw [cv_u32]; congr 1; omega
theorem bits_low {u : Nat} (h : rgo u < 4503599627370496) : fF (rgo u) = fmag (rgo u) ∧ (0 < ((fE (rgo u) : Nat) : Int)) = False ∧ std.sub .i64 1 1075 = xe u := by
  refine ⟨?_, eq_false (by unfold fE; omega), ?_⟩
  · unfold fF fmag; rw [if_pos h]; omega
  · unfold xe fpl; rw [if_pos h]; show IntKind.i64.wrap (1 - 1075) = -1074; exact wrap_in (by omega) (by omega)
theorem bits_high {u : Nat} (h : ¬rgo u < 4503599627370496) (hr : rgo u < infR) : bitsV .or .u64 ((fF (rgo u) : Nat) : Int) 4503599627370496 = (fmag (rgo u) : Nat) ∧ (0 < ((fE (rgo u) : Nat) : Int)) = True ∧ std.sub .i64 ((fE (rgo u) : Nat) : Int) 1075 = xe u := by
  have hi := infR_is
  have hF : fF (rgo u) < 4503599627370496 := Nat.mod_lt _ (by decide)
  refine ⟨?_, eq_true (by unfold fE; omega), ?_⟩
  · refine (or_nat (a := fF (rgo u)) (b := 4503599627370496) (by omega) (by omega)).trans ?_
    rw [Nat.or_comm, or_add (a := 4503599627370496) (b := fF (rgo u)) (k := 52) (by decide) (by simpa using hF)]
    unfold fF fmag; rw [if_neg h]
  · unfold xe fpl; rw [if_neg h]
    show IntKind.i64.wrap (((fE (rgo u) : Nat) : Int) - 1075) = _
    unfold fE
    rw [wrap_in (by omega) (by omega)]; omega
theorem rC_cz {x : Re} {L H : Nat} (hc : ccan x) (h : cz x L H) (hb : L + H ≤ 19200) : rC x := ⟨hc.1, hc.2, (cz_can hc h).mono (by omega) (by omega)⟩
theorem dC_sz {x : Dy} {L H : Nat} (hc : x.n = x) (h : sz x L H) (hb : L + H ≤ 19200) : dC x := ⟨hc, (sz_can hc h).mono (by omega) (by omega)⟩
set_option maxRecDepth 100000 in
set_option maxHeartbeats 2000000 in
theorem good_few8 : Good Tryz.prog (GWL [0, 1]) N0 35 s_few8 := by
  refine goodL (l := [0, 1]) (tab := []) (shs := []) rfl trivial Tryz.f35 (by kernel_rfl) (by kernel_rfl) (by kernel_rfl) (fun ds hp F A Q hF hA hQ => ⟨0, ?_⟩)
  obtain ⟨x, rfl, hx⟩ := sp1_arg hp
  obtain ⟨s, n, cs, e, rfl, hw, hr1, hr2⟩ := okW_arg hx
  clear hp hx
  cbv
  repeat' (first | with_reducible refine And.intro ?_ ?_ | (with_reducible refine safe_lift hA ?_; kernel_rfl) | (intro hc_; cbv))
  all_goals (repeat (rw [safe_true hA, true_and]; rotate_left; kernel_rfl))
  all_goals subst hF hA
  all_goals simp only [fnOf, find, std, reduceIte, Nat.reduceEqDiff, sp1, sp2, a1, a2, FnSpec.out, Shape.build, leafs, leafCells, tups, oneOf, List.cons_append, List.nil_append, List.length_cons, List.length_nil, s_few8, dx, dcn, decide_eq_true_eq, decide_eq_false_iff_not, gt_iff_lt, ge_iff_le] at *
  all_goals first
    | exact Post.b hQ (dec_eq (by omega))
    | exact Post.b hQ (dec_no (by have hk := of_decide_eq_false hc_; omega))
    | trace_state
set_option maxRecDepth 100000 in
set_option maxHeartbeats 2000000 in
theorem good_fewC : Good Tryz.prog (GWL [0, 1]) N0 34 s_fewC := by
  refine goodL (l := [0, 1]) (tab := [(35, s_few8)]) (shs := [(35, .one .b)]) rfl ⟨good_few8, trivial⟩ Tryz.f34 (by kernel_rfl) (by kernel_rfl) (by kernel_rfl) (fun ds hp F A Q hF hA hQ => ⟨0, ?_⟩)
  obtain ⟨x, rfl, hx⟩ := sp1_arg hp
  obtain ⟨s, n, cs, e, t, m, es, f, rfl, hw, hr, hw2, hr2⟩ := okX_arg hx
  clear hp hx
  cbv
  repeat' (first | with_reducible refine And.intro ?_ ?_ | (with_reducible refine safe_lift hA ?_; kernel_rfl) | (intro hc_; cbv))
  all_goals (repeat (rw [safe_true hA, true_and]; rotate_left; kernel_rfl))
  all_goals subst hF hA
  all_goals simp only [fnOf, find, std, reduceIte, Nat.reduceEqDiff, sp1, sp2, a1, a2, FnSpec.out, Shape.build, leafs, leafCells, tups, oneOf, List.cons_append, List.nil_append, List.length_cons, List.length_nil, s_fewC, s_few8, dx, dcn, raw6_is, decide_eq_true_eq, decide_eq_false_iff_not] at *
  all_goals first
    | exact okW_mk hw hr.1 hr.2
    | exact okW_mk hw2 hr2.1 hr2.2
    | exact Post.b hQ (dec_eq ⟨fun k => k.2, fun k => ⟨of_decide_eq_true hc_, k⟩⟩)
    | exact Post.b hQ (dec_no (fun k => of_decide_eq_false hc_ k.1))
    | trace_state
set_option maxRecDepth 100000 in
set_option maxHeartbeats 2000000 in
theorem good_plain8 : Good Tryz.prog (GWL [0, 1]) N0 68 s_plain8 := by
  refine goodL (l := [0, 1]) (tab := [(112, s_qTop)]) (shs := [(112, .one (.i .i64))]) rfl ⟨good_qTop, trivial⟩ Tryz.f68 (by kernel_rfl) (by kernel_rfl) (by kernel_rfl) (fun ds hp F A Q hF hA hQ => ⟨0, ?_⟩)
  obtain ⟨x, rfl, hx⟩ := sp1_arg hp
  obtain ⟨z, e, s, n, cs, rfl, hs, hn, hcs, hz, he, hfz, he1, he2⟩ := canD_arg hx
  cbv
  repeat' (first | with_reducible refine And.intro ?_ ?_ | (with_reducible refine safe_lift hA ?_; kernel_rfl) | (intro hc_; cbv))
  all_goals (repeat (rw [safe_true hA, true_and]; rotate_left; kernel_rfl))
  all_goals subst hF hA
  all_goals (try simp only [fnOf, find, std, reduceIte, Nat.reduceEqDiff, sp1, sp2, a1, a2, FnSpec.out, Shape.build, leafs, leafCells, tups, oneOf, List.cons_append, List.nil_append, List.length_cons, List.length_nil, s_plain8, s_qTop] at hQ ⊢)
  all_goals first
    | exact hx
    | exact Post.b hQ (and_y hc_)
    | exact Post.b hQ (and_n hc_)
    | trace_state
set_option maxRecDepth 100000 in
set_option maxHeartbeats 8000000 in
theorem good_bits8 : Good Tryz.prog (GWL [0, 1]) N0 66 s_bits8 := by
  refine goodL (l := [0, 1]) (tab := [(13, s_qMake)]) (shs := [(13, .agg [.I, .i .i64])]) rfl ⟨good_qMake, trivial⟩ Tryz.f66 (by kernel_rfl) (by kernel_rfl) (by kernel_rfl) (fun ds hp F A Q hF hA hQ => ⟨0, ?_⟩)
  obtain ⟨z, u, rfl, hz, hzt, hu, hr⟩ := bits8_arg hp
  clear hp
  obtain ⟨b1, b2, b3, b4, b5, b6, b7, ⟨b8, b9⟩, m, c1, c2, c3, c4, c5, c6⟩ := bits_facts hu hr
  rw [hz] at b1 b4 b5
  obtain ⟨d1, d2⟩ := okC_two m c1 (sgo u)
  have d3 : okI (.agg [.bool (sgo u), .sl 2 [.int .u32 ((m % 4294967296 : Nat) : Int), .int .u32 ((m / 4294967296 : Nat) : Int)]]) := d1
  rw [c3] at d2
  have d4 : Fit (xm u) 100000 := b7.mono (by omega)
  have d5 : min (max (xe u) (-20000)) 20000 = xe u := by omega
  by_cases h0 : rgo u < 4503599627370496
  · obtain ⟨e1, e2, e3⟩ := bits_low h0
    rw [← c2] at e1
    cbv
    repeat' (first | with_reducible refine And.intro ?_ ?_ | (with_reducible refine safe_lift hA ?_; kernel_rfl) | (intro hc_; (first | (with_reducible exfalso; clear hQ; subst hF hA; simp only [fnOf, find, std_of, std_lt, std_le, std_eq, std_not, std_fcmp, std_fneg, std_bits, std_toN, std_pick, std_nn, std_fok, std_fop, reduceIte, Nat.reduceEqDiff, sp1, sp2, a1, a2, FnSpec.out, Shape.build, leafs, leafCells, tups, oneOf, List.cons_append, List.nil_append, List.length_cons, List.length_nil, s_bits8, s_qMake, dz, dx, dcn, dm_raw, dm_N0, vI_N0, toNat_nat, rv_raw, rv_N0, re4, df, cre, cim, sf1, sf2, eq_self, Bool.not_eq_eq_eq_not, decide_eq_true_eq, decide_eq_false_iff_not, not_true_eq_false, not_false_eq_true, decide_true, decide_false, Bool.true_and, Bool.and_true, Bool.not_true, Bool.not_false, beq_self_eq_true, Bool.true_eq_false, Bool.false_eq_true, reduceCtorEq, gt_iff_lt, ge_iff_le, true_and, and_true, and_self, Bool.false_eq, Bool.and_self, Int.add_zero, Option.isSome_some, Option.getD_some, b1, b2, b3, b4, b5, b6, c4, c5, c6, d2, d5, e1, e2, e3, hzt, Dy.n] at hc_; done) | (clear hc_; cbv))))
    all_goals subst hF hA
    all_goals (try simp only [fnOf, find, std_of, std_lt, std_le, std_eq, std_not, std_fcmp, std_fneg, std_bits, std_toN, std_pick, std_nn, std_fok, std_fop, reduceIte, Nat.reduceEqDiff, sp1, sp2, a1, a2, FnSpec.out, Shape.build, leafs, leafCells, tups, oneOf, List.cons_append, List.nil_append, List.length_cons, List.length_nil, s_bits8, s_qMake, dz, dx, dcn, dm_raw, dm_N0, vI_N0, toNat_nat, rv_raw, rv_N0, re4, df, cre, cim, sf1, sf2, eq_self, Bool.not_eq_eq_eq_not, decide_eq_true_eq, decide_eq_false_iff_not, not_true_eq_false, not_false_eq_true, decide_true, decide_false, Bool.true_and, Bool.and_true, Bool.not_true, Bool.not_false, beq_self_eq_true, Bool.true_eq_false, Bool.false_eq_true, reduceCtorEq, gt_iff_lt, ge_iff_le, true_and, and_true, and_self, Bool.false_eq, Bool.and_self, Int.add_zero, Option.isSome_some, Option.getD_some, b1, b2, b3, b4, b5, b6, c4, c5, c6, d2, d5, e1, e2, e3, hzt, Dy.n] at hQ ⊢)
    all_goals (repeat' (first
    | with_reducible exact hQ
    | with_reducible assumption
    | with_reducible exact isi_int _ _
    | with_reducible exact isF_mk (by assumption)
    | with_reducible exact fin_mk (by assumption) (by assumption)
    | with_reducible exact finN_mk (by assumption) (by assumption)
    | with_reducible exact okT_mk hc hn he1 he2
    | with_reducible exact okT_mk hc2 hm hf1 hf2
    | exact hQ
    | with_reducible exact okR_mk hc hn he1 he2 hc2 hm hf1 hf2
    | with_reducible refine okD_mk ?_ ?_ ?_
    | with_reducible refine okT_mk ?_ ?_ ?_ ?_
    | with_reducible refine okR_mk ?_ ?_ ?_ ?_ ?_ ?_ ?_ ?_
    | (with_reducible refine near_mk ?_ ?_; (focus omega); (focus omega))
    | (with_reducible refine isC_mk ?_ ?_)
    | omega
    | with_reducible refine And.intro ?_ ?_))
    all_goals trace_state
  · obtain ⟨e1, e2, e3⟩ := bits_high h0 hr
    rw [← c2] at e1
    cbv
    repeat' (first | with_reducible refine And.intro ?_ ?_ | (with_reducible refine safe_lift hA ?_; kernel_rfl) | (intro hc_; (first | (with_reducible exfalso; clear hQ; subst hF hA; simp only [fnOf, find, std_of, std_lt, std_le, std_eq, std_not, std_fcmp, std_fneg, std_bits, std_toN, std_pick, std_nn, std_fok, std_fop, reduceIte, Nat.reduceEqDiff, sp1, sp2, a1, a2, FnSpec.out, Shape.build, leafs, leafCells, tups, oneOf, List.cons_append, List.nil_append, List.length_cons, List.length_nil, s_bits8, s_qMake, dz, dx, dcn, dm_raw, dm_N0, vI_N0, toNat_nat, rv_raw, rv_N0, re4, df, cre, cim, sf1, sf2, eq_self, Bool.not_eq_eq_eq_not, decide_eq_true_eq, decide_eq_false_iff_not, not_true_eq_false, not_false_eq_true, decide_true, decide_false, Bool.true_and, Bool.and_true, Bool.not_true, Bool.not_false, beq_self_eq_true, Bool.true_eq_false, Bool.false_eq_true, reduceCtorEq, gt_iff_lt, ge_iff_le, true_and, and_true, and_self, Bool.false_eq, Bool.and_self, Int.add_zero, Option.isSome_some, Option.getD_some, b1, b2, b3, b4, b5, b6, c4, c5, c6, d2, d5, e1, e2, e3, hzt, Dy.n] at hc_; done) | (clear hc_; cbv))))
    all_goals subst hF hA
    all_goals (try simp only [fnOf, find, std_of, std_lt, std_le, std_eq, std_not, std_fcmp, std_fneg, std_bits, std_toN, std_pick, std_nn, std_fok, std_fop, reduceIte, Nat.reduceEqDiff, sp1, sp2, a1, a2, FnSpec.out, Shape.build, leafs, leafCells, tups, oneOf, List.cons_append, List.nil_append, List.length_cons, List.length_nil, s_bits8, s_qMake, dz, dx, dcn, dm_raw, dm_N0, vI_N0, toNat_nat, rv_raw, rv_N0, re4, df, cre, cim, sf1, sf2, eq_self, Bool.not_eq_eq_eq_not, decide_eq_true_eq, decide_eq_false_iff_not, not_true_eq_false, not_false_eq_true, decide_true, decide_false, Bool.true_and, Bool.and_true, Bool.not_true, Bool.not_false, beq_self_eq_true, Bool.true_eq_false, Bool.false_eq_true, reduceCtorEq, gt_iff_lt, ge_iff_le, true_and, and_true, and_self, Bool.false_eq, Bool.and_self, Int.add_zero, Option.isSome_some, Option.getD_some, b1, b2, b3, b4, b5, b6, c4, c5, c6, d2, d5, e1, e2, e3, hzt, Dy.n] at hQ ⊢)
    all_goals (repeat' (first
    | with_reducible exact hQ
    | with_reducible assumption
    | with_reducible exact isi_int _ _
    | with_reducible exact isF_mk (by assumption)
    | with_reducible exact fin_mk (by assumption) (by assumption)
    | with_reducible exact finN_mk (by assumption) (by assumption)
    | with_reducible exact okT_mk hc hn he1 he2
    | with_reducible exact okT_mk hc2 hm hf1 hf2
    | exact hQ
    | with_reducible exact okR_mk hc hn he1 he2 hc2 hm hf1 hf2
    | with_reducible refine okD_mk ?_ ?_ ?_
    | with_reducible refine okT_mk ?_ ?_ ?_ ?_
    | with_reducible refine okR_mk ?_ ?_ ?_ ?_ ?_ ?_ ?_ ?_
    | (with_reducible refine near_mk ?_ ?_; (focus omega); (focus omega))
    | (with_reducible refine isC_mk ?_ ?_)
    | omega
    | with_reducible refine And.intro ?_ ?_))
    all_goals trace_state
end Go.Proofs.YtcamkbphognoaaaGreatDoor.Ev
/- What is known of points. -/
namespace Go.Proofs.YtcamkbphognoaaaGreatDoor.Ev
open Go Go.RowKit
set_option linter.unusedSimpArgs false
set_option linter.unusedVariables false
theorem qv_m1 : qv (-1, 0) = -1 := by unfold qv; simp
theorem w_ci : ccan ((0, 0), (1, 0)) := ⟨zero_n, one_n⟩
theorem w_mul : cmul ((0, 0), (1, 0)) ((0, 0), (1, 0)) = ((-1, 0), (0, 0)) := can_eq (ccan_mul _ _) ⟨odd_n (by decide), zero_n⟩ (by rw [q1_mul]; simp only [qv_c0, qv_c1, qv_m1]; grind) (by rw [q2_mul]; simp only [qv_c0, qv_c1, qv_m1]; grind)
theorem w_neg : cneg ((0, 0), (1, 0)) = ((0, 0), (-1, 0)) := can_eq ⟨neg_n _, neg_n _⟩ ⟨zero_n, odd_n (by decide)⟩ (by rw [q1_neg]; simp only [qv_c0, qv_c1, qv_m1]; grind) (by rw [q2_neg]; simp only [qv_c0, qv_c1, qv_m1])
theorem w_add : cadd ((0, 0), (1, 0)) ((0, 0), (-1, 0)) = ((0, 0), (0, 0)) := can_eq ⟨add_n _ _, add_n _ _⟩ ⟨zero_n, zero_n⟩ (by rw [q1_add]; simp only [qv_c0, qv_c1, qv_m1]; grind) (by rw [q2_add]; simp only [qv_c0, qv_c1, qv_m1]; grind)
theorem w_ca : ca ((0, 0), (1, 0)) = ((0, 0), (1, 0)) := ca_can w_ci
theorem w_ca1 : ca ((1, 0), (0, 0)) = ((1, 0), (0, 0)) := ca_can ccan_one
theorem w_cam : ca ((-1, 0), (0, 0)) = ((-1, 0), (0, 0)) := ca_can ⟨odd_n (by decide), zero_n⟩
theorem w_pow : cpw ((0, 0), (1, 0)) 4 = ((1, 0), (0, 0)) := by
  show cmul (cmul (cmul (cmul cone _) _) _) _ = _
  rw [one_mul_c, w_ca, w_mul]
  exact can_eq (ccan_mul _ _) ccan_one (by simp only [q1_mul, q2_mul, qv_c0, qv_c1, qv_m1]; grind) (by simp only [q1_mul, q2_mul, qv_c0, qv_c1, qv_m1]; grind)
theorem sg_zero8 : sg 0 = 0 := by decide
theorem w_p4 : powN 4 = 4 := by decide
theorem w_norm : cnorm ((3, -1), (-1, 1)) = (25, -2) := by
  have h1 : Dy.mul (3, -1) (3, -1) = (9, -2) := (congrArg Dy.n (show (((3 : Int) * 3, (-1 : Int) + -1) : Dy) = (9, -2) by decide)).trans (odd_n (by decide))
  have h2 : Dy.mul (-1, 1) (-1, 1) = (1, 2) := (congrArg Dy.n (show (((-1 : Int) * -1, (1 : Int) + 1) : Dy) = (1, 2) by decide)).trans (odd_n (by decide))
  have h3 : Dy.add (9, -2) (1, 2) = (25, -2) := (congrArg Dy.n (show ((addM 9 (-2) 1 2, min (-2) 2) : Dy) = (25, -2) by decide)).trans (odd_n (by decide))
  show Dy.add (Dy.mul (3, -1) (3, -1)) (Dy.mul (-1, 1) (-1, 1)) = _
  rw [h1, h2, h3]
theorem w_fa : rgo 4609434218613702656 < infR := by decide
theorem w_fb : rgo 13835058055282163712 < infR := by decide
theorem w_ea : exd 4609434218613702656 = (3, -1) := by
  have h1 : xm 4609434218613702656 = 3 * 2 ^ 51 := by decide
  have h2 : xe 4609434218613702656 = -52 := by decide
  unfold exd Dy.n
  rw [if_pos w_fa, h1, h2]
  dsimp only
  rw [tmI_shift, teI_shift]
  exact odd_n (m := 3) (e := -52 + (51 : Nat)) (by decide)
theorem w_eb : exd 13835058055282163712 = (-1, 1) := by
  have h1 : xm 13835058055282163712 = (-1) * 2 ^ 52 := by decide
  have h2 : xe 13835058055282163712 = -51 := by decide
  unfold exd Dy.n
  rw [if_pos w_fb, h1, h2]
  dsimp only
  rw [tmI_shift, teI_shift]
  exact odd_n (m := -1) (e := -51 + (52 : Nat)) (by decide)
theorem w_fc : finC 4609434218613702656 13835058055282163712 = true := by unfold finC; rw [decide_eq_true w_fa, decide_eq_true w_fb]; rfl
theorem w_exc : exc 4609434218613702656 13835058055282163712 = ((3, -1), (-1, 1)) := by unfold exc; rw [if_pos w_fc, w_ea, w_eb]
theorem w_inf : finC (wd false infR) 0 = false := by decide
theorem w_ga : gfl 3 (-1) = 4609434218613702656 := by
  rw [gfl_plain (M := 3) (E := -1) (by decide) (by decide) (by decide) (by decide)]; decide
theorem w_gb : gfl (-1) 1 = 13835058055282163712 := by
  rw [gfl_plain (M := -1) (E := 1) (by decide) (by decide) (by decide) (by decide)]; decide
theorem w_qa : fcmpV .eql .f64 4609434218613702656 4609434218613702656 = true := by decide
theorem w_qb : fcmpV .eql .f64 13835058055282163712 13835058055282163712 = true := by decide
theorem t_3 : tmI 3 = 3 := congrArg Prod.fst (odd_n (m := 3) (e := 0) (by decide))
theorem t_3e (e : Int) : teI 3 e = e := congrArg Prod.snd (odd_n (m := 3) (e := e) (by decide))
theorem t_m1 : tmI (-1) = -1 := tmI_is (k := 0) (by decide) (by decide) (by decide)
theorem t_m1e (e : Int) : teI (-1) e = e := (teI_is (c := -1) (k := 0) (by decide) (by decide) (by decide)).trans (Int.add_zero e)
theorem t_25 : tmI 25 = 25 := congrArg Prod.fst (odd_n (m := 25) (e := 0) (by decide))
theorem t_25e (e : Int) : teI 25 e = e := congrArg Prod.snd (odd_n (m := 25) (e := e) (by decide))
theorem w_fit3 : Fit 3 53 := by unfold Fit; decide
theorem w_fitm : Fit (-1) 53 := by unfold Fit; decide
theorem w_lit {x : Re} (h : ccan x) (f : (x.1.1.natAbs < 2 ^ 8 ∧ x.2.1.natAbs < 2 ^ 8) ∧ (-1000 ≤ x.1.2 ∧ x.1.2 ≤ 1000) ∧ -1000 ≤ x.2.2 ∧ x.2.2 ≤ 1000) : rC x ∧ cz x 1000 1320 ∧ fR x 320 1320 := by
  have g : fR x 8 1000 := ⟨⟨f.1.1, f.2.1.1, f.2.1.2⟩, f.1.2, f.2.2.1, f.2.2.2⟩
  exact ⟨⟨h.1, h.2, g.mono (by omega) (by omega)⟩, cz_mono ⟨sz_fD g.1, sz_fD g.2⟩ (by omega) (by omega), g.mono (by omega) (by omega)⟩
theorem w_d25 : dC (25, 0) := ⟨odd_n (by decide), (show Fit 25 8 by unfold Fit; decide).mono (by omega), by decide, by decide⟩
theorem w_e25 : okE (.agg [.bool (N0.neg 25), .sl (N0.ln 25) (N0.lm 25), .int .i64 (-2)]) := okE_fit (k := 10) (by unfold Fit; decide) (by omega)
theorem std_ceq (k : FloatKind) (a b c d : Nat) : std.ceq k a b c d = (fcmpV .eql k a c && fcmpV .eql k b d) := rfl
theorem std_add (k : IntKind) (a b : Int) : std.add k a b = k.wrap (a + b) := rfl
theorem std_sub (k : IntKind) (a b : Int) : std.sub k a b = k.wrap (a - b) := rfl
theorem std_min (a b : Int) : std.min a b = if b < a then b else a := rfl
theorem std_max (a b : Int) : std.max a b = if b > a then b else a := rfl
theorem std_beq (a b : Bool) : std.beq a b = (a == b) := rfl
theorem std_rem (k : IntKind) (a b : Int) : std.rem k a b = a.tmod b := rfl
theorem std_cv (k : IntKind) (a : Int) : std.cv k a = k.wrap a := rfl
theorem std_nz (a : Int) : std.nz a = (a ≠ 0) := rfl
theorem max_if8 (a b : Int) : (if a < b then b else a) = max a b := by omega
theorem sz_scl {a : Dy} (h : fD a 320 1000) {S : Int} (h1 : -2000 ≤ S) (h2 : S ≤ 2000) : sz (a.scl S) 3000 3320 := by
  have : fD (a.1, a.2 + min (max S (-20000)) 20000) 320 3000 := ⟨h.1, by have := h.2.1; show -(3000 : Int) ≤ a.2 + min (max S (-20000)) 20000; omega, by have := h.2.2; show a.2 + min (max S (-20000)) 20000 ≤ (3000 : Int); omega⟩
  exact sz_n (sz_fD this)
theorem cz_scl {x : Re} (h : fR x 320 1000) {S : Int} (h1 : -2000 ≤ S) (h2 : S ≤ 2000) : cz (cscl x S) 3000 3320 := ⟨sz_scl h.1 h1 h2, sz_scl h.2 h1 h2⟩
set_option maxRecDepth 100000 in
set_option maxHeartbeats 8000000 in
theorem good_known8 : Good Tryz.prog (GWL [0, 1, 2, 3]) N0 33 s_known8 := by
  refine goodL (l := [0, 1, 2, 3]) (tab := [(40, s_uOf), (63, s_uExact), (101, s_mInfinity), (46, s_uMul), (41, s_vOf), (39, s_vEqual), (51, s_uNorm), (69, s_qOf), (38, s_qScale), (31, s_qEqual), (67, s_uFloat), (48, s_uNeg), (42, s_uAdd), (58, s_uZero), (56, s_uPow), (60, s_uSame)]) (shs := [(40, .agg [.I, .i .i64, .I, .i .i64]), (63, .tup [(true, [.I, .i .i64, .I, .i .i64]), (false, [.b])]), (101, .one .f), (46, .agg [.I, .i .i64, .I, .i .i64]), (41, .agg [.I, .i .i64, .I, .i .i64]), (39, .one .b), (51, .agg [.I, .i .i64]), (69, .agg [.I, .i .i64]), (38, .agg [.I, .i .i64]), (31, .one .b), (67, .one .c), (48, .agg [.I, .i .i64, .I, .i .i64]), (42, .agg [.I, .i .i64, .I, .i .i64]), (58, .one .b), (56, .agg [.I, .i .i64, .I, .i .i64]), (60, .one .b)]) rfl ⟨(good_uOf.lift (by decide)), (good_uExact.lift (by decide)), (good_mInfinity.lift (by decide)), good_uMul, (good_vOf.lift (by decide)), (good_vEqual.lift (by decide)), good_uNorm, (good_qOf.lift (by decide)), (good_qScale.lift (by decide)), (good_qEqual.lift (by decide)), (good_uFloat.lift (by decide)), (good_uNeg.lift (by decide)), (good_uAdd.lift (by decide)), (good_uZero.lift (by decide)), good_uPow, (good_uSame.lift (by decide)), trivial⟩ Tryz.f33 (by kernel_rfl) (by kernel_rfl) (by kernel_rfl) (fun ds hp F A Q hF hA hQ => ⟨0, ?_⟩)
  have hp : ds = [] := hp
  subst hp
  · obtain ⟨u0, v0, w0⟩ := w_lit (x := ((0, 0), (1, 0))) w_ci (by decide)
    obtain ⟨u1, v1, w1⟩ := w_lit (x := ((3, -1), (-1, 1))) ⟨odd_n (by decide), odd_n (by decide)⟩ (by decide)
    obtain ⟨u2, v2, w2⟩ := w_lit (x := ((-1, 0), (0, 0))) ⟨odd_n (by decide), zero_n⟩ (by decide)
    obtain ⟨u3, v3, w3⟩ := w_lit (x := ((0, 0), (-1, 0))) ⟨zero_n, odd_n (by decide)⟩ (by decide)
    obtain ⟨u4, v4, w4⟩ := w_lit (x := ((0, 0), (0, 0))) ⟨zero_n, zero_n⟩ (by decide)
    obtain ⟨u5, v5, w5⟩ := w_lit (x := ((1, 0), (0, 0))) ccan_one (by decide)
    have z0o := okR_c u0
    dsimp only at z0o
    try simp only [N0_neg0, N0_ln0, N0_lm0] at z0o
    have z1o := okR_c u1
    dsimp only at z1o
    try simp only [N0_neg0, N0_ln0, N0_lm0] at z1o
    have z2o := okR_c u2
    dsimp only at z2o
    try simp only [N0_neg0, N0_ln0, N0_lm0] at z2o
    have z3o := okR_c u3
    dsimp only at z3o
    try simp only [N0_neg0, N0_ln0, N0_lm0] at z3o
    have z4o := okR_c u4
    dsimp only at z4o
    try simp only [N0_neg0, N0_ln0, N0_lm0] at z4o
    have z5o := okR_c u5
    dsimp only at z5o
    try simp only [N0_neg0, N0_ln0, N0_lm0] at z5o
    have z2c := canR_c u2
    dsimp only at z2c
    try simp only [N0_neg0, N0_ln0, N0_lm0] at z2c
    have f3 := w_fit3
    have fm := w_fitm
    have d25 := canD_c w_d25
    dsimp only at d25
    have e25 := w_e25
    cbv
    repeat' (first | with_reducible refine And.intro ?_ ?_ | (with_reducible refine safe_lift hA ?_; kernel_rfl) | (intro hc_; (first | (with_reducible exfalso; clear hQ; subst hF hA; simp only [fnOf, find, std_of, std_lt, std_le, std_eq, std_not, std_fcmp, std_fneg, std_bits, std_toN, std_pick, std_nn, std_fok, std_fop, std_ceq, std_add, std_sub, std_min, std_max, std_beq, std_rem, std_cv, std_nz, reduceIte, Nat.reduceEqDiff, sp1, sp2, a1, a2, FnSpec.out, Shape.build, leafs, leafCells, tups, oneOf, List.cons_append, List.nil_append, List.length_cons, List.length_nil, s_known8, s_uOf, s_uExact, s_mInfinity, s_uMul, s_vOf, s_vEqual, s_uNorm, s_qOf, s_qScale, s_qEqual, s_uFloat, s_uNeg, s_uAdd, s_uZero, s_uPow, s_uSame, dz, dx, dcn, dm_raw, dm_N0, vI_N0, toNat_nat, rv_raw, rv_N0, re4, df, cre, cim, sf1, sf2, s_uOf, s_yEqual, re4, dv, vI_nil, Prod.eta, eq_self, Bool.not_eq_eq_eq_not, decide_eq_true_eq, decide_eq_false_iff_not, not_true_eq_false, not_false_eq_true, decide_true, decide_false, Bool.true_and, Bool.and_true, Bool.not_true, Bool.not_false, beq_self_eq_true, Bool.true_eq_false, Bool.false_eq_true, reduceCtorEq, gt_iff_lt, ge_iff_le, true_and, and_true, and_self, Bool.false_eq, Bool.and_self, Int.add_zero, Option.isSome_some, Option.getD_some, w_mul, w_neg, w_add, w_ca, w_ca1, w_cam, w_pow, w_p4, w_norm, w_fc, w_exc, w_inf, w_ga, w_gb, w_qa, w_qb, t_3, t_3e, t_m1, t_m1e, t_25, t_25e, k1, k1e, tmI_zero, teI_zero, km_2, sameI_N0, reduceIte, N0_neg0, N0_ln0, N0_lm0, sg_zero8, Bool.true_and, cre, cim, Int.reduceNeg, Int.reduceEq, Int.reduceLT, Int.reduceLE, Int.reduceBEq, Int.reduceAdd, if_true, if_false, and_true, true_and] at hc_; done) | (clear hc_; cbv))))
    all_goals subst hF hA
    all_goals (try simp only [fnOf, find, std_of, std_lt, std_le, std_eq, std_not, std_fcmp, std_fneg, std_bits, std_toN, std_pick, std_nn, std_fok, std_fop, std_ceq, std_add, std_sub, std_min, std_max, std_beq, std_rem, std_cv, std_nz, reduceIte, Nat.reduceEqDiff, sp1, sp2, a1, a2, FnSpec.out, Shape.build, leafs, leafCells, tups, oneOf, List.cons_append, List.nil_append, List.length_cons, List.length_nil, s_known8, s_uOf, s_uExact, s_mInfinity, s_uMul, s_vOf, s_vEqual, s_uNorm, s_qOf, s_qScale, s_qEqual, s_uFloat, s_uNeg, s_uAdd, s_uZero, s_uPow, s_uSame, dz, dx, dcn, dm_raw, dm_N0, vI_N0, toNat_nat, rv_raw, rv_N0, re4, df, cre, cim, sf1, sf2, s_uOf, s_yEqual, re4, dv, vI_nil, Prod.eta, eq_self, Bool.not_eq_eq_eq_not, decide_eq_true_eq, decide_eq_false_iff_not, not_true_eq_false, not_false_eq_true, decide_true, decide_false, Bool.true_and, Bool.and_true, Bool.not_true, Bool.not_false, beq_self_eq_true, Bool.true_eq_false, Bool.false_eq_true, reduceCtorEq, gt_iff_lt, ge_iff_le, true_and, and_true, and_self, Bool.false_eq, Bool.and_self, Int.add_zero, Option.isSome_some, Option.getD_some, w_mul, w_neg, w_add, w_ca, w_ca1, w_cam, w_pow, w_p4, w_norm, w_fc, w_exc, w_inf, w_ga, w_gb, w_qa, w_qb, t_3, t_3e, t_m1, t_m1e, t_25, t_25e, k1, k1e, tmI_zero, teI_zero, km_2, sameI_N0, reduceIte, N0_neg0, N0_ln0, N0_lm0, sg_zero8, Bool.true_and, cre, cim, Int.reduceNeg, Int.reduceEq, Int.reduceLT, Int.reduceLE, Int.reduceBEq, Int.reduceAdd, if_true, if_false, and_true, true_and] at hQ ⊢)
    all_goals (repeat' (first
    | with_reducible exact hQ
    | with_reducible assumption
    | with_reducible exact isi_int _ _
    | with_reducible exact isF_mk (by assumption)
    | with_reducible exact isCf_mk (by omega) (by omega)
    | exact isCf_mk (by decide) (by decide)
    | with_reducible exact fin_mk (by assumption) (by assumption)
    | with_reducible exact finN_mk (by assumption) (by assumption)
    | with_reducible exact okT_mk hc hn he1 he2
    | with_reducible exact okT_mk hc2 hm hf1 hf2
    | exact hQ
    | with_reducible exact okR_mk hc hn he1 he2 hc2 hm hf1 hf2
    | with_reducible refine okD_mk ?_ ?_ ?_
    | with_reducible refine okT_mk ?_ ?_ ?_ ?_
    | with_reducible refine okR_mk ?_ ?_ ?_ ?_ ?_ ?_ ?_ ?_
    | (with_reducible refine near_mk ?_ ?_; (focus omega); (focus omega))
    | (with_reducible refine isC_mk ?_ ?_)
    | omega
    | with_reducible refine And.intro ?_ ?_))
    all_goals trace_state
end Go.Proofs.YtcamkbphognoaaaGreatDoor.Ev
