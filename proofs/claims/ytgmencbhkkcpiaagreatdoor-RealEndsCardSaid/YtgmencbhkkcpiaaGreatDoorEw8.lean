/- A law of intervals: RealEnds. -/
import Derived.Test.YtgmencbhkkcpiaaGreatDoorXl
namespace Go.Proofs.YtgmencbhkkcpiaaGreatDoor.Ev
open Go Go.RowKit
set_option linter.unusedSimpArgs false
set_option linter.unusedVariables false
def lit4 : Nat → Int | 0 => 0 | 1 => 1 | 2 => 2 | 3 => 3 | _ => 4
theorem five_or {i : Nat} (hi : i ≤ 4) : i = 0 ∨ i = 1 ∨ i = 2 ∨ i = 3 ∨ i = 4 := by omega
theorem single_mul (a b : Dy) : rmul (a, a) (b, b) = (a.mul b, a.mul b) := by
  obtain ⟨⟨c, d, h1, h2, h3⟩, c', d', h4, h5, h6⟩ := rmul_end (x := (a, a)) (y := (b, b))
  have e1 : c = a := by rcases h1 with h | h <;> exact h
  have e2 : d = b := by rcases h2 with h | h <;> exact h
  have e3 : c' = a := by rcases h4 with h | h <;> exact h
  have e4 : d' = b := by rcases h5 with h | h <;> exact h
  rw [e1, e2] at h3
  rw [e3, e4] at h6
  exact Prod.ext h3 h6
/-- what is known of the product of an end of either. -/
theorem end_facts {X Y : Re} (fX : fR X 320 1000) (fY : fR Y 320 1000) {a b : Dy} (ha : a = X.1.n ∨ a = X.2.n) (hb : b = Y.1.n ∨ b = Y.2.n) {Z : Re} (hZ : rmul (rn X) (rn Y) = Z) {M : Dy} (hM : a.mul b = M) :
    rmul (rn (a, a)) (rn (b, b)) = (M, M) ∧ inB (M, M) Z = true ∧ rC (M, M) := by
  have na : a.n = a := by rcases ha with rfl | rfl <;> exact n_n _
  have nb : b.n = b := by rcases hb with rfl | rfl <;> exact n_n _
  have fa : fD a 320 1320 := by rcases ha with rfl | rfl; exact fD_n fX.1; exact fD_n fX.2
  have fb : fD b 320 1320 := by rcases hb with rfl | rfl; exact fD_n fY.1; exact fD_n fY.2
  refine ⟨by rw [rn_pair na, rn_pair nb, single_mul, hM], by rw [← hM, ← hZ]; exact ends_in ha hb, ?_⟩
  rw [← hM]
  have hf := fD_mul fa fb
  exact ⟨mul_n _ _, mul_n _ _, hf.mono (by omega) (by omega), hf.mono (by omega) (by omega)⟩
theorem same_dy {a b : Dy} (h : a = b) : (decide (b.2 = a.2) && decide (b.1 = a.1)) = true := by rw [h]; simp
theorem or4 {M0 M1 M2 M3 z : Dy} (h : z = M0 ∨ z = M1 ∨ z = M2 ∨ z = M3) : ((((decide (M0.2 = z.2) && decide (M0.1 = z.1)) || (decide (M1.2 = z.2) && decide (M1.1 = z.1))) || (decide (M2.2 = z.2) && decide (M2.1 = z.1))) || (decide (M3.2 = z.2) && decide (M3.1 = z.1))) = true := by
  rcases h with h | h | h | h <;> rw [same_dy h] <;> simp
theorem four_ends {X Y : Re} {M0 M1 M2 M3 : Dy} (h0 : X.1.n.mul Y.1.n = M0) (h1 : X.1.n.mul Y.2.n = M1) (h2 : X.2.n.mul Y.1.n = M2) (h3 : X.2.n.mul Y.2.n = M3) {a b : Dy} (ha : a = X.1.n ∨ a = X.2.n) (hb : b = Y.1.n ∨ b = Y.2.n) {z : Dy} (hz : z = a.mul b) : z = M0 ∨ z = M1 ∨ z = M2 ∨ z = M3 := by
  subst hz h0 h1 h2 h3
  rcases ha with rfl | rfl <;> rcases hb with rfl | rfl
  · exact .inl rfl
  · exact .inr (.inl rfl)
  · exact .inr (.inr (.inl rfl))
  · exact .inr (.inr (.inr rfl))
/-- both ends of the product are met. -/
theorem both_ends {X Y Z : Re} (hZ : rmul (rn X) (rn Y) = Z) {M0 M1 M2 M3 : Dy} (h0 : X.1.n.mul Y.1.n = M0) (h1 : X.1.n.mul Y.2.n = M1) (h2 : X.2.n.mul Y.1.n = M2) (h3 : X.2.n.mul Y.2.n = M3) :
    ∃ LO HI : Nat → Bool, LO 0 = false ∧ HI 0 = false ∧ LO 4 = true ∧ HI 4 = true ∧
      (LO 0 || (decide (M0.2 = Z.1.2) && decide (M0.1 = Z.1.1))) = LO 1 ∧ (LO 1 || (decide (M1.2 = Z.1.2) && decide (M1.1 = Z.1.1))) = LO 2 ∧ (LO 2 || (decide (M2.2 = Z.1.2) && decide (M2.1 = Z.1.1))) = LO 3 ∧ (LO 3 || (decide (M3.2 = Z.1.2) && decide (M3.1 = Z.1.1))) = LO 4 ∧
      (HI 0 || (decide (M0.2 = Z.2.2) && decide (M0.1 = Z.2.1))) = HI 1 ∧ (HI 1 || (decide (M1.2 = Z.2.2) && decide (M1.1 = Z.2.1))) = HI 2 ∧ (HI 2 || (decide (M2.2 = Z.2.2) && decide (M2.1 = Z.2.1))) = HI 3 ∧ (HI 3 || (decide (M3.2 = Z.2.2) && decide (M3.1 = Z.2.1))) = HI 4 := by
  have hm := ends_made (X := X) (Y := Y)
  rw [hZ] at hm
  obtain ⟨⟨a, b, a1, a2, a3⟩, c, d, b1, b2, b3⟩ := hm
  have k1 := or4 (four_ends h0 h1 h2 h3 a1 a2 a3)
  have k2 := or4 (four_ends h0 h1 h2 h3 b1 b2 b3)
  let f : Dy → Nat → Bool := fun z i => match i with
    | 0 => false
    | 1 => false || (decide (M0.2 = z.2) && decide (M0.1 = z.1))
    | 2 => (false || (decide (M0.2 = z.2) && decide (M0.1 = z.1))) || (decide (M1.2 = z.2) && decide (M1.1 = z.1))
    | 3 => ((false || (decide (M0.2 = z.2) && decide (M0.1 = z.1))) || (decide (M1.2 = z.2) && decide (M1.1 = z.1))) || (decide (M2.2 = z.2) && decide (M2.1 = z.1))
    | _ => (((false || (decide (M0.2 = z.2) && decide (M0.1 = z.1))) || (decide (M1.2 = z.2) && decide (M1.1 = z.1))) || (decide (M2.2 = z.2) && decide (M2.1 = z.1))) || (decide (M3.2 = z.2) && decide (M3.1 = z.1))
  refine ⟨f Z.1, f Z.2, rfl, rfl, ?_, ?_, rfl, rfl, rfl, rfl, rfl, rfl, rfl, rfl⟩
  · show ((((false || _) || _) || _) || _) = true
    rw [Bool.false_or]; exact k1
  · show ((((false || _) || _) || _) || _) = true
    rw [Bool.false_or]; exact k2
theorem keep_ends {a1 a2 a3 a4 b1 b2 b3 : Bool} (h1 : (a1 || b1) = a2) (h2 : (a2 || b2) = a3) (h3 : (a3 || b3) = a4) :
    (a1 = true → a2 = true) ∧ (a2 = true → a3 = true) ∧ (a3 = true → a4 = true) ∧ (a1 = false → b1 = a2) ∧ (a2 = false → b2 = a3) ∧ (a3 = false → b3 = a4) := by
  subst h1 h2 h3
  cases a1 <;> cases b1 <;> cases b2 <;> cases b3 <;> simp
theorem first_end {a0 b a1 : Bool} (h0 : a0 = false) (h : (a0 || b) = a1) : a1 = b := by rw [← h, h0]; exact Bool.false_or _
/-- odd powers. -/
theorem odd_facts {X : Re} (fX : fR X 320 1000) {u : Int} (h0 : 0 ≤ u) (h4 : u ≤ 4) :
    ∃ (k : Nat) (W V1 V2 : Re), powN (u * 2 + 1) = k ∧ rpow (rn X) k = W ∧ rpow (rn (X.1.n, X.1.n)) k = V1 ∧ rpow (rn (X.2.n, X.2.n)) k = V2 ∧ rhull (rn V1) (rn V2) = W ∧
      (∀ r, r = W ∨ r = V1 ∨ r = V2 → okR (.agg [.bool (N0.neg r.1.1), .sl (N0.ln r.1.1) (N0.lm r.1.1), .int .i64 r.1.2, .bool (N0.neg r.2.1), .sl (N0.ln r.2.1) (N0.lm r.2.1), .int .i64 r.2.2])) := by
  have hk : powN (u * 2 + 1) ≤ 9 ∧ powN (u * 2 + 1) % 2 = 1 := by unfold powN; omega
  have n1 : fR (rn (X.1.n, X.1.n)) 320 1640 := fR_rn ⟨fD_n fX.1, fD_n fX.1⟩
  have n2 : fR (rn (X.2.n, X.2.n)) 320 1640 := fR_rn ⟨fD_n fX.2, fD_n fX.2⟩
  have p0 := fR_rpow (fR_rn fX) hk.1
  have p1 := fR_rpow n1 hk.1
  have p2 := fR_rpow n2 hk.1
  have ho := ends_odd (X := X) hk.2
  refine ⟨_, _, _, _, rfl, rfl, rfl, rfl, by rw [rn_pair (n_n _), rn_pair (n_n _)]; exact ho, ?_⟩
  rintro r (rfl | rfl | rfl)
  · exact okR_fR (p0.mono (by omega) (by omega))
  · exact okR_fR (p1.mono (by omega) (by omega))
  · exact okR_fR (p2.mono (by omega) (by omega))
/-- the hull. -/
theorem hull_facts {X Y : Re} (fX : fR X 320 1000) (fY : fR Y 320 1000) :
    ∃ H : Re, rhull (rn X) (rn Y) = H ∧ inB X H = true ∧ rn H = H ∧ inB (rsub (rn X) (rn X)) (rsub H (rn X)) = true ∧ rC H ∧ rC (rsub (rn X) (rn X)) ∧ rC (rsub H (rn X)) := by
  obtain ⟨h1, h2, h3⟩ := ends_hull (X := X) (Y := Y)
  have gX := fC_rn fX
  have gH := f_hull gX (fC_rn fY)
  exact ⟨_, rfl, h1, h3, h2, c_id gH, c_sub gX gX, c_sub gH gX⟩
theorem pick_or (a b : Bool) : (if a = true then true else b) = (a || b) := by cases a <;> rfl
theorem three7 {a b : Prop} : ¬a ∨ (a ∧ ¬b) ∨ (a ∧ b) := by
  by_cases h : a <;> by_cases k : b <;> simp [h, k]
def s_RealEnds : FnSpec := ⟨.one .b, fun ds => match ds with | [x, y, .int .u8 c] => okX x ∧ okX y ∧ 0 ≤ c ∧ c ≤ 255 | _ => False, fun _ _ => 0, fun _ _ => true, fun _ _ => 0, fun _ _ => []⟩
theorem RealEnds_arg {ds : List D} (h : s_RealEnds.p ds) : ∃ x y c, ds = [x, y, .int .u8 c] ∧ okX x ∧ okX y ∧ 0 ≤ c ∧ c ≤ 255 := by
  unfold s_RealEnds at h
  dsimp only at h
  split at h
  · exact ⟨_, _, _, rfl, h⟩
  · exact h.elim
set_option maxRecDepth 100000 in
set_option maxHeartbeats 16000000 in
theorem good_RealEnds : Good Tryz.prog (GWL [0, 1, 2, 3, 5]) N0 3 s_RealEnds := by
  refine goodL (l := [0, 1, 2, 3, 5]) (tab := [(4, s_known7), (5, s_fewR), (6, s_eMul), (7, s_eOf), (8, s_eIn), (9, s_qEqual), (10, s_ePow), (11, s_eHull), (12, s_eSame), (13, s_eSub)]) (shs := [(4, .one .b), (5, .one .b), (6, .agg [.I, .i .i64, .I, .i .i64]), (7, .agg [.I, .i .i64, .I, .i .i64]), (8, .one .b), (9, .one .b), (10, .agg [.I, .i .i64, .I, .i .i64]), (11, .agg [.I, .i .i64, .I, .i .i64]), (12, .one .b), (13, .agg [.I, .i .i64, .I, .i .i64])]) rfl ⟨(good_known7.lift (by decide)), (good_fewR.lift (by decide)), (good_eMul.lift (by decide)), (good_eOf.lift (by decide)), (good_eIn.lift (by decide)), (good_qEqual.lift (by decide)), (good_ePow.lift (by decide)), (good_eHull.lift (by decide)), (good_eSame.lift (by decide)), (good_eSub.lift (by decide)), trivial⟩ Tryz.f3 (by kernel_rfl) (by kernel_rfl) (by kernel_rfl) (fun ds hp F A Q hF hA hQ => ⟨0, ?_⟩)
  obtain ⟨x, y, c, rfl, hx, hy, hc1, hc2⟩ := RealEnds_arg hp
  obtain ⟨s, n, cs, e, t, m, es, f, rfl, hw, hr, hw2, hr2⟩ := okX_arg hx
  obtain ⟨u, p, gs, g, v, q, hs, h, rfl, hv, hs1, hv2, hs2⟩ := okX_arg hy
  clear hp hx hy
  rcases three7 (a := ((n ≤ 10 ∧ -1000 ≤ e ∧ e ≤ 1000) ∧ m ≤ 10 ∧ -1000 ≤ f ∧ f ≤ 1000)) (b := ((p ≤ 10 ∧ -1000 ≤ g ∧ g ≤ 1000) ∧ q ≤ 10 ∧ -1000 ≤ h ∧ h ≤ 1000)) with kx | ⟨kx, ky⟩ | ⟨kx, ky⟩
  · have hfx : (((n ≤ 10 ∧ -1000 ≤ e ∧ e ≤ 1000) ∧ m ≤ 10 ∧ -1000 ≤ f ∧ f ≤ 1000)) = False := eq_false kx
    cbv
    repeat' (first | with_reducible refine And.intro ?_ ?_ | (with_reducible refine safe_lift hA ?_; kernel_rfl) | (intro hc_; (first | (with_reducible exfalso; clear hQ; subst hF hA; (simp only [fnOf, find, std, reduceIte, Nat.reduceEqDiff, sp1, sp2, a1, a2, FnSpec.out, Shape.build, leafs, leafCells, tups, oneOf, List.cons_append, List.nil_append, List.length_cons, List.length_nil, s_RealEnds, s_known7, s_fewR, s_eMul, s_eOf, s_eIn, s_qEqual, s_ePow, s_eHull, s_eSame, s_eSub, re4, rv_raw, rv_N0, dv, dz, dx, dcn, dm_raw, dm_N0, vI_N0, raw6_is, Prod.eta, vI_nil, N0_neg0, N0_ln0, N0_lm0, tmI_idem, teI_idem, cmpD_nrm, cmpD_nrmL, cmpD_nrmR, hasY_n, inY_rn, meetY_rn, zeroY_rn, powN_2, min_if, hasB_zero, wrap_er, rn_rn, Int.reduceNeg, Int.reduceEq, Int.reduceLT, Int.reduceLE, Int.reduceBEq, beq_dec, Int.reduceAdd, Int.zero_add, Int.add_zero, eq_self, Bool.not_eq_eq_eq_not, decide_eq_true_eq, decide_eq_false_iff_not, not_true_eq_false, not_false_eq_true, decide_true, decide_false, Bool.true_and, Bool.and_true, Bool.not_true, Bool.not_false, beq_self_eq_true, Bool.true_eq_false, Bool.false_eq_true, reduceCtorEq, gt_iff_lt, ge_iff_le, true_and, and_true, and_self, Bool.false_eq, Bool.and_self, cmp0d, beq_dec, sameI_N0, hfx] at hc_; done)) | (clear hc_; cbv))))
    all_goals subst hF hA
    all_goals (try simp only [fnOf, find, std, reduceIte, Nat.reduceEqDiff, sp1, sp2, a1, a2, FnSpec.out, Shape.build, leafs, leafCells, tups, oneOf, List.cons_append, List.nil_append, List.length_cons, List.length_nil, s_RealEnds, s_known7, s_fewR, s_eMul, s_eOf, s_eIn, s_qEqual, s_ePow, s_eHull, s_eSame, s_eSub, re4, rv_raw, rv_N0, dv, dz, dx, dcn, dm_raw, dm_N0, vI_N0, raw6_is, Prod.eta, vI_nil, N0_neg0, N0_ln0, N0_lm0, tmI_idem, teI_idem, cmpD_nrm, cmpD_nrmL, cmpD_nrmR, hasY_n, inY_rn, meetY_rn, zeroY_rn, powN_2, min_if, hasB_zero, wrap_er, rn_rn, Int.reduceNeg, Int.reduceEq, Int.reduceLT, Int.reduceLE, Int.reduceBEq, beq_dec, Int.reduceAdd, Int.zero_add, Int.add_zero, eq_self, Bool.not_eq_eq_eq_not, decide_eq_true_eq, decide_eq_false_iff_not, not_true_eq_false, not_false_eq_true, decide_true, decide_false, Bool.true_and, Bool.and_true, Bool.not_true, Bool.not_false, beq_self_eq_true, Bool.true_eq_false, Bool.false_eq_true, reduceCtorEq, gt_iff_lt, ge_iff_le, true_and, and_true, and_self, Bool.false_eq, Bool.and_self, cmp0d, beq_dec, sameI_N0, hfx] at hQ ⊢)
    all_goals (repeat' (first
      | with_reducible exact hQ
      | with_reducible assumption
      | with_reducible exact isi_int _ _
      | (with_reducible refine canR_c (r := ((_, _), (_, _))) ?_; with_reducible assumption)
      | (with_reducible refine okR_c (r := ((_, _), (_, _))) ?_; with_reducible assumption)
      | (with_reducible refine okM_fR (r := ((_, _), (_, _))) ?_; with_reducible assumption)
      | (with_reducible refine few20_fR (r := ((_, _), (_, _))) ?_; with_reducible assumption)
      | (with_reducible refine few30_fR (r := ((_, _), (_, _))) ?_; with_reducible assumption)
      | with_reducible exact True.intro
      | (with_reducible refine few40_fR (r := ((_, _), (_, _))) ?_; with_reducible assumption)
      | (with_reducible refine canD_c (a := (_, _)) ?_; with_reducible assumption)
      | (with_reducible refine okT_c (a := (_, _)) ?_; with_reducible assumption)
      | (with_reducible refine okD_c (a := (_, _)) ?_; with_reducible assumption)
      | (with_reducible refine near_c (a := (_, _)) (b := (_, _)) ?_ ?_ <;> with_reducible assumption)
      | (with_reducible refine okE_fit ?_ (k := 10000) (by omega); with_reducible assumption)
      | with_reducible refine okX_mk ?_ ?_ ?_ ?_
      | with_reducible refine okW_mk ?_ ?_ ?_
      | with_reducible refine okE_mk ?_
      | with_reducible refine okI_mk ?_
      | with_reducible refine okD_mk ?_ ?_ ?_
      | (with_reducible refine near_mk ?_ ?_; (focus omega); (focus omega))
      | omega
      | with_reducible refine And.intro ?_ ?_))
    all_goals (repeat' (first | with_reducible assumption | (with_reducible refine congrArg D.bool ?_) | (with_reducible refine And.intro ?_ ?_) | exact hl_.symm | exact hh_.symm | exact (hl_.trans lo4).symm | exact (hh_.trans hi4).symm | exact el1 | exact eh1 | rfl))
  · have hfx : (((n ≤ 10 ∧ -1000 ≤ e ∧ e ≤ 1000) ∧ m ≤ 10 ∧ -1000 ≤ f ∧ f ≤ 1000)) = True := eq_true kx
    have hfy : (((p ≤ 10 ∧ -1000 ≤ g ∧ g ≤ 1000) ∧ q ≤ 10 ∧ -1000 ≤ h ∧ h ≤ 1000)) = False := eq_false ky
    cbv
    repeat' (first | with_reducible refine And.intro ?_ ?_ | (with_reducible refine safe_lift hA ?_; kernel_rfl) | (intro hc_; (first | (with_reducible exfalso; clear hQ; subst hF hA; (simp only [fnOf, find, std, reduceIte, Nat.reduceEqDiff, sp1, sp2, a1, a2, FnSpec.out, Shape.build, leafs, leafCells, tups, oneOf, List.cons_append, List.nil_append, List.length_cons, List.length_nil, s_RealEnds, s_known7, s_fewR, s_eMul, s_eOf, s_eIn, s_qEqual, s_ePow, s_eHull, s_eSame, s_eSub, re4, rv_raw, rv_N0, dv, dz, dx, dcn, dm_raw, dm_N0, vI_N0, raw6_is, Prod.eta, vI_nil, N0_neg0, N0_ln0, N0_lm0, tmI_idem, teI_idem, cmpD_nrm, cmpD_nrmL, cmpD_nrmR, hasY_n, inY_rn, meetY_rn, zeroY_rn, powN_2, min_if, hasB_zero, wrap_er, rn_rn, Int.reduceNeg, Int.reduceEq, Int.reduceLT, Int.reduceLE, Int.reduceBEq, beq_dec, Int.reduceAdd, Int.zero_add, Int.add_zero, eq_self, Bool.not_eq_eq_eq_not, decide_eq_true_eq, decide_eq_false_iff_not, not_true_eq_false, not_false_eq_true, decide_true, decide_false, Bool.true_and, Bool.and_true, Bool.not_true, Bool.not_false, beq_self_eq_true, Bool.true_eq_false, Bool.false_eq_true, reduceCtorEq, gt_iff_lt, ge_iff_le, true_and, and_true, and_self, Bool.false_eq, Bool.and_self, cmp0d, beq_dec, sameI_N0, hfx, hfy] at hc_; done)) | (clear hc_; cbv))))
    all_goals subst hF hA
    all_goals (try simp only [fnOf, find, std, reduceIte, Nat.reduceEqDiff, sp1, sp2, a1, a2, FnSpec.out, Shape.build, leafs, leafCells, tups, oneOf, List.cons_append, List.nil_append, List.length_cons, List.length_nil, s_RealEnds, s_known7, s_fewR, s_eMul, s_eOf, s_eIn, s_qEqual, s_ePow, s_eHull, s_eSame, s_eSub, re4, rv_raw, rv_N0, dv, dz, dx, dcn, dm_raw, dm_N0, vI_N0, raw6_is, Prod.eta, vI_nil, N0_neg0, N0_ln0, N0_lm0, tmI_idem, teI_idem, cmpD_nrm, cmpD_nrmL, cmpD_nrmR, hasY_n, inY_rn, meetY_rn, zeroY_rn, powN_2, min_if, hasB_zero, wrap_er, rn_rn, Int.reduceNeg, Int.reduceEq, Int.reduceLT, Int.reduceLE, Int.reduceBEq, beq_dec, Int.reduceAdd, Int.zero_add, Int.add_zero, eq_self, Bool.not_eq_eq_eq_not, decide_eq_true_eq, decide_eq_false_iff_not, not_true_eq_false, not_false_eq_true, decide_true, decide_false, Bool.true_and, Bool.and_true, Bool.not_true, Bool.not_false, beq_self_eq_true, Bool.true_eq_false, Bool.false_eq_true, reduceCtorEq, gt_iff_lt, ge_iff_le, true_and, and_true, and_self, Bool.false_eq, Bool.and_self, cmp0d, beq_dec, sameI_N0, hfx, hfy] at hQ ⊢)
    all_goals (repeat' (first
      | with_reducible exact hQ
      | with_reducible assumption
      | with_reducible exact isi_int _ _
      | (with_reducible refine canR_c (r := ((_, _), (_, _))) ?_; with_reducible assumption)
      | (with_reducible refine okR_c (r := ((_, _), (_, _))) ?_; with_reducible assumption)
      | (with_reducible refine okM_fR (r := ((_, _), (_, _))) ?_; with_reducible assumption)
      | (with_reducible refine few20_fR (r := ((_, _), (_, _))) ?_; with_reducible assumption)
      | (with_reducible refine few30_fR (r := ((_, _), (_, _))) ?_; with_reducible assumption)
      | with_reducible exact True.intro
      | (with_reducible refine few40_fR (r := ((_, _), (_, _))) ?_; with_reducible assumption)
      | (with_reducible refine canD_c (a := (_, _)) ?_; with_reducible assumption)
      | (with_reducible refine okT_c (a := (_, _)) ?_; with_reducible assumption)
      | (with_reducible refine okD_c (a := (_, _)) ?_; with_reducible assumption)
      | (with_reducible refine near_c (a := (_, _)) (b := (_, _)) ?_ ?_ <;> with_reducible assumption)
      | (with_reducible refine okE_fit ?_ (k := 10000) (by omega); with_reducible assumption)
      | with_reducible refine okX_mk ?_ ?_ ?_ ?_
      | with_reducible refine okW_mk ?_ ?_ ?_
      | with_reducible refine okE_mk ?_
      | with_reducible refine okI_mk ?_
      | with_reducible refine okD_mk ?_ ?_ ?_
      | (with_reducible refine near_mk ?_ ?_; (focus omega); (focus omega))
      | omega
      | with_reducible refine And.intro ?_ ?_))
    all_goals (repeat' (first | with_reducible assumption | (with_reducible refine congrArg D.bool ?_) | (with_reducible refine And.intro ?_ ?_) | exact hl_.symm | exact hh_.symm | exact (hl_.trans lo4).symm | exact (hh_.trans hi4).symm | exact el1 | exact eh1 | rfl))
  · have hfx : (((n ≤ 10 ∧ -1000 ≤ e ∧ e ≤ 1000) ∧ m ≤ 10 ∧ -1000 ≤ f ∧ f ≤ 1000)) = True := eq_true kx
    have hfy : (((p ≤ 10 ∧ -1000 ≤ g ∧ g ≤ 1000) ∧ q ≤ 10 ∧ -1000 ≤ h ∧ h ≤ 1000)) = True := eq_true ky
    obtain ⟨x1, x2, x3, x4, x5, x6, x7, x8, x9⟩ := few_facts (s := s) (t := t) (cs := cs) (es := es) hw hw2 kx
    obtain ⟨X, hX⟩ : ∃ X : Re, ((vI s cs, e), (vI t es, f)) = X := ⟨_, rfl⟩
    rw [hX] at x6
    obtain ⟨y1, y2, y3, y4, y5, y6, y7, y8, y9⟩ := few_facts (s := u) (t := v) (cs := gs) (es := hs) hv hv2 ky
    obtain ⟨Y, hY⟩ : ∃ Y : Re, ((vI u gs, g), (vI v hs, h)) = Y := ⟨_, rfl⟩
    rw [hY] at y6
    have cX := c_rn x6
    have bX := rn_few x6
    have bX2 : fR (rn X) 640 2000 := bX.mono (by omega) (by omega)
    have bX3 : fR (rn X) 1280 20000 := bX.mono (by omega) (by omega)
    have bX4 : fR (rn X) 4000 8000 := bX.mono (by omega) (by omega)
    have bX5 : fR (rn X) 8000 10000 := bX.mono (by omega) (by omega)
    have cY := c_rn y6
    have bY := rn_few y6
    have bY2 : fR (rn Y) 640 2000 := bY.mono (by omega) (by omega)
    have bY3 : fR (rn Y) 1280 20000 := bY.mono (by omega) (by omega)
    have bY4 : fR (rn Y) 4000 8000 := bY.mono (by omega) (by omega)
    have bY5 : fR (rn Y) 8000 10000 := bY.mono (by omega) (by omega)
    have gX := fC_rn x6
    have gY := fC_rn y6
    have hX1 : (vI s cs, e) = X.1 := congrArg Prod.fst hX
    have hX2 : (vI t es, f) = X.2 := congrArg Prod.snd hX
    have hY1 : (vI u gs, g) = Y.1 := congrArg Prod.fst hY
    have hY2 : (vI v hs, h) = Y.2 := congrArg Prod.snd hY
    obtain ⟨Z, hZ⟩ : ∃ Z : Re, rmul (rn X) (rn Y) = Z := ⟨_, rfl⟩
    have rZ : rC Z := by rw [← hZ]; exact c_mul gX gY
    obtain ⟨M0, hM0⟩ : ∃ M : Dy, X.1.n.mul Y.1.n = M := ⟨_, rfl⟩
    obtain ⟨M1, hM1⟩ : ∃ M : Dy, X.1.n.mul Y.2.n = M := ⟨_, rfl⟩
    obtain ⟨M2, hM2⟩ : ∃ M : Dy, X.2.n.mul Y.1.n = M := ⟨_, rfl⟩
    obtain ⟨M3, hM3⟩ : ∃ M : Dy, X.2.n.mul Y.2.n = M := ⟨_, rfl⟩
    obtain ⟨LO, HI, lo0, hi0, lo4, hi4, lo1, lo2, lo3, lo5, hi1, hi2, hi3, hi5⟩ := both_ends hZ hM0 hM1 hM2 hM3
    have el1 := first_end lo0 lo1
    have eh1 := first_end hi0 hi1
    obtain ⟨ul1, ul2, ul3, vl1, vl2, vl3⟩ := keep_ends lo2 lo3 lo5
    obtain ⟨uh1, uh2, uh3, vh1, vh2, vh3⟩ := keep_ends hi2 hi3 hi5
    obtain ⟨i0, j0, r0⟩ := end_facts x6 y6 (.inl rfl) (.inl rfl) hZ hM0
    obtain ⟨i1, j1, r1⟩ := end_facts x6 y6 (.inl rfl) (.inr rfl) hZ hM1
    obtain ⟨i2, j2, r2⟩ := end_facts x6 y6 (.inr rfl) (.inl rfl) hZ hM2
    obtain ⟨i3, j3, r3⟩ := end_facts x6 y6 (.inr rfl) (.inr rfl) hZ hM3
    have o0 := okE_fit (e := M0.2) (dC_1 r0).2.1 (by omega)
    have o1 := okE_fit (e := M1.2) (dC_1 r1).2.1 (by omega)
    have o2 := okE_fit (e := M2.2) (dC_1 r2).2.1 (by omega)
    have o3 := okE_fit (e := M3.2) (dC_1 r3).2.1 (by omega)
    have o4 := okE_fit (e := Z.1.2) (dC_1 rZ).2.1 (by omega)
    have o5 := okE_fit (e := Z.2.2) (dC_2 rZ).2.1 (by omega)
    have fX1 : fR (X.1.n, X.1.n) 320 1320 := ⟨fD_n x6.1, fD_n x6.1⟩
    have fX2 : fR (X.2.n, X.2.n) 320 1320 := ⟨fD_n x6.2, fD_n x6.2⟩
    have fY1 : fR (Y.1.n, Y.1.n) 320 1320 := ⟨fD_n y6.1, fD_n y6.1⟩
    have fY2 : fR (Y.2.n, Y.2.n) 320 1320 := ⟨fD_n y6.2, fD_n y6.2⟩
    have a1_ : fR (X.1.n, X.1.n) 9568 15000 := fX1.mono (by omega) (by omega)
    have a2_ : fR (X.2.n, X.2.n) 9568 15000 := fX2.mono (by omega) (by omega)
    have a3_ : fR (Y.1.n, Y.1.n) 9568 15000 := fY1.mono (by omega) (by omega)
    have a4_ : fR (Y.2.n, Y.2.n) 9568 15000 := fY2.mono (by omega) (by omega)
    have a5_ : fR (X.1.n, X.1.n) 1280 15000 := fX1.mono (by omega) (by omega)
    have a6_ : fR (X.2.n, X.2.n) 1280 15000 := fX2.mono (by omega) (by omega)
    have b1_ : rC (X.1.n, X.1.n) := ⟨n_n _, n_n _, fX1.mono (by omega) (by omega)⟩
    have b2_ : rC (X.2.n, X.2.n) := ⟨n_n _, n_n _, fX2.mono (by omega) (by omega)⟩
    obtain ⟨U, hU⟩ : ∃ U : Int, c.tmod 5 = U := ⟨_, rfl⟩
    have hU2 : 0 ≤ U ∧ U ≤ 4 := by rw [← hU, Int.tmod_eq_emod_of_nonneg hc1]; omega
    have w1 : IntKind.i64.wrap U = U := wrap_in (by omega) (by omega)
    have w2 : IntKind.i64.wrap (U * 2) = U * 2 := wrap_in (by omega) (by omega)
    have w3 : IntKind.i64.wrap (U * 2 + 1) = U * 2 + 1 := wrap_in (by omega) (by omega)
    obtain ⟨k0, W, V1, V2, g1, g2, g3, g4, g5, g6⟩ := odd_facts x6 hU2.1 hU2.2
    have g7 := g6 W (.inl rfl)
    have g8 := g6 V1 (.inr (.inl rfl))
    have g9 := g6 V2 (.inr (.inr rfl))
    obtain ⟨H, l1, l2, l3, l4, l5, l6, l7⟩ := hull_facts x6 y6
    have q0 : A.quo .i64 0 2 = 0 := by rw [hA]; rfl
    have q1 : A.quo .i64 1 2 = 0 := by rw [hA]; rfl
    have q2 : A.quo .i64 2 2 = 1 := by rw [hA]; rfl
    have q3 : A.quo .i64 3 2 = 1 := by rw [hA]; rfl
    have s0 : A.rem .i64 0 2 = 0 := by rw [hA]; rfl
    have s1 : A.rem .i64 1 2 = 1 := by rw [hA]; rfl
    have s2 : A.rem .i64 2 2 = 0 := by rw [hA]; rfl
    have s3 : A.rem .i64 3 2 = 1 := by rw [hA]; rfl
    cbv
    repeat' (first | with_reducible refine And.intro ?_ ?_ | (with_reducible refine safe_lift hA ?_; kernel_rfl) | (with_reducible refine loop_by (fun i st => ((st.setT 12 (.int .i64 (lit4 i))).setT 8 (.bool (LO i))).setT 9 (.bool (HI i))) 4 ?_ ?_; cbv; rotate_left; intro i hi; rcases five_or hi with rfl | rfl | rfl | rfl | rfl <;> cbv) | (intro hc_; (first | (with_reducible exfalso; clear hQ; subst hF hA; (simp only [fnOf, find, std, reduceIte, Nat.reduceEqDiff, sp1, sp2, a1, a2, FnSpec.out, Shape.build, leafs, leafCells, tups, oneOf, List.cons_append, List.nil_append, List.length_cons, List.length_nil, s_RealEnds, s_known7, s_fewR, s_eMul, s_eOf, s_eIn, s_qEqual, s_ePow, s_eHull, s_eSame, s_eSub, re4, rv_raw, rv_N0, dv, dz, dx, dcn, dm_raw, dm_N0, vI_N0, raw6_is, Prod.eta, vI_nil, N0_neg0, N0_ln0, N0_lm0, tmI_idem, teI_idem, cmpD_nrm, cmpD_nrmL, cmpD_nrmR, hasY_n, inY_rn, meetY_rn, zeroY_rn, powN_2, min_if, hasB_zero, wrap_er, rn_rn, Int.reduceNeg, Int.reduceEq, Int.reduceLT, Int.reduceLE, Int.reduceBEq, beq_dec, Int.reduceAdd, Int.zero_add, Int.add_zero, eq_self, Bool.not_eq_eq_eq_not, decide_eq_true_eq, decide_eq_false_iff_not, not_true_eq_false, not_false_eq_true, decide_true, decide_false, Bool.true_and, Bool.and_true, Bool.not_true, Bool.not_false, beq_self_eq_true, Bool.true_eq_false, Bool.false_eq_true, reduceCtorEq, gt_iff_lt, ge_iff_le, true_and, and_true, and_self, Bool.false_eq, Bool.and_self, cmp0d, beq_dec, sameI_N0, hfx, hfy, hX, hY, hX1, hX2, hY1, hY2, hZ, i0, i1, i2, i3, j0, j1, j2, j3, lo0, hi0, lo4, hi4, lo1, lo2, lo3, lo5, hi1, hi2, hi3, hi5, hU, w1, w2, w3, g1, g2, g3, g4, g5, l1, l2, l3, l4, pick_or] at hc_; done)) | ((first | (have hl_ := ul1 hc_) | (have hl_ := ul2 hc_) | (have hl_ := ul3 hc_) | (have hl_ := vl1 hc_) | (have hl_ := vl2 hc_) | (have hl_ := vl3 hc_) | (have hh_ := uh1 hc_) | (have hh_ := uh2 hc_) | (have hh_ := uh3 hc_) | (have hh_ := vh1 hc_) | (have hh_ := vh2 hc_) | (have hh_ := vh3 hc_) | skip); clear hc_; cbv))) | ((first | simp only [q0, q1, q2, q3] | simp only [s0, s1, s2, s3]); cbv))
    all_goals subst hF hA
    all_goals (try simp only [fnOf, find, std, reduceIte, Nat.reduceEqDiff, sp1, sp2, a1, a2, FnSpec.out, Shape.build, leafs, leafCells, tups, oneOf, List.cons_append, List.nil_append, List.length_cons, List.length_nil, s_RealEnds, s_known7, s_fewR, s_eMul, s_eOf, s_eIn, s_qEqual, s_ePow, s_eHull, s_eSame, s_eSub, re4, rv_raw, rv_N0, dv, dz, dx, dcn, dm_raw, dm_N0, vI_N0, raw6_is, Prod.eta, vI_nil, N0_neg0, N0_ln0, N0_lm0, tmI_idem, teI_idem, cmpD_nrm, cmpD_nrmL, cmpD_nrmR, hasY_n, inY_rn, meetY_rn, zeroY_rn, powN_2, min_if, hasB_zero, wrap_er, rn_rn, Int.reduceNeg, Int.reduceEq, Int.reduceLT, Int.reduceLE, Int.reduceBEq, beq_dec, Int.reduceAdd, Int.zero_add, Int.add_zero, eq_self, Bool.not_eq_eq_eq_not, decide_eq_true_eq, decide_eq_false_iff_not, not_true_eq_false, not_false_eq_true, decide_true, decide_false, Bool.true_and, Bool.and_true, Bool.not_true, Bool.not_false, beq_self_eq_true, Bool.true_eq_false, Bool.false_eq_true, reduceCtorEq, gt_iff_lt, ge_iff_le, true_and, and_true, and_self, Bool.false_eq, Bool.and_self, cmp0d, beq_dec, sameI_N0, hfx, hfy, hX, hY, hX1, hX2, hY1, hY2, hZ, i0, i1, i2, i3, j0, j1, j2, j3, lo0, hi0, lo4, hi4, lo1, lo2, lo3, lo5, hi1, hi2, hi3, hi5, hU, w1, w2, w3, g1, g2, g3, g4, g5, l1, l2, l3, l4, pick_or] at hQ ⊢)
    all_goals (repeat' (first
      | with_reducible exact hQ
      | with_reducible assumption
      | with_reducible exact isi_int _ _
      | (with_reducible refine canR_c (r := ((_, _), (_, _))) ?_; with_reducible assumption)
      | (with_reducible refine okR_c (r := ((_, _), (_, _))) ?_; with_reducible assumption)
      | (with_reducible refine okM_fR (r := ((_, _), (_, _))) ?_; with_reducible assumption)
      | (with_reducible refine few20_fR (r := ((_, _), (_, _))) ?_; with_reducible assumption)
      | (with_reducible refine few30_fR (r := ((_, _), (_, _))) ?_; with_reducible assumption)
      | with_reducible exact True.intro
      | (with_reducible refine few40_fR (r := ((_, _), (_, _))) ?_; with_reducible assumption)
      | (with_reducible refine canD_c (a := (_, _)) ?_; with_reducible assumption)
      | (with_reducible refine okT_c (a := (_, _)) ?_; with_reducible assumption)
      | (with_reducible refine okD_c (a := (_, _)) ?_; with_reducible assumption)
      | (with_reducible refine near_c (a := (_, _)) (b := (_, _)) ?_ ?_ <;> with_reducible assumption)
      | (with_reducible refine okE_fit ?_ (k := 10000) (by omega); with_reducible assumption)
      | with_reducible refine okX_mk ?_ ?_ ?_ ?_
      | with_reducible refine okW_mk ?_ ?_ ?_
      | with_reducible refine okE_mk ?_
      | with_reducible refine okI_mk ?_
      | with_reducible refine okD_mk ?_ ?_ ?_
      | (with_reducible refine near_mk ?_ ?_; (focus omega); (focus omega))
      | omega
      | with_reducible refine And.intro ?_ ?_))
    all_goals (repeat' (first | with_reducible assumption | (with_reducible refine congrArg D.bool ?_) | (with_reducible refine And.intro ?_ ?_) | exact hl_.symm | exact hh_.symm | exact (hl_.trans lo4).symm | exact (hh_.trans hi4).symm | exact el1 | exact eh1 | rfl))
end Go.Proofs.YtgmencbhkkcpiaaGreatDoor.Ev
