/- A law of points: GaussTurns. -/
import Derived.Test.YtcamkbphognoaaaGreatDoorGw
namespace Go.Proofs.YtcamkbphognoaaaGreatDoor.Ev
open Go Go.RowKit
set_option linter.unusedSimpArgs false
set_option linter.unusedVariables false
abbrev cI : Re := ((0, 0), (1, 0))
theorem q_ci : qv cI.1 = 0 ∧ qv cI.2 = 1 := ⟨qv_zero 0, qv_one⟩
theorem turn1 (y : Re) : qv (cmul y cI).1 = -qv y.2 ∧ qv (cmul y cI).2 = qv y.1 := by
  rw [q1_mul, q2_mul, q_ci.1, q_ci.2]
  constructor <;> grind
/-- what a point becomes, turn by turn. -/
def trn (X : Re) : Nat → Re
  | 0 => X
  | i + 1 => cmul (trn X i) cI
theorem trn_norm (X : Re) (i : Nat) : cnorm (cmul (trn X i) cI) = cnorm (trn X i) :=
  nn_eq (norm_n _) (norm_n _) (by rw [q_norm, q_norm, (turn1 _).1, (turn1 _).2]; grind)
theorem trn_re (X : Re) (i : Nat) : Dy.n (-(ca (trn X i)).2.1, (ca (trn X i)).2.2) = (cmul (trn X i) cI).1 :=
  nn_eq (n_n _) (ccan_mul _ _).1 (by rw [qv_n, qv_neg', (turn1 _).1]; show -qv (ca (trn X i)).2 = _; rw [q2_ca])
theorem trn_four (X : Re) : ca (trn X 4) = ca X := by
  refine can_eq (ccan_ca _) (ccan_ca _) ?_ ?_
  · rw [q1_ca, q1_ca]
    show qv (cmul (cmul (cmul (cmul X cI) cI) cI) cI).1 = _
    rw [(turn1 _).1, (turn1 _).2, (turn1 _).1, (turn1 _).2]; grind
  · rw [q2_ca, q2_ca]
    show qv (cmul (cmul (cmul (cmul X cI) cI) cI) cI).2 = _
    rw [(turn1 _).2, (turn1 _).1, (turn1 _).2, (turn1 _).1]; grind
theorem trn_cz {X : Re} (h : cz X 1000 1320) : ∀ i, cz (trn X i) (1000 * (i + 1)) (1321 * (i + 1))
  | 0 => cz_mono h (by omega) (by omega)
  | i + 1 => cz_mono (cz_mul (trn_cz h i) (w_lit w_ci (by decide)).2.1) (by omega) (by omega)
theorem trn_rC {X : Re} (h : cz X 1000 1320) {i : Nat} (hi : i ≤ 4) : rC (cmul (trn X i) cI) :=
  rC_cz (ccan_mul _ _) (trn_cz h (i + 1)) (by omega)
theorem trn_ca {X : Re} (h : cz X 1000 1320) {i : Nat} (hi : i ≤ 4) : rC (ca (trn X i)) := rC_cz (ccan_ca _) (cz_ca (trn_cz h i)) (by omega)
theorem trn_norms (X : Re) : ∀ i, cnorm (trn X i) = cnorm X
  | 0 => rfl
  | i + 1 => (trn_norm X i).trans (trn_norms X i)
theorem trn_nm {X : Re} (h : cz X 1000 1320) (i : Nat) : dC (cnorm (trn X i)) := by rw [trn_norms]; exact dC_sz (norm_n _) (cz_norm h) (by omega)
theorem eight_tms (X : Re) : ctms X (1, 3) = cscl X 3 := by
  refine can_eq ⟨mul_n _ _, mul_n _ _⟩ ⟨scl_n _ _, scl_n _ _⟩ ?_ ?_
  · show qv (Dy.mul X.1 (1, 3)) = qv (Dy.scl X.1 3)
    unfold Dy.scl
    rw [qv_mul, qv_n, ← qv_mulraw, Int.mul_one]; rfl
  · show qv (Dy.mul X.2 (1, 3)) = qv (Dy.scl X.2 3)
    unfold Dy.scl
    rw [qv_mul, qv_n, ← qv_mulraw, Int.mul_one]; rfl
theorem t_8 : tmI 8 = 1 := tmI_is (c := 1) (k := 3) (by decide) (by decide) (by decide)
theorem t_8e : teI 8 0 = 3 := teI_is (c := 1) (k := 3) (by decide) (by decide) (by decide)
/-- the cells of the point after i turns. -/
theorem turn_letters {s t : Bool} {n m : Nat} {cs es : List D} {e f : Int} {X : Re} (hX : ((vI s cs, e), (vI t es, f)) = X) (h : cz X 1000 1320) (hok : okR (.agg [.bool s, .sl n cs, .int .i64 e, .bool t, .sl m es, .int .i64 f])) :
    ∃ (a : Nat → Bool) (p : Nat → Nat) (c : Nat → List D) (g : Nat → Int) (b : Nat → Bool) (q : Nat → Nat) (d : Nat → List D) (k : Nat → Int) (Y : Nat → Re),
    (a 0 = s ∧ p 0 = n ∧ c 0 = cs ∧ g 0 = e ∧ b 0 = t ∧ q 0 = m ∧ d 0 = es ∧ k 0 = f) ∧
    (∀ i, i ≤ 4 → ((vI (a i) (c i), g i), (vI (b i) (d i), k i)) = Y i ∧ okR (.agg [.bool (a i), .sl (p i) (c i), .int .i64 (g i), .bool (b i), .sl (q i) (d i), .int .i64 (k i)])) ∧
    (∀ i, i < 4 → cmul (Y i) cI = Y (i + 1) ∧ rC (Y (i + 1)) ∧ rC (ca (Y i)) ∧ dC (cnorm (Y i)) ∧ cnorm (Y (i + 1)) = cnorm (Y i) ∧ tmI (-(ca (Y i)).2.1) = (Y (i + 1)).1.1 ∧ teI (-(ca (Y i)).2.1) (ca (Y i)).2.2 = (Y (i + 1)).1.2 ∧
      N0.neg (Y (i + 1)).1.1 = a (i + 1) ∧ N0.ln (Y (i + 1)).1.1 = p (i + 1) ∧ N0.lm (Y (i + 1)).1.1 = c (i + 1) ∧ (Y (i + 1)).1.2 = g (i + 1) ∧ N0.neg (Y (i + 1)).2.1 = b (i + 1) ∧ N0.ln (Y (i + 1)).2.1 = q (i + 1) ∧ N0.lm (Y (i + 1)).2.1 = d (i + 1) ∧ (Y (i + 1)).2.2 = k (i + 1)) ∧
    ca (Y 4) = ca X := by
  let sel : {α : Type} → α → (Re → α) → Nat → α := fun x G i => match i with | 0 => x | i + 1 => G (trn X (i + 1))
  refine ⟨sel s fun y => N0.neg y.1.1, sel n fun y => N0.ln y.1.1, sel cs fun y => N0.lm y.1.1, sel e fun y => y.1.2, sel t fun y => N0.neg y.2.1, sel m fun y => N0.ln y.2.1, sel es fun y => N0.lm y.2.1, sel f fun y => y.2.2, trn X, ⟨rfl, rfl, rfl, rfl, rfl, rfl, rfl, rfl⟩, ?_, ?_, trn_four X⟩
  · intro i hi
    cases i with
    | zero => exact ⟨hX, hok⟩
    | succ i =>
      refine ⟨?_, okR_c (trn_rC h (by omega))⟩
      show ((vI (N0.neg (trn X (i + 1)).1.1) (N0.lm (trn X (i + 1)).1.1), (trn X (i + 1)).1.2), (vI (N0.neg (trn X (i + 1)).2.1) (N0.lm (trn X (i + 1)).2.1), (trn X (i + 1)).2.2)) = trn X (i + 1)
      rw [vI_N0, vI_N0]
  · intro i hi
    have hr := trn_re X i
    exact ⟨rfl, trn_rC h (by omega), trn_ca h (by omega), trn_nm h i, trn_norm X i, congrArg Prod.fst hr, congrArg Prod.snd hr, rfl, rfl, rfl, rfl, rfl, rfl, rfl, rfl⟩
theorem w_8 : dC (1, 3) := ⟨odd_n (by decide), (show Fit 1 8 by unfold Fit; decide).mono (by omega), by decide, by decide⟩
theorem turn_pow {X : Re} {c c2 u v : Int} (h1 : 0 ≤ c ∧ c ≤ 255) (h2 : 0 ≤ c2 ∧ c2 ≤ 255) (hu : c.tmod 4 = u) (hv : c2.tmod 4 = v) :
    IntKind.i64.wrap u = u ∧ IntKind.i64.wrap v = v ∧ IntKind.i64.wrap (u + v) = u + v ∧ powN u ≤ 8 ∧ powN v ≤ 8 ∧ powN (u + v) ≤ 8 ∧ cmul (cpw (ca X) (powN u)) (cpw (ca X) (powN v)) = cpw (ca X) (powN (u + v)) := by
  rw [Int.tmod_eq_emod_of_nonneg h1.1] at hu
  rw [Int.tmod_eq_emod_of_nonneg h2.1] at hv
  have hp : powN (u + v) = powN u + powN v := by unfold powN; omega
  refine ⟨wrap_in (by omega) (by omega), wrap_in (by omega) (by omega), wrap_in (by omega) (by omega), by unfold powN; omega, by unfold powN; omega, by unfold powN; omega, ?_⟩
  rw [hp, pw_add]
/-- what is known in a round, and behind the last one. -/
theorem turn_rounds {a : Nat → Bool} {p : Nat → Nat} {c : Nat → List D} {g : Nat → Int} {b : Nat → Bool} {q : Nat → Nat} {d : Nat → List D} {k : Nat → Int} {Y : Nat → Re} {X I : Re} {J : Nat → Int} (hJ : ∀ i : Nat, J i = Int.ofNat i)
    (Hi : ∀ i, i ≤ 4 → ((vI (a i) (c i), g i), (vI (b i) (d i), k i)) = Y i ∧ okR (.agg [.bool (a i), .sl (p i) (c i), .int .i64 (g i), .bool (b i), .sl (q i) (d i), .int .i64 (k i)]))
    (Hr : ∀ i, i < 4 → cmul (Y i) I = Y (i + 1) ∧ rC (Y (i + 1)) ∧ rC (ca (Y i)) ∧ dC (cnorm (Y i)) ∧ cnorm (Y (i + 1)) = cnorm (Y i) ∧ tmI (-(ca (Y i)).2.1) = (Y (i + 1)).1.1 ∧ teI (-(ca (Y i)).2.1) (ca (Y i)).2.2 = (Y (i + 1)).1.2 ∧
      N0.neg (Y (i + 1)).1.1 = a (i + 1) ∧ N0.ln (Y (i + 1)).1.1 = p (i + 1) ∧ N0.lm (Y (i + 1)).1.1 = c (i + 1) ∧ (Y (i + 1)).1.2 = g (i + 1) ∧ N0.neg (Y (i + 1)).2.1 = b (i + 1) ∧ N0.ln (Y (i + 1)).2.1 = q (i + 1) ∧ N0.lm (Y (i + 1)).2.1 = d (i + 1) ∧ (Y (i + 1)).2.2 = k (i + 1))
    (H4 : ca (Y 4) = ca X) (i : Nat) (hi : i ≤ 4) {P : Prop}
    (h1 : (J i < 4) = True → IntKind.i64.wrap (J i + 1) = J (i + 1) → i < 4 → ((vI (a i) (c i), g i), (vI (b i) (d i), k i)) = Y i → okR (.agg [.bool (a i), .sl (p i) (c i), .int .i64 (g i), .bool (b i), .sl (q i) (d i), .int .i64 (k i)]) →
      cmul (Y i) I = Y (i + 1) → rC (Y (i + 1)) → rC (ca (Y i)) → cnorm (Y (i + 1)) = cnorm (Y i) → tmI (-(ca (Y i)).2.1) = (Y (i + 1)).1.1 → teI (-(ca (Y i)).2.1) (ca (Y i)).2.2 = (Y (i + 1)).1.2 →
      a (i + 1) = N0.neg (Y (i + 1)).1.1 → p (i + 1) = N0.ln (Y (i + 1)).1.1 → c (i + 1) = N0.lm (Y (i + 1)).1.1 → g (i + 1) = (Y (i + 1)).1.2 → b (i + 1) = N0.neg (Y (i + 1)).2.1 → q (i + 1) = N0.ln (Y (i + 1)).2.1 → d (i + 1) = N0.lm (Y (i + 1)).2.1 → k (i + 1) = (Y (i + 1)).2.2 →
      okE (.agg [.bool (N0.neg (cnorm (Y i)).1), .sl (N0.ln (cnorm (Y i)).1) (N0.lm (cnorm (Y i)).1), .int .i64 (cnorm (Y i)).2]) → okE (.agg [.bool (N0.neg (Y (i + 1)).1.1), .sl (N0.ln (Y (i + 1)).1.1) (N0.lm (Y (i + 1)).1.1), .int .i64 (Y (i + 1)).1.2]) →
      canD (.agg [.bool (N0.neg (ca (Y i)).2.1), .sl (N0.ln (ca (Y i)).2.1) (N0.lm (ca (Y i)).2.1), .int .i64 (ca (Y i)).2.2]) → P)
    (h2 : (J i < 4) = False → ((vI (a i) (c i), g i), (vI (b i) (d i), k i)) = Y i → okR (.agg [.bool (a i), .sl (p i) (c i), .int .i64 (g i), .bool (b i), .sl (q i) (d i), .int .i64 (k i)]) → ca (Y i) = ca X → P) : P := by
  obtain ⟨i1, i2⟩ := Hi i hi
  have hj : J i = (i : Int) := hJ i
  rcases Nat.lt_or_ge i 4 with hlt | hge
  · obtain ⟨r1, r2, r3, r4, r5, r6, r7, r8, r9, r10, r11, r12, r13, r14, r15⟩ := Hr i hlt
    have hj1 : J (i + 1) = (i : Int) + 1 := hJ (i + 1)
    exact h1 (eq_true (by rw [hj]; omega)) (by rw [hj, hj1]; exact wrap_in (by omega) (by omega)) hlt i1 i2 r1 r2 r3 r5 r6 r7 r8.symm r9.symm r10.symm r11.symm r12.symm r13.symm r14.symm r15.symm (okE_fit r4.2.1 (by omega)) (okE_fit r2.2.2.1.1 (by omega)) (canD_c (dC_2 r3))
  · obtain rfl : i = 4 := by omega
    exact h2 (eq_false (by rw [hj]; decide)) i1 i2 H4
def s_GaussTurns : FnSpec := ⟨.one .b, fun ds => match ds with | [x, .int .u8 c, .int .u8 c2] => okX x ∧ (0 ≤ c ∧ c ≤ 255) ∧ 0 ≤ c2 ∧ c2 ≤ 255 | _ => False, fun _ _ => 0, fun _ _ => true, fun _ _ => 0, fun _ _ => []⟩
theorem GaussTurns_arg {ds : List D} (h : s_GaussTurns.p ds) : ∃ x c c2, ds = [x, .int .u8 c, .int .u8 c2] ∧ okX x ∧ (0 ≤ c ∧ c ≤ 255) ∧ 0 ≤ c2 ∧ c2 ≤ 255 := by
  unfold s_GaussTurns at h
  dsimp only at h
  split at h
  · exact ⟨_, _, _, rfl, h⟩
  · exact h.elim
set_option maxRecDepth 100000 in
set_option maxHeartbeats 16000000 in
theorem good_GaussTurns : Good Tryz.prog (GWL [0, 1, 2, 3]) N0 8 s_GaussTurns := by
  refine goodL (l := [0, 1, 2, 3]) (tab := [(33, s_known8), (34, s_fewC), (40, s_uOf), (46, s_uMul), (51, s_uNorm), (31, s_qEqual), (36, s_vCplx), (37, s_qNeg), (60, s_uSame), (56, s_uPow), (53, s_uScale), (69, s_qOf), (54, s_uTimes)]) (shs := [(33, .one .b), (34, .one .b), (40, .agg [.I, .i .i64, .I, .i .i64]), (46, .agg [.I, .i .i64, .I, .i .i64]), (51, .agg [.I, .i .i64]), (31, .one .b), (36, .agg [.I, .i .i64, .I, .i .i64]), (37, .agg [.I, .i .i64]), (60, .one .b), (56, .agg [.I, .i .i64, .I, .i .i64]), (53, .agg [.I, .i .i64, .I, .i .i64]), (69, .agg [.I, .i .i64]), (54, .agg [.I, .i .i64, .I, .i .i64])]) rfl ⟨good_known8, (good_fewC.lift (by decide)), (good_uOf.lift (by decide)), good_uMul, good_uNorm, (good_qEqual.lift (by decide)), (good_vCplx.lift (by decide)), (good_qNeg.lift (by decide)), (good_uSame.lift (by decide)), good_uPow, (good_uScale.lift (by decide)), (good_qOf.lift (by decide)), (good_uTimes.lift (by decide)), trivial⟩ Tryz.f8 (by kernel_rfl) (by kernel_rfl) (by kernel_rfl) (fun ds hp F A Q hF hA hQ => ⟨0, ?_⟩)
  obtain ⟨x, c, c2, rfl, hx, hc1, hc2⟩ := GaussTurns_arg hp
  obtain ⟨s, n, cs, e, t, m, es, f, rfl, hw, hr, hw2, hr2⟩ := okX_arg hx
  clear hp hx
  rcases Classical.em ((n ≤ 10 ∧ -1000 ≤ e ∧ e ≤ 1000) ∧ m ≤ 10 ∧ -1000 ≤ f ∧ f ≤ 1000) with kx | kx
  · have hfx : (((n ≤ 10 ∧ -1000 ≤ e ∧ e ≤ 1000) ∧ m ≤ 10 ∧ -1000 ≤ f ∧ f ≤ 1000)) = True := eq_true kx
    obtain ⟨x1, x2, x3, x4, x5, x6, x7, x8, x9⟩ := few_facts (s := s) (t := t) (cs := cs) (es := es) hw hw2 kx
    obtain ⟨X, hX⟩ : ∃ X : Re, ((vI s cs, e), (vI t es, f)) = X := ⟨_, rfl⟩
    rw [hX] at x6
    have zX : cz X 1000 1320 := ⟨sz_fD x6.1, sz_fD x6.2⟩
    have bX : fR X 320 1320 := x6.mono (by omega) (by omega)
    have zXa := cz_ca zX
    obtain ⟨ya, yp, yc, yg, yb, yq, yd, yk, Y, ⟨a0, p0, c0, g0, b0, q0, d0, k0⟩, Hi, Hr, H4⟩ := turn_letters hX zX x1
    obtain ⟨I, hI⟩ : ∃ I : Re, ca ((0, 0), (1, 0)) = I := ⟨_, rfl⟩
    have hI2 : cI = I := w_ca.symm.trans hI
    have rI : rC I := by rw [← hI2]; exact (w_lit w_ci (by decide)).1
    rw [hI2] at Hr
    obtain ⟨J, hJ⟩ : ∃ J : Nat → Int, ∀ i : Nat, J i = Int.ofNat i := ⟨_, fun _ => rfl⟩
    have j0 : J 0 = 0 := hJ 0
    have HR := turn_rounds hJ Hi Hr H4
    obtain ⟨u, hu⟩ : ∃ u : Int, c.tmod 4 = u := ⟨_, rfl⟩
    obtain ⟨v, hv⟩ : ∃ v : Int, c2.tmod 4 = v := ⟨_, rfl⟩
    obtain ⟨m1, m2, m3, m4, m5, m6, m7⟩ := turn_pow (X := X) hc1 hc2 hu hv
    have r1 : rC (cpw (ca X) (powN u)) := rC_cz (ccan_pw _ _) (cz_mono (cz_pw zXa _) (show 1000 * powN u ≤ 8000 by omega) (show (1320 + 1) * powN u + 1 ≤ 10569 by omega)) (by omega)
    have r2 : rC (cpw (ca X) (powN v)) := rC_cz (ccan_pw _ _) (cz_mono (cz_pw zXa _) (show 1000 * powN v ≤ 8000 by omega) (show (1320 + 1) * powN v + 1 ≤ 10569 by omega)) (by omega)
    have r3 : rC (cpw (ca X) (powN (u + v))) := rC_cz (ccan_pw _ _) (cz_mono (cz_pw zXa _) (show 1000 * powN (u + v) ≤ 8000 by omega) (show (1320 + 1) * powN (u + v) + 1 ≤ 10569 by omega)) (by omega)
    have r8 : rC (cscl X 3) := rC_cz ⟨scl_n _ _, scl_n _ _⟩ (cz_scl x6 (by omega) (by omega)) (by omega)
    have e8 := eight_tms X
    have t8 := okT_c w_8
    dsimp only at t8
    cbv
    repeat' (first | with_reducible refine And.intro ?_ ?_ | (with_reducible refine safe_lift hA ?_; kernel_rfl) | (with_reducible refine loop_by (fun i st => (st.setT 9 (.int .i64 (J i))).setC 2 [.bool (ya i), .sl (yp i) (yc i), .int .i64 (yg i), .bool (yb i), .sl (yq i) (yd i), .int .i64 (yk i)]) 4 ?_ (fun i hi => HR i hi (fun n1 n2 n3 n4 n5 n6 n7 n8 n9 n10 n11 n12 n13 n14 n15 n16 n17 n18 n19 n20 n21 n22 => ?_) (fun l1 l2 l3 l4 => ?_)) <;> cbv) | (intro hc_; (first | (with_reducible exfalso; clear hQ; subst hF hA; first | (simp only [fnOf, find, std, reduceIte, Nat.reduceEqDiff, sp1, sp2, a1, a2, FnSpec.out, Shape.build, leafs, leafCells, tups, oneOf, List.cons_append, List.nil_append, List.length_cons, List.length_nil, s_GaussTurns, s_known8, s_fewC, s_uOf, s_uMul, s_uNorm, s_qEqual, s_vCplx, s_qNeg, s_uSame, s_uPow, s_uScale, s_qOf, s_uTimes, re4, rv_raw, rv_N0, dv, dz, dx, dcn, dm_raw, dm_N0, vI_N0, raw6_is, Prod.eta, vI_nil, N0_neg0, N0_ln0, N0_lm0, max_if8, min_if, tmI_idem, teI_idem, add_ca, sub_ca, mul_ca, neg_ca, norm_ca, ca_ca, ca_add, ca_sub, ca_mul, ca_neg, ca_conj, ca_scl, ca_tms, ca_pw, sg_tm, sameI_N0, reduceIte, Int.reduceNeg, Int.reduceEq, Int.reduceLT, Int.reduceLE, Int.reduceBEq, beq_dec, Int.reduceAdd, Int.zero_add, Int.add_zero, s_uOf, s_yEqual, eq_self, Bool.not_eq_eq_eq_not, decide_eq_true_eq, decide_eq_false_iff_not, not_true_eq_false, not_false_eq_true, decide_true, decide_false, Bool.true_and, Bool.and_true, Bool.not_true, Bool.not_false, beq_self_eq_true, Bool.true_eq_false, Bool.false_eq_true, reduceCtorEq, gt_iff_lt, ge_iff_le, true_and, and_true, and_self, Bool.false_eq, Bool.and_self, hfx, hX, hI, t_8, t_8e, e8, hu, hv, m1, m2, m3, m7, j0, a0, p0, c0, g0, b0, q0, d0, k0, n1, n2, n4, n6, n9, n10, n11, n12, n13, n14, n15, n16, n17, n18, n19] at hc_; done) | (simp only [fnOf, find, std, reduceIte, Nat.reduceEqDiff, sp1, sp2, a1, a2, FnSpec.out, Shape.build, leafs, leafCells, tups, oneOf, List.cons_append, List.nil_append, List.length_cons, List.length_nil, s_GaussTurns, s_known8, s_fewC, s_uOf, s_uMul, s_uNorm, s_qEqual, s_vCplx, s_qNeg, s_uSame, s_uPow, s_uScale, s_qOf, s_uTimes, re4, rv_raw, rv_N0, dv, dz, dx, dcn, dm_raw, dm_N0, vI_N0, raw6_is, Prod.eta, vI_nil, N0_neg0, N0_ln0, N0_lm0, max_if8, min_if, tmI_idem, teI_idem, add_ca, sub_ca, mul_ca, neg_ca, norm_ca, ca_ca, ca_add, ca_sub, ca_mul, ca_neg, ca_conj, ca_scl, ca_tms, ca_pw, sg_tm, sameI_N0, reduceIte, Int.reduceNeg, Int.reduceEq, Int.reduceLT, Int.reduceLE, Int.reduceBEq, beq_dec, Int.reduceAdd, Int.zero_add, Int.add_zero, s_uOf, s_yEqual, eq_self, Bool.not_eq_eq_eq_not, decide_eq_true_eq, decide_eq_false_iff_not, not_true_eq_false, not_false_eq_true, decide_true, decide_false, Bool.true_and, Bool.and_true, Bool.not_true, Bool.not_false, beq_self_eq_true, Bool.true_eq_false, Bool.false_eq_true, reduceCtorEq, gt_iff_lt, ge_iff_le, true_and, and_true, and_self, Bool.false_eq, Bool.and_self, hfx, hX, hI, t_8, t_8e, e8, hu, hv, m1, m2, m3, m7, j0, a0, p0, c0, g0, b0, q0, d0, k0, l1, l2, l4] at hc_; done) | (simp only [fnOf, find, std, reduceIte, Nat.reduceEqDiff, sp1, sp2, a1, a2, FnSpec.out, Shape.build, leafs, leafCells, tups, oneOf, List.cons_append, List.nil_append, List.length_cons, List.length_nil, s_GaussTurns, s_known8, s_fewC, s_uOf, s_uMul, s_uNorm, s_qEqual, s_vCplx, s_qNeg, s_uSame, s_uPow, s_uScale, s_qOf, s_uTimes, re4, rv_raw, rv_N0, dv, dz, dx, dcn, dm_raw, dm_N0, vI_N0, raw6_is, Prod.eta, vI_nil, N0_neg0, N0_ln0, N0_lm0, max_if8, min_if, tmI_idem, teI_idem, add_ca, sub_ca, mul_ca, neg_ca, norm_ca, ca_ca, ca_add, ca_sub, ca_mul, ca_neg, ca_conj, ca_scl, ca_tms, ca_pw, sg_tm, sameI_N0, reduceIte, Int.reduceNeg, Int.reduceEq, Int.reduceLT, Int.reduceLE, Int.reduceBEq, beq_dec, Int.reduceAdd, Int.zero_add, Int.add_zero, s_uOf, s_yEqual, eq_self, Bool.not_eq_eq_eq_not, decide_eq_true_eq, decide_eq_false_iff_not, not_true_eq_false, not_false_eq_true, decide_true, decide_false, Bool.true_and, Bool.and_true, Bool.not_true, Bool.not_false, beq_self_eq_true, Bool.true_eq_false, Bool.false_eq_true, reduceCtorEq, gt_iff_lt, ge_iff_le, true_and, and_true, and_self, Bool.false_eq, Bool.and_self, hfx, hX, hI, t_8, t_8e, e8, hu, hv, m1, m2, m3, m7, j0, a0, p0, c0, g0, b0, q0, d0, k0] at hc_; done)) | (clear hc_; cbv))))
    all_goals subst hF hA
    all_goals (try first | simp only [fnOf, find, std, reduceIte, Nat.reduceEqDiff, sp1, sp2, a1, a2, FnSpec.out, Shape.build, leafs, leafCells, tups, oneOf, List.cons_append, List.nil_append, List.length_cons, List.length_nil, s_GaussTurns, s_known8, s_fewC, s_uOf, s_uMul, s_uNorm, s_qEqual, s_vCplx, s_qNeg, s_uSame, s_uPow, s_uScale, s_qOf, s_uTimes, re4, rv_raw, rv_N0, dv, dz, dx, dcn, dm_raw, dm_N0, vI_N0, raw6_is, Prod.eta, vI_nil, N0_neg0, N0_ln0, N0_lm0, max_if8, min_if, tmI_idem, teI_idem, add_ca, sub_ca, mul_ca, neg_ca, norm_ca, ca_ca, ca_add, ca_sub, ca_mul, ca_neg, ca_conj, ca_scl, ca_tms, ca_pw, sg_tm, sameI_N0, reduceIte, Int.reduceNeg, Int.reduceEq, Int.reduceLT, Int.reduceLE, Int.reduceBEq, beq_dec, Int.reduceAdd, Int.zero_add, Int.add_zero, s_uOf, s_yEqual, eq_self, Bool.not_eq_eq_eq_not, decide_eq_true_eq, decide_eq_false_iff_not, not_true_eq_false, not_false_eq_true, decide_true, decide_false, Bool.true_and, Bool.and_true, Bool.not_true, Bool.not_false, beq_self_eq_true, Bool.true_eq_false, Bool.false_eq_true, reduceCtorEq, gt_iff_lt, ge_iff_le, true_and, and_true, and_self, Bool.false_eq, Bool.and_self, hfx, hX, hI, t_8, t_8e, e8, hu, hv, m1, m2, m3, m7, j0, a0, p0, c0, g0, b0, q0, d0, k0, n1, n2, n4, n6, n9, n10, n11, n12, n13, n14, n15, n16, n17, n18, n19] at hQ ⊢ | simp only [fnOf, find, std, reduceIte, Nat.reduceEqDiff, sp1, sp2, a1, a2, FnSpec.out, Shape.build, leafs, leafCells, tups, oneOf, List.cons_append, List.nil_append, List.length_cons, List.length_nil, s_GaussTurns, s_known8, s_fewC, s_uOf, s_uMul, s_uNorm, s_qEqual, s_vCplx, s_qNeg, s_uSame, s_uPow, s_uScale, s_qOf, s_uTimes, re4, rv_raw, rv_N0, dv, dz, dx, dcn, dm_raw, dm_N0, vI_N0, raw6_is, Prod.eta, vI_nil, N0_neg0, N0_ln0, N0_lm0, max_if8, min_if, tmI_idem, teI_idem, add_ca, sub_ca, mul_ca, neg_ca, norm_ca, ca_ca, ca_add, ca_sub, ca_mul, ca_neg, ca_conj, ca_scl, ca_tms, ca_pw, sg_tm, sameI_N0, reduceIte, Int.reduceNeg, Int.reduceEq, Int.reduceLT, Int.reduceLE, Int.reduceBEq, beq_dec, Int.reduceAdd, Int.zero_add, Int.add_zero, s_uOf, s_yEqual, eq_self, Bool.not_eq_eq_eq_not, decide_eq_true_eq, decide_eq_false_iff_not, not_true_eq_false, not_false_eq_true, decide_true, decide_false, Bool.true_and, Bool.and_true, Bool.not_true, Bool.not_false, beq_self_eq_true, Bool.true_eq_false, Bool.false_eq_true, reduceCtorEq, gt_iff_lt, ge_iff_le, true_and, and_true, and_self, Bool.false_eq, Bool.and_self, hfx, hX, hI, t_8, t_8e, e8, hu, hv, m1, m2, m3, m7, j0, a0, p0, c0, g0, b0, q0, d0, k0, l1, l2, l4] at hQ ⊢ | simp only [fnOf, find, std, reduceIte, Nat.reduceEqDiff, sp1, sp2, a1, a2, FnSpec.out, Shape.build, leafs, leafCells, tups, oneOf, List.cons_append, List.nil_append, List.length_cons, List.length_nil, s_GaussTurns, s_known8, s_fewC, s_uOf, s_uMul, s_uNorm, s_qEqual, s_vCplx, s_qNeg, s_uSame, s_uPow, s_uScale, s_qOf, s_uTimes, re4, rv_raw, rv_N0, dv, dz, dx, dcn, dm_raw, dm_N0, vI_N0, raw6_is, Prod.eta, vI_nil, N0_neg0, N0_ln0, N0_lm0, max_if8, min_if, tmI_idem, teI_idem, add_ca, sub_ca, mul_ca, neg_ca, norm_ca, ca_ca, ca_add, ca_sub, ca_mul, ca_neg, ca_conj, ca_scl, ca_tms, ca_pw, sg_tm, sameI_N0, reduceIte, Int.reduceNeg, Int.reduceEq, Int.reduceLT, Int.reduceLE, Int.reduceBEq, beq_dec, Int.reduceAdd, Int.zero_add, Int.add_zero, s_uOf, s_yEqual, eq_self, Bool.not_eq_eq_eq_not, decide_eq_true_eq, decide_eq_false_iff_not, not_true_eq_false, not_false_eq_true, decide_true, decide_false, Bool.true_and, Bool.and_true, Bool.not_true, Bool.not_false, beq_self_eq_true, Bool.true_eq_false, Bool.false_eq_true, reduceCtorEq, gt_iff_lt, ge_iff_le, true_and, and_true, and_self, Bool.false_eq, Bool.and_self, hfx, hX, hI, t_8, t_8e, e8, hu, hv, m1, m2, m3, m7, j0, a0, p0, c0, g0, b0, q0, d0, k0] at hQ ⊢)
    all_goals (repeat' (first
      | with_reducible exact hQ
      | with_reducible assumption
      | with_reducible exact isi_int _ _
      | (with_reducible refine canR_c (r := ((_, _), (_, _))) ?_; with_reducible assumption)
      | (with_reducible refine okR_c (r := ((_, _), (_, _))) ?_; with_reducible assumption)
      | (with_reducible refine okM_fR (r := ((_, _), (_, _))) ?_; with_reducible assumption)
      | (with_reducible refine few20_fR (r := ((_, _), (_, _))) ?_; with_reducible assumption)
      | (with_reducible refine few30_fR (r := ((_, _), (_, _))) ?_; with_reducible assumption)
      | with_reducible exact True.intro
      | with_reducible exact powN_min8 _
      | (with_reducible refine few40_fR (r := ((_, _), (_, _))) ?_; with_reducible assumption)
      | (with_reducible refine canD_c (a := (_, _)) ?_; with_reducible assumption)
      | (with_reducible refine okT_c (a := (_, _)) ?_; with_reducible assumption)
      | (with_reducible refine okD_c (a := (_, _)) ?_; with_reducible assumption)
      | (with_reducible refine near_c (a := (_, _)) (b := (_, _)) ?_ ?_ <;> with_reducible assumption)
      | (with_reducible refine okE_fit ?_ (k := 10000) (by omega); with_reducible assumption)
      | with_reducible refine okX_mk ?_ ?_ ?_ ?_
      | with_reducible refine okW_mk ?_ ?_ ?_
      | with_reducible refine okE_mk ?_
      | with_reducible refine okI_mk ?_
      | with_reducible refine okD_mk ?_ ?_ ?_
      | (with_reducible refine near_mk ?_ ?_; (focus omega); (focus omega))
      | omega
      | with_reducible refine And.intro ?_ ?_))
    all_goals exact n3
  · have hfx : (((n ≤ 10 ∧ -1000 ≤ e ∧ e ≤ 1000) ∧ m ≤ 10 ∧ -1000 ≤ f ∧ f ≤ 1000)) = False := eq_false kx
    cbv
    repeat' (first | with_reducible refine And.intro ?_ ?_ | (with_reducible refine safe_lift hA ?_; kernel_rfl) | (intro hc_; (first | (with_reducible exfalso; clear hQ; subst hF hA; first | (simp only [fnOf, find, std, reduceIte, Nat.reduceEqDiff, sp1, sp2, a1, a2, FnSpec.out, Shape.build, leafs, leafCells, tups, oneOf, List.cons_append, List.nil_append, List.length_cons, List.length_nil, s_GaussTurns, s_known8, s_fewC, s_uOf, s_uMul, s_uNorm, s_qEqual, s_vCplx, s_qNeg, s_uSame, s_uPow, s_uScale, s_qOf, s_uTimes, re4, rv_raw, rv_N0, dv, dz, dx, dcn, dm_raw, dm_N0, vI_N0, raw6_is, Prod.eta, vI_nil, N0_neg0, N0_ln0, N0_lm0, max_if8, min_if, tmI_idem, teI_idem, add_ca, sub_ca, mul_ca, neg_ca, norm_ca, ca_ca, ca_add, ca_sub, ca_mul, ca_neg, ca_conj, ca_scl, ca_tms, ca_pw, sg_tm, sameI_N0, reduceIte, Int.reduceNeg, Int.reduceEq, Int.reduceLT, Int.reduceLE, Int.reduceBEq, beq_dec, Int.reduceAdd, Int.zero_add, Int.add_zero, s_uOf, s_yEqual, eq_self, Bool.not_eq_eq_eq_not, decide_eq_true_eq, decide_eq_false_iff_not, not_true_eq_false, not_false_eq_true, decide_true, decide_false, Bool.true_and, Bool.and_true, Bool.not_true, Bool.not_false, beq_self_eq_true, Bool.true_eq_false, Bool.false_eq_true, reduceCtorEq, gt_iff_lt, ge_iff_le, true_and, and_true, and_self, Bool.false_eq, Bool.and_self, hfx] at hc_; done)) | (clear hc_; cbv))))
    all_goals subst hF hA
    all_goals (try first | simp only [fnOf, find, std, reduceIte, Nat.reduceEqDiff, sp1, sp2, a1, a2, FnSpec.out, Shape.build, leafs, leafCells, tups, oneOf, List.cons_append, List.nil_append, List.length_cons, List.length_nil, s_GaussTurns, s_known8, s_fewC, s_uOf, s_uMul, s_uNorm, s_qEqual, s_vCplx, s_qNeg, s_uSame, s_uPow, s_uScale, s_qOf, s_uTimes, re4, rv_raw, rv_N0, dv, dz, dx, dcn, dm_raw, dm_N0, vI_N0, raw6_is, Prod.eta, vI_nil, N0_neg0, N0_ln0, N0_lm0, max_if8, min_if, tmI_idem, teI_idem, add_ca, sub_ca, mul_ca, neg_ca, norm_ca, ca_ca, ca_add, ca_sub, ca_mul, ca_neg, ca_conj, ca_scl, ca_tms, ca_pw, sg_tm, sameI_N0, reduceIte, Int.reduceNeg, Int.reduceEq, Int.reduceLT, Int.reduceLE, Int.reduceBEq, beq_dec, Int.reduceAdd, Int.zero_add, Int.add_zero, s_uOf, s_yEqual, eq_self, Bool.not_eq_eq_eq_not, decide_eq_true_eq, decide_eq_false_iff_not, not_true_eq_false, not_false_eq_true, decide_true, decide_false, Bool.true_and, Bool.and_true, Bool.not_true, Bool.not_false, beq_self_eq_true, Bool.true_eq_false, Bool.false_eq_true, reduceCtorEq, gt_iff_lt, ge_iff_le, true_and, and_true, and_self, Bool.false_eq, Bool.and_self, hfx] at hQ ⊢)
    all_goals (repeat' (first
      | with_reducible exact hQ
      | with_reducible assumption
      | with_reducible exact isi_int _ _
      | (with_reducible refine canR_c (r := ((_, _), (_, _))) ?_; with_reducible assumption)
      | (with_reducible refine okR_c (r := ((_, _), (_, _))) ?_; with_reducible assumption)
      | (with_reducible refine okM_fR (r := ((_, _), (_, _))) ?_; with_reducible assumption)
      | (with_reducible refine few20_fR (r := ((_, _), (_, _))) ?_; with_reducible assumption)
      | (with_reducible refine few30_fR (r := ((_, _), (_, _))) ?_; with_reducible assumption)
      | with_reducible exact True.intro
      | with_reducible exact powN_min8 _
      | (with_reducible refine few40_fR (r := ((_, _), (_, _))) ?_; with_reducible assumption)
      | (with_reducible refine canD_c (a := (_, _)) ?_; with_reducible assumption)
      | (with_reducible refine okT_c (a := (_, _)) ?_; with_reducible assumption)
      | (with_reducible refine okD_c (a := (_, _)) ?_; with_reducible assumption)
      | (with_reducible refine near_c (a := (_, _)) (b := (_, _)) ?_ ?_ <;> with_reducible assumption)
      | (with_reducible refine okE_fit ?_ (k := 10000) (by omega); with_reducible assumption)
      | with_reducible refine okX_mk ?_ ?_ ?_ ?_
      | with_reducible refine okW_mk ?_ ?_ ?_
      | with_reducible refine okE_mk ?_
      | with_reducible refine okI_mk ?_
      | with_reducible refine okD_mk ?_ ?_ ?_
      | (with_reducible refine near_mk ?_ ?_; (focus omega); (focus omega))
      | omega
      | with_reducible refine And.intro ?_ ?_))
end Go.Proofs.YtcamkbphognoaaaGreatDoor.Ev
