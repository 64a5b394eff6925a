/- The laws of quotients: few, known. -/
import Derived.Test.YtbamplgleeofhaaDoorXh
namespace Go.Proofs.YtbamplgleeofhaaDoor.Ev
open Go Go.RowKit
set_option linter.unusedSimpArgs false
set_option linter.unusedVariables false
theorem kd1 : qE 1 0 3 0 2 = -3 := by decide
theorem kd2 : qm 1 0 3 0 (-3) 0 = 2 := by decide
theorem kq1 : rE 1 1 3 = -2 := by decide
theorem rt32 : rt 32 = 5 := rt_unique (by decide) (by decide)
theorem kq2 : qr 1 1 (-2) 1 = 6 := by
  unfold qr qrM
  rw [if_neg (by decide), show Int.natAbs 1 * 2 ^ (1 - 2 * (-2 : Int)).toNat = 32 by decide, show (2 : Nat) ^ (2 * (-2) - (1 : Int)).toNat = 1 by decide, Nat.div_one, rt32]
  decide
theorem km1 : min (max (-1 : Int) (-20000)) 20000 = -1 := by decide
theorem k2n : tmI (-2) = -1 := tmI_is (k := 1) (by decide) (by decide) (by decide)
theorem k2ne (e : Int) : teI (-2) e = e + 1 := teI_is (c := -1) (k := 1) (by decide) (by decide) (by decide)
def s_few6 : FnSpec := s_few
def s_known6 : FnSpec := ⟨.one .b, fun ds => ds = [], fun _ _ => 0, fun _ _ => true, fun _ _ => 0, fun _ _ => []⟩
theorem canD_1 : canD (.agg [.bool (N0.neg 1), .sl (N0.ln 1) (N0.lm 1), .int .i64 0]) := canD_mk k1 (k1e 0) fit_1 (by decide) (by decide)
theorem fit_3 : Fit 3 32000 := (show Fit 3 2 by unfold Fit; decide).mono (by omega)
theorem canD_3 : canD (.agg [.bool (N0.neg 3), .sl (N0.ln 3) (N0.lm 3), .int .i64 0]) := canD_mk k3 (k3e 0) fit_3 (by decide) (by decide)
def s_QuotNear : FnSpec := ⟨.one .b, fun ds => match ds with | [x, y, .int .u8 a, .int .u8 b] => okW x ∧ okW y ∧ (0 ≤ a ∧ a ≤ 255) ∧ 0 ≤ b ∧ b ≤ 255 | _ => False, fun _ _ => 0, fun _ _ => true, fun _ _ => 0, fun _ _ => []⟩
theorem near6_arg {ds : List D} (h : s_QuotNear.p ds) : ∃ x y a b, ds = [x, y, .int .u8 a, .int .u8 b] ∧ okW x ∧ okW y ∧ (0 ≤ a ∧ a ≤ 255) ∧ 0 ≤ b ∧ b ≤ 255 := by
  unfold s_QuotNear at h
  dsimp only at h
  split at h
  · exact ⟨_, _, _, _, rfl, h⟩
  · exact h.elim
def s_QuotThirds : FnSpec := ⟨.one .b, fun ds => match ds with | [.int .i8 n, .int .u8 b] => (-128 ≤ n ∧ n ≤ 127) ∧ 0 ≤ b ∧ b ≤ 255 | _ => False, fun _ _ => 0, fun _ _ => true, fun _ _ => 0, fun _ _ => []⟩
theorem thirds6_arg {ds : List D} (h : s_QuotThirds.p ds) : ∃ n b, ds = [.int .i8 n, .int .u8 b] ∧ (-128 ≤ n ∧ n ≤ 127) ∧ 0 ≤ b ∧ b ≤ 255 := by
  unfold s_QuotThirds at h
  dsimp only at h
  split at h
  · exact ⟨_, _, rfl, h⟩
  · exact h.elim
def s_QuotExact : FnSpec := ⟨.one .b, fun ds => match ds with | [x, y] => okW x ∧ okW y | _ => False, fun _ _ => 0, fun _ _ => true, fun _ _ => 0, fun _ _ => []⟩
theorem exact6_arg {ds : List D} (h : s_QuotExact.p ds) : ∃ x y, ds = [x, y] ∧ okW x ∧ okW y := by
  match ds, h with
  | [x, y], h => exact ⟨x, y, rfl, h⟩
def s_QuotSides : FnSpec := ⟨.one .b, fun ds => match ds with | [x, y, .int .u8 b] => okW x ∧ okW y ∧ 0 ≤ b ∧ b ≤ 255 | _ => False, fun _ _ => 0, fun _ _ => true, fun _ _ => 0, fun _ _ => []⟩
theorem sides6_arg {ds : List D} (h : s_QuotSides.p ds) : ∃ x y b, ds = [x, y, .int .u8 b] ∧ okW x ∧ okW y ∧ 0 ≤ b ∧ b ≤ 255 := by
  unfold s_QuotSides at h
  dsimp only at h
  split at h
  · exact ⟨_, _, _, rfl, h⟩
  · exact h.elim
def s_QuotTells : FnSpec := ⟨.one .b, fun ds => match ds with | [x, y, .int .i64 _, .int .i64 _] => okW x ∧ okW y | _ => False, fun _ _ => 0, fun _ _ => true, fun _ _ => 0, fun _ _ => []⟩
theorem tells6_arg {ds : List D} (h : s_QuotTells.p ds) : ∃ x y p k, ds = [x, y, .int .i64 p, .int .i64 k] ∧ okW x ∧ okW y := by
  unfold s_QuotTells at h
  dsimp only at h
  split at h
  · exact ⟨_, _, _, _, rfl, h⟩
  · exact h.elim
theorem near6 {X e Y f p q : Int} (hY : Y ≠ 0) (fX : Fit X 640) (fY : Fit Y 640) (h1 : -2000 ≤ e) (h2 : e ≤ 2000) (h3 : -2000 ≤ f) (h4 : f ≤ 2000) (hp : 1 ≤ p) (hpq : p ≤ q) (hq : q ≤ 400) :
    cmpD (qm X e Y f (qE X e Y f p) 0) (qE X e Y f p) (qm X e Y f (qE X e Y f q) 0) (qE X e Y f q) ≤ 0 ∧
    cmpD (qm X e Y f (qE X e Y f q) 0) (qE X e Y f q) (qm X e Y f (qE X e Y f q) 1) (qE X e Y f q) ≤ 0 ∧
    cmpD (qm X e Y f (qE X e Y f q) 1) (qE X e Y f q) (qm X e Y f (qE X e Y f p) 1) (qE X e Y f p) ≤ 0 := by
  have ht := topD_in fX fY h1 h2 h3 h4
  rw [qE_is (p := p) hp (by omega) (by omega) (by omega), qE_is (p := q) (by omega) (by omega) (by omega) (by omega)]
  exact qm_near hY (by omega)
/-- where a quotient of few bits lies. -/
theorem qm_few {X e Y f p : Int} (hY : Y ≠ 0) (fX : Fit X 640) (fY : Fit Y 640) (h1 : -2000 ≤ e) (h2 : e ≤ 2000) (h3 : -2000 ≤ f) (h4 : f ≤ 2000) (hp : 1 ≤ p) (hq : p ≤ 400) (md : Int) :
    Fit (qm X e Y f (qE X e Y f p) md) 401 ∧ -5100 ≤ qE X e Y f p ∧ qE X e Y f p ≤ 4700 ∧ -5100 ≤ teI (qm X e Y f (qE X e Y f p) md) (qE X e Y f p) ∧ teI (qm X e Y f (qE X e Y f p) md) (qE X e Y f p) ≤ 5101 ∧ fitsB (qm X e Y f (qE X e Y f p) md) (qE X e Y f p) p = true := by
  have ht := topD_in fX fY h1 h2 h3 h4
  have hE := qE_is (X := X) (e := e) (Y := Y) (f := f) hp (by omega) (by omega) (by omega)
  have hl := qm_le (X := X) (e := e) (f := f) p hY hp md
  rw [← hE] at hl
  have hf : Fit (qm X e Y f (qE X e Y f p) md) 401 := (fit_le hl).mono (by omega)
  have b := te_in (a := -5100) (b := 4700) (c := 5101) hf (e := qE X e Y f p) (by omega) (by omega) (by omega) (by omega) (by decide)
  exact ⟨hf, by omega, by omega, b.1, b.2, fits_of_le hp (by omega) hl (by omega) (by omega)⟩
theorem pow3 (k : Nat) : (2 : Int) ^ k % 3 = 1 ∨ (2 : Int) ^ k % 3 = 2 := by
  induction k with
  | zero => left; rfl
  | succ k ih => rw [Int.pow_succ]; omega
theorem topQ13 : topQ 1 3 = -2 := by decide
theorem thirds6 {n P E : Int} (h1 : 1 ≤ P) (h2 : P ≤ 60) (h3 : -128 ≤ n) (h4 : n ≤ 127) (hE : E = n - P - 1) : qE 1 n 3 0 P = E ∧ ∃ L : Int, 0 ≤ L ∧ L ≤ 1000000000000000000000 ∧ qm 1 n 3 0 E 0 = L ∧ qm 1 n 3 0 E 1 = L + 1 ∧
    ((addM 1 n (-(L * 3)) E = 1 ∧ addM ((L + 1) * 3) E (-1) n = 2) ∨ (addM 1 n (-(L * 3)) E = 2 ∧ addM ((L + 1) * 3) E (-1) n = 1)) := by
  constructor
  · unfold qE topD clampE
    rw [show Int.natAbs 1 = 1 from rfl, show Int.natAbs 3 = 3 from rfl, topQ13]
    omega
  · have hp := pow3 (P + 1).toNat
    have e1 : ∀ md, qm 1 n 3 0 E md = rd (sideI md) (2 ^ (P + 1).toNat) 3 := fun md => by
      unfold qm
      rw [show n - 0 - E = P + 1 by omega, show (0 + E - n).toNat = 0 by omega]
      congr 1
      rw [show (1 : Int) * sg 3 = 1 by decide, Int.one_mul]
    have hb : (2 : Int) ^ (P + 1).toNat ≤ 2 ^ 61 := by
      rw [← pow2_cast, ← pow2_cast]
      exact Int.ofNat_le.2 (Nat.pow_le_pow_right (by decide) (by omega))
    have hb0 := pow_pos' (P + 1).toNat
    have a1 : ∀ L : Int, addM 1 n (-(L * 3)) E = 2 ^ (P + 1).toNat - L * 3 := fun L => by
      unfold addM
      rw [show n - min n E = P + 1 by omega, show (E - min n E).toNat = 0 by omega]
      omega
    have a2 : ∀ L : Int, addM (L * 3) E (-1) n = L * 3 - 2 ^ (P + 1).toNat := fun L => by
      unfold addM
      rw [show n - min E n = P + 1 by omega, show (E - min E n).toNat = 0 by omega]
      omega
    obtain ⟨T, hT⟩ : ∃ T, T = (2 : Int) ^ (P + 1).toNat := ⟨_, rfl⟩
    simp only [← hT] at *
    have hb2 : T ≤ 2305843009213693952 := hb
    refine ⟨T / 3, by omega, by omega, ?_, ?_, ?_⟩
    · rw [e1]; exact if_pos rfl
    · rw [e1]
      show rd 1 T 3 = T / 3 + 1
      rw [rd_up (by decide), if_neg (by omega)]
      rfl
    · rw [a1, a2]
      omega
theorem km1p : min (max (1 : Int) (-20000)) 20000 = 1 := by decide
theorem sg_1 : sg 1 = 1 := rfl
theorem fit_small2 {z : Int} (h1 : -1000000000000000000000000 ≤ z) (h2 : z ≤ 1000000000000000000000000) : Fit z 200 := by
  unfold Fit
  have : (1000000000000000000000000 : Nat) < 2 ^ 200 := by decide
  omega
theorem teI_mulL0 (a b e : Int) : teI (tmI a * b) (teI a e) = teI (a * b) e := by
  have := teI_mulL a b e 0
  rwa [Int.add_zero, Int.add_zero] at this
set_option maxRecDepth 100000 in
set_option maxHeartbeats 2000000 in
theorem good_few6 : Good Tryd.prog (GWL [0, 1]) N0 8 s_few6 := by
  refine goodL (l := [0, 1]) (tab := []) (shs := []) rfl trivial Tryd.f8 (by kernel_rfl) (by kernel_rfl) (by kernel_rfl) (fun ds hp F A Q hF hA hQ => ⟨0, ?_⟩)
  obtain ⟨x, rfl, hx⟩ := sp1_arg hp
  obtain ⟨s, n, cs, e, rfl, hw, hr1, hr2⟩ := okW_arg hx
  clear hp hx
  cbv
  repeat' (first | with_reducible refine And.intro ?_ ?_ | (with_reducible refine safe_lift hA ?_; kernel_rfl) | (intro hc_; cbv))
  all_goals (repeat (rw [safe_true hA, true_and]; rotate_left; kernel_rfl))
  all_goals subst hF hA
  all_goals simp only [fnOf, find, std, reduceIte, Nat.reduceEqDiff, sp1, sp2, a1, a2, FnSpec.out, Shape.build, leafs, leafCells, tups, oneOf, List.cons_append, List.nil_append, List.length_cons, List.length_nil, s_few6, s_few, dx, dcn] at *
  case refine_1.refine_1 => rename_i h; exact Post.b hQ (few1 h hc_)
  case refine_1.refine_2 => exact Post.b hQ (few2 (.inr (of_decide_eq_false hc_)))
  case refine_2 => exact Post.b hQ (few2 (.inl (of_decide_eq_false hc_)))
set_option maxRecDepth 100000 in
set_option maxHeartbeats 2000000 in
theorem good_known6 : Good Tryd.prog (GWL [0, 1]) N0 7 s_known6 := by
  refine goodL (l := [0, 1]) (tab := [(20, s_qOf), (10, s_kDiv), (19, s_qScale), (14, s_dSame), (16, s_kSqrt)]) (shs := [(20, .agg [.I, .i .i64]), (10, .tup [(true, [.I, .i .i64]), (false, [.i .i64])]), (19, .agg [.I, .i .i64]), (14, .one .b), (16, .tup [(true, [.I, .i .i64]), (false, [.i .i64])])]) rfl ⟨good_qOf, good_kDiv, good_qScale, good_dSame, good_kSqrt, trivial⟩ Tryd.f7 (by kernel_rfl) (by kernel_rfl) (by kernel_rfl) (fun ds hp F A Q hF hA hQ => ⟨0, ?_⟩)
  have hp : ds = [] := hp
  subst hp
  cbv
  repeat' (first | with_reducible refine And.intro ?_ ?_ | (with_reducible refine safe_lift hA ?_; kernel_rfl) | (intro hc_; cbv))
  all_goals (repeat (rw [safe_true hA, true_and]; rotate_left; kernel_rfl))
  all_goals subst hF hA
  all_goals simp only [fnOf, find, std, reduceIte, Nat.reduceEqDiff, sp1, sp2, a1, a2, FnSpec.out, Shape.build, leafs, leafCells, tups, oneOf, List.cons_append, List.nil_append, List.length_cons, List.length_nil, s_known6, s_qOf, s_kDiv, s_qScale, s_dSame, s_kSqrt, dm_N0, dm_raw, dz, dx, dcn, vI_N0, vI_nil, smD, k1, k1e, k2, k2e, k3, k3e, k6, k6e, k2n, k2ne, kd1, kd2, kq1, kq2, km1, kmm2, cmpD_self, Int.reduceLT, Int.reduceEq, Int.reduceNeg, Int.reduceAdd, reduceIte, Int.zero_add, Int.reduceBEq] at *
  all_goals try (exfalso; revert hc_; decide)
  all_goals try (repeat' (first | exact canD_1 | exact canD_3 | exact okC_small (by decide) | exact okC_nil | exact Nat.le_trans (ln_small (by decide)) (by decide) | exact fun _ _ => ⟨by decide, by decide⟩ | exact rfl | decide | refine And.intro ?_ ?_))
  all_goals first
    | exact Post.b hQ (by decide)
    | (exfalso; simp at *; done)
    | (exfalso; simp_all; done)
    | trace_state
end Go.Proofs.YtbamplgleeofhaaDoor.Ev
