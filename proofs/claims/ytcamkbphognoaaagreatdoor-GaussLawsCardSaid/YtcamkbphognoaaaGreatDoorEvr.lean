/- The document's numbers with a sign, and its dyads. -/
import Derived.Test.YtcamkbphognoaaaGreatDoorEve
namespace Go.Proofs.YtcamkbphognoaaaGreatDoor.Ev
open Go Go.RowKit
set_option linter.unusedSimpArgs false
set_option linter.unusedVariables false
theorem vL_N0n (z : Int) : (vL (N0.lm z)).toNat = z.natAbs := by rw [vL_N0]; rfl
theorem vI_mk (s : Bool) (z : Int) : vI s (N0.lm z) = sgn s z.natAbs := by
  unfold vI N0
  dsimp only
  rw [nums_u32s, val_lim]
theorem sgn_neg (z : Int) : sgn (N0.neg z) z.natAbs = z := sgn_of z
theorem neg_N0 (z : Int) : N0.neg z = decide (z < 0) := rfl
theorem fit_nat {n k : Nat} (h : n < 2 ^ k) : Fit (n : Int) k := h
def sameI (x y : D) : Bool := (dcs x).1 == (dcs y).1 && decide ((dcs x).2 = (dcs y).2)
theorem sameI_N0 (a b : Int) (r r' : List D) : sameI (.agg (.bool (N0.neg a) :: .sl (N0.ln a) (N0.lm a) :: r)) (.agg (.bool (N0.neg b) :: .sl (N0.ln b) (N0.lm b) :: r')) = decide (a = b) := by
  unfold sameI
  simp only [dcs]
  rw [Bool.eq_iff_iff]
  rw [Bool.and_eq_true, beq_iff_eq, decide_eq_true_eq]
  constructor
  · rintro ⟨h1, h2⟩
    have h3 := vI_N0 a
    have h4 := vI_N0 b
    unfold vI at h3 h4
    rw [← h3, ← h4, h1, of_decide_eq_true h2]
  · rintro rfl; exact ⟨rfl, decide_eq_true rfl⟩
def s_rSameI : FnSpec := sp2 (.one .b) (fun x y => okI x ∧ okI y) (fun _ _ _ => 0) (fun x y _ => sameI x y)
def s_rShlI : FnSpec := sp2 (.agg [.I]) (fun x y => okI x ∧ isi .i64 y ∧ dcn x ≤ 90000 ∧ dz y ≤ 200000) (fun x y _ => dm x * 2 ^ heldN (dz y)) (fun _ _ _ => false)
def s_rAddI : FnSpec := sp2 (.agg [.I]) (fun x y => okI x ∧ okI y ∧ dcn x ≤ 90000 ∧ dcn y ≤ 90000) (fun x y _ => dm x + dm y) (fun _ _ _ => false)
def s_rMulI : FnSpec := sp2 (.agg [.I]) (fun x y => okI x ∧ okI y ∧ dcn x ≤ 45000 ∧ dcn y ≤ 45000) (fun x y _ => dm x * dm y) (fun _ _ _ => false)
theorem Post.I {Q : Post} {m m' : Int} (h : Q.R (.agg [.bool (N0.neg m), .sl (N0.ln m) (N0.lm m)])) (hm : m = m') : Q.R (.agg [.bool (N0.neg m'), .sl (N0.ln m') (N0.lm m')]) := by
  subst hm; exact h
theorem sgn_cases (z : Int) (n : Nat) : (z < 0 ∧ sgn (N0.neg z) n = -(n : Int)) ∨ (0 ≤ z ∧ sgn (N0.neg z) n = n) := by
  by_cases h : z < 0
  · exact .inl ⟨h, by rw [neg_N0, decide_eq_true h]; rfl⟩
  · exact .inr ⟨by omega, by rw [neg_N0, decide_eq_false h]; rfl⟩
theorem sgn_mulI (X Y : Int) : sgn (!(N0.neg X == N0.neg Y)) (X.natAbs * Y.natAbs) = X * Y := by
  rw [← Int.natAbs_mul, neg_N0, neg_N0]
  rcases Int.lt_or_le X 0 with h | h <;> rcases Int.lt_or_le Y 0 with h' | h'
  · rw [decide_eq_true h, decide_eq_true h']
    exact Int.natAbs_of_nonneg (Int.le_of_lt (Int.mul_pos_of_neg_of_neg h h'))
  · rw [decide_eq_true h, decide_eq_false (by omega)]
    have := Int.mul_nonpos_of_nonpos_of_nonneg (Int.le_of_lt h) h'
    show -((X * Y).natAbs : Int) = X * Y
    omega
  · rw [decide_eq_false (by omega), decide_eq_true h']
    have := Int.mul_nonpos_of_nonneg_of_nonpos h (Int.le_of_lt h')
    show -((X * Y).natAbs : Int) = X * Y
    omega
  · rw [decide_eq_false (by omega), decide_eq_false (by omega)]
    exact Int.natAbs_of_nonneg (Int.mul_nonneg h h')
theorem fit_addI {X Y : Int} {n m : Nat} (h : Fit X (32 * n)) (h' : Fit Y (32 * m)) : Fit ((X.natAbs + Y.natAbs : Nat) : Int) (32 * max n m + 1) := by
  have h1 := h.mono (show 32 * n ≤ 32 * max n m by omega)
  have h2 := h'.mono (show 32 * m ≤ 32 * max n m by omega)
  unfold Fit at *
  rw [Int.natAbs_natCast, Nat.pow_succ]
  omega
theorem sgn_addI {X Y : Int} (h : (N0.neg X == N0.neg Y) = true) : sgn (N0.neg X) (X.natAbs + Y.natAbs) = X + Y := by
  rw [neg_N0, neg_N0, beq_iff_eq] at h
  rcases sgn_cases X (X.natAbs + Y.natAbs) with ⟨h1, h2⟩ | ⟨h1, h2⟩ <;> rw [h2]
  · have : Y < 0 := of_decide_eq_true (by rw [← h]; exact decide_eq_true h1)
    omega
  · have : ¬ Y < 0 := of_decide_eq_false (by rw [← h]; exact decide_eq_false (by omega))
    omega
theorem sgn_vI (s : Bool) (cs : List D) : sgn s (vI s cs).natAbs = vI s cs := by
  unfold vI; rw [sgn_natAbs]
theorem fit_subI {X : Int} {n a : Nat} (h : Fit X n) : Fit ((X.natAbs - a : Nat) : Int) n := by
  unfold Fit at *
  rw [Int.natAbs_natCast]
  omega
theorem neg_ne {X Y : Int} (h : (N0.neg X == N0.neg Y) = false) : (X < 0 ∧ 0 ≤ Y) ∨ (0 ≤ X ∧ Y < 0) := by
  rw [neg_N0, neg_N0] at h
  rcases Int.lt_or_le X 0 with h1 | h1 <;> rcases Int.lt_or_le Y 0 with h2 | h2
  · rw [decide_eq_true h1, decide_eq_true h2] at h; cases h
  · exact .inl ⟨h1, h2⟩
  · exact .inr ⟨h1, h2⟩
  · rw [decide_eq_false (by omega), decide_eq_false (by omega)] at h; cases h
theorem sgn_subI {X Y : Int} (h : (N0.neg X == N0.neg Y) = false) (h' : decide (Y.natAbs ≤ X.natAbs) = true) : sgn (N0.neg X) (X.natAbs - Y.natAbs) = X + Y := by
  have h3 := of_decide_eq_true h'
  have h4 := neg_ne h
  rcases sgn_cases X (X.natAbs - Y.natAbs) with ⟨h1, h2⟩ | ⟨h1, h2⟩ <;> rw [h2] <;> omega
theorem sgn_subI' {X Y : Int} (h : (N0.neg X == N0.neg Y) = false) (h' : decide (Y.natAbs ≤ X.natAbs) = false) : sgn (N0.neg Y) (Y.natAbs - X.natAbs) = X + Y := by
  have h3 := of_decide_eq_false h'
  have h4 := neg_ne h
  rcases sgn_cases Y (Y.natAbs - X.natAbs) with ⟨h1, h2⟩ | ⟨h1, h2⟩ <;> rw [h2] <;> omega
theorem Post.T {Q : Post} {a b a' b' : Int} (h : Q.R (.tup [.agg [.bool (N0.neg a), .sl (N0.ln a) (N0.lm a)], .agg [.bool (N0.neg b), .sl (N0.ln b) (N0.lm b)], .bool true])) (h1 : a = a' ∧ b = b') : Q.R (.tup [.agg [.bool (N0.neg a'), .sl (N0.ln a') (N0.lm a')], .agg [.bool (N0.neg b'), .sl (N0.ln b') (N0.lm b')], .bool true]) := by
  obtain ⟨rfl, rfl⟩ := h1; exact h
set_option maxRecDepth 100000 in
set_option maxHeartbeats 2000000 in
theorem good_rSameI : Good Tryz.prog (GWL [0, 1]) N0 99 s_rSameI := by
  refine goodL (l := [0, 1]) (tab := [(135, s_rSame)]) (shs := [(135, .one .b)]) rfl ⟨good_rSame, trivial⟩ Tryz.f99 (by kernel_rfl) (by kernel_rfl) (by kernel_rfl) (fun ds hp F A Q hF hA hQ => ⟨0, ?_⟩)
  obtain ⟨x, y, rfl, hx, hy⟩ := sp2_arg hp
  obtain ⟨s, n, cs, rfl, hc⟩ := okI_arg hx
  obtain ⟨t, m, es, rfl, hc2⟩ := okI_arg hy
  clear hp hx hy
  cbv
  repeat' (first | with_reducible refine And.intro ?_ ?_ | (with_reducible refine safe_lift hA ?_; kernel_rfl) | (intro hc_; cbv))
  all_goals (repeat (rw [safe_true hA, true_and]; rotate_left; kernel_rfl))
  all_goals subst hF hA
  all_goals simp only [fnOf, find, std, reduceIte, Nat.reduceEqDiff, sp1, sp2, a1, a2, FnSpec.out, Shape.build, leafs, leafCells, tups, oneOf, List.cons_append, List.nil_append, List.length_cons, List.length_nil, s_rSameI, s_rSame, sameI, dcs] at *
  all_goals first
    | exact ⟨hc, hc2⟩
    | exact Post.b hQ (by rw [hc_, Bool.true_and]; exact Bool.eq_iff_iff.2 ⟨fun h => decide_eq_true (of_decide_eq_true h), fun h => decide_eq_true (of_decide_eq_true h)⟩)
    | (refine Post.b hQ ?_; rw [hc_]; rfl)
set_option maxRecDepth 100000 in
set_option maxHeartbeats 2000000 in
theorem good_rShlI : Good Tryz.prog (GWL [0, 1]) N0 85 s_rShlI := by
  refine goodL (l := [0, 1]) (tab := [(120, s_rTrim), (128, s_rShl), (78, s_rNorm)]) (shs := [(120, .one .L), (128, .one .L), (78, .agg [.I])]) rfl ⟨good_rTrim, good_rShl, good_rNorm, trivial⟩ Tryz.f85 (by kernel_rfl) (by kernel_rfl) (by kernel_rfl) (fun ds hp F A Q hF hA hQ => ⟨0, ?_⟩)
  obtain ⟨x, y, rfl, hx, hy, hb, hk⟩ := sp2_arg hp
  obtain ⟨s, n, cs, rfl, hc⟩ := okI_arg hx
  obtain ⟨k, rfl⟩ := isi_arg hy
  clear hp hx hy
  cbv
  all_goals (repeat (rw [safe_true hA, true_and]; rotate_left; kernel_rfl))
  all_goals subst hF hA
  all_goals simp only [fnOf, find, std, reduceIte, Nat.reduceEqDiff, sp1, sp2, a1, a2, FnSpec.out, Shape.build, leafs, leafCells, tups, oneOf, List.cons_append, List.nil_append, List.length_cons, List.length_nil, s_rShlI, s_rTrim, s_rShl, s_rNorm, dl, dz, dcn, dm_raw] at *
  have hf := okC_fit hc s
  have hN : heldN k ≤ 100000 := heldN_le k
  simp only [vL_N0n, vL_abs s, Int.natAbs_natCast, Int.toNat_natCast, vI_mk, sgn_vI]
  have h1 : Fit ((vI s cs).natAbs : Int) (32 * n) := by unfold Fit; rw [Int.natAbs_natCast]; exact hf
  have h2 : Fit (((vI s cs).natAbs * 2 ^ heldN k : Nat) : Int) (32 * n + heldN k) := by
    unfold Fit; rw [Int.natAbs_natCast, Nat.pow_add]; exact Nat.mul_lt_mul_of_pos_right hf (Nat.pow_pos (by decide))
  exact ⟨hc, ⟨okC_fitN h1 (by omega), rfl⟩, okC_fitN h2 (by omega), Post.I hQ (by rw [sgn_shl', sgn_vI])⟩
set_option maxRecDepth 100000 in
set_option maxHeartbeats 2000000 in
theorem good_rMulI : Good Tryz.prog (GWL [0, 1]) N0 92 s_rMulI := by
  refine goodL (l := [0, 1]) (tab := [(78, s_rNorm), (130, s_rMul)]) (shs := [(78, .agg [.I]), (130, .one .L)]) rfl ⟨good_rNorm, good_rMul, trivial⟩ Tryz.f92 (by kernel_rfl) (by kernel_rfl) (by kernel_rfl) (fun ds hp F A Q hF hA hQ => ⟨0, ?_⟩)
  obtain ⟨x, y, rfl, hx, hy, hb, hb2⟩ := sp2_arg hp
  obtain ⟨s, n, cs, rfl, hc⟩ := okI_arg hx
  obtain ⟨t, m, es, rfl, hc2⟩ := okI_arg hy
  clear hp hx hy
  cbv
  repeat' (first | with_reducible refine And.intro ?_ ?_ | (with_reducible refine safe_lift hA ?_; kernel_rfl) | (intro hc_; cbv))
  all_goals (repeat (rw [safe_true hA, true_and]; rotate_left; kernel_rfl))
  all_goals subst hF hA
  all_goals simp only [fnOf, find, std, reduceIte, Nat.reduceEqDiff, sp1, sp2, a1, a2, FnSpec.out, Shape.build, leafs, leafCells, tups, oneOf, List.cons_append, List.nil_append, List.length_cons, List.length_nil, s_rMulI, s_rNorm, s_rMul, dl, dz, dcn, dm_raw, vL_N0n, vI_mk, Int.natAbs_natCast] at *
  all_goals
    have hf := okC_fit hc s
    have hg := okC_fit hc2 t
    generalize vI s cs = X at *
    generalize vI t es = Y at *
  all_goals first
    | exact hc
    | exact hc2
    | exact ⟨okC_fitN hf (by omega), okC_fitN hg (by omega)⟩
    | exact okC_fitN (fit_nat (k := 32 * (n + m)) (by rw [← Int.natAbs_mul]; exact hf.mul hg (by omega))) (by omega)
    | exact Post.I hQ (sgn_mulI X Y).symm
set_option maxRecDepth 100000 in
set_option maxHeartbeats 2000000 in
theorem good_rAddI : Good Tryz.prog (GWL [0, 1]) N0 84 s_rAddI := by
  refine goodL (l := [0, 1]) (tab := [(78, s_rNorm), (126, s_rAdd), (127, s_rSub)]) (shs := [(78, .agg [.I]), (126, .one .L), (127, .tup [(false, [.L]), (false, [.b])])]) rfl ⟨good_rNorm, good_rAdd, good_rSub, trivial⟩ Tryz.f84 (by kernel_rfl) (by kernel_rfl) (by kernel_rfl) (fun ds hp F A Q hF hA hQ => ⟨0, ?_⟩)
  obtain ⟨x, y, rfl, hx, hy, hb, hb2⟩ := sp2_arg hp
  obtain ⟨s, n, cs, rfl, hc⟩ := okI_arg hx
  obtain ⟨t, m, es, rfl, hc2⟩ := okI_arg hy
  clear hp hx hy
  cbv
  repeat' (first | with_reducible refine And.intro ?_ ?_ | (with_reducible refine safe_lift hA ?_; kernel_rfl) | (intro hc_; cbv))
  all_goals (repeat (rw [safe_true hA, true_and]; rotate_left; kernel_rfl))
  all_goals subst hF hA
  all_goals simp only [fnOf, find, std, reduceIte, Nat.reduceEqDiff, sp1, sp2, a1, a2, FnSpec.out, Shape.build, leafs, leafCells, tups, oneOf, List.cons_append, List.nil_append, List.length_cons, List.length_nil, s_rAddI, s_rNorm, s_rAdd, s_rSub, dl, dz, dcn, dm_raw, vL_N0n, vI_mk, Int.natAbs_natCast] at *
  all_goals
    have hf := okC_fit hc s
    have hg := okC_fit hc2 t
    generalize vI s cs = X at *
    generalize vI t es = Y at *
  all_goals first
    | exact hc
    | exact hc2
    | exact ⟨okC_fitN hf (by omega), okC_fitN hg (by omega)⟩
    | exact okC_fitN (fit_addI hf hg) (by omega)
    | exact Post.I hQ (sgn_addI hc_).symm
    | exact ⟨okC_fitN hg (by omega), okC_fitN hf (by omega)⟩
    | exact okC_fitN (fit_subI hf) (by omega)
    | exact okC_fitN (fit_subI hg) (by omega)
    | (rename_i h; exact Post.I hQ (sgn_subI hc_ h).symm)
    | (rename_i h; exact Post.I hQ (sgn_subI' hc_ h).symm)
end Go.Proofs.YtcamkbphognoaaaGreatDoor.Ev
