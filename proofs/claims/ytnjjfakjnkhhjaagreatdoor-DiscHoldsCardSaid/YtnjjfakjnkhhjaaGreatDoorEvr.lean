import Derived.Test.YtnjjfakjnkhhjaaGreatDoorEve
set_option maxHeartbeats 2000000
set_option maxRecDepth 100000
set_option linter.all false
namespace Go.Proofs.YtnjjfakjnkhhjaaGreatDoor.Ev
open Go Go.RowKit
theorem vL_N0n (z : Int) : (vL (N0.lm z)).toNat = z.natAbs := by rw [vL_N0]; rfl
theorem vI_mk (s : Bool) (z : Int) : vI s (N0.lm z) = sgn s z.natAbs := by
 unfold vI N0
 dsimp only
 rw [nums_u32s, val_lim]
theorem sgn_neg (z : Int) : sgn (N0.neg z) z.natAbs = z := sgn_of z
theorem neg_N0 (z : Int) : N0.neg z = decide (z < 0) := rfl
theorem fit_nat {n k : Nat} (h : n < 2 ^ k) : Fit (n : Int) k := h
def sameI (x y : D) : Bool := (dcs x).1 == (dcs y).1 && decide ((dcs x).2 = (dcs y).2)
theorem sameI_N0 (a b : Int) (r r' : List D) : sameI (.agg (.bool (N0.neg a) :: .sl (N0.ln a) (N0.lm a) :: r)) (.agg (.bool (N0.neg b) :: .sl (N0.ln b) (N0.lm b) :: r')) = decide (a = b) := by
 unfold sameI
 simp only [dcs]
 rw [Bool.eq_iff_iff]
 rw [Bool.and_eq_true, beq_iff_eq, decide_eq_true_eq]
 constructor
 ·rintro ⟨h1, h2⟩
  have h3 := vI_N0 a
  have h4 := vI_N0 b
  unfold vI at h3 h4
  rw [← h3, ← h4, h1, of_decide_eq_true h2]
 ·rintro rfl; exact ⟨rfl, decide_eq_true rfl⟩
def s_rSameI : FnSpec := sp2 (.one .b) (fun x y => okI x ∧ okI y) (fun _ _ _ => 0) (fun x y _ => sameI x y)
def s_rShlI : FnSpec := sp2 (.agg [.I]) (fun x y => okI x ∧ isi .i64 y ∧ dcn x ≤ 90000 ∧ dz y ≤ 200000) (fun x y _ => dm x * 2 ^ heldN (dz y)) (fun _ _ _ => false)
def s_rAddI : FnSpec := sp2 (.agg [.I]) (fun x y => okI x ∧ okI y ∧ dcn x ≤ 90000 ∧ dcn y ≤ 90000) (fun x y _ => dm x + dm y) (fun _ _ _ => false)
def s_rMulI : FnSpec := sp2 (.agg [.I]) (fun x y => okI x ∧ okI y ∧ dcn x ≤ 45000 ∧ dcn y ≤ 45000) (fun x y _ => dm x * dm y) (fun _ _ _ => false)
theorem Post.I {Q : Post} {m m' : Int} (h : Q.R (.agg [.bool (N0.neg m), .sl (N0.ln m) (N0.lm m)])) (hm : m = m') : Q.R (.agg [.bool (N0.neg m'), .sl (N0.ln m') (N0.lm m')]) := by
 subst hm; exact h
theorem sgn_cases (z : Int) (n : Nat) : (z < 0 ∧ sgn (N0.neg z) n = -(n : Int)) ∨ (0 ≤ z ∧ sgn (N0.neg z) n = n) := by
 by_cases h : z < 0
 ·exact .inl ⟨h, by rw [neg_N0, decide_eq_true h]; rfl⟩
 ·exact .inr ⟨by omega, by rw [neg_N0, decide_eq_false h]; rfl⟩
theorem sgn_mulI (X Y : Int) : sgn (!(N0.neg X == N0.neg Y)) (X.natAbs * Y.natAbs) = X * Y := by
 rw [← Int.natAbs_mul, neg_N0, neg_N0]
 rcases Int.lt_or_le X 0 with h | h <;> rcases Int.lt_or_le Y 0 with h' | h'
 ·rw [decide_eq_true h, decide_eq_true h']
  exact Int.natAbs_of_nonneg (Int.le_of_lt (Int.mul_pos_of_neg_of_neg h h'))
 ·rw [decide_eq_true h, decide_eq_false (by omega)]
  have := Int.mul_nonpos_of_nonpos_of_nonneg (Int.le_of_lt h) h'
  show -((X * Y).natAbs : Int) = X * Y
  omega
 ·rw [decide_eq_false (by omega), decide_eq_true h']
  have := Int.mul_nonpos_of_nonneg_of_nonpos h (Int.le_of_lt h')
  show -((X * Y).natAbs : Int) = X * Y
  omega
 ·rw [decide_eq_false (by omega), decide_eq_false (by omega)]
  exact Int.natAbs_of_nonneg (Int.mul_nonneg h h')
theorem fit_addI {X Y : Int} {n m : Nat} (h : Fit X (32 * n)) (h' : Fit Y (32 * m)) : Fit ((X.natAbs + Y.natAbs : Nat) : Int) (32 * max n m + 1) := by
 have h1 := h.mono (show 32 * n ≤ 32 * max n m by omega)
 have h2 := h'.mono (show 32 * m ≤ 32 * max n m by omega)
 unfold Fit at *
 rw [Int.natAbs_natCast, Nat.pow_succ]
 omega
theorem sgn_addI {X Y : Int} (h : (N0.neg X == N0.neg Y) = true) : sgn (N0.neg X) (X.natAbs + Y.natAbs) = X + Y := by
 rw [neg_N0, neg_N0, beq_iff_eq] at h
 rcases sgn_cases X (X.natAbs + Y.natAbs) with ⟨h1, h2⟩ | ⟨h1, h2⟩ <;> rw [h2]
 ·have : Y < 0 := of_decide_eq_true (by rw [← h]; exact decide_eq_true h1)
  omega
 ·have : ¬ Y < 0 := of_decide_eq_false (by rw [← h]; exact decide_eq_false (by omega))
  omega
theorem sgn_vI (s : Bool) (cs : List D) : sgn s (vI s cs).natAbs = vI s cs := by
 unfold vI; rw [sgn_natAbs]
theorem fit_subI {X : Int} {n a : Nat} (h : Fit X n) : Fit ((X.natAbs - a : Nat) : Int) n := by
 unfold Fit at *
 rw [Int.natAbs_natCast]
 omega
theorem neg_ne {X Y : Int} (h : (N0.neg X == N0.neg Y) = false) : (X < 0 ∧ 0 ≤ Y) ∨ (0 ≤ X ∧ Y < 0) := by
 rw [neg_N0, neg_N0] at h
 rcases Int.lt_or_le X 0 with h1 | h1 <;> rcases Int.lt_or_le Y 0 with h2 | h2
 ·rw [decide_eq_true h1, decide_eq_true h2] at h; cases h
 ·exact .inl ⟨h1, h2⟩
 ·exact .inr ⟨h1, h2⟩
 ·rw [decide_eq_false (by omega), decide_eq_false (by omega)] at h; cases h
theorem sgn_subI {X Y : Int} (h : (N0.neg X == N0.neg Y) = false) (h' : decide (Y.natAbs ≤ X.natAbs) = true) : sgn (N0.neg X) (X.natAbs - Y.natAbs) = X + Y := by
 have h3 := of_decide_eq_true h'
 have h4 := neg_ne h
 rcases sgn_cases X (X.natAbs - Y.natAbs) with ⟨h1, h2⟩ | ⟨h1, h2⟩ <;> rw [h2] <;> omega
theorem sgn_subI' {X Y : Int} (h : (N0.neg X == N0.neg Y) = false) (h' : decide (Y.natAbs ≤ X.natAbs) = false) : sgn (N0.neg Y) (Y.natAbs - X.natAbs) = X + Y := by
 have h3 := of_decide_eq_false h'
 have h4 := neg_ne h
 rcases sgn_cases Y (Y.natAbs - X.natAbs) with ⟨h1, h2⟩ | ⟨h1, h2⟩ <;> rw [h2] <;> omega
def s_rSubI : FnSpec := sp2 (.agg [.I]) (fun x y => okI x ∧ okI y ∧ dcn x ≤ 80000 ∧ dcn y ≤ 80000) (fun x y _ => dm x - dm y) (fun _ _ _ => false)
def s_rCmpI : FnSpec := sp2 (.one (.i .i64)) (fun x y => okI x ∧ okI y ∧ dcn x ≤ 80000 ∧ dcn y ≤ 80000) (fun x y _ => sg (dm x - dm y)) (fun _ _ _ => false)
def s_rDivI : FnSpec := sp2 (.tup [(true, [.I]), (true, [.I]), (false, [.b])]) (fun x y => okI x ∧ okI y ∧ dcn x ≤ 80000 ∧ dcn y ≤ 80000 ∧ 0 < dm y) (fun x y i => match i with | 0 => dm x / dm y | _ => dm x % dm y) (fun _ _ _ => true)
def s_rShrI : FnSpec := sp2 (.agg [.I]) (fun x y => okI x ∧ isi .i64 y ∧ dcn x ≤ 80000) (fun x y _ => dm x / 2 ^ heldN (dz y)) (fun _ _ _ => false)
theorem fit_subII {X Y : Int} {n m : Nat} (h : Fit X (32 * n)) (h' : Fit Y (32 * m)) : Fit (X - Y) (32 * max n m + 1) := by
 have h1 := h.mono (show 32 * n ≤ 32 * max n m by omega)
 have h2 := h'.mono (show 32 * m ≤ 32 * max n m by omega)
 unfold Fit at *
 rw [Nat.pow_succ]
 omega
theorem vL_one : (vL [D.int IntKind.u32 1]).toNat = 1 := by decide
theorem okC_one : okC 1 [D.int IntKind.u32 1] := by
 refine ⟨rfl, rfl, fun x => ?_, by decide⟩
 match x with
 | 0 => decide
 | x + 1 => show dig [] x < Bs; rw [dig_nil]; decide
theorem divI_down {X Y : Int} (hY : 0 < Y) (h : X < 0) (hr : X.natAbs % Y.natAbs ≠ 0) : -((X.natAbs / Y.natAbs + 1 : Nat) : Int) = X / Y ∧ ((Y.natAbs - X.natAbs % Y.natAbs : Nat) : Int) = X % Y := by
 have h1 := Nat.div_add_mod X.natAbs Y.natAbs
 have h2 := Nat.mod_lt X.natAbs (show 0 < Y.natAbs by omega)
 have := Int.ediv_emod_unique (a := X) (b := Y) (q := -((X.natAbs / Y.natAbs + 1 : Nat) : Int)) (r := ((Y.natAbs - X.natAbs % Y.natAbs : Nat) : Int)) hY
 have e : ((Y.natAbs * (X.natAbs / Y.natAbs) + X.natAbs % Y.natAbs : Nat) : Int) = (X.natAbs : Int) := by rw [h1]
 rw [Int.natCast_add, Int.natCast_mul, show (Y.natAbs : Int) = Y by omega] at e
 have h3 := this.2 ⟨by
  rw [Int.natCast_add, Int.mul_neg, Int.mul_add]
  generalize X.natAbs / Y.natAbs = a at *
  generalize X.natAbs % Y.natAbs = b at *
  generalize Y * (a : Int) = c at *
  omega, by omega, by omega⟩
 exact ⟨h3.1.symm, h3.2.symm⟩
theorem divI_up {X Y : Int} (hY : 0 < Y) (h : 0 ≤ X ∨ X.natAbs % Y.natAbs = 0) : sgn (decide (X < 0)) (X.natAbs / Y.natAbs) = X / Y ∧ ((X.natAbs % Y.natAbs : Nat) : Int) = X % Y := by
 have h1 := Nat.div_add_mod X.natAbs Y.natAbs
 have h2 := Nat.mod_lt X.natAbs (show 0 < Y.natAbs by omega)
 have := Int.ediv_emod_unique (a := X) (b := Y) (q := sgn (decide (X < 0)) (X.natAbs / Y.natAbs)) (r := ((X.natAbs % Y.natAbs : Nat) : Int)) hY
 have e : ((Y.natAbs * (X.natAbs / Y.natAbs) + X.natAbs % Y.natAbs : Nat) : Int) = (X.natAbs : Int) := by rw [h1]
 rw [Int.natCast_add, Int.natCast_mul, show (Y.natAbs : Int) = Y by omega] at e
 have h3 := this.2 ⟨by
  by_cases hx : X < 0
  ·rw [decide_eq_true hx, sgn_true, Int.mul_neg]
   generalize X.natAbs / Y.natAbs = a at *
   generalize X.natAbs % Y.natAbs = b at *
   generalize Y * (a : Int) = c at *
   omega
  ·rw [decide_eq_false hx, sgn_false]
   generalize X.natAbs / Y.natAbs = a at *
   generalize X.natAbs % Y.natAbs = b at *
   generalize Y * (a : Int) = c at *
   omega, by omega, by omega⟩
 exact ⟨h3.1.symm, h3.2.symm⟩
theorem fit_divN {X : Int} {b n : Nat} (h : Fit X n) : Fit ((X.natAbs / b : Nat) : Int) n := by
 unfold Fit at *
 rw [Int.natAbs_natCast]; exact Nat.lt_of_le_of_lt (Nat.div_le_self _ _) h
theorem fit_divN1 {X : Int} {b n : Nat} (h : Fit X n) : Fit ((X.natAbs / b + 1 : Nat) : Int) (n + 1) := by
 have h1 := Nat.div_le_self X.natAbs b
 unfold Fit at *
 rw [Int.natAbs_natCast, Nat.pow_succ]
 omega
theorem fit_modN {X : Int} {b n : Nat} (h : Fit X n) : Fit ((X.natAbs % b : Nat) : Int) n := by
 unfold Fit at *
 rw [Int.natAbs_natCast]; exact Nat.lt_of_le_of_lt (Nat.mod_le _ _) h
theorem ln_pos0 (n : Nat) : decide (0 < ((N0.ln (n : Int) : Nat) : Int)) = decide (n ≠ 0) := by
 have h : N0.ln (n : Int) = ln n := rfl
 have := @ln_zero_iff n
 rw [h, Bool.eq_iff_iff, decide_eq_true_eq, decide_eq_true_eq]
 omega
theorem sgX {X : Int} : (!(N0.neg X == false)) = decide (X < 0) := by
 rw [neg_N0]
 cases decide (X < 0) <;> rfl
theorem divA {X Y : Int} (hY : 0 < Y) (h1 : (!(N0.neg X == false)) = true) (h2 : decide (0 < ((N0.ln ((X.natAbs % Y.natAbs : Nat) : Int) : Nat) : Int)) = true) :
  X / Y = sgn (!(N0.neg X == false)) (X.natAbs / Y.natAbs + 1) ∧ X % Y = sgn false (Y.natAbs - X.natAbs % Y.natAbs) := by
 rw [h1]
 rw [sgX] at h1
 rw [ln_pos0] at h2
 have := divI_down hY (of_decide_eq_true h1) (of_decide_eq_true h2)
 exact ⟨this.1.symm, this.2.symm⟩
theorem divB {X Y : Int} (hY : 0 < Y) (h : (!(N0.neg X == false)) = false ∨ decide (0 < ((N0.ln ((X.natAbs % Y.natAbs : Nat) : Int) : Nat) : Int)) = false) :
  X / Y = sgn (!(N0.neg X == false)) (X.natAbs / Y.natAbs) ∧ X % Y = sgn false (X.natAbs % Y.natAbs) := by
 rw [sgX, ln_pos0] at *
 have := divI_up (X := X) hY (by
  rcases h with h | h
  ·exact .inl (by have := of_decide_eq_false h; omega)
  ·exact .inr (by have := of_decide_eq_false h; omega))
 exact ⟨this.1.symm, this.2.symm⟩
theorem Post.T {Q : Post} {a b a' b' : Int} (h : Q.R (.tup [.agg [.bool (N0.neg a), .sl (N0.ln a) (N0.lm a)], .agg [.bool (N0.neg b), .sl (N0.ln b) (N0.lm b)], .bool true])) (h1 : a = a' ∧ b = b') : Q.R (.tup [.agg [.bool (N0.neg a'), .sl (N0.ln a') (N0.lm a')], .agg [.bool (N0.neg b'), .sl (N0.ln b') (N0.lm b')], .bool true]) := by
 obtain ⟨rfl, rfl⟩ := h1; exact h
theorem good_rSameI : Good Tryz.prog (GWL [0, 1]) N0 117 s_rSameI := by
 refine goodM 0 (gc good_rSame gn) Tryz.f117 (by kernel_rfl) (by kernel_rfl) fun ds hp F A Q hF hA hQ => ?_
 obtain ⟨x, y, rfl, hx, hy⟩ := sp2_arg hp
 obtain ⟨s, n, cs, rfl, hc⟩ := okI_arg hx
 obtain ⟨t, m, es, rfl, hc2⟩ := okI_arg hy
 clear hp hx hy
 cbv
 repeat' (first | with_reducible refine And.intro ?_ ?_ | (with_reducible refine safe_lift hA ?_; kernel_rfl) | (intro hc_; cbv))
 all_goals (repeat (rw [safe_true hA, true_and]; rotate_left; kernel_rfl))
 all_goals subst hF hA
 all_goals simp only [fnOf, find, std, reduceIte, sp2, a2, FnSpec.out, Shape.build, leafCells, oneOf, s_rSameI, s_rSame, sameI, dcs] at *
 all_goals first
  | exact ⟨hc, hc2⟩
  | exact Post.b hQ (by rw [hc_, Bool.true_and]; exact Bool.eq_iff_iff.2 ⟨fun h => decide_eq_true (of_decide_eq_true h), fun h => decide_eq_true (of_decide_eq_true h)⟩)
  | (refine Post.b hQ ?_; rw [hc_]; rfl)
theorem good_rShlI : Good Tryz.prog (GWL [0, 1]) N0 158 s_rShlI := by
 refine goodM 0 (gc good_rTrim <| gc good_rShl <| gc good_rNorm gn) Tryz.f158 (by kernel_rfl) (by kernel_rfl) fun ds hp F A Q hF hA hQ => ?_
 obtain ⟨x, y, rfl, hx, hy, hb, hk⟩ := sp2_arg hp
 obtain ⟨s, n, cs, rfl, hc⟩ := okI_arg hx
 obtain ⟨k, rfl⟩ := isi_arg hy
 clear hp hx hy
 cbv
 all_goals (repeat (rw [safe_true hA, true_and]; rotate_left; kernel_rfl))
 all_goals subst hF hA
 all_goals simp only [fnOf, find, reduceIte, Nat.reduceEqDiff, sp1, sp2, a1, a2, FnSpec.out, Shape.build, leafs, leafCells, List.cons_append, List.nil_append, s_rShlI, s_rTrim, s_rShl, s_rNorm, dl, dz, dcn, dm_raw] at *
 have hf := okC_fit hc s
 have hN : heldN k ≤ 100000 := heldN_le k
 simp only [vL_abs s, Int.natAbs_natCast, Int.toNat_natCast, vI_mk, sgn_vI]
 have h1 : Fit ((vI s cs).natAbs : Int) (32 * n) := by unfold Fit; rw [Int.natAbs_natCast]; exact hf
 have h2 : Fit (((vI s cs).natAbs * 2 ^ heldN k : Nat) : Int) (32 * n + heldN k) := by
  unfold Fit; rw [Int.natAbs_natCast, Nat.pow_add]; exact Nat.mul_lt_mul_of_pos_right hf (Nat.pow_pos (by decide))
 exact ⟨hc, ⟨okC_fitN h1 (by omega), rfl⟩, okC_fitN h2 (by omega), Post.I hQ (by rw [sgn_shl', sgn_vI])⟩
theorem good_rMulI : Good Tryz.prog (GWL [0, 1]) N0 88 s_rMulI := by
 refine goodM 0 (gc good_rNorm <| gc good_rMul gn) Tryz.f88 (by kernel_rfl) (by kernel_rfl) fun ds hp F A Q hF hA hQ => ?_
 obtain ⟨x, y, rfl, hx, hy, hb, hb2⟩ := sp2_arg hp
 obtain ⟨s, n, cs, rfl, hc⟩ := okI_arg hx
 obtain ⟨t, m, es, rfl, hc2⟩ := okI_arg hy
 clear hp hx hy
 cbv
 repeat' (first | with_reducible refine And.intro ?_ ?_ | (with_reducible refine safe_lift hA ?_; kernel_rfl) | (intro hc_; cbv))
 all_goals (repeat (rw [safe_true hA, true_and]; rotate_left; kernel_rfl))
 all_goals subst hF hA
 all_goals simp only [fnOf, find, std, reduceIte, Nat.reduceEqDiff, sp1, sp2, a1, a2, FnSpec.out, Shape.build, leafs, leafCells, List.cons_append, List.nil_append, s_rMulI, s_rNorm, s_rMul, dl, dcn, dm_raw, vL_N0n, vI_mk, Int.natAbs_natCast] at *
 all_goals
  have hf := okC_fit hc s
  have hg := okC_fit hc2 t
  generalize vI s cs = X at *
  generalize vI t es = Y at *
 all_goals first
  | exact hc
  | exact hc2
  | exact ⟨okC_fitN hf (by omega), okC_fitN hg (by omega)⟩
  | exact okC_fitN (fit_nat (k := 32 * (n + m)) (by rw [← Int.natAbs_mul]; exact hf.mul hg (by omega))) (by omega)
  | exact Post.I hQ (sgn_mulI X Y).symm
theorem good_rAddI : Good Tryz.prog (GWL [0, 1]) N0 157 s_rAddI := by
 refine goodM 0 (gc good_rNorm <| gc good_rAdd <| gc good_rSub gn) Tryz.f157 (by kernel_rfl) (by kernel_rfl) fun ds hp F A Q hF hA hQ => ?_
 obtain ⟨x, y, rfl, hx, hy, hb, hb2⟩ := sp2_arg hp
 obtain ⟨s, n, cs, rfl, hc⟩ := okI_arg hx
 obtain ⟨t, m, es, rfl, hc2⟩ := okI_arg hy
 clear hp hx hy
 cbv
 repeat' (first | with_reducible refine And.intro ?_ ?_ | (with_reducible refine safe_lift hA ?_; kernel_rfl) | (intro hc_; cbv))
 all_goals (repeat (rw [safe_true hA, true_and]; rotate_left; kernel_rfl))
 all_goals subst hF hA
 all_goals simp only [fnOf, find, std, reduceIte, Nat.reduceEqDiff, sp1, sp2, a1, a2, FnSpec.out, Shape.build, leafs, leafCells, List.cons_append, List.nil_append, s_rAddI, s_rNorm, s_rAdd, s_rSub, dl, dcn, dm_raw, vL_N0n, vI_mk, Int.natAbs_natCast] at *
 all_goals
  have hf := okC_fit hc s
  have hg := okC_fit hc2 t
  generalize vI s cs = X at *
  generalize vI t es = Y at *
 all_goals first
  | exact hc
  | exact hc2
  | exact ⟨okC_fitN hf (by omega), okC_fitN hg (by omega)⟩
  | exact okC_fitN (fit_addI hf hg) (by omega)
  | exact Post.I hQ (sgn_addI hc_).symm
  | exact ⟨okC_fitN hg (by omega), okC_fitN hf (by omega)⟩
  | exact okC_fitN (fit_subI hf) (by omega)
  | exact okC_fitN (fit_subI hg) (by omega)
  | (rename_i h; exact Post.I hQ (sgn_subI hc_ h).symm)
  | (rename_i h; exact Post.I hQ (sgn_subI' hc_ h).symm)
theorem good_rSubI : Good Tryz.prog (GWL [0, 1]) N0 196 s_rSubI := by
 refine goodM 0 (gc good_rNeg <| gc good_rAddI gn) Tryz.f196 (by kernel_rfl) (by kernel_rfl) fun ds hp F A Q hF hA hQ => ?_
 obtain ⟨x, y, rfl, hx, hy, hb, hb2⟩ := sp2_arg hp
 obtain ⟨s, n, cs, rfl, hc⟩ := okI_arg hx
 obtain ⟨t, m, es, rfl, hc2⟩ := okI_arg hy
 clear hp hx hy
 cbv
 repeat' (first | with_reducible refine And.intro ?_ ?_ | (with_reducible refine safe_lift hA ?_; kernel_rfl) | (intro hc_; cbv))
 all_goals (repeat (rw [safe_true hA, true_and]; rotate_left; kernel_rfl))
 all_goals subst hF hA
 all_goals simp only [fnOf, find, reduceIte, Nat.reduceEqDiff, sp1, sp2, a1, a2, FnSpec.out, Shape.build, leafs, leafCells, List.cons_append, List.nil_append, s_rSubI, s_rNeg, s_rAddI, dcn, dm_raw, vI_N0] at *
 all_goals
  have hf := okC_fit hc s
  have hg := okC_fit hc2 t
 all_goals first
  | exact hc2
  | exact ⟨hc, okC_fitN hg.neg (by omega), by omega, Nat.le_trans (Fit.ln hg.neg (n := m) (by omega)) (by omega)⟩
  | exact Post.I hQ (Int.sub_eq_add_neg)
theorem good_rCmpI : Good Tryz.prog (GWL [0, 1]) N0 197 s_rCmpI := by
 refine goodM 0 (gc good_rSubI <| gc good_rSign gn) Tryz.f197 (by kernel_rfl) (by kernel_rfl) fun ds hp F A Q hF hA hQ => ?_
 obtain ⟨x, y, rfl, hx, hy, hb, hb2⟩ := sp2_arg hp
 obtain ⟨s, n, cs, rfl, hc⟩ := okI_arg hx
 obtain ⟨t, m, es, rfl, hc2⟩ := okI_arg hy
 clear hp hx hy
 cbv
 repeat' (first | with_reducible refine And.intro ?_ ?_ | (with_reducible refine safe_lift hA ?_; kernel_rfl) | (intro hc_; cbv))
 all_goals (repeat (rw [safe_true hA, true_and]; rotate_left; kernel_rfl))
 all_goals subst hF hA
 all_goals simp only [fnOf, find, reduceIte, Nat.reduceEqDiff, sp1, sp2, a1, a2, FnSpec.out, Shape.build, leafCells, oneOf, s_rCmpI, s_rSubI, s_rSign, dcn, dm_raw, vI_N0] at *
 all_goals
  have hf := okC_fit hc s
  have hg := okC_fit hc2 t
 all_goals first
  | exact ⟨hc, hc2, by omega, by omega⟩
  | exact okC_fitN (fit_subII hf hg) (by omega)
  | exact hQ
theorem good_rDivI : Good Tryz.prog (GWL [0, 1]) N0 224 s_rDivI := by
 refine goodM 0 (gc good_rNorm <| gc good_rDiv <| gc good_rAdd <| gc good_rSub gn) Tryz.f224 (by kernel_rfl) (by kernel_rfl) fun ds hp F A Q hF hA hQ => ?_
 obtain ⟨x, y, rfl, hx, hy, hb, hb2, hpos⟩ := sp2_arg hp
 obtain ⟨s, n, cs, rfl, hc⟩ := okI_arg hx
 obtain ⟨t, m, es, rfl, hc2⟩ := okI_arg hy
 clear hp hx hy
 cbv
 repeat' (first | with_reducible refine And.intro ?_ ?_ | (with_reducible refine safe_lift hA ?_; kernel_rfl) | (intro hc_; cbv))
 all_goals (repeat (rw [safe_true hA, true_and]; rotate_left; kernel_rfl))
 all_goals subst hF hA
 all_goals simp only [fnOf, find, std, reduceIte, Nat.reduceEqDiff, sp1, sp2, a1, a2, FnSpec.out, Shape.build, leafs, leafCells, tups, oneOf, List.cons_append, List.nil_append, List.length_cons, List.length_nil, s_rDivI, s_rNorm, s_rDiv, s_rAdd, s_rSub, dl, dcn, dm_raw, vI_mk, vL_N0n, Int.natAbs_natCast, vL_one] at *
 all_goals
  have hf := okC_fit hc s
  have hg := okC_fit hc2 t
  generalize vI s cs = X at *
  generalize vI t es = Y at *
  have hY0 : ¬(Y.natAbs = 0) := by omega
  have hnY : N0.neg Y = false := by rw [neg_N0]; exact decide_eq_false (by omega)
  (try simp only [if_neg hY0, hnY] at *)
 all_goals first
  | exact hc
  | exact hc2
  | exact ⟨okC_fitN hf (by omega), okC_fitN hg (by omega)⟩
  | exact ⟨okC_fitN (fit_divN hf) (by omega), okC_one⟩
  | exact okC_fitN (fit_divN hf) (by omega)
  | exact okC_fitN (fit_divN1 hf) (by omega)
  | exact okC_fitN (fit_modN hf) (by omega)
  | exact okC_fitN (fit_subI hg) (by omega)
  | exact ⟨okC_fitN hg (by omega), okC_fitN (fit_modN hf) (by omega)⟩
  | (exfalso; simp at hc_; omega)
  | exact Post.T hQ (divB hpos (.inl hc_))
  | (rename_i h_; exact Post.T hQ (divA hpos h_ hc_))
  | exact Post.T hQ (divB hpos (.inr hc_))
theorem good_rShrI : Good Tryz.prog (GWL [0, 1]) N0 195 s_rShrI := by
 refine goodM 0 (gc good_rShl <| gc good_rDivI gn) Tryz.f195 (by kernel_rfl) (by kernel_rfl) fun ds hp F A Q hF hA hQ => ?_
 obtain ⟨x, y, rfl, hx, hy, hb⟩ := sp2_arg hp
 obtain ⟨s, n, cs, rfl, hc⟩ := okI_arg hx
 obtain ⟨k, rfl⟩ := isi_arg hy
 clear hp hx hy
 cbv
 repeat' (first | with_reducible refine And.intro ?_ ?_ | (with_reducible refine safe_lift hA ?_; kernel_rfl) | (intro hc_; cbv))
 all_goals (repeat (rw [safe_true hA, true_and]; rotate_left; kernel_rfl))
 all_goals subst hF hA
 all_goals simp only [fnOf, find, reduceIte, Nat.reduceEqDiff, sp2, a2, FnSpec.out, Shape.build, leafs, leafCells, List.cons_append, List.nil_append, s_rShrI, s_rShl, s_rDivI, dl, dz, dcn, dm_raw, vI_mk, Int.natAbs_natCast, vL_one, Nat.one_mul, sgn_false] at *
 all_goals
  have hf := okC_fit hc s
  have hN : heldN k ≤ 100000 := heldN_le k
  have hp : ((2 ^ heldN k : Nat) : Int) = 2 ^ heldN k := by rw [Int.natCast_pow]; rfl
  have hg : Fit ((2 ^ heldN k : Nat) : Int) (heldN k + 1) := by unfold Fit; rw [Int.natAbs_natCast]; exact Nat.pow_lt_pow_right (by decide) (by omega)
  have hq : (0 : Int) < 2 ^ heldN k := Int.pow_pos (by decide)
 all_goals first
  | exact ⟨okC_one, rfl⟩
  | exact ⟨hc, okC_fitN hg (by omega), by omega, Nat.le_trans (Fit.ln hg (n := 4000) (by omega)) (by omega), by rw [hp]; exact hq⟩
  | (rw [hp]; exact hQ)
end Go.Proofs.YtnjjfakjnkhhjaaGreatDoor.Ev
