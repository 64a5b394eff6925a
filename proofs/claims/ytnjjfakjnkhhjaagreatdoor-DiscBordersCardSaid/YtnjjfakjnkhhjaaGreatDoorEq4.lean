import Derived.Test.YtnjjfakjnkhhjaaGreatDoorEq3
set_option maxHeartbeats 2000000
set_option maxRecDepth 100000
set_option linter.all false
namespace Go.Proofs.YtnjjfakjnkhhjaaGreatDoor.Ev
open Go Go.RowKit
def s_kRoot : FnSpec := ⟨.tup [(false, [.L]), (false, [.b])], fun ds => match ds with | [.sl n cs] => okC n cs ∧ n = ln (vL cs).toNat ∧ n ≤ 14000 | _ => False,
 fun ds _ => match ds with | [.sl _ cs] => ((rt (vL cs).toNat : Nat) : Int) | _ => 0,
 fun ds _ => match ds with | [.sl _ cs] => decide ((vL cs).toNat - rt (vL cs).toNat * rt (vL cs).toNat ≠ 0) | _ => false, fun _ _ => 0, fun _ _ => []⟩
theorem root_arg {ds : List D} (h : s_kRoot.p ds) : ∃ n cs, ds = [.sl n cs] ∧ okC n cs ∧ n = ln (vL cs).toNat ∧ n ≤ 14000 := by
 match ds, h with
 | [.sl n cs], h => exact ⟨n, cs, rfl, h⟩
theorem okC_take {n h : Nat} {cs : List D} (hc : okC n cs) (hh : h ≤ n) : okC h (cs.take h) := by
 obtain ⟨h1, h2, h3, h4⟩ := hc
 have hn : nums (cs.take h) = (nums cs).take h := by unfold nums; rw [List.map_take]
 have he : cs.take h = u32s ((nums cs).take h) := by
  have : cs.take h = (u32s (nums cs)).take h := congrArg (·.take h) h1
  rw [this]; unfold u32s; rw [List.map_take]
 refine ⟨by rw [hn]; exact he, by rw [List.length_take, h2]; omega, ?_, by omega⟩
 rw [hn]
 intro i
 unfold dig
 rw [List.getD_eq_getElem?_getD, List.getElem?_take]
 split
 ·rw [← List.getD_eq_getElem?_getD]; exact h3 i
 ·simp [Bs_eq]
theorem okC_cut {n l h : Nat} {cs : List D} (hc : okC n cs) (hh : h ≤ n) (hl : l ≤ h) : okC (h - l) ((cs.take h).drop l) := okC_drop (okC_take hc hh)
theorem vL_cat {n m : Nat} {cs es : List D} (h : okC n cs) (h' : okC m es) : (vL (cs ++ es)).toNat = (vL cs).toNat + 2 ^ (32 * n) * (vL es).toNat := by
 have e : nums (cs ++ es) = nums cs ++ nums es := by unfold nums; rw [List.map_append]
 rw [vL_nums, vL_nums, vL_nums, e, val_app, okC_len h, Bs_pow_eq]
theorem drop_cut {l h : Nat} {cs : List D} (hl : l ≤ h) (hh : h ≤ cs.length) : cs.drop l = (cs.take h).drop l ++ cs.drop h := by
 have : cs.drop l = (cs.take h ++ cs.drop h).drop l := by rw [List.take_append_drop]
 rw [this, List.drop_append_of_le_length (by rw [List.length_take]; omega)]
theorem vL_cut {n l h : Nat} {cs : List D} (hc : okC n cs) (hh : h ≤ n) (hl : l ≤ h) : (vL (cs.drop l)).toNat = (vL ((cs.take h).drop l)).toNat + 2 ^ (32 * (h - l)) * (vL (cs.drop h)).toNat := by
 rw [drop_cut hl (by rw [hc.2.1]; exact hh), vL_cat (okC_cut hc hh hl) (okC_drop hc)]
theorem root_step {v low k : Nat} : flX (rt v) (low + 2 ^ (32 * (2 * k)) * (v - rt v * rt v)) k = low + 2 ^ (32 * (2 * k)) * v := by
 unfold flX
 have h1 := (rt_spec v).1
 have e : 2 ^ (32 * (2 * k)) = 2 ^ (32 * k) * 2 ^ (32 * k) := by rw [← Nat.pow_add]; congr 1; omega
 rw [sq_mul, e]
 generalize 2 ^ (32 * k) * 2 ^ (32 * k) = P
 have h2 : P * (v - rt v * rt v) = P * v - P * (rt v * rt v) := Nat.mul_sub ..
 have h3 : P * (rt v * rt v) ≤ P * v := Nat.mul_le_mul_left _ h1
 rw [h2, Nat.mul_comm (rt v * rt v)]
 omega
theorem root_two {n i i0 : Nat} {cs : List D} (hc : okC n cs) (hn : n = ln (vL cs).toNat) (hi : i ≤ i0) (h0 : i0 + 3 ≤ n) : 2 ≤ ln (rt (vL (cs.drop i)).toNat) := by
 rw [drop_toNat hc, ← Bs_pow_eq]
 have h1 : Bs ^ (n - 1) ≤ (vL cs).toNat := by
  apply Nat.le_of_not_lt
  intro h
  have := ln_le_of_lt h
  omega
 have h2 : Bs ^ 2 ≤ (vL cs).toNat / Bs ^ i := by
  rw [Nat.le_div_iff_mul_le (Nat.pow_pos (by rw [Bs_eq]; omega)), ← Nat.pow_add]
  exact Nat.le_trans (Nat.pow_le_pow_right (by rw [Bs_eq]; omega) (by omega)) h1
 have h3 : Bs ≤ rt ((vL cs).toNat / Bs ^ i) := le_rt (by rw [Nat.pow_two] at h2; exact h2)
 generalize rt ((vL cs).toNat / Bs ^ i) = r at *
 have hr : r ≠ 0 := by rw [Bs_eq] at h3; omega
 rw [ln_pos hr]
 have : r / Bs ≠ 0 := by
  intro h
  have := Nat.lt_of_div_eq_zero (by rw [Bs_eq]; omega) h
  omega
 have := ln_zero_iff (n := r / Bs)
 omega
def rN (cs : List D) (i : Nat) : Nat := min (ln (rt (vL (cs.drop i)).toNat) - 1) (i / 2)
theorem rI_ex (cs : List D) (i0 : Nat) : ∃ I : Nat → Nat, I 0 = i0 - 2 * rN cs i0 ∧ ∀ j, I (j + 1) = I j - 2 * rN cs (I j) :=
 ⟨fun j => Nat.rec (i0 - 2 * rN cs i0) (fun _ x => x - 2 * rN cs x) j, rfl, fun _ => rfl⟩
theorem rI_inv {n i0 : Nat} {cs : List D} {I : Nat → Nat} (hc : okC n cs) (hn : n = ln (vL cs).toNat) (h0 : 0 < i0 → i0 + 3 ≤ n) (he : i0 % 2 = 0) (h1 : I 0 = i0 - 2 * rN cs i0) (h2 : ∀ j, I (j + 1) = I j - 2 * rN cs (I j)) :
  ∀ j, I j ≤ i0 ∧ I j % 2 = 0 ∧ (0 < I j → I j + 2 * (j + 1) ≤ i0) := by
 have key : ∀ i, i ≤ i0 → 0 < i → 1 ≤ rN cs i ∨ i < 2 := fun i hi hp => by
  have := root_two hc hn hi (h0 (by omega))
  unfold rN
  omega
 intro j
 induction j with
 | zero =>
  rw [h1]
  refine ⟨by omega, by omega, fun h => ?_⟩
  rcases key i0 (Nat.le_refl _) (by omega) with h3 | h3 <;> omega
 | succ j ih =>
  obtain ⟨a, b, c⟩ := ih
  rw [h2]
  refine ⟨by omega, by omega, fun h => ?_⟩
  rcases key (I j) a (by omega) with h3 | h3 <;> omega
theorem root_next {n i k : Nat} {cs : List D} (hc : okC n cs) (hi : i ≤ n) (hk : 2 * k ≤ i) {z : Int} (hz : z = (((vL (cs.drop i)).toNat - rt (vL (cs.drop i)).toNat * rt (vL (cs.drop i)).toNat : Nat) : Int)) :
  flX (rt (vL (cs.drop i)).toNat) (vL ((cs.take i).drop (i - 2 * k) ++ N0.lm z)).toNat k = (vL (cs.drop (i - 2 * k))).toNat := by
 have h1 := okC_cut (l := i - 2 * k) hc hi (by omega)
 rw [show i - (i - 2 * k) = 2 * k by omega] at h1
 have hf : okC (N0.ln z) (N0.lm z) := by
  have hd := vL_lt (okC_drop (j := i) hc)
  have hn := hc.2.2.2
  rw [hz]
  exact okN (b := 32 * (n - i)) (by omega) (by omega)
 rw [vL_cat h1 hf, vL_N0n, hz, Int.natAbs_natCast, root_step, vL_cut hc hi (show i - 2 * k ≤ i by omega), show i - (i - 2 * k) = 2 * k by omega]
theorem Post.lb {Q : Post} {z z' : Int} {b b' : Bool} (h : Q.R (.tup [.sl (N0.ln z) (N0.lm z), .bool b])) (hz : z' = z) (hb : b' = b) : Q.R (.tup [.sl (N0.ln z') (N0.lm z'), .bool b']) := by
 subst hz hb; exact h
theorem good_kRoot : Good Tryz.prog (GWL [0, 1]) N0 200 s_kRoot := by
 refine goodM 1 (gc good_nRoot <| gc good_nMul <| gc good_nSub <| gc goodS_kAbove.weak <| gc good_kFollow gn) Tryz.f200 (by kernel_rfl) (by kernel_rfl) fun ds hp F A Q hF hA hQ => ?_
 obtain ⟨n, cs, rfl, hc, hn, hnn⟩ := root_arg hp
 clear hp
 obtain ⟨i0, hi0⟩ : ∃ i0 : Nat, i0 = 2 * ((n + 1) / 2 - 2) := ⟨_, rfl⟩
 obtain ⟨I, hI0, hI1⟩ := rI_ex cs i0
 obtain ⟨J, hJ⟩ : ∃ J : Nat → Int, ∀ j : Nat, J j = ((I j : Nat) : Int) := ⟨_, fun _ => rfl⟩
 obtain ⟨S, hS⟩ : ∃ S : Nat → Int, ∀ j : Nat, S j = ((rt (vL (cs.drop (I j))).toNat : Nat) : Int) := ⟨_, fun _ => rfl⟩
 obtain ⟨R, hR⟩ : ∃ R : Nat → Int, ∀ j : Nat, R j = (((vL (cs.drop (I j))).toNat - rt (vL (cs.drop (I j))).toNat * rt (vL (cs.drop (I j))).toNat : Nat) : Int) := ⟨_, fun _ => rfl⟩
 cbv
 refine scope_by 0 rfl (fun j st => ⟨((st.tmps.set 4 (.int .i64 (J j))).set 5 (.sl (F.ln (S j)) (F.lm (S j)))).set 6 (.sl (F.ln (R j)) (F.lm (R j))), st.heap⟩) i0 ?_ (fun j hj => ?_)
 ·cbv
  repeat' (first | with_reducible refine And.intro ?_ ?_ | (with_reducible refine safe_lift hA ?_; kernel_rfl) | (intro hc_; cbv))
  all_goals (repeat (rw [safe_true hA, true_and]; rotate_left; kernel_rfl))
  all_goals subst hF hA
  all_goals simp only [fnOf, find, std, reduceIte, Nat.reduceEqDiff, sp1, sp2, a1, a2, FnSpec.out, Shape.build, leafs, leafCells, tups, oneOf, List.cons_append, List.nil_append, List.length_cons, List.length_nil, s_kRoot, s_nRoot, s_nMul, s_nSub, s_kAbove, s_kFollow, dl, dz, dx, dcn, dcs, dm_raw, vI_N0, decide_eq_true_eq, decide_eq_false_iff_not, sg_beq, min_if] at *
  all_goals
   have hW0 : IntKind.i64.wrap (2 * if 0 > IntKind.i64.wrap (IntKind.i64.wrap ((IntKind.i64.wrap ((n : Int) + 1)).tdiv 2) - 2) then 0 else IntKind.i64.wrap (IntKind.i64.wrap ((IntKind.i64.wrap ((n : Int) + 1)).tdiv 2) - 2)) = (i0 : Int) := by
    have e1 : IntKind.i64.wrap ((n : Int) + 1) = (n : Int) + 1 := wrap_in (by omega) (by omega)
    have e2 : IntKind.i64.wrap (((n : Int) + 1).tdiv 2) = ((n : Int) + 1) / 2 := by rw [Int.tdiv_eq_ediv_of_nonneg (by omega), wrap_in (by omega) (by omega)]
    have e3 : IntKind.i64.wrap (((n : Int) + 1) / 2 - 2) = ((n : Int) + 1) / 2 - 2 := wrap_in (by omega) (by omega)
    rw [e1, e2, e3]
    split
    ·rw [wrap_in (by omega) (by omega)]; omega
    ·rw [wrap_in (by omega) (by omega)]; omega
   simp only [hW0, Int.toNat_natCast] at *
  all_goals
   have hile : i0 ≤ i0 := Nat.le_refl _
   have hev : i0 % 2 = 0 := by omega
   have hin : i0 ≤ n := by omega
   have h03 : 0 < i0 → i0 + 3 ≤ n := by omega
   have hd := okC_drop (j := i0) hc
   have hvlt := vL_lt hd
   have hrs := (rt_spec (vL (cs.drop (i0))).toNat).1
   have hrl := rt_le (vL (cs.drop (i0))).toNat
   have hrn := root_two (i := i0) hc hn hile
   have hnx := root_next (i := i0) (k := rN cs (i0)) hc hin (by unfold rN; omega) rfl
   have hk2 : 2 * rN cs (i0) ≤ i0 := by unfold rN; omega
   have hkd : rN cs (i0) ≤ ln (rt (vL (cs.drop (i0))).toNat) - 1 := Nat.min_le_left _ _
   have hlen : ln (rt (vL (cs.drop (i0))).toNat) ≤ n := Nat.le_trans (ln_mono hrl) (Nat.le_trans (okC_ln' hd) (by omega))
   have hlen2 : N0.ln (((vL (cs.drop (i0))).toNat - rt (vL (cs.drop (i0))).toNat * rt (vL (cs.drop (i0))).toNat : Nat) : Int) ≤ n - (i0) := Nat.le_trans (ln_mono (Nat.sub_le _ _)) (okC_ln' hd)
   have hkk : 0 < i0 → min (IntKind.i64.wrap (((N0.ln ((rt (vL (cs.drop (i0))).toNat : Nat) : Int) : Nat) : Int) - 1)) (IntKind.i64.wrap (((i0 : Nat) : Int).tdiv 2)) = ((rN cs (i0) : Nat) : Int) := fun h => by
    have := hrn (by omega)
    have hlr : N0.ln ((rt (vL (cs.drop (i0))).toNat : Nat) : Int) = ln (rt (vL (cs.drop (i0))).toNat) := rfl
    rw [hlr, Int.tdiv_eq_ediv_of_nonneg (by omega), wrap_in (by omega) (by omega), wrap_in (by omega) (by omega)]
    unfold rN
    omega
   obtain ⟨i, hii⟩ : ∃ i, i = i0 := ⟨_, rfl⟩
   simp only [← hii] at *
   obtain ⟨k, hkk0⟩ : ∃ k, k = rN cs i := ⟨_, rfl⟩
   simp only [← hkk0] at *
   have hv00 : i = 0 → (vL (cs.drop i)).toNat = (vL cs).toNat := fun h => by rw [h]; rfl
   obtain ⟨v, hvv⟩ : ∃ v, v = (vL (cs.drop i)).toNat := ⟨_, rfl⟩
   simp only [← hvv, vL_N0n, Int.natAbs_natCast, Int.toNat_natCast] at *
  all_goals first
   | decide
   | exact hd
   | exact ⟨by omega, by omega, hc.2.1⟩
   | exact ⟨okN (b := 32 * n) (Nat.lt_of_le_of_lt hrl (Nat.lt_of_lt_of_le hvlt (Nat.pow_le_pow_right (by decide) (by omega)))) (by omega), okN (b := 32 * n) (Nat.lt_of_le_of_lt hrl (Nat.lt_of_lt_of_le hvlt (Nat.pow_le_pow_right (by decide) (by omega)))) (by omega)⟩
   | exact ⟨hd, okN (b := 32 * n) (Nat.lt_of_le_of_lt hrs (Nat.lt_of_lt_of_le hvlt (Nat.pow_le_pow_right (by decide) (by omega)))) (by omega)⟩
   | skip
  all_goals by_cases hp : 0 < i
  all_goals first
   | (exfalso; exact hp (Int.natCast_pos.1 hc_))
   | (exfalso; exact hc_ (Int.natCast_pos.2 hp))
   | (have hi00 : i = 0 := Nat.eq_zero_of_not_pos hp
      have hv0 := hv00 hi00
      refine Post.lb hQ ?_ ?_
      ·rw [hv0]
      ·rw [hv0]; exact decide_eq_decide.2 (ln_pos_iff _))
   | skip
  all_goals
   have hkI := hkk hp
   have hw1 : IntKind.i64.wrap (2 * (k : Int)) = 2 * (k : Int) := wrap_in (by omega) (by omega)
   have hw2 : IntKind.i64.wrap ((i : Int) - 2 * (k : Int)) = ((i - 2 * k : Nat) : Int) := by rw [wrap_in (by omega) (by omega)]; omega
   have hw3 : IntKind.i64.wrap (((i - 2 * k : Nat) : Int) + 2 * (k : Int)) = (i : Int) := by rw [wrap_in (by omega) (by omega)]; omega
   have hw4 : ((i : Int) - ((i - 2 * k : Nat) : Int)).toNat = 2 * k := by omega
   simp only [hkI, hw1, hw2, hw3, hw4, Int.toNat_natCast, hnx] at *
  all_goals
   have ob := okN (x := v - rt v * rt v) (b := 32 * n) (Nat.lt_of_le_of_lt (Nat.sub_le _ _) (Nat.lt_of_lt_of_le hvlt (Nat.pow_le_pow_right (by decide) (by omega)))) (by omega)
   have orv := okN (x := rt v) (b := 32 * n) (Nat.lt_of_le_of_lt hrl (Nat.lt_of_lt_of_le hvlt (Nat.pow_le_pow_right (by decide) (by omega)))) (by omega)
   have oc := okC_cut (l := i - 2 * k) hc hin (by omega)
   rw [show i - (i - 2 * k) = 2 * k by omega] at oc
   have hsum : 2 * k + N0.ln ((v - rt v * rt v : Nat) : Int) ≤ n := by omega
   have hr0 : 0 < rt v := by
    apply Nat.pos_of_ne_zero
    intro h0
    have h2 := hrn (by omega)
    rw [h0, ln_zero] at h2
    omega
  all_goals first
   | exact ⟨Int.natCast_nonneg _, Int.ofNat_le.2 (Nat.sub_le _ _), Int.ofNat_le.2 hin, hc.2.1⟩
   | exact ⟨ob, oc, Nat.le_trans hsum (by omega)⟩
   | exact ⟨orv, okC_cat oc ob (Nat.le_trans hsum (by omega)), (by rw [vL_N0]; exact Int.natCast_pos.2 (by rw [Int.natAbs_natCast]; exact hr0)), Int.natCast_nonneg _, Int.ofNat_le.2 (by omega), Nat.le_trans hlen (by omega), Nat.le_trans hsum (by omega)⟩
   | (show j + 1 ≤ i0; omega)
   | (simp only [hJ, hS, hR, hI0]; done)
   | (simp only [hIj]; done)
   | trace_state
 ·cbv
  repeat' (first | with_reducible refine And.intro ?_ ?_ | (with_reducible refine safe_lift hA ?_; kernel_rfl) | (intro hc_; cbv))
  all_goals (repeat (rw [safe_true hA, true_and]; rotate_left; kernel_rfl))
  all_goals subst hF hA
  all_goals simp only [fnOf, find, std, reduceIte, Nat.reduceEqDiff, sp1, sp2, a1, a2, FnSpec.out, Shape.build, leafs, leafCells, tups, oneOf, List.cons_append, List.nil_append, List.length_cons, List.length_nil, s_kRoot, s_nRoot, s_nMul, s_nSub, s_kAbove, s_kFollow, dl, dz, dx, dcn, dcs, dm_raw, vI_N0, decide_eq_true_eq, decide_eq_false_iff_not, sg_beq, min_if] at *
  all_goals
   obtain ⟨hv1, hv2, hv3⟩ := rI_inv hc hn (by omega) (by omega) hI0 hI1 j
   have hIj := hI1 j
   simp only [hJ, hS, hR] at *
  all_goals
   have hile : (I j) ≤ i0 := hv1
   have hev : (I j) % 2 = 0 := hv2
   have hin : (I j) ≤ n := by omega
   have h03 : 0 < i0 → i0 + 3 ≤ n := by omega
   have hd := okC_drop (j := (I j)) hc
   have hvlt := vL_lt hd
   have hrs := (rt_spec (vL (cs.drop ((I j)))).toNat).1
   have hrl := rt_le (vL (cs.drop ((I j)))).toNat
   have hrn := root_two (i := (I j)) hc hn hile
   have hnx := root_next (i := (I j)) (k := rN cs ((I j))) hc hin (by unfold rN; omega) rfl
   have hk2 : 2 * rN cs ((I j)) ≤ (I j) := by unfold rN; omega
   have hkd : rN cs ((I j)) ≤ ln (rt (vL (cs.drop ((I j)))).toNat) - 1 := Nat.min_le_left _ _
   have hlen : ln (rt (vL (cs.drop ((I j)))).toNat) ≤ n := Nat.le_trans (ln_mono hrl) (Nat.le_trans (okC_ln' hd) (by omega))
   have hlen2 : N0.ln (((vL (cs.drop ((I j)))).toNat - rt (vL (cs.drop ((I j)))).toNat * rt (vL (cs.drop ((I j)))).toNat : Nat) : Int) ≤ n - ((I j)) := Nat.le_trans (ln_mono (Nat.sub_le _ _)) (okC_ln' hd)
   have hkk : 0 < (I j) → min (IntKind.i64.wrap (((N0.ln ((rt (vL (cs.drop ((I j)))).toNat : Nat) : Int) : Nat) : Int) - 1)) (IntKind.i64.wrap ((((I j) : Nat) : Int).tdiv 2)) = ((rN cs ((I j)) : Nat) : Int) := fun h => by
    have := hrn (by omega)
    have hlr : N0.ln ((rt (vL (cs.drop ((I j)))).toNat : Nat) : Int) = ln (rt (vL (cs.drop ((I j)))).toNat) := rfl
    rw [hlr, Int.tdiv_eq_ediv_of_nonneg (by omega), wrap_in (by omega) (by omega), wrap_in (by omega) (by omega)]
    unfold rN
    omega
   obtain ⟨i, hii⟩ : ∃ i, i = (I j) := ⟨_, rfl⟩
   simp only [← hii] at *
   obtain ⟨k, hkk0⟩ : ∃ k, k = rN cs i := ⟨_, rfl⟩
   simp only [← hkk0] at *
   have hv00 : i = 0 → (vL (cs.drop i)).toNat = (vL cs).toNat := fun h => by rw [h]; rfl
   obtain ⟨v, hvv⟩ : ∃ v, v = (vL (cs.drop i)).toNat := ⟨_, rfl⟩
   simp only [← hvv, vL_N0n, Int.natAbs_natCast, Int.toNat_natCast] at *
  all_goals first
   | decide
   | exact hd
   | exact ⟨by omega, by omega, hc.2.1⟩
   | exact ⟨okN (b := 32 * n) (Nat.lt_of_le_of_lt hrl (Nat.lt_of_lt_of_le hvlt (Nat.pow_le_pow_right (by decide) (by omega)))) (by omega), okN (b := 32 * n) (Nat.lt_of_le_of_lt hrl (Nat.lt_of_lt_of_le hvlt (Nat.pow_le_pow_right (by decide) (by omega)))) (by omega)⟩
   | exact ⟨hd, okN (b := 32 * n) (Nat.lt_of_le_of_lt hrs (Nat.lt_of_lt_of_le hvlt (Nat.pow_le_pow_right (by decide) (by omega)))) (by omega)⟩
   | skip
  all_goals by_cases hp : 0 < i
  all_goals first
   | (exfalso; exact hp (Int.natCast_pos.1 hc_))
   | (exfalso; exact hc_ (Int.natCast_pos.2 hp))
   | (have hi00 : i = 0 := Nat.eq_zero_of_not_pos hp
      have hv0 := hv00 hi00
      refine Post.lb hQ ?_ ?_
      ·rw [hv0]
      ·rw [hv0]; exact decide_eq_decide.2 (ln_pos_iff _))
   | skip
  all_goals
   have hkI := hkk hp
   have hw1 : IntKind.i64.wrap (2 * (k : Int)) = 2 * (k : Int) := wrap_in (by omega) (by omega)
   have hw2 : IntKind.i64.wrap ((i : Int) - 2 * (k : Int)) = ((i - 2 * k : Nat) : Int) := by rw [wrap_in (by omega) (by omega)]; omega
   have hw3 : IntKind.i64.wrap (((i - 2 * k : Nat) : Int) + 2 * (k : Int)) = (i : Int) := by rw [wrap_in (by omega) (by omega)]; omega
   have hw4 : ((i : Int) - ((i - 2 * k : Nat) : Int)).toNat = 2 * k := by omega
   simp only [hkI, hw1, hw2, hw3, hw4, Int.toNat_natCast, hnx] at *
  all_goals
   have ob := okN (x := v - rt v * rt v) (b := 32 * n) (Nat.lt_of_le_of_lt (Nat.sub_le _ _) (Nat.lt_of_lt_of_le hvlt (Nat.pow_le_pow_right (by decide) (by omega)))) (by omega)
   have orv := okN (x := rt v) (b := 32 * n) (Nat.lt_of_le_of_lt hrl (Nat.lt_of_lt_of_le hvlt (Nat.pow_le_pow_right (by decide) (by omega)))) (by omega)
   have oc := okC_cut (l := i - 2 * k) hc hin (by omega)
   rw [show i - (i - 2 * k) = 2 * k by omega] at oc
   have hsum : 2 * k + N0.ln ((v - rt v * rt v : Nat) : Int) ≤ n := by omega
   have hr0 : 0 < rt v := by
    apply Nat.pos_of_ne_zero
    intro h0
    have h2 := hrn (by omega)
    rw [h0, ln_zero] at h2
    omega
  all_goals first
   | exact ⟨Int.natCast_nonneg _, Int.ofNat_le.2 (Nat.sub_le _ _), Int.ofNat_le.2 hin, hc.2.1⟩
   | exact ⟨ob, oc, Nat.le_trans hsum (by omega)⟩
   | exact ⟨orv, okC_cat oc ob (Nat.le_trans hsum (by omega)), (by rw [vL_N0]; exact Int.natCast_pos.2 (by rw [Int.natAbs_natCast]; exact hr0)), Int.natCast_nonneg _, Int.ofNat_le.2 (by omega), Nat.le_trans hlen (by omega), Nat.le_trans hsum (by omega)⟩
   | (show j + 1 ≤ i0; omega)
   | (simp only [hJ, hS, hR, hI0]; done)
   | (simp only [hIj]; done)
   | trace_state
end Go.Proofs.YtnjjfakjnkhhjaaGreatDoor.Ev
