import Derived.Test.YtkfojbelnemhbaaGreatDoorEq1
set_option maxHeartbeats 2000000
set_option maxRecDepth 100000
set_option linter.all false
namespace Go.Proofs.YtkfojbelnemhbaaGreatDoor.Ev
open Go Go.RowKit
def fw : Nat → Nat → List Nat
 | 0, _ => []
 | k + 1, q => q % Bs :: fw k (q / Bs)
theorem fw_len : ∀ (k q : Nat), (fw k q).length = k
 | 0, _ => rfl
 | k + 1, q => by rw [fw, List.length_cons, fw_len k]
theorem fw_ok : ∀ (k q : Nat), Ok (fw k q)
 | 0, _ => fun i => by simp [fw, dig, Bs_eq]
 | k + 1, q => fun i => by
  rw [fw]
  cases i with
  | zero => rw [dig_cons_zero]; exact Nat.mod_lt _ (by rw [Bs_eq]; omega)
  | succ i => rw [dig_cons_succ]; exact fw_ok k _ i
theorem fw_val : ∀ {k q : Nat}, q < Bs ^ k → val (fw k q) = q
 | 0, q, h => by rw [fw, val_nil]; rw [Nat.pow_zero] at h; omega
 | k + 1, q, h => by
  rw [fw, val_cons, fw_val (by rw [Nat.pow_succ] at h; exact Nat.div_lt_of_lt_mul (by rw [Nat.mul_comm]; exact h))]
  exact Nat.mod_add_div _ _
theorem fw_step {d : Nat} (hd : d < Bs) (k q : Nat) : fw (k + 1) (d + Bs * q) = d :: fw k q := by
 rw [fw, Nat.add_mul_mod_self_left, Nat.mod_eq_of_lt hd, Nat.add_mul_div_left _ _ (by rw [Bs_eq]; omega), Nat.div_eq_of_lt hd, Nat.zero_add]
theorem div_step {x b v : Nat} (hb : 0 < b) (hx : x < Bs) : (x + Bs * v) / b = (x + Bs * (v % b)) / b + Bs * (v / b) ∧ (x + Bs * v) % b = (x + Bs * (v % b)) % b ∧ (x + Bs * (v % b)) / b < Bs := by
 have h1 := Nat.div_add_mod v b
 have h2 : x + Bs * v = (x + Bs * (v % b)) + b * (Bs * (v / b)) := by
  have : Bs * v = Bs * (b * (v / b)) + Bs * (v % b) := by rw [← Nat.mul_add, h1]
  rw [this, Nat.mul_left_comm b]; omega
 refine ⟨by rw [h2, Nat.add_mul_div_left _ _ hb], by rw [h2, Nat.add_mul_mod_self_left], ?_⟩
 rw [Nat.div_lt_iff_lt_mul hb]
 have h3 := Nat.mod_lt v hb
 have : Bs * (v % b) + Bs ≤ Bs * b := by rw [← Nat.mul_succ]; exact Nat.mul_le_mul_left _ h3
 omega
def s_kQuot : FnSpec := ⟨.tup [(false, [.S]), (false, [.b])], fun ds => match ds with | [.sl n cs, .sl m es] => okC n cs ∧ okC m es ∧ 0 < vL es ∧ m = ln (vL es).toNat ∧ n = ln (vL cs).toNat ∧ n ≤ 50000 ∧ m ≤ 49000 | _ => False, fun _ _ => 0,
 fun ds _ => match ds with | [.sl _ cs, .sl _ es] => decide ((vL cs).toNat % (vL es).toNat ≠ 0) | _ => false,
 fun ds _ => match ds with | [.sl n _, .sl m _] => n + 1 - m | _ => 0,
 fun ds _ => match ds with | [.sl n cs, .sl m es] => u32s (fw (n + 1 - m) ((vL cs).toNat / (vL es).toNat)) | _ => []⟩
theorem quot_arg {ds : List D} (h : s_kQuot.p ds) : ∃ n cs m es, ds = [.sl n cs, .sl m es] ∧ okC n cs ∧ okC m es ∧ 0 < vL es ∧ m = ln (vL es).toNat ∧ n = ln (vL cs).toNat ∧ n ≤ 50000 ∧ m ≤ 49000 := by
 match ds, h with
 | [.sl n cs, .sl m es], h => exact ⟨n, cs, m, es, rfl, h⟩
theorem get_dig {n : Nat} {cs : List D} (hc : okC n cs) {i : Nat} (hi : i < n) : cs[0 + i * 1]? = some (.int .u32 ((dig (nums cs) i : Nat) : Int)) := by
 have hl := okC_len hc
 rw [show 0 + i * 1 = i by omega]
 have h := hc.1
 have : cs[i]? = (u32s (nums cs))[i]? := congrArg (·[i]?) h
 rw [this]
 unfold u32s
 rw [List.getElem?_map, dig_get (by omega), List.getElem?_eq_getElem (by omega)]
 rfl
theorem nums_cons (x : Nat) (l : List D) : nums (D.int .u32 (x : Int) :: l) = x :: nums l := rfl
theorem vL_nums (cs : List D) : (vL cs).toNat = val (nums cs) := by unfold vL; rw [Int.toNat_natCast]
theorem vL_cons (x : Nat) (l : List D) : (vL (D.int .u32 (x : Int) :: l)).toNat = x + Bs * (vL l).toNat := by
 rw [vL_nums, vL_nums, nums_cons, val_cons]
theorem vL_dropS (cs : List D) (i : Nat) : (vL (cs.drop i)).toNat = dig (nums cs) i + Bs * (vL (cs.drop (i + 1))).toNat := by
 have e : ∀ i, nums (cs.drop i) = (nums cs).drop i := fun i => by unfold nums; rw [List.map_drop]
 rw [vL_nums, vL_nums, e, e, val_drop_succ]
theorem okC_single {x : Nat} (h : x < Bs) : okC 1 [D.int .u32 (x : Int)] := ⟨rfl, rfl, fun i => by
 rcases i with _ | i
 ·show x < Bs; exact h
 ·show dig [] i < Bs; rw [Bs_eq]; simp [dig], by decide⟩
theorem cells_step {T i d q k : Nat} (hd : d < Bs) (hi : i < T) :
  patch (u32s (List.replicate (i + 1) 0 ++ fw k q)) (0 + i * 1) (List.take (min (N0.ln (d : Nat)) (T - i)) (N0.lm (d : Nat))) = u32s (List.replicate i 0 ++ fw (k + 1) (d + Bs * q)) := by
 have e : List.replicate (i + 1) 0 ++ fw k q = List.replicate i 0 ++ 0 :: fw k q := by rw [List.replicate_succ', List.append_assoc]; rfl
 have hl : (u32s (List.replicate i 0)).length = i := by rw [len_u32s, List.length_replicate]
 rw [fw_step hd, e, u32s_app, u32s_app, show 0 + i * 1 = i by omega]
 unfold patch
 rw [List.take_left' hl]
 by_cases h0 : d = 0
 ·subst h0
  have h1 : N0.lm ((0 : Nat) : Int) = [] := by show u32s (lim 0) = []; rw [lim_zero]; rfl
  rw [h1, List.take_nil, List.append_nil, List.length_nil, Nat.add_zero, List.drop_left' hl]
 ·have h1 : N0.lm ((d : Nat) : Int) = u32s [d] := by show u32s (lim d) = _; rw [lim_single h0 hd]
  have h2 : N0.ln ((d : Nat) : Int) = 1 := by show (lim d).length = 1; rw [lim_single h0 hd]; rfl
  rw [h1, h2, show min 1 (T - i) = 1 by omega]
  have h3 : List.take 1 (u32s [d]) = u32s [d] := rfl
  rw [h3, show (u32s [d]).length = 1 from rfl, show i + 1 = (u32s (List.replicate i 0)).length + 1 by rw [hl], List.drop_append, List.append_assoc]
  congr 1
  rw [List.drop_eq_nil_of_le (by omega), Nat.add_sub_cancel_left]
  rfl
theorem ln_pos_iff (x : Nat) : (0 : Int) < ((N0.ln (x : Nat) : Nat) : Int) ↔ x ≠ 0 := by
 have h : N0.ln (x : Nat) = ln x := rfl
 rw [h]
 have := ln_zero_iff (n := x)
 omega
theorem lt_of_ln {x y : Nat} (h : ln x < ln y) : x < y := by
 rcases Nat.lt_or_ge x y with h1 | h1
 ·exact h1
 ·have := ln_mono h1; omega
theorem okL_cons {n x : Nat} {cs : List D} (h : okC n cs) (hx : x < Bs) (hn : 1 + n ≤ 100000) : okL (.sl (1 + n) (D.int .u32 (x : Int) :: cs)) := okC_cat (okC_single hx) h hn
theorem frz_lm (z : Int) : ((true || (N0.lm z).all D.one) && (N0.lm z).all D.frz) = true := by
 rw [show N0.lm z = u32s (lim z.natAbs) from rfl, frz_u32s]; rfl
theorem okC_ln' {n : Nat} {cs : List D} (h : okC n cs) : ln (vL cs).toNat ≤ n := by rw [vL_nums]; exact okC_ln h
theorem Post.q {Q : Post} {n n' : Nat} {cs cs' : List D} {b b' : Bool} (h : Q.R (.tup [.sl n cs, .bool b])) (h1 : n = n') (h2 : cs' = cs) (h3 : b = b') : Q.R (.tup [.sl n' cs', .bool b']) := by
 subst h1 h2 h3; exact h
theorem goodS_kQuot : GoodS Tryz.prog (GWL [0, 1]) N0 236 s_kQuot := by
 refine goodO (l := [0, 1]) (tab := [(261, s_nDiv), (258, s_kAbove)]) (shs := [(261, .tup [(false, [.L]), (false, [.L]), (false, [.b])]), (258, .one .S)]) rfl ⟨goodS_nDiv, goodS_kAbove, trivial⟩ Tryz.f236 (by kernel_rfl) (by kernel_rfl) (by kernel_rfl) (fun ds hp F A Q hF hA hQ => ⟨1, ?_⟩)
 obtain ⟨n, cs, m, es, rfl, hc, he, hb0, hm, hn, hnn, hmm⟩ := quot_arg hp
 clear hp
 obtain ⟨T, hT⟩ : ∃ T, T = n + 1 - m := ⟨_, rfl⟩
 obtain ⟨J, hJ⟩ : ∃ J : Nat → Int, ∀ j, J j = ((T - 1 - j : Nat) : Int) := ⟨_, fun _ => rfl⟩
 obtain ⟨R, hR⟩ : ∃ R : Nat → Int, ∀ j, R j = (((vL (cs.drop (T - 1 - j))).toNat % (vL es).toNat : Nat) : Int) := ⟨_, fun _ => rfl⟩
 obtain ⟨C, hC⟩ : ∃ C : Nat → List D, ∀ j, C j = u32s (List.replicate (T - 1 - j) 0 ++ fw (j + 1) ((vL (cs.drop (T - 1 - j))).toNat / (vL es).toNat)) := ⟨_, fun _ => rfl⟩
 cbv
 refine scope_by 0 rfl (fun j st => ⟨((st.tmps.set 6 (.int .i64 (J j))).set 7 (.osl 0 1 0 T)).set 8 (.sl (F.ln (R j)) (F.lm (R j))), [⟨145, C j, false, .arr⟩]⟩) (T - 1) ?_ (fun j hj => ?_)
 ·cbv
  repeat' (first | with_reducible refine And.intro ?_ ?_ | (with_reducible refine safe_lift hA ?_; kernel_rfl) | (intro hc_; cbv))
  all_goals (repeat (rw [safe_true hA, true_and]; rotate_left; kernel_rfl))
  all_goals subst hF hA
  all_goals simp only [fnOf, find, std, reduceIte, Nat.reduceEqDiff, sp2, a2, FnSpec.out, Shape.build, leafs, leafCells, tups, oneOf, List.cons_append, List.nil_append, List.length_cons, List.length_nil, s_kQuot, s_nDiv, s_kAbove, dl, decide_eq_true_eq, decide_eq_false_iff_not, min_if] at *
  all_goals
   have hb1 : 0 < (vL es).toNat := by omega
   have hm1 : 1 ≤ m := by have := ln_zero_iff (n := (vL es).toNat); omega
   have hbv : (vL es).toNat < Bs ^ m := by rw [vL_nums, ← okC_len he]; exact val_lt he.2.2.1
   have hbm : ∀ x : Nat, ln x < m → x < (vL es).toNat := fun x hx => lt_of_ln (by omega)
  all_goals
   have hW : (if 0 > IntKind.i64.wrap (IntKind.i64.wrap ((n : Int) - (m : Int)) + 1) then 0 else IntKind.i64.wrap (IntKind.i64.wrap ((n : Int) - (m : Int)) + 1)) = (T : Int) := by
    have h3 : IntKind.i64.wrap ((n : Int) - (m : Int)) = (n : Int) - (m : Int) := wrap_in (by omega) (by omega)
    rw [h3, wrap_in (by omega) (by omega)]
    split <;> omega
   simp only [hW, Int.toNat_natCast] at *
  all_goals first
   | exact ⟨by omega, by omega⟩
   | exact ⟨by omega, by omega, hc.2.1⟩
   | skip
  all_goals by_cases hc2 : 0 < T
  all_goals first
   | (exfalso; omega)
   | (have hT0 : T = 0 := by omega
      have hlt := hbm (vL cs).toNat (by omega)
      refine Post.q hQ ?_ ?_ ?_
      ·omega
      ·rw [← hT, hT0]; rfl
      ·rw [Nat.mod_eq_of_lt hlt]
       have := ln_zero_iff (n := (vL cs).toNat)
       rw [decide_eq_decide]
       omega)
   | skip
  all_goals
   obtain ⟨i, hi⟩ : ∃ i, T = i + 1 := ⟨T - 1, by omega⟩
   have hI : IntKind.i64.wrap ((T : Int) - 1) = (i : Int) := by rw [wrap_in (by omega) (by omega)]; omega
   have hin : i < n := by omega
   have hg := get_dig hc hin
   have hx : dig (nums cs) i < Bs := hc.2.2.1 i
   have hd := okC_drop (j := T) hc
   have hv : (vL (D.int .u32 ((dig (nums cs) i : Nat) : Int) :: cs.drop T)).toNat = (vL (cs.drop i)).toNat := by rw [vL_cons, vL_dropS cs i, hi]
   have hdl : (vL (cs.drop T)).toNat < (vL es).toNat := hbm _ (Nat.lt_of_le_of_lt (okC_ln' hd) (by omega))
   have hq : (vL (cs.drop i)).toNat / (vL es).toNat < Bs := by
    have := (div_step (v := (vL (cs.drop T)).toNat) hb1 hx).2.2
    rw [Nat.mod_eq_of_lt hdl] at this
    rw [vL_dropS cs i, ← hi]; exact this
   have hi1 : T - 1 - 0 = i := by omega
   simp only [hI, Int.toNat_natCast, hg, hv, if_neg (show ¬(vL es).toNat = 0 by omega)] at *
  all_goals first
   | exact ⟨by omega, by omega⟩
   | exact ⟨by omega, by omega, hc.2.1⟩
   | exact ⟨_, rfl⟩
   | exact ⟨hd, okC_single hx, by omega⟩
   | exact ⟨okL_cons hd hx (by omega), he⟩
   | exact lm_len _
   | exact frz_lm _
   | (rw [zeros_u32, len_u32s, List.length_replicate]; omega)
   | (rw [hJ, hi1])
   | (rw [hR, hi1])
   | (rw [hC, hi1, zeros_u32]
      have hr : List.replicate T 0 = List.replicate (i + 1) 0 := by rw [hi]
      rw [hr]
      have h5 := cells_step (T := i + 1) (i := i) (k := 0) (q := 0) hq (by omega)
      rw [Nat.mul_zero, Nat.add_zero] at h5
      rw [show T - i = i + 1 - i by omega]
      simp only [fw, List.append_nil] at h5 ⊢
      exact h5.symm)
   | trace_state
 ·cbv
  repeat' (first | with_reducible refine And.intro ?_ ?_ | (with_reducible refine safe_lift hA ?_; kernel_rfl) | (intro hc_; cbv))
  all_goals (repeat (rw [safe_true hA, true_and]; rotate_left; kernel_rfl))
  all_goals subst hF hA
  all_goals simp only [fnOf, find, std, reduceIte, Nat.reduceEqDiff, sp2, a2, FnSpec.out, Shape.build, leafs, leafCells, tups, oneOf, List.cons_append, List.nil_append, List.length_cons, List.length_nil, s_kQuot, s_nDiv, s_kAbove, dl, decide_eq_true_eq, decide_eq_false_iff_not, min_if] at *
  all_goals
   have hb1 : 0 < (vL es).toNat := by omega
   have hm1 : 1 ≤ m := by have := ln_zero_iff (n := (vL es).toNat); omega
   have hbv : (vL es).toNat < Bs ^ m := by rw [vL_nums, ← okC_len he]; exact val_lt he.2.2.1
   have hbm : ∀ x : Nat, ln x < m → x < (vL es).toNat := fun x hx => lt_of_ln (by omega)
  all_goals
   have hJj : J j = ((T - 1 - j : Nat) : Int) := hJ j
   have hRj := hR j
   have hbR : (vL (cs.drop (T - 1 - j))).toNat % (vL es).toNat < (vL es).toNat := Nat.mod_lt _ hb1
  all_goals by_cases hc2 : 0 < J j
  all_goals first
   | (exfalso; omega)
   | (have h0 : T - 1 - j = 0 := by
       rcases Nat.eq_zero_or_pos (T - 1 - j) with h | h
       ·exact h
       ·exact absurd (by rw [hJj]; exact Int.natCast_pos.2 h) hc2
      have hv : (vL (cs.drop (T - 1 - j))).toNat = (vL cs).toNat := by rw [h0]; rfl
      rw [hC, hR]
      refine Post.q hQ ?_ ?_ ?_
      ·omega
      ·rw [hv, h0, ← hT, List.replicate_zero, List.nil_append]
       by_cases hT0 : T = 0
       ·rw [hT0]; rfl
       ·rw [show j + 1 = T by omega, List.take_of_length_le (by rw [len_u32s, fw_len]; omega)]
      ·rw [hv, decide_eq_decide, ln_pos_iff])
   | skip
  all_goals
   have hp : 0 < T - 1 - j := Int.natCast_pos.1 (by rw [← hJj]; exact hc2)
   obtain ⟨i, hi⟩ : ∃ i, T - 1 - j = i + 1 := ⟨T - 1 - j - 1, by omega⟩
   have hI : IntKind.i64.wrap (J j - 1) = (i : Int) := by rw [hJj, hi, wrap_in (by omega) (by omega)]; omega
   have hin : i < n := by omega
   have hg := get_dig hc hin
   have hx : dig (nums cs) i < Bs := hc.2.2.1 i
   have hRn : N0.ln (R j) ≤ 50000 := by
    rw [hRj]
    show ln _ ≤ 50000
    exact Nat.le_trans (ln_mono (Nat.le_of_lt hbR)) (by omega)
   have hRc : okC (N0.ln (R j)) (N0.lm (R j)) := okC_N0 (Nat.le_trans hRn (by omega))
   obtain ⟨d1, d2, d3⟩ := div_step (x := dig (nums cs) i) (v := (vL (cs.drop (i + 1))).toNat) hb1 hx
   have hv : (vL (D.int .u32 ((dig (nums cs) i : Nat) : Int) :: N0.lm (R j))).toNat = dig (nums cs) i + Bs * ((vL (cs.drop (i + 1))).toNat % (vL es).toNat) := by
    rw [vL_cons, vL_N0n, hRj, Int.natAbs_natCast, hi]
   have hi1 : T - 1 - (j + 1) = i := by omega
   simp only [hI, Int.toNat_natCast, hg, hv, if_neg (show ¬(vL es).toNat = 0 by omega)] at *
  all_goals first
   | exact ⟨by omega, by omega⟩
   | exact ⟨by omega, by omega, hc.2.1⟩
   | exact ⟨_, rfl⟩
   | exact ⟨hRc, okC_single hx, by omega⟩
   | exact ⟨okL_cons hRc hx (by omega), he⟩
   | exact lm_len _
   | exact frz_lm _
   | (rw [hC, len_u32s, List.length_append, List.length_replicate, fw_len]; omega)
   | (show j + 1 ≤ T - 1; omega)
   | (rw [hJ, hi1])
   | (rw [hR, hi1, vL_dropS cs i, d2])
   | (rw [hC, hC, hi1, hi, vL_dropS cs i, d1]
      exact (cells_step (T := T) (i := i) d3 (by omega)).symm)
   | trace_state
end Go.Proofs.YtkfojbelnemhbaaGreatDoor.Ev
namespace Go.Proofs.YtkfojbelnemhbaaGreatDoor.Ev
open Go Go.RowKit
theorem okN {x b : Nat} (h : x < 2 ^ b) (hb : b ≤ 3200000) : okC (N0.ln ((x : Nat) : Int)) (N0.lm ((x : Nat) : Int)) := okC_fitN (k := b) (by unfold Fit; rw [Int.natAbs_natCast]; exact h) hb
theorem ln_okN {x b c : Nat} (h : x < 2 ^ b) (hb : b ≤ 32 * c) : N0.ln ((x : Nat) : Int) ≤ c := Fit.ln (k := b) (by unfold Fit; rw [Int.natAbs_natCast]; exact h) hb
theorem Post.two {Q : Post} {z z' y y' : Int} (h : Q.R (.tup [.sl (N0.ln z) (N0.lm z), .sl (N0.ln y) (N0.lm y)])) (hz : z' = z) (hy : y' = y) : Q.R (.tup [.sl (N0.ln z') (N0.lm z'), .sl (N0.ln y') (N0.lm y')]) := by
 subst hz hy; exact h
end Go.Proofs.YtkfojbelnemhbaaGreatDoor.Ev
namespace Go.Proofs.YtkfojbelnemhbaaGreatDoor.Ev
open Go Go.RowKit
def rN (cs : List D) (i : Nat) : Nat := min (ln (rt (vL (cs.drop i)).toNat) - 1) (i / 2)
theorem Post.lb {Q : Post} {z z' : Int} {b b' : Bool} (h : Q.R (.tup [.sl (N0.ln z) (N0.lm z), .bool b])) (hz : z' = z) (hb : b' = b) : Q.R (.tup [.sl (N0.ln z') (N0.lm z'), .bool b']) := by
 subst hz hb; exact h
end Go.Proofs.YtkfojbelnemhbaaGreatDoor.Ev
