import Derived.Test.YtnjjfakjnkhhjaaGreatDoorJb
import Derived.Test.YtnjjfakjnkhhjaaGreatDoorJc
import Derived.Test.YtnjjfakjnkhhjaaGreatDoorGv
import Derived.Test.YtnjjfakjnkhhjaaGreatDoorEq5
set_option maxHeartbeats 2000000
set_option maxRecDepth 100000
set_option linter.all false
namespace Go.Proofs.YtnjjfakjnkhhjaaGreatDoor.Ev
open Go Go.RowKit
def s_tAdd : FnSpec := sp2 SD (fun x y => canD x ∧ canD y ∧ near 60000 x y) (fun x y i => re2 ((dv x).add (dv y)) i) (fun _ _ _ => false)
def s_tSub : FnSpec := sp2 SD (fun x y => canD x ∧ canD y ∧ near 60000 x y) (fun x y i => re2 ((dv x).sub (dv y)) i) (fun _ _ _ => false)
def s_tMul : FnSpec := sp2 SD (fun x y => okD x ∧ okD y ∧ dcn x ≤ 40000 ∧ dcn y ≤ 40000 ∧ Fit (dm x * dm y) 100000) (fun x y i => re2 ((dv x).mul (dv y)) i) (fun _ _ _ => false)
def s_tCmp : FnSpec := sp2 (.one (.i .i64)) (fun x y => canD x ∧ canD y ∧ near 60000 x y) (fun x y _ => cmpY (dv x) (dv y)) (fun _ _ _ => false)
def s_tExact : FnSpec := sp1 SD (fun x => okD x ∧ Fit (dm x) 100000) (fun x i => re2 (dv x).n i) (fun _ _ => false)
theorem good_tAdd : Good Tryz.prog (GWL [0, 1]) N0 104 s_tAdd := by
 have e : s_tAdd = s_qAdd := by unfold s_tAdd s_qAdd re2; rfl
 rw [e]; exact good_qAdd
theorem good_tSub : Good Tryz.prog (GWL [0, 1]) N0 103 s_tSub := by
 have e : s_tSub = s_qSub := by unfold s_tSub s_qSub re2; rfl
 rw [e]; exact good_qSub
theorem good_tMul : Good Tryz.prog (GWL [0, 1]) N0 16 s_tMul := by
 have e : s_tMul = s_qMul := by unfold s_tMul s_qMul re2; rfl
 rw [e]; exact good_qMul
theorem good_tCmp : Good Tryz.prog (GWL [0, 1]) N0 99 s_tCmp := by
 have e : s_tCmp = s_qCmp := by unfold s_tCmp s_qCmp cmpY; rfl
 rw [e]; exact good_qCmp
theorem good_tExact : Good Tryz.prog (GWL [0, 1]) N0 86 s_tExact := by
 have e : s_tExact = s_yExact := by unfold s_tExact s_yExact re2; rfl
 rw [e]; exact good_yExact
def qd (a : Dc) : Prop := (ccan a.1 ∧ a.2.n = a.2) ∧ cz a.1 1000 1320 ∧ sz a.2 1000 1320
def toldQ (x : D) : Prop := ∃ a : Dc, x = rel9 a ∧ qd a
theorem toldQ_mk {a : Dc} (h : qd a) : toldQ (rel9 a) := ⟨a, rfl, h⟩
theorem toldQ_arg {x : D} (h : toldQ x) : ∃ (a : Dc) (s1 : Bool) (n1 : Nat) (c1 : List D) (e1 : Int) (s2 : Bool) (n2 : Nat) (c2 : List D) (e2 : Int) (s3 : Bool) (n3 : Nat) (c3 : List D) (e3 : Int), x = .agg [.bool s1, .sl n1 c1, .int .i64 e1, .bool s2, .sl n2 c2, .int .i64 e2, .bool s3, .sl n3 c3, .int .i64 e3] ∧
  N0.neg a.1.1.1 = s1 ∧ N0.ln a.1.1.1 = n1 ∧ N0.lm a.1.1.1 = c1 ∧ a.1.1.2 = e1 ∧ N0.neg a.1.2.1 = s2 ∧ N0.ln a.1.2.1 = n2 ∧ N0.lm a.1.2.1 = c2 ∧ a.1.2.2 = e2 ∧ N0.neg a.2.1 = s3 ∧ N0.ln a.2.1 = n3 ∧ N0.lm a.2.1 = c3 ∧ a.2.2 = e3 ∧ qd a := by
 obtain ⟨a, rfl, h⟩ := h
 exact ⟨a, _, _, _, _, _, _, _, _, _, _, _, _, rfl, rfl, rfl, rfl, rfl, rfl, rfl, rfl, rfl, rfl, rfl, rfl, rfl, h⟩
def toldC (x : D) : Prop := ∃ a : Re, x = .agg [.bool (N0.neg a.1.1), .sl (N0.ln a.1.1) (N0.lm a.1.1), .int .i64 a.1.2, .bool (N0.neg a.2.1), .sl (N0.ln a.2.1) (N0.lm a.2.1), .int .i64 a.2.2] ∧ ccan a ∧ cz a 1000 1320
theorem toldC_arg {x : D} (h : toldC x) : ∃ (a : Re) (s1 : Bool) (n1 : Nat) (c1 : List D) (e1 : Int) (s2 : Bool) (n2 : Nat) (c2 : List D) (e2 : Int), x = .agg [.bool s1, .sl n1 c1, .int .i64 e1, .bool s2, .sl n2 c2, .int .i64 e2] ∧
  N0.neg a.1.1 = s1 ∧ N0.ln a.1.1 = n1 ∧ N0.lm a.1.1 = c1 ∧ a.1.2 = e1 ∧ N0.neg a.2.1 = s2 ∧ N0.ln a.2.1 = n2 ∧ N0.lm a.2.1 = c2 ∧ a.2.2 = e2 ∧ ccan a ∧ cz a 1000 1320 := by
 obtain ⟨a, rfl, h⟩ := h
 exact ⟨a, _, _, _, _, _, _, _, _, rfl, rfl, rfl, rfl, rfl, rfl, rfl, rfl, rfl, h⟩
abbrev rl4 (a : Re) : D := .agg [.bool (N0.neg a.1.1), .sl (N0.ln a.1.1) (N0.lm a.1.1), .int .i64 a.1.2, .bool (N0.neg a.2.1), .sl (N0.ln a.2.1) (N0.lm a.2.1), .int .i64 a.2.2]
theorem dC_sj {x : Dy} {L H : Nat} (hc : x.n = x) (h : sz x L H) (hb : L + H ≤ 19200) : dC x := ⟨hc, (sz_can hc h).mono (by omega) (by omega)⟩
theorem canR_sj {a : Re} {L H : Nat} (hc : ccan a) (h : cz a L H) (hb : L + H ≤ 19200) : canR (rl4 a) := canR_c ⟨hc.1, hc.2, (cz_can hc h).mono (by omega) (by omega)⟩
theorem okD_dC {a : Dy} (h : dC a) : okD (rel3 a) := okD_fD (h.2.mono (Nat.le_refl _) (by omega)) (by omega)
theorem ln_dC {a : Dy} (h : dC a) : N0.ln a.1 ≤ 600 := h.2.1.ln (by omega)
theorem fit_dC {a b : Dy} (h : dC a) (k : dC b) : Fit (a.1 * b.1) 100000 := h.2.1.mul k.2.1 (by omega)
theorem near_dC {a b : Dy} (h : dC a) (k : dC b) : near 60000 (rel3 a) (rel3 b) := near_c h k
theorem ccan_sub (a b : Re) : ccan (csub a b) := ⟨sub_n _ _, sub_n _ _⟩
def xhas (d : Dc) (c : Re) : Bool := decide (cmpY (cnorm (csub c d.1)) (d.2.mul d.2) ≤ 0)
def xin (a b : Dc) : Bool := decide (0 ≤ sg (b.2.sub a.2).1) && decide (cmpY (cnorm (csub a.1 b.1)) ((b.2.sub a.2).mul (b.2.sub a.2)) ≤ 0)
def xapart (a b : Dc) : Bool := decide (0 < cmpY (cnorm (csub a.1 b.1)) ((a.2.add b.2).mul (a.2.add b.2)))
def s_zHolds : FnSpec := sp2 (.one .b) (fun x y => toldQ x ∧ toldC y) (fun _ _ _ => 0) (fun x y _ => xhas (rv9 x) (rv y))
def s_zInD : FnSpec := sp2 (.one .b) (fun x y => toldQ x ∧ toldQ y) (fun _ _ _ => 0) (fun x y _ => xin (rv9 x) (rv9 y))
def s_zApart : FnSpec := sp2 (.one .b) (fun x y => toldQ x ∧ toldQ y) (fun _ _ _ => 0) (fun x y _ => xapart (rv9 x) (rv9 y))
def s_zAddD : FnSpec := sp2 DS (fun x y => toldQ x ∧ toldQ y) (fun x y i => re6 (cadd (rv9 x).1 (rv9 y).1, (rv9 x).2.add (rv9 y).2) i) (fun _ _ _ => false)
def s_zDisc : FnSpec := sp1 DS okA (fun x i => re6 (ca (rv9 x).1, rad (rv9 x).2) i) (fun _ _ => false)
theorem good_zHolds : Good Tryz.prog (GWL [0, 1]) N0 22 s_zHolds := by
 refine goodM 0 (gc good_vSub <| gc good_vNorm <| gl good_tMul rfl <| gl good_tCmp rfl gn) Tryz.f22 (by kernel_rfl) (by kernel_rfl) fun ds hp F A Q hF hA hQ => ?_
 obtain ⟨x, y, rfl, hx, hy⟩ := sp2_arg hp
 obtain ⟨K, s1, n1, c1, e1, s2, n2, c2, e2, s3, n3, c3, e3, rfl, u1, u2, u3, u4, u5, u6, u7, u8, u9, u10, u11, u12, qK⟩ := toldQ_arg hx
 obtain ⟨M, p1, q1, r1, i1, p2, q2, r2, i2, rfl, w1, w2, w3, w4, w5, w6, w7, w8, kM, yM⟩ := toldC_arg hy
 have rK := canR_sj qK.1.1 qK.2.1 (by omega)
 have dK := dC_sj qK.1.2 qK.2.2 (by omega)
 have cK := canD_c dK
 have oK := okD_dC dK
 have lK := ln_dC dK
 have rM := canR_sj kM yM (by omega)
 have zS := cz_sub yM qK.2.1
 have rS := canR_sj (ccan_sub M K.1) zS (by omega)
 have mS : smallM (csub M K.1) (csub M K.1) := ⟨_, _, _, _, zS, zS, by omega⟩
 have zN := cz_norm zS
 have dN := dC_sj (norm_n _) zN (by omega)
 have cN := canD_c dN
 have fK := fit_dC dK dK
 have dP := dC_sj (mul_n _ _) (sz_mul qK.2.2 qK.2.2) (by omega)
 have cP := canD_c dP
 have nNP := near_dC dN dP
 clear hp hx hy zS zN
 cbv
 repeat' (first | with_reducible refine And.intro ?_ ?_ | (with_reducible refine safe_lift hA ?_; kernel_rfl) | (intro hc_; cbv))
 all_goals (repeat (rw [safe_true hA, true_and]; rotate_left; kernel_rfl))
 all_goals subst hF hA
 all_goals subst u1 u2 u3 u4 u5 u6 u7 u8 u9 u10 u11 u12
 all_goals subst w1 w2 w3 w4 w5 w6 w7 w8
 all_goals simp only [fnOf, find, std, reduceIte, Nat.reduceEqDiff, sp1, sp2, a1, a2, FnSpec.out, Shape.build, leafs, leafCells, tups, oneOf, List.cons_append, List.nil_append, List.length_cons, List.length_nil, s_zHolds, s_vSub, s_vNorm, s_tMul, s_tCmp, rv_raw, rv_N0, dv, dz, dx, dcn, dm_raw, dm_N0, vI_N0, raw6_is, Prod.eta, rv9_raw, re2, re4, re6, decide_eq_true_eq, decide_eq_false_iff_not] at *
 all_goals (repeat' (first
  | with_reducible exact hQ
  | with_reducible assumption
  | with_reducible exact isi_int _ _
  | with_reducible refine And.intro ?_ ?_
  | omega))
 all_goals first
  | exact hQ
  | trace_state
theorem good_zInD : Good Tryz.prog (GWL [0, 1]) N0 25 s_zInD := by
 refine goodM 0 (gl good_tSub rfl <| gc good_qSign <| gc good_vSub <| gc good_vNorm <| gl good_tMul rfl <| gl good_tCmp rfl gn) Tryz.f25 (by kernel_rfl) (by kernel_rfl) fun ds hp F A Q hF hA hQ => ?_
 obtain ⟨x, y, rfl, hx, hy⟩ := sp2_arg hp
 obtain ⟨K, s1, n1, c1, e1, s2, n2, c2, e2, s3, n3, c3, e3, rfl, u1, u2, u3, u4, u5, u6, u7, u8, u9, u10, u11, u12, qK⟩ := toldQ_arg hx
 obtain ⟨M, t1, m1, d1, f1, t2, m2, d2, f2, t3, m3, d3, f3, rfl, w1, w2, w3, w4, w5, w6, w7, w8, w9, w10, w11, w12, qM⟩ := toldQ_arg hy
 have rK := canR_sj qK.1.1 qK.2.1 (by omega)
 have dK := dC_sj qK.1.2 qK.2.2 (by omega)
 have cK := canD_c dK
 have oK := okD_dC dK
 have lK := ln_dC dK
 have rM := canR_sj qM.1.1 qM.2.1 (by omega)
 have dM := dC_sj qM.1.2 qM.2.2 (by omega)
 have cM := canD_c dM
 have oM := okD_dC dM
 have lM := ln_dC dM
 have nMK := near_dC dM dK
 have zD := sz_sub qM.2.2 qK.2.2
 have dD := dC_sj (sub_n _ _) zD (by omega)
 have cD := canD_c dD
 have oD := okD_dC dD
 have eD : okE (rel3 (M.2.sub K.2)) := oD.1
 have lD := ln_dC dD
 have fD_ := fit_dC dD dD
 have dE := dC_sj (mul_n _ _) (sz_mul zD zD) (by omega)
 have cE := canD_c dE
 have zS := cz_sub qK.2.1 qM.2.1
 have rS := canR_sj (ccan_sub K.1 M.1) zS (by omega)
 have mS : smallM (csub K.1 M.1) (csub K.1 M.1) := ⟨_, _, _, _, zS, zS, by omega⟩
 have dN := dC_sj (norm_n _) (cz_norm zS) (by omega)
 have cN := canD_c dN
 have nNE := near_dC dN dE
 clear hp hx hy zS zD
 cbv
 repeat' (first | with_reducible refine And.intro ?_ ?_ | (with_reducible refine safe_lift hA ?_; kernel_rfl) | (intro hc_; cbv))
 all_goals (repeat (rw [safe_true hA, true_and]; rotate_left; kernel_rfl))
 all_goals subst hF hA
 all_goals subst u1 u2 u3 u4 u5 u6 u7 u8 u9 u10 u11 u12
 all_goals subst w1 w2 w3 w4 w5 w6 w7 w8 w9 w10 w11 w12
 all_goals simp only [fnOf, find, std, reduceIte, Nat.reduceEqDiff, sp1, sp2, a1, a2, FnSpec.out, Shape.build, leafs, leafCells, tups, oneOf, List.cons_append, List.nil_append, List.length_cons, List.length_nil, s_zInD, s_tSub, s_qSign, s_vSub, s_vNorm, s_tMul, s_tCmp, rv_raw, rv_N0, dv, dz, dx, dcn, dm_raw, dm_N0, vI_N0, raw6_is, Prod.eta, rv9_raw, re2, re4, re6, decide_eq_true_eq, decide_eq_false_iff_not] at *
 all_goals (repeat' (first
  | with_reducible exact hQ
  | with_reducible assumption
  | with_reducible exact isi_int _ _
  | with_reducible refine And.intro ?_ ?_
  | omega))
 all_goals first
  | exact hQ
  | exact Post.b hQ ((congrArg (fun b => b && _) (decide_eq_true hc_)).trans (Bool.true_and _))
  | exact Post.b hQ ((congrArg (fun b => b && _) (decide_eq_false (by simpa using hc_))).trans (Bool.false_and _))
  | trace_state
theorem good_zApart : Good Tryz.prog (GWL [0, 1]) N0 27 s_zApart := by
 refine goodM 0 (gl good_tAdd rfl <| gc good_vSub <| gc good_vNorm <| gl good_tMul rfl <| gl good_tCmp rfl gn) Tryz.f27 (by kernel_rfl) (by kernel_rfl) fun ds hp F A Q hF hA hQ => ?_
 obtain ⟨x, y, rfl, hx, hy⟩ := sp2_arg hp
 obtain ⟨K, s1, n1, c1, e1, s2, n2, c2, e2, s3, n3, c3, e3, rfl, u1, u2, u3, u4, u5, u6, u7, u8, u9, u10, u11, u12, qK⟩ := toldQ_arg hx
 obtain ⟨M, t1, m1, d1, f1, t2, m2, d2, f2, t3, m3, d3, f3, rfl, w1, w2, w3, w4, w5, w6, w7, w8, w9, w10, w11, w12, qM⟩ := toldQ_arg hy
 have rK := canR_sj qK.1.1 qK.2.1 (by omega)
 have dK := dC_sj qK.1.2 qK.2.2 (by omega)
 have cK := canD_c dK
 have oK := okD_dC dK
 have lK := ln_dC dK
 have rM := canR_sj qM.1.1 qM.2.1 (by omega)
 have dM := dC_sj qM.1.2 qM.2.2 (by omega)
 have cM := canD_c dM
 have oM := okD_dC dM
 have lM := ln_dC dM
 have nKM := near_dC dK dM
 have zD := sz_add qK.2.2 qM.2.2
 have dD := dC_sj (add_n _ _) zD (by omega)
 have cD := canD_c dD
 have oD := okD_dC dD
 have lD := ln_dC dD
 have fD_ := fit_dC dD dD
 have dE := dC_sj (mul_n _ _) (sz_mul zD zD) (by omega)
 have cE := canD_c dE
 have zS := cz_sub qK.2.1 qM.2.1
 have rS := canR_sj (ccan_sub K.1 M.1) zS (by omega)
 have mS : smallM (csub K.1 M.1) (csub K.1 M.1) := ⟨_, _, _, _, zS, zS, by omega⟩
 have dN := dC_sj (norm_n _) (cz_norm zS) (by omega)
 have cN := canD_c dN
 have nNE := near_dC dN dE
 clear hp hx hy zS zD
 cbv
 repeat' (first | with_reducible refine And.intro ?_ ?_ | (with_reducible refine safe_lift hA ?_; kernel_rfl) | (intro hc_; cbv))
 all_goals (repeat (rw [safe_true hA, true_and]; rotate_left; kernel_rfl))
 all_goals subst hF hA
 all_goals subst u1 u2 u3 u4 u5 u6 u7 u8 u9 u10 u11 u12
 all_goals subst w1 w2 w3 w4 w5 w6 w7 w8 w9 w10 w11 w12
 all_goals simp only [fnOf, find, std, reduceIte, Nat.reduceEqDiff, sp1, sp2, a1, a2, FnSpec.out, Shape.build, leafs, leafCells, tups, oneOf, List.cons_append, List.nil_append, List.length_cons, List.length_nil, s_zApart, s_tAdd, s_vSub, s_vNorm, s_tMul, s_tCmp, rv_raw, rv_N0, dv, dz, dx, dcn, dm_raw, dm_N0, vI_N0, raw6_is, Prod.eta, rv9_raw, re2, re4, re6, decide_eq_true_eq, decide_eq_false_iff_not] at *
 all_goals (repeat' (first
  | with_reducible exact hQ
  | with_reducible assumption
  | with_reducible exact isi_int _ _
  | with_reducible refine And.intro ?_ ?_
  | omega))
 all_goals first
  | exact hQ
  | trace_state
theorem good_zAddD : Good Tryz.prog (GWL [0, 1]) N0 30 s_zAddD := by
 refine goodM 0 (gc good_vAdd <| gl good_tAdd rfl gn) Tryz.f30 (by kernel_rfl) (by kernel_rfl) fun ds hp F A Q hF hA hQ => ?_
 obtain ⟨x, y, rfl, hx, hy⟩ := sp2_arg hp
 obtain ⟨K, s1, n1, c1, e1, s2, n2, c2, e2, s3, n3, c3, e3, rfl, u1, u2, u3, u4, u5, u6, u7, u8, u9, u10, u11, u12, qK⟩ := toldQ_arg hx
 obtain ⟨M, t1, m1, d1, f1, t2, m2, d2, f2, t3, m3, d3, f3, rfl, w1, w2, w3, w4, w5, w6, w7, w8, w9, w10, w11, w12, qM⟩ := toldQ_arg hy
 have rK := canR_sj qK.1.1 qK.2.1 (by omega)
 have dK := dC_sj qK.1.2 qK.2.2 (by omega)
 have cK := canD_c dK
 have oK := okD_dC dK
 have lK := ln_dC dK
 have rM := canR_sj qM.1.1 qM.2.1 (by omega)
 have dM := dC_sj qM.1.2 qM.2.2 (by omega)
 have cM := canD_c dM
 have oM := okD_dC dM
 have lM := ln_dC dM
 have nKM := near_dC dK dM
 clear hp hx hy
 cbv
 repeat' (first | with_reducible refine And.intro ?_ ?_ | (with_reducible refine safe_lift hA ?_; kernel_rfl) | (intro hc_; cbv))
 all_goals (repeat (rw [safe_true hA, true_and]; rotate_left; kernel_rfl))
 all_goals subst hF hA
 all_goals subst u1 u2 u3 u4 u5 u6 u7 u8 u9 u10 u11 u12
 all_goals subst w1 w2 w3 w4 w5 w6 w7 w8 w9 w10 w11 w12
 all_goals simp only [fnOf, find, std, reduceIte, Nat.reduceEqDiff, sp1, sp2, a1, a2, FnSpec.out, Shape.build, leafs, leafCells, tups, oneOf, List.cons_append, List.nil_append, List.length_cons, List.length_nil, s_zAddD, s_vAdd, s_tAdd, rv_raw, rv_N0, dv, dz, dx, dcn, dm_raw, dm_N0, vI_N0, raw6_is, Prod.eta, rv9_raw, re2, re4, re6, decide_eq_true_eq, decide_eq_false_iff_not] at *
 all_goals (repeat' (first
  | with_reducible exact hQ
  | with_reducible assumption
  | with_reducible exact isi_int _ _
  | with_reducible refine And.intro ?_ ?_
  | omega))
 all_goals first
  | exact hQ
  | trace_state
end Go.Proofs.YtnjjfakjnkhhjaaGreatDoor.Ev
namespace Go.Proofs.YtnjjfakjnkhhjaaGreatDoor.Ev
open Go Go.RowKit
theorem qv_cnorm_sub (a b : Re) : qv (cnorm (csub a b)) = (qv a.1 - qv b.1) * (qv a.1 - qv b.1) + (qv a.2 - qv b.2) * (qv a.2 - qv b.2) := by rw [q_norm, q1_sub, q2_sub]
theorem ca_n1 (a : Re) : qv (ca a).1 = qv a.1 := qv_n a.1
theorem ca_n2 (a : Re) : qv (ca a).2 = qv a.2 := qv_n a.2
theorem dec_iff {p q : Prop} [Decidable p] [Decidable q] (h : p ↔ q) : decide p = decide q := decide_eq_decide.2 h
def dct (d : Dc) : Dc := (ca d.1, rad d.2)
theorem dhas_doc (d : Dc) (c : Re) : dhas d c = xhas (dct d) (ca c) := by
 unfold dhas xhas dct
 refine dec_iff ?_
 rw [cmpY_le, cmpY_le, qv_dist2, qv_cnorm_sub]
 dsimp only
 rw [ca_n1, ca_n2, ca_n1, ca_n2]
 constructor <;> intro h <;> grind
theorem din_doc (a b : Dc) : din a b = xin (dct a) (dct b) := by
 unfold din xin dct dsub2
 dsimp only
 have e1 : decide (0 ≤ cmpY (rad b.2) (rad a.2)) = decide (0 ≤ sg ((rad b.2).sub (rad a.2)).1) := dec_iff (by
  rw [sg_nonneg7, ← qv_nn, qv_sub]
  rw [show (0 ≤ cmpY (rad b.2) (rad a.2)) ↔ qv (rad a.2) ≤ qv (rad b.2) from cmp_ge _ _]
  constructor <;> intro h <;> grind)
 have e2 : decide (cmpY (dist2 a.1 b.1) (sq2 (rad b.2) (rad a.2).neg) ≤ 0) = decide (cmpY (cnorm (csub (ca a.1) (ca b.1))) (((rad b.2).sub (rad a.2)).mul ((rad b.2).sub (rad a.2))) ≤ 0) := dec_iff (by
  rw [cmpY_le, cmpY_le, qv_dist2, qv_cnorm_sub, ca_n1, ca_n2, ca_n1, ca_n2, qv_sq2, qv_neg, qv_mul, qv_sub]
  constructor <;> intro h <;> grind)
 rw [e1, e2]
theorem cmpY_gt (a b : Dy) : 0 < cmpY a b ↔ qv b < qv a := cmp_gt a b
theorem dapart_doc (a b : Dc) : dapart a b = xapart (dct a) (dct b) := by
 unfold dapart xapart dct
 refine dec_iff ?_
 rw [cmpY_gt, cmpY_gt, qv_dist2, qv_cnorm_sub]
 dsimp only
 rw [ca_n1, ca_n2, ca_n1, ca_n2, qv_sq2, qv_mul, qv_add]
theorem dsqrt_is (a : Dy) (p md : Int) : dsqrt a p md = Dy.n (qr a.1 a.2 (rE a.1 a.2 p) md, rE a.1 a.2 p) := rfl
theorem dsqrt_n (a : Dy) (p md : Int) : (dsqrt a p md).n = dsqrt a p md := by rw [dsqrt_is]; exact n_n _
theorem qr_nn (X e E md : Int) : 0 ≤ qr X e E md := by unfold qr; split <;> omega
theorem dsqrt_up {a : Dy} (h : 0 ≤ a.1) (p : Int) : qv a ≤ qv (dsqrt a p 1) * qv (dsqrt a p 1) ∧ (0 : Rat) ≤ qv (dsqrt a p 1) := by
 rw [dsqrt_is, qv_n]
 by_cases h0 : a.1 = 0
 ·have e : qr a.1 a.2 (rE a.1 a.2 p) 1 = 0 := if_pos (by omega)
  rw [e, qv_c0]
  refine ⟨?_, Rat.le_refl⟩
  rw [show a = (0, a.2) from Prod.ext h0 rfl, qv_c0, show (0 : Rat) * 0 = 0 by grind]; exact Rat.le_refl
 ·have hs := (qr_sides (X := a.1) (e := a.2) (E := rE a.1 a.2 p) (by omega)).2.1
  have h1 := (cmp_ge (qr a.1 a.2 (rE a.1 a.2 p) 1 * qr a.1 a.2 (rE a.1 a.2 p) 1, rE a.1 a.2 p + rE a.1 a.2 p) a).1 hs
  have e : qv (qr a.1 a.2 (rE a.1 a.2 p) 1 * qr a.1 a.2 (rE a.1 a.2 p) 1, rE a.1 a.2 p + rE a.1 a.2 p) = qv (qr a.1 a.2 (rE a.1 a.2 p) 1, rE a.1 a.2 p) * qv (qr a.1 a.2 (rE a.1 a.2 p) 1, rE a.1 a.2 p) := by
   rw [← qv_mul]; unfold Dy.mul; rw [qv_n]
  rw [e] at h1
  refine ⟨h1, qv_nn.2 ?_⟩
  exact qr_nn _ _ _ _
theorem dsqrt_sz {a : Dy} {L H : Nat} (hn : a.n = a) (h0 : 0 ≤ a.1) (h : sz a (L + L) (H + H + 1)) (hb : L ≤ 19000 ∧ H ≤ 19000) {p : Int} (hp : p ≤ 200) : sz (dsqrt a p 1) (L + 202) (H + 204) := by
 rw [dsqrt_is]
 refine sz_n ?_
 by_cases hz : a.1 = 0
 ·have e : qr a.1 a.2 (rE a.1 a.2 p) 1 = 0 := if_pos (by omega)
  rw [e]
  exact ⟨0, by unfold Fit; exact Nat.pow_pos (by decide), by rw [qv_c0, qv_c0]⟩
 ·rcases sz_low hn h with h1 | ⟨h1, h2, _⟩
  ·exact absurd h1 hz
  ·obtain ⟨P, hP⟩ : ∃ P, P = min (max p 1) 4000 := ⟨_, rfl⟩
   have hP1 : 1 ≤ P := by omega
   have hP2 : P ≤ 200 := by omega
   have hnb : 1 ≤ nb a.1.natAbs := nb_pos (by omega)
   have ht : -(L : Int) ≤ topR a.1 a.2 ∧ topR a.1 a.2 ≤ H := by unfold topR topI; rw [if_neg hz]; omega
   have hE : rE a.1 a.2 p = topR a.1 a.2 - P + 1 := by unfold rE clampE; rw [← hP]; omega
   rw [hE]
   obtain ⟨r, hr, _, hr2⟩ := qr_top (X := a.1) (e := a.2) (p := P) (by omega) hP1
   have hs := (qr_sides (X := a.1) (e := a.2) (E := topR a.1 a.2 - P + 1) (by omega)).2.2
   have hlt : r < 2 ^ 200 := Nat.lt_of_lt_of_le hr2 (Nat.pow_le_pow_right (by decide) (by omega))
   have hq : (qr a.1 a.2 (topR a.1 a.2 - P + 1) 1).natAbs ≤ r + 1 := by
    rw [hr] at hs
    rcases hs.1 with e | e <;> rw [e] <;> omega
   have hf : Fit (qr a.1 a.2 (topR a.1 a.2 - P + 1) 1) 201 := by
    unfold Fit
    have : (2 : Nat) ^ 201 = 2 * 2 ^ 200 := by rw [Nat.pow_succ, Nat.mul_comm]
    omega
   exact sz_mono (sz_raw (L := L + 202) (B := H + 1) hf (by omega) (by omega)) (Nat.le_refl _) (by omega)
theorem far_ok {c : Re} {r : Dy} {p : Int} : farOk c r (dsqrt (cnorm c) p 1) := by
 have h0 : (0 : Rat) ≤ qv (cnorm c) := by rw [q_norm]; exact Rat.add_nonneg (sq_nn _) (sq_nn _)
 obtain ⟨h1, h2⟩ := dsqrt_up (a := cnorm c) (qv_nn.1 h0) p
 exact ⟨h2, .inr h1⟩
theorem norm_nn (c : Re) : 0 ≤ (cnorm c).1 := qv_nn.1 (by rw [q_norm]; exact Rat.add_nonneg (sq_nn _) (sq_nn _))
end Go.Proofs.YtnjjfakjnkhhjaaGreatDoor.Ev
