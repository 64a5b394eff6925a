import Derived.Test.YtnjjfakjnkhhjaaGreatDoorJd
set_option maxHeartbeats 2000000
set_option maxRecDepth 100000
set_option linter.all false
namespace Go.Proofs.YtnjjfakjnkhhjaaGreatDoor.Ev
open Go Go.RowKit
def s_tTo : FnSpec := ⟨SD, fun ds => match ds with | [x, .int .i64 _, .int .i64 _] => canD x ∧ -15000 ≤ dx x ∧ (nb (dm x).natAbs : Int) + dx x ≤ 19000 | _ => False, fun ds i => match ds with | [x, .int _ p, .int _ md] => re2 ((dv x).to p md) i | _ => 0, fun _ _ => false, fun _ _ => 0, fun _ _ => []⟩
theorem tTo_arg {ds : List D} (h : s_tTo.p ds) : ∃ x e k, ds = [x, .int .i64 e, .int .i64 k] ∧ canD x ∧ -15000 ≤ dx x ∧ (nb (dm x).natAbs : Int) + dx x ≤ 19000 := by
 match ds, h with
 | [x, .int .i64 e, .int .i64 k], h => exact ⟨x, e, k, rfl, h⟩
theorem topI_inT {z e : Int} (h1 : -15000 ≤ e) (h2 : (nb z.natAbs : Int) + e ≤ 19000) : -15000 ≤ topI z e ∧ topI z e ≤ 19000 := by
 unfold topI
 split
 ·omega
 ·have := nb_pos (N := z.natAbs) (by omega); omega
theorem good_tTo : Good Tryz.prog (GWL [0, 1]) N0 113 s_tTo := by
 refine goodM 0 (gc good_qSign <| gc good_qTop <| gc good_qgrid gn) Tryz.f113 (by kernel_rfl) (by kernel_rfl) fun ds hp F A Q hF hA hQ => ?_
 obtain ⟨x, E, md, rfl, hx, hxe, hxn⟩ := tTo_arg hp
 obtain ⟨z, e, s, n, cs, rfl, hs, hn, hcs, hz, he, hfz, he1, he2⟩ := canD_arg hx
 clear hp hx
 cbv
 repeat' (first | with_reducible refine And.intro ?_ ?_ | (with_reducible refine safe_lift hA ?_; kernel_rfl) | (intro hc_; cbv))
 all_goals (repeat (rw [safe_true hA, true_and]; rotate_left; kernel_rfl))
 all_goals subst hF hA
 all_goals simp only [fnOf, find, std, reduceIte, Nat.reduceEqDiff, sp1, sp2, a1, a2, FnSpec.out, Shape.build, leafs, leafCells, tups, oneOf, List.cons_append, List.nil_append, List.length_cons, List.length_nil, s_tTo, re2, Dy.to, dv, s_qSign, s_qTop, s_qgrid, clamp20E, clamp20e, dl, dz, dx, dcn, dcs, dm_raw, vL_N0n, vI_mk, Int.natAbs_natCast, decide_eq_true_eq, decide_eq_false_iff_not, sg_beq, max_min1, max_min2] at *
 all_goals subst hs hn hcs
 all_goals try simp only [vI_N0, vL_N0n, sgn_neg, min_if, clamp20E, clamp20e] at *
 all_goals have hc : okC (N0.ln z) (N0.lm z) := okC_fitN hfz (by omega)
 all_goals have hln : N0.ln z ≤ 1000 := ln_fit hfz
 case refine_1 => exact hc
 case refine_2.refine_1 => exact Post.d hQ ((gm_lies (.inl hc_)).1.trans hz) ((gm_lies (.inl hc_)).2.trans he)
 all_goals
  have htb := topI_inT hxe hxn
  have hs1 : IntKind.i64.wrap (IntKind.i64.wrap (topI z e - max 1 (min E 4000)) + 1) = stepI z e E := by rw [wrap_in (z := topI z e - max 1 (min E 4000)) (by omega) (by omega), wrap_in (by omega) (by omega)]; unfold stepI clampE; omega
  have hs2 : -20000 ≤ stepI z e E ∧ stepI z e E ≤ 20000 := by unfold stepI clampE; omega
  (try simp only [hs1] at *)
 all_goals first
  | exact canD_N0 hz he hfz he1 he2
  | exact ⟨canD_N0 hz he hfz he1 he2, by omega, by omega, by omega⟩
  | exact hQ
def s_tRoot : FnSpec := ⟨.tup [(true, [.I, .i .i64]), (false, [.i .i64])], s_rqRootB.p,
 fun ds i => match ds with | [x, .int _ p, .int _ mode] => (match i with | 0 => (dsqrt (dv x) p mode).1 | 1 => (dsqrt (dv x) p mode).2 | _ => if (dv x).1 < 0 then 12 else 0) | _ => 0,
 fun _ _ => false, fun _ _ => 0, fun _ _ => []⟩
theorem good_tRoot : Good Tryz.prog (GWL [0, 1]) N0 120 s_tRoot := by
 have e : s_tRoot = s_rqRootB := by unfold s_tRoot s_rqRootB dsqrt; rfl
 rw [e]; exact good_rqRootB
theorem n_zero {a : Dy} (h : a.n = a) (h0 : a.1 = 0) : a = (0, 0) := by
 rw [← h]; unfold Dy.n; rw [h0, tmI_zero, teI_zero]
theorem nb_zero : nb 0 = 0 := by decide
theorem sz_nbe {a : Dy} {L H : Nat} (hn : a.n = a) (h : sz a L H) : -(L : Int) ≤ a.2 ∧ (nb a.1.natAbs : Int) + a.2 ≤ H ∧ a.2 ≤ H := by
 rcases sz_low hn h with h1 | ⟨h1, h2, _⟩
 ·have e := n_zero hn h1
  rw [e]; refine ⟨by omega, ?_, by omega⟩
  show (nb (0 : Int).natAbs : Int) + 0 ≤ H
  rw [show (0 : Int).natAbs = 0 from rfl, nb_zero]; omega
 ·refine ⟨h1, h2, by omega⟩
theorem root_ok {a : Dy} (hn : a.n = a) (h : sz a 8000 10581) : Fit a.1 18600 ∧ -8000 ≤ a.2 ∧ a.2 ≤ 10600 ∧ (nb a.1.natAbs : Int) + a.2 ≤ 10601 := by
 have h1 := sz_nbe hn h
 have h2 := (sz_can hn h).1
 exact ⟨h2.mono (by omega), by omega, by omega, by omega⟩
def toldK (x : D) : Prop := ∃ a : Re, x = rl4 a ∧ ccan a ∧ cz a 4000 5290
theorem toldK_arg {x : D} (h : toldK x) : ∃ (a : Re) (s1 : Bool) (n1 : Nat) (c1 : List D) (e1 : Int) (s2 : Bool) (n2 : Nat) (c2 : List D) (e2 : Int), x = .agg [.bool s1, .sl n1 c1, .int .i64 e1, .bool s2, .sl n2 c2, .int .i64 e2] ∧
  N0.neg a.1.1 = s1 ∧ N0.ln a.1.1 = n1 ∧ N0.lm a.1.1 = c1 ∧ a.1.2 = e1 ∧ N0.neg a.2.1 = s2 ∧ N0.ln a.2.1 = n2 ∧ N0.lm a.2.1 = c2 ∧ a.2.2 = e2 ∧ ccan a ∧ cz a 4000 5290 := by
 obtain ⟨a, rfl, h⟩ := h
 exact ⟨a, _, _, _, _, _, _, _, _, rfl, rfl, rfl, rfl, rfl, rfl, rfl, rfl, rfl, h⟩
def s_zFar : FnSpec := ⟨SD, fun ds => match ds with | [x, .int .i64 p, .int .i64 _] => toldK x ∧ p ≤ 200 | _ => False, fun ds i => match ds with | [x, .int _ p, .int _ md] => re2 (dsqrt (cnorm (rv x)) p md) i | _ => 0, fun _ _ => false, fun _ _ => 0, fun _ _ => []⟩
theorem zFar_arg {ds : List D} (h : s_zFar.p ds) : ∃ x p md, ds = [x, .int .i64 p, .int .i64 md] ∧ toldK x ∧ p ≤ 200 := by
 match ds, h with
 | [x, .int .i64 e, .int .i64 k], h => exact ⟨x, e, k, rfl, h⟩
def qb (a : Dc) : Prop := (ccan a.1 ∧ a.2.n = a.2) ∧ cz a.1 4000 5290 ∧ sz a.2 4808 6140
def toldB (x : D) : Prop := ∃ a : Dc, x = rel9 a ∧ qb a
theorem toldB_mk {a : Dc} (h : qb a) : toldB (rel9 a) := ⟨a, rfl, h⟩
theorem toldB_arg {x : D} (h : toldB x) : ∃ (a : Dc) (s1 : Bool) (n1 : Nat) (c1 : List D) (e1 : Int) (s2 : Bool) (n2 : Nat) (c2 : List D) (e2 : Int) (s3 : Bool) (n3 : Nat) (c3 : List D) (e3 : Int), x = .agg [.bool s1, .sl n1 c1, .int .i64 e1, .bool s2, .sl n2 c2, .int .i64 e2, .bool s3, .sl n3 c3, .int .i64 e3] ∧
  N0.neg a.1.1.1 = s1 ∧ N0.ln a.1.1.1 = n1 ∧ N0.lm a.1.1.1 = c1 ∧ a.1.1.2 = e1 ∧ N0.neg a.1.2.1 = s2 ∧ N0.ln a.1.2.1 = n2 ∧ N0.lm a.1.2.1 = c2 ∧ a.1.2.2 = e2 ∧ N0.neg a.2.1 = s3 ∧ N0.ln a.2.1 = n3 ∧ N0.lm a.2.1 = c3 ∧ a.2.2 = e3 ∧ qb a := by
 obtain ⟨a, rfl, h⟩ := h
 exact ⟨a, _, _, _, _, _, _, _, _, _, _, _, _, rfl, rfl, rfl, rfl, rfl, rfl, rfl, rfl, rfl, rfl, rfl, rfl, rfl, h⟩
def zrad (a b : Dc) (p : Int) : Dy := (((dsqrt (cnorm a.1) p 1).mul b.2).add ((dsqrt (cnorm b.1) p 1).mul a.2)).add (a.2.mul b.2)
def zmul (a b : Dc) (p : Int) : Dc := (cmul a.1 b.1, (zrad a b p).to p 1)
def zpw (a : Dc) (p : Int) : Nat → Dc
 | 0 => (cone, (0, 0))
 | k + 1 => zmul (zpw a p k) a p
def s_zMulD : FnSpec := ⟨DS, fun ds => match ds with | [x, y, .int .i64 p] => toldB x ∧ toldQ y ∧ p ≤ 200 | _ => False, fun ds i => match ds with | [x, y, .int _ p] => re6 (zmul (rv9 x) (rv9 y) p) i | _ => 0, fun _ _ => false, fun _ _ => 0, fun _ _ => []⟩
theorem zMulD_arg {ds : List D} (h : s_zMulD.p ds) : ∃ x y p, ds = [x, y, .int .i64 p] ∧ toldB x ∧ toldQ y ∧ p ≤ 200 := by
 unfold s_zMulD at h
 dsimp only at h
 split at h
 ·exact ⟨_, _, _, rfl, h⟩
 ·exact h.elim
def s_zPowD : FnSpec := ⟨DS, fun ds => match ds with | [x, .int .i64 n, .int .i64 p] => toldQ x ∧ powN n ≤ 5 ∧ p ≤ 200 | _ => False, fun ds i => match ds with | [x, .int _ n, .int _ p] => re6 (zpw (rv9 x) p (powN n)) i | _ => 0, fun _ _ => false, fun _ _ => 0, fun _ _ => []⟩
theorem zPowD_arg {ds : List D} (h : s_zPowD.p ds) : ∃ x n p, ds = [x, .int .i64 n, .int .i64 p] ∧ toldQ x ∧ powN n ≤ 5 ∧ p ≤ 200 := by
 match ds, h with
 | [x, .int .i64 e, .int .i64 k], h => exact ⟨x, e, k, rfl, h⟩
theorem far_sz {a : Re} {L H : Nat} (h : cz a L H) (hb : L ≤ 19000 ∧ H ≤ 19000) {p : Int} (hp : p ≤ 200) : sz (dsqrt (cnorm a) p 1) (L + 202) (H + 204) := dsqrt_sz (norm_n _) (norm_nn a) (cz_norm h) hb hp
theorem sz_zrad {a b : Dc} {L H M K : Nat} (ha : cz a.1 L H) (hr : sz a.2 M K) (hb : cz b.1 1000 1320) (hs : sz b.2 1000 1320) (h1 : L ≤ M) (h2 : H ≤ K) (h3 : M ≤ 19000) (h4 : K ≤ 19000) {p : Int} (hp : p ≤ 200) : sz (zrad a b p) (M + 1202) (K + 1526) := by
 have zF := far_sz ha (by omega) hp
 have zG := far_sz hb (by omega) hp
 have P1 := sz_mono (L' := M + 1202) (H' := K + 1524) (sz_mul zF hs) (by omega) (by omega)
 have P2 := sz_mono (L' := M + 1202) (H' := K + 1524) (sz_mul zG hr) (by omega) (by omega)
 have P3 := sz_mono (L' := M + 1202) (H' := K + 1525) (sz_mul hr hs) (by omega) (by omega)
 exact sz_add (sz_add P1 P2) P3
theorem zrad_n (a b : Dc) (p : Int) : (zrad a b p).n = zrad a b p := add_n _ _
theorem to_ok {a : Dy} (hn : a.n = a) {L H : Nat} (h : sz a L H) (h1 : L ≤ 15000) (h2 : H ≤ 19000) : -15000 ≤ a.2 ∧ (nb a.1.natAbs : Int) + a.2 ≤ 19000 := by
 have h3 := sz_nbe hn h
 omega
theorem zpw_sz {a : Dc} (h : qd a) {p : Int} (hp : p ≤ 200) : ∀ i : Nat, i ≤ 5 → (ccan (zpw a p i).1 ∧ (zpw a p i).2.n = (zpw a p i).2) ∧ cz (zpw a p i).1 (1000 * i) ((1320 + 1) * i + 1) ∧ sz (zpw a p i).2 (1202 * i) (1530 * i + 1)
 | 0, _ => ⟨⟨⟨one_n, zero_n⟩, zero_n⟩, cz_one, sz_zero _ _⟩
 | i + 1, hi => by
  obtain ⟨⟨h1, h2⟩, h3, h4⟩ := zpw_sz h hp i (by omega)
  have hm := cz_mul h3 h.2.1
  have hz := sz_zrad h3 h4 h.2.1 h.2.2 (by omega) (by omega) (by omega) (by omega) hp
  have ht := sz_to hz (by omega) p 1
  refine ⟨⟨⟨sub_n _ _, add_n _ _⟩, to_n _ _ _⟩, cz_mono hm (by omega) (by omega), sz_mono ht (by omega) (by omega)⟩
theorem zpw_qb {a : Dc} (h : qd a) {p : Int} (hp : p ≤ 200) (i : Nat) (hi : i < 5) : qb (zpw a p i) := by
 obtain ⟨h1, h2, h3⟩ := zpw_sz h hp i (by omega)
 exact ⟨h1, cz_mono h2 (by omega) (by omega), sz_mono h3 (by omega) (by omega)⟩
theorem sgn_n {a : Dy} : sg a.n.1 < 0 ↔ a.1 < 0 := by
 have h : (0 ≤ a.n.1) ↔ 0 ≤ a.1 := by rw [← qv_nn, ← qv_nn, qv_n]
 rw [sg_lt0]; omega
theorem rad2_lo {a : Dy} (h : sg a.n.1 < 0) : rad a = (0, 0) := if_pos (sgn_n.1 h)
theorem rad2_hi {a : Dy} (h : ¬sg a.n.1 < 0) : rad a = a.n := if_neg (fun g => h (sgn_n.2 g))
def qe (a : Dc) : Prop := (ccan a.1 ∧ a.2.n = a.2) ∧ cz a.1 5000 6610 ∧ sz a.2 6010 7670
def toldE (x : D) : Prop := ∃ a : Dc, x = rel9 a ∧ qe a
theorem toldE_mk {a : Dc} (h : qe a) : toldE (rel9 a) := ⟨a, rfl, h⟩
theorem toldE_arg {x : D} (h : toldE x) : ∃ (a : Dc) (s1 : Bool) (n1 : Nat) (c1 : List D) (e1 : Int) (s2 : Bool) (n2 : Nat) (c2 : List D) (e2 : Int) (s3 : Bool) (n3 : Nat) (c3 : List D) (e3 : Int), x = .agg [.bool s1, .sl n1 c1, .int .i64 e1, .bool s2, .sl n2 c2, .int .i64 e2, .bool s3, .sl n3 c3, .int .i64 e3] ∧
  N0.neg a.1.1.1 = s1 ∧ N0.ln a.1.1.1 = n1 ∧ N0.lm a.1.1.1 = c1 ∧ a.1.1.2 = e1 ∧ N0.neg a.1.2.1 = s2 ∧ N0.ln a.1.2.1 = n2 ∧ N0.lm a.1.2.1 = c2 ∧ a.1.2.2 = e2 ∧ N0.neg a.2.1 = s3 ∧ N0.ln a.2.1 = n3 ∧ N0.lm a.2.1 = c3 ∧ a.2.2 = e3 ∧ qe a := by
 obtain ⟨a, rfl, h⟩ := h
 exact ⟨a, _, _, _, _, _, _, _, _, _, _, _, _, rfl, rfl, rfl, rfl, rfl, rfl, rfl, rfl, rfl, rfl, rfl, rfl, rfl, h⟩
def s_zEqualD : FnSpec := sp2 (.one .b) (fun x y => toldE x ∧ toldE y) (fun _ _ _ => 0) (fun x y _ => decide (rv9 x = rv9 y))
theorem ed_hi {X Y : Dc} (h : X.1 = Y.1) : decide (X.2 = Y.2) = decide (X = Y) := decide_eq_decide.2 ⟨fun k => Prod.ext h k, fun k => congrArg Prod.snd k⟩
theorem ed_lo {X Y : Dc} (h : ¬X.1 = Y.1) : false = decide (X = Y) := (decide_eq_false fun k => h (congrArg Prod.fst k)).symm
theorem dec_dy (z v e f : Int) : (e == f && decide (z = v)) = decide ((z, e) = ((v, f) : Dy)) := by
 rw [Bool.eq_iff_iff, Bool.and_eq_true, beq_iff_eq, decide_eq_true_iff, decide_eq_true_iff, Prod.mk.injEq]; exact And.comm
theorem good_zFar : Good Tryz.prog (GWL [0, 1]) N0 39 s_zFar := by
 refine goodM 0 (gc good_vNorm <| gl good_tRoot rfl gn) Tryz.f39 (by kernel_rfl) (by kernel_rfl) fun ds hp F A Q hF hA hQ => ?_
 obtain ⟨x, p, md, rfl, hx, hp2⟩ := zFar_arg hp
 obtain ⟨K, aK1, aK2, aK3, aK4, aK5, aK6, aK7, aK8, rfl, k1, k2, k3, k4, k5, k6, k7, k8, kK, yK⟩ := toldK_arg hx
 have rK := canR_sj kK yK (by omega)
 have mK : smallM K K := ⟨_, _, _, _, yK, yK, by omega⟩
 have zN := cz_norm yK
 have dN := dC_sj (norm_n _) zN (by omega)
 have cN := canD_c dN
 obtain ⟨g1, g2, g3, g4⟩ := root_ok (norm_n _) zN
 have hp3 : p ≤ 1000 := by omega
 clear hp hx zN
 cbv
 repeat' (first | with_reducible refine And.intro ?_ ?_ | (with_reducible refine safe_lift hA ?_; kernel_rfl) | (intro hc_; cbv))
 all_goals (repeat (rw [safe_true hA, true_and]; rotate_left; kernel_rfl))
 all_goals subst hF hA
 all_goals subst k1 k2 k3 k4 k5 k6 k7 k8
 all_goals simp only [fnOf, find, std, reduceIte, Nat.reduceEqDiff, sp1, sp2, a1, a2, FnSpec.out, Shape.build, leafs, leafCells, tups, oneOf, List.cons_append, List.nil_append, List.length_cons, List.length_nil, s_zFar, s_vNorm, s_tRoot, rv_raw, rv_N0, dv, dz, dx, dcn, dm_raw, dm_N0, vI_N0, raw6_is, Prod.eta, rv9_raw, re2, re4, re6, decide_eq_true_eq, decide_eq_false_iff_not, s_rqRootB] at *
 all_goals (repeat' (first
  | with_reducible exact hQ
  | with_reducible assumption
  | with_reducible exact isi_int _ _
  | with_reducible refine And.intro ?_ ?_
  | omega))
 all_goals first
  | exact hQ
  | trace_state
theorem good_zMulD : Good Tryz.prog (GWL [0, 1]) N0 34 s_zMulD := by
 refine goodM 0 (gl good_zFar rfl <| gl good_tMul rfl <| gl good_tAdd rfl <| gc good_vMul <| gl good_tTo rfl gn) Tryz.f34 (by kernel_rfl) (by kernel_rfl) fun ds hp F A Q hF hA hQ => ?_
 obtain ⟨x, y, p, rfl, hx, hy, hp2⟩ := zMulD_arg hp
 obtain ⟨K, s1, n1, c1, e1, s2, n2, c2, e2, s3, n3, c3, e3, rfl, u1, u2, u3, u4, u5, u6, u7, u8, u9, u10, u11, u12, qK⟩ := toldB_arg hx
 obtain ⟨M, t1, m1, d1, f1, t2, m2, d2, f2, t3, m3, d3, f3, rfl, w1, w2, w3, w4, w5, w6, w7, w8, w9, w10, w11, w12, qM⟩ := toldQ_arg hy
 have rK := canR_sj qK.1.1 qK.2.1 (by omega)
 have dK := dC_sj qK.1.2 qK.2.2 (by omega)
 have cK := canD_c dK
 have oK := okD_dC dK
 have lK := ln_dC dK
 have rM := canR_sj qM.1.1 qM.2.1 (by omega)
 have dM := dC_sj qM.1.2 qM.2.2 (by omega)
 have cM := canD_c dM
 have oM := okD_dC dM
 have lM := ln_dC dM
 have tK : toldK (rl4 K.1) := ⟨K.1, rfl, qK.1.1, qK.2.1⟩
 have tM : toldK (rl4 M.1) := ⟨M.1, rfl, qM.1.1, cz_mono qM.2.1 (by omega) (by omega)⟩
 have zF := far_sz qK.2.1 (by omega) hp2
 have dF := dC_sj (dsqrt_n _ _ _) zF (by omega)
 have oF := okD_dC dF
 have lF := ln_dC dF
 have zG := far_sz qM.2.1 (by omega) hp2
 have dG := dC_sj (dsqrt_n _ _ _) zG (by omega)
 have oG := okD_dC dG
 have lG := ln_dC dG
 have f1 := fit_dC dF dM
 have f2 := fit_dC dG dK
 have f3 := fit_dC dK dM
 have z1 := sz_mono (L' := 6010) (H' := 7664) (sz_mul zF qM.2.2) (by omega) (by omega)
 have z2 := sz_mono (L' := 6010) (H' := 7664) (sz_mul zG qK.2.2) (by omega) (by omega)
 have z3 := sz_mono (L' := 6010) (H' := 7665) (sz_mul qK.2.2 qM.2.2) (by omega) (by omega)
 have d1 := dC_sj (mul_n _ _) z1 (by omega)
 have d2 := dC_sj (mul_n _ _) z2 (by omega)
 have d3 := dC_sj (mul_n _ _) z3 (by omega)
 have c1_ := canD_c d1
 have c2_ := canD_c d2
 have c3_ := canD_c d3
 have zS := sz_add z1 z2
 have dS := dC_sj (add_n _ _) zS (by omega)
 have cS := canD_c dS
 have n12 := near_dC d1 d2
 have nS3 := near_dC dS d3
 have zT := sz_add zS z3
 have dT := dC_sj (add_n _ _) zT (by omega)
 have cT := canD_c dT
 obtain ⟨g1, g2⟩ := to_ok (add_n _ _) zT (by omega) (by omega)
 have mKM : smallM K.1 M.1 := ⟨_, _, _, _, qK.2.1, qM.2.1, by omega⟩
 clear hp hx hy zF zG z1 z2 z3 zS zT
 cbv
 repeat' (first | with_reducible refine And.intro ?_ ?_ | (with_reducible refine safe_lift hA ?_; kernel_rfl) | (intro hc_; cbv))
 all_goals (repeat (rw [safe_true hA, true_and]; rotate_left; kernel_rfl))
 all_goals subst hF hA
 all_goals subst u1 u2 u3 u4 u5 u6 u7 u8 u9 u10 u11 u12
 all_goals subst w1 w2 w3 w4 w5 w6 w7 w8 w9 w10 w11 w12
 all_goals simp only [fnOf, find, std, reduceIte, Nat.reduceEqDiff, sp1, sp2, a1, a2, FnSpec.out, Shape.build, leafs, leafCells, tups, oneOf, List.cons_append, List.nil_append, List.length_cons, List.length_nil, s_zMulD, s_zFar, s_tMul, s_tAdd, s_vMul, s_tTo, rv_raw, rv_N0, dv, dz, dx, dcn, dm_raw, dm_N0, vI_N0, raw6_is, Prod.eta, rv9_raw, re2, re4, re6, decide_eq_true_eq, decide_eq_false_iff_not, zmul, zrad] at *
 all_goals (repeat' (first
  | with_reducible exact hQ
  | with_reducible assumption
  | with_reducible exact isi_int _ _
  | with_reducible refine And.intro ?_ ?_
  | omega))
 all_goals first
  | exact hQ
  | trace_state
theorem good_zPowD : Good Tryz.prog (GWL [0, 1]) N0 36 s_zPowD := by
 refine goodM 0 (gc good_vOf <| gl good_zMulD rfl gn) Tryz.f36 (by kernel_rfl) (by kernel_rfl) fun ds hp F A Q hF hA hQ => ?_
 obtain ⟨x, k, p, rfl, hx, hk, hp2⟩ := zPowD_arg hp
 obtain ⟨K, s1, n1, c1, e1, s2, n2, c2, e2, s3, n3, c3, e3, rfl, u1, u2, u3, u4, u5, u6, u7, u8, u9, u10, u11, u12, qK⟩ := toldQ_arg hx
 obtain ⟨C, hC⟩ : ∃ C : Nat → Dc, ∀ i : Nat, C i = zpw K p i := ⟨_, fun _ => rfl⟩
 obtain ⟨J, hJ⟩ : ∃ J : Nat → Int, ∀ i : Nat, J i = Int.ofNat i := ⟨_, fun _ => rfl⟩
 obtain ⟨N, hN⟩ : ∃ N, N = powN k := ⟨_, rfl⟩
 have tK : toldQ (rel9 K) := toldQ_mk qK
 clear hp hx
 cbv
 repeat' (first | with_reducible refine And.intro ?_ ?_ | (with_reducible refine safe_lift hA ?_; kernel_rfl) | (with_reducible refine loop_by (fun i st => (st.setT 8 (.int .i64 (J i))).setC 2 (Nat.casesOn (motive := fun _ => List D) i [.bool (F.neg (C 0).1.1.1), .sl (F.ln (C 0).1.1.1) (F.lm (C 0).1.1.1), .int .i64 (C 0).1.1.2, .bool (F.neg (C 0).1.2.1), .sl (F.ln (C 0).1.2.1) (F.lm (C 0).1.2.1), .int .i64 (C 0).1.2.2, .kb false, .sl 0 [], .int .i64 0] (fun i => [.bool (F.neg (C (i + 1)).1.1.1), .sl (F.ln (C (i + 1)).1.1.1) (F.lm (C (i + 1)).1.1.1), .int .i64 (C (i + 1)).1.1.2, .bool (F.neg (C (i + 1)).1.2.1), .sl (F.ln (C (i + 1)).1.2.1) (F.lm (C (i + 1)).1.2.1), .int .i64 (C (i + 1)).1.2.2, .bool (F.neg (C (i + 1)).2.1), .sl (F.ln (C (i + 1)).2.1) (F.lm (C (i + 1)).2.1), .int .i64 (C (i + 1)).2.2]))) N ?_ ?_; cbv; rotate_left; intro i hi; rcases i with _ | j <;> cbv) | (intro hc_; cbv))
 all_goals (repeat (rw [safe_true hA, true_and]; rotate_left; kernel_rfl))
 all_goals subst hF hA
 all_goals subst u1 u2 u3 u4 u5 u6 u7 u8 u9 u10 u11 u12
 all_goals simp only [fnOf, find, std, reduceIte, Nat.reduceEqDiff, sp1, sp2, a1, a2, FnSpec.out, Shape.build, leafs, leafCells, tups, oneOf, List.cons_append, List.nil_append, List.length_cons, List.length_nil, s_zPowD, s_vOf, s_zMulD, rv_raw, rv_N0, dv, dz, dx, dcn, dm_raw, dm_N0, vI_N0, raw6_is, Prod.eta, rv9_raw, re2, re4, re6, decide_eq_true_eq, decide_eq_false_iff_not, s_uOf, ca, Dy.n, k1, k1e, tmI_zero, teI_zero, powN_if2, powN_lt] at *
 all_goals (repeat' (first
  | with_reducible exact hQ
  | with_reducible assumption
  | with_reducible exact isi_int _ _
  | with_reducible refine And.intro ?_ ?_
  | omega))
 all_goals
  have hI0 : C 0 = (((1, 0), (0, 0)), (0, 0)) := by rw [hC]; rfl
 all_goals first
  | exact ⟨⟨rfl, by decide, by decide⟩, rfl, by decide, by decide⟩
  | (rw [hJ]; rfl)
  | (rw [hI0]; done)
  | skip
 all_goals first
  | (have hJi : J (j + 1) = ((j + 1 : Nat) : Int) := hJ _
     rw [hJi] at hc_
     (try rw [powN_lt] at hc_)
     have hJ1 : J (j + 1 + 1) = J (j + 1) + 1 := by rw [hJ, hJ]; rfl
     have hS : C (j + 1 + 1) = zmul (C (j + 1)) K p := by rw [hC, hC]; rfl
     first
      | exact toldB_mk (a := C (j + 1)) (by rw [hC]; exact zpw_qb qK hp2 (j + 1) (by omega))
      | exact (show j + 1 + 1 ≤ N by omega)
      | (rw [hJ1, hJi, wrap_in (by omega) (by omega)]; done)
      | (rw [hS]; done)
      | (have hi2 : j + 1 = powN k := by omega
         rw [← hi2, ← hC] at hQ; exact hQ)
      | fail)
  | (have hJi : J (0) = ((0 : Nat) : Int) := hJ _
     rw [hJi] at hc_
     (try rw [powN_lt] at hc_)
     have hJ1 : J (0 + 1) = J (0) + 1 := by rw [hJ, hJ]; rfl
     have hS : C (0 + 1) = zmul (C (0)) K p := by rw [hC, hC]; rfl
     first
      | exact toldB_mk (a := C (0)) (by rw [hC]; exact zpw_qb qK hp2 (0) (by omega))
      | exact (show 0 + 1 ≤ N by omega)
      | (rw [hJ1, hJi, wrap_in (by omega) (by omega)]; done)
      | (rw [hS]; done)
      | (have hV : ((C 0).1, (vI false [], (0 : Int))) = C 0 := by rw [hI0]; rfl
         rw [hV, hS]; done)
      | (have tC := toldB_mk (zpw_qb qK hp2 0 (by omega))
         rw [← hC, hI0] at tC; rw [hI0]; simp only [rel9, N0_neg0, N0_ln0, N0_lm0] at tC ⊢; exact tC)
      | (have hi2 : 0 = powN k := by omega
         rw [← hi2, ← hC, hI0] at hQ; rw [hI0]; simp only [N0_neg0, N0_ln0, N0_lm0] at hQ ⊢; exact hQ)
      | trace_state)
theorem good_zDisc : Good Tryz.prog (GWL [0, 1]) N0 15 s_zDisc := by
 refine goodM 0 (gl good_tExact rfl <| gc good_qSign <| gc good_vCplx gn) Tryz.f15 (by kernel_rfl) (by kernel_rfl) fun ds hp F A Q hF hA hQ => ?_
 obtain ⟨x, rfl, hx⟩ := sp1_arg hp
 obtain ⟨s1, n1, c1, e1, s2, n2, c2, e2, s3, n3, c3, e3, rfl, x1, x2, x3⟩ := okA_arg hx
 have hxR := okR_S (s := s1) (t := s2) x1.1 x2.1
 have o3 := okD_SM (s := s3) x3
 have f3 := (fD_SM (s := s3) x3).1.mono (show 9568 ≤ 100000 by omega)
 have m3 := mid_mk (n_n (vI s3 c3, e3)) (sz_n (sz_SM (s := s3) x3)) (by omega) (by omega)
 have p3 := mid_okD m3
 have q3 : okE (rel3 (Dy.n (vI s3 c3, e3))) := p3.1
 clear hp hx m3
 cbv
 repeat' (first | with_reducible refine And.intro ?_ ?_ | (with_reducible refine safe_lift hA ?_; kernel_rfl) | (intro hc_; cbv))
 all_goals (repeat (rw [safe_true hA, true_and]; rotate_left; kernel_rfl))
 all_goals subst hF hA
 all_goals simp only [fnOf, find, std, reduceIte, Nat.reduceEqDiff, sp1, sp2, a1, a2, FnSpec.out, Shape.build, leafs, leafCells, tups, oneOf, List.cons_append, List.nil_append, List.length_cons, List.length_nil, s_zDisc, s_tExact, s_qSign, s_vCplx, rv_raw, rv_N0, dv, dz, dx, dcn, dm_raw, dm_N0, vI_N0, raw6_is, Prod.eta, rv9_raw, re2, re4, re6, decide_eq_true_eq, decide_eq_false_iff_not] at *
 all_goals (repeat' (first
  | with_reducible exact hQ
  | with_reducible assumption
  | with_reducible exact isi_int _ _
  | with_reducible refine And.intro ?_ ?_
  | omega))
 all_goals first
  | exact hQ
  | (rw [rad2_lo (by with_reducible assumption)] at hQ; simp only [N0_neg0, N0_ln0, N0_lm0] at hQ; exact hQ)
  | (rw [rad2_hi (by with_reducible assumption)] at hQ; exact hQ)
  | trace_state
theorem good_zEqualD : Good Tryz.prog (GWL [0, 1]) N0 28 s_zEqualD := by
 refine goodM 0 (gc good_vEqual <| gc good_qEqual gn) Tryz.f28 (by kernel_rfl) (by kernel_rfl) fun ds hp F A Q hF hA hQ => ?_
 obtain ⟨x, y, rfl, hx, hy⟩ := sp2_arg hp
 obtain ⟨K, s1, n1, c1, e1, s2, n2, c2, e2, s3, n3, c3, e3, rfl, u1, u2, u3, u4, u5, u6, u7, u8, u9, u10, u11, u12, qK⟩ := toldE_arg hx
 obtain ⟨M, t1, m1, d1, f1, t2, m2, d2, f2, t3, m3, d3, f3, rfl, w1, w2, w3, w4, w5, w6, w7, w8, w9, w10, w11, w12, qM⟩ := toldE_arg hy
 have rK := canR_sj qK.1.1 qK.2.1 (by omega)
 have dK := dC_sj qK.1.2 qK.2.2 (by omega)
 have cK := canD_c dK
 have oK := okD_dC dK
 have lK := ln_dC dK
 have rM := canR_sj qM.1.1 qM.2.1 (by omega)
 have dM := dC_sj qM.1.2 qM.2.2 (by omega)
 have cM := canD_c dM
 have oM := okD_dC dM
 have lM := ln_dC dM
 have eK : okE (rel3 K.2) := oK.1
 have eM : okE (rel3 M.2) := oM.1
 clear hp hx hy
 cbv
 repeat' (first | with_reducible refine And.intro ?_ ?_ | (with_reducible refine safe_lift hA ?_; kernel_rfl) | (intro hc_; cbv))
 all_goals (repeat (rw [safe_true hA, true_and]; rotate_left; kernel_rfl))
 all_goals subst hF hA
 all_goals subst u1 u2 u3 u4 u5 u6 u7 u8 u9 u10 u11 u12
 all_goals subst w1 w2 w3 w4 w5 w6 w7 w8 w9 w10 w11 w12
 all_goals simp only [fnOf, find, std, reduceIte, Nat.reduceEqDiff, sp1, sp2, a1, a2, FnSpec.out, Shape.build, leafs, leafCells, tups, oneOf, List.cons_append, List.nil_append, List.length_cons, List.length_nil, s_zEqualD, s_vEqual, s_qEqual, rv_raw, rv_N0, dv, dz, dx, dcn, dm_raw, dm_N0, vI_N0, raw6_is, Prod.eta, rv9_raw, re2, re4, re6, decide_eq_true_eq, decide_eq_false_iff_not, s_yEqual, sameI_N0, dec_dy] at *
 all_goals (repeat' (first
  | with_reducible exact hQ
  | with_reducible assumption
  | with_reducible exact isi_int _ _
  | with_reducible refine And.intro ?_ ?_
  | omega))
 all_goals first
  | exact hQ
  | exact Post.b hQ (ed_hi (by with_reducible assumption)).symm
  | exact Post.b hQ (ed_lo (by with_reducible assumption)).symm
  | exact Post.b hQ (ed_hi (by with_reducible assumption))
  | exact Post.b hQ (ed_lo (of_decide_eq_false hc_))
  | exact Post.b hQ (ed_lo (of_decide_eq_false hc_)).symm
  | trace_state
end Go.Proofs.YtnjjfakjnkhhjaaGreatDoor.Ev
namespace Go.Proofs.YtnjjfakjnkhhjaaGreatDoor.Ev
open Go Go.RowKit
def lenF (c : Re) (r : Dy) (p : Int) : Dy := if 0 < sg r.1 then dsqrt (cnorm c) p 1 else (0, 0)
theorem sg_pos {z : Int} : 0 < sg z ↔ 0 < z := by
 unfold sg; split <;> rename_i h <;> (try split) <;> omega
theorem len_mul {c : Re} {r : Dy} {p : Int} (h : 0 ≤ r.1) : qv (lenF c r p) * qv r = qv (dsqrt (cnorm c) p 1) * qv r := by
 unfold lenF
 split
 ·rfl
 ·rename_i g
  rw [sg_pos] at g
  have e : r.1 = 0 := by omega
  have e2 : qv r = 0 := by rw [show r = (0, r.2) from Prod.ext e rfl, qv_c0]
  rw [e2]; grind
theorem times_eq {a b : Dc} {p : Int} (ha : 0 ≤ a.2.1) (hb : 0 ≤ b.2.1) : ((Dy.add (0, 0) ((lenF a.1 b.2 p).mul b.2)).add (a.2.mul (lenF b.1 a.2 p))).add (a.2.mul b.2) = zrad a b p :=
 nn_eq (add_n _ _) (add_n _ _) (by
  unfold zrad
  have h1 := len_mul (c := a.1) (p := p) hb
  have h2 := len_mul (c := b.1) (p := p) ha
  rw [qv_add, qv_add, qv_add, qv_mul, qv_mul, qv_mul, qv_add, qv_add, qv_mul, qv_mul, qv_mul, h1, qv_c0, Rat.mul_comm (qv a.2) (qv (lenF b.1 a.2 p)), h2]
  grind)
theorem norm_step (C A : Re) : ((cnorm C).mul (A.1.mul A.1)).add ((cnorm C).mul (A.2.mul A.2)) = cnorm (cmul C A) :=
 nn_eq (add_n _ _) (norm_n _) (by
  rw [qv_add, qv_mul, qv_mul, qv_mul, qv_mul, q_norm, q_norm, q1_mul, q2_mul]; grind)
theorem norm_one : cnorm cone = (1, 0) := by decide +kernel
theorem dct_rn (a : Dc) : 0 ≤ (dct a).2.1 := qv_nn.1 (rad_nn _)
theorem zrad_nn {a b : Dc} (ha : 0 ≤ a.2.1) (hb : 0 ≤ b.2.1) (p : Int) : 0 ≤ (zrad a b p).1 := by
 refine qv_nn.1 ?_
 unfold zrad
 rw [qv_add, qv_add, qv_mul, qv_mul, qv_mul]
 have h1 := (dsqrt_up (norm_nn a.1) p).2
 have h2 := (dsqrt_up (norm_nn b.1) p).2
 have h3 := qv_nn.2 ha
 have h4 := qv_nn.2 hb
 exact Rat.add_nonneg (Rat.add_nonneg (Rat.mul_nonneg h1 h4) (Rat.mul_nonneg h2 h3)) (Rat.mul_nonneg h3 h4)
end Go.Proofs.YtnjjfakjnkhhjaaGreatDoor.Ev
