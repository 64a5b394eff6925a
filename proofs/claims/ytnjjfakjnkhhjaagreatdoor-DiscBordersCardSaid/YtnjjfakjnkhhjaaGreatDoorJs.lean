import Derived.Test.YtnjjfakjnkhhjaaGreatDoorJl
import Derived.Test.YtnjjfakjnkhhjaaGreatDoorHe
import Derived.Test.YtnjjfakjnkhhjaaGreatDoorEvd
import Derived.Test.YtnjjfakjnkhhjaaGreatDoorXp
set_option maxHeartbeats 2000000
set_option maxRecDepth 100000
set_option linter.all false
namespace Go.Proofs.YtnjjfakjnkhhjaaGreatDoor.Ev
open Go Go.RowKit
def s_fewR10 : FnSpec := sp1 (.one .b) okX (fun _ _ => 0) (fun x _ => raw6 false (fun _ n _ e _ m _ f => decide ((n ≤ 10 ∧ -1000 ≤ e ∧ e ≤ 1000) ∧ m ≤ 10 ∧ -1000 ≤ f ∧ f ≤ 1000)) x)
def s_fewP10 : FnSpec := sp1 (.one .b) okXP (fun _ _ => 0) (fun x _ => rw12 false (fun _ n1 _ e1 _ n2 _ e2 _ n3 _ e3 _ n4 _ e4 => decide (fewQ n1 e1 n2 e2 n3 e3 n4 e4)) x)
theorem good_fewR10 : Good Tryz.prog (GWL [0, 1]) N0 123 s_fewR10 := by
 refine goodM 0 (gc good_few10 gn) Tryz.f123 (by kernel_rfl) (by kernel_rfl) fun ds hp F A Q hF hA hQ => ?_
 obtain ⟨x, rfl, hx⟩ := sp1_arg hp
 obtain ⟨s, n, cs, e, t, m, es, f, rfl, hw, hr, hw2, hr2⟩ := okX_arg hx
 clear hp hx
 cbv
 repeat' (first | with_reducible refine And.intro ?_ ?_ | (with_reducible refine safe_lift hA ?_; kernel_rfl) | (intro hc_; cbv))
 all_goals (repeat (rw [safe_true hA, true_and]; rotate_left; kernel_rfl))
 all_goals subst hF hA
 all_goals simp only [fnOf, find, std, reduceIte, Nat.reduceEqDiff, sp1, sp2, a1, a2, FnSpec.out, Shape.build, leafs, leafCells, tups, oneOf, List.cons_append, List.nil_append, List.length_cons, List.length_nil, s_fewR10, s_few10, dx, dcn, raw6_is, decide_eq_true_eq, decide_eq_false_iff_not] at *
 all_goals first
  | exact okW_mk hw hr.1 hr.2
  | exact okW_mk hw2 hr2.1 hr2.2
  | exact Post.b hQ (dec_eq ⟨fun k => k.2, fun k => ⟨of_decide_eq_true hc_, k⟩⟩)
  | exact Post.b hQ (dec_no (fun k => of_decide_eq_false hc_ k.1))
  | trace_state
theorem good_fewP10 : Good Tryz.prog (GWL [0, 1]) N0 43 s_fewP10 := by
 refine goodM 0 (gc good_fewR10 gn) Tryz.f43 (by kernel_rfl) (by kernel_rfl) fun ds hp F A Q hF hA hQ => ?_
 obtain ⟨x, rfl, hx⟩ := sp1_arg hp
 obtain ⟨s1, n1, c1, e1, s2, n2, c2, e2, s3, n3, c3, e3, s4, n4, c4, e4, rfl, ⟨⟨g1, h1⟩, g2, h2⟩, ⟨g3, h3⟩, g4, h4⟩ := okXP_arg hx
 clear hp hx
 cbv
 repeat' (first | with_reducible refine And.intro ?_ ?_ | (with_reducible refine safe_lift hA ?_; kernel_rfl) | (intro hc_; cbv))
 all_goals (repeat (rw [safe_true hA, true_and]; rotate_left; kernel_rfl))
 all_goals subst hF hA
 all_goals simp only [fnOf, find, std, reduceIte, Nat.reduceEqDiff, sp1, sp2, a1, a2, FnSpec.out, Shape.build, leafs, leafCells, tups, oneOf, List.cons_append, List.nil_append, List.length_cons, List.length_nil, s_fewP10, s_fewR10, rw12_is, raw6_is, decide_eq_true_eq, decide_eq_false_iff_not] at *
 all_goals first
  | exact okX_mk g1 h1 g2 h2
  | exact okX_mk g3 h3 g4 h4
  | exact Post.b hQ (dec_eq ⟨fun k => k.2, fun k => ⟨hc_, k⟩⟩)
  | exact Post.b hQ (dec_no (fun k => hc_ k.1))
  | exact Post.b hQ (dec_eq ⟨fun k => k.2, fun k => ⟨of_decide_eq_true hc_, k⟩⟩)
  | exact Post.b hQ (dec_no (fun k => of_decide_eq_false hc_ k.1))
  | trace_state
def s_hAddA : FnSpec := sp2 PS (fun x y => okP x ∧ okP y) (fun x y i => re8 (padd (rcn (rv8 x)) (rcn (rv8 y))) i) (fun _ _ _ => false)
def s_hPairsA : FnSpec := ⟨PS, fun ds => match ds with | [x, y, .fn f []] => okP x ∧ okP y ∧ f = 177 | _ => False, fun ds i => match ds with | [x, y, .fn _ _] => re8 (padd (rcn (rv8 x)) (rcn (rv8 y))) i | _ => 0, fun _ _ => false, fun _ _ => 0, fun _ _ => []⟩
theorem hpairsA_arg {ds : List D} (h : s_hPairsA.p ds) : ∃ x y, okP x ∧ okP y ∧ ds = [x, y, .fn 177 []] := by
 unfold s_hPairsA at h
 dsimp only at h
 split at h
 ·rcases h with ⟨h, k, rfl⟩
  exact ⟨_, _, h, k, rfl⟩
 ·exact h.elim
theorem good_hPairsA : Good Tryz.prog (GWL [0, 1, 2]) N0 176 s_hPairsA := by
 refine goodM 0 (gl good_hParts rfl <| gl good_hJoined rfl <| gl good_eAdd rfl gn) Tryz.f176 (by kernel_rfl) (by kernel_rfl) fun ds hp F A Q hF hA hQ => ?_
 obtain ⟨x, y, hx, hy, hc⟩ := hpairsA_arg hp
 obtain ⟨s1, n1, c1, e1, s2, n2, c2, e2, s3, n3, c3, e3, s4, n4, c4, e4, rfl, x1, x2, x3, x4⟩ := okP_arg hx
 obtain ⟨t1, m1, d1, f1, t2, m2, d2, f2, t3, m3, d3, f3, t4, m4, d4, f4, rfl, y1, y2, y3, y4⟩ := okP_arg hy
 clear hp
 have w01 : A.add .i64 0 1 = 1 := by rw [hA]; rfl
 have w12 : A.add .i64 1 1 = 2 := by rw [hA]; rfl
 have l02 : A.lt 0 2 = true := by rw [hA]; rfl
 have l12 : A.lt 1 2 = true := by rw [hA]; rfl
 have l22 : A.lt 2 2 = false := by rw [hA]; rfl
 subst hc
 obtain ⟨Z1, hZ1⟩ : ∃ Z : Re, Z = radd (rn ((vI s1 c1, e1), (vI s2 c2, e2))) (rn ((vI t1 d1, f1), (vI t2 d2, f2))) := ⟨_, rfl⟩
 obtain ⟨Z2, hZ2⟩ : ∃ Z : Re, Z = radd (rn ((vI s3 c3, e3), (vI s4 c4, e4))) (rn ((vI t3 d3, f3), (vI t4 d4, f4))) := ⟨_, rfl⟩
 all_goals (cbv)
 all_goals (repeat' (first | with_reducible refine And.intro ?_ ?_ | (with_reducible refine safe_lift hA ?_; kernel_rfl) | (with_reducible refine loop_by (fun i st => ((st.setT 14 (.int .i64 (lit3 i))).setC 3 (lp3 i [.bool s1, .sl n1 c1, .int .i64 e1, .bool s2, .sl n2 c2, .int .i64 e2, .bool s3, .sl n3 c3, .int .i64 e3, .bool s4, .sl n4 c4, .int .i64 e4] [.bool (F.neg Z1.1.1), .sl (F.ln Z1.1.1) (F.lm Z1.1.1), .int .i64 Z1.1.2, .bool (F.neg Z1.2.1), .sl (F.ln Z1.2.1) (F.lm Z1.2.1), .int .i64 Z1.2.2, .bool s3, .sl n3 c3, .int .i64 e3, .bool s4, .sl n4 c4, .int .i64 e4] [.bool (F.neg Z1.1.1), .sl (F.ln Z1.1.1) (F.lm Z1.1.1), .int .i64 Z1.1.2, .bool (F.neg Z1.2.1), .sl (F.ln Z1.2.1) (F.lm Z1.2.1), .int .i64 Z1.2.2, .bool (F.neg Z2.1.1), .sl (F.ln Z2.1.1) (F.lm Z2.1.1), .int .i64 Z2.1.2, .bool (F.neg Z2.2.1), .sl (F.ln Z2.2.1) (F.lm Z2.2.1), .int .i64 Z2.2.2]))) 2 ?_ ?_; cbv; rotate_left; intro i hi; rcases three_or hi with rfl | rfl | rfl <;> cbv) | (intro hc_; first | (first | exact Bool.noConfusion (hc_.symm.trans l02) | exact Bool.noConfusion (hc_.symm.trans l12) | exact Bool.noConfusion (hc_.symm.trans l22)) | cbv)))
 all_goals (repeat (rw [safe_true hA, true_and]; rotate_left; kernel_rfl))
 all_goals subst hF hA hZ1 hZ2
 all_goals simp only [fnOf, find, std, reduceIte, Nat.reduceEqDiff, sp1, sp2, a1, a2, FnSpec.out, Shape.build, leafs, leafCells, tups, oneOf, List.cons_append, List.nil_append, List.length_cons, List.length_nil, s_hPairsA, s_hParts, s_hJoined, s_eAdd, re4, rv_raw, rv_N0, dv, dz, dx, dcn, dm_raw, dm_N0, vI_N0, raw6_is, raw3_is, pick2, decide_eq_true_eq, decide_eq_false_iff_not, gt_iff_lt, ge_iff_le, Dy.n, Dy.add, Dy.sub, Dy.mul, Dy.neg, Dy.abs, Dy.to, Dy.pow, sg_nonpos7, sg_nonneg7, rv8, rw12_is, re8, s_hRaw, rcn, padd, psub, pneg, phull, pround, pmul, psq, pnorm, lp3, lit3] at *
 all_goals (repeat' (first
  | with_reducible exact hQ
  | with_reducible assumption
  | with_reducible exact isi_int _ _
  | with_reducible exact okR_S (by with_reducible assumption) (by with_reducible assumption)
  | with_reducible exact okP_S (by with_reducible assumption) (by with_reducible assumption) (by with_reducible assumption) (by with_reducible assumption)
  | with_reducible exact okQ_mk
  | with_reducible exact okT_S (by with_reducible assumption)
  | with_reducible exact okM_S (by with_reducible assumption) (by with_reducible assumption)
  | with_reducible exact okPM_S (by with_reducible assumption) (by with_reducible assumption) (by with_reducible assumption) (by with_reducible assumption)
  | with_reducible exact few30_S (by with_reducible assumption) (by with_reducible assumption)
  | with_reducible refine And.intro ?_ ?_
  | rfl
  | omega))
theorem good_hAddA : Good Tryz.prog (GWL [0, 1, 2]) N0 129 s_hAddA := by
 refine goodM 0 (gl good_hPairsA rfl gn) Tryz.f129 (by kernel_rfl) (by kernel_rfl) fun ds hp F A Q hF hA hQ => ?_
 obtain ⟨x, y, rfl, hx, hy⟩ := sp2_arg hp
 obtain ⟨s1, n1, c1, e1, s2, n2, c2, e2, s3, n3, c3, e3, s4, n4, c4, e4, rfl, x1, x2, x3, x4⟩ := okP_arg hx
 obtain ⟨t1, m1, d1, f1, t2, m2, d2, f2, t3, m3, d3, f3, t4, m4, d4, f4, rfl, y1, y2, y3, y4⟩ := okP_arg hy
 clear hp
 cbv
 repeat' (first | with_reducible refine And.intro ?_ ?_ | (with_reducible refine safe_lift hA ?_; kernel_rfl) | (intro hc_; first | fail | cbv))
 all_goals (repeat (rw [safe_true hA, true_and]; rotate_left; kernel_rfl))
 all_goals subst hF hA
 all_goals simp only [fnOf, find, std, reduceIte, Nat.reduceEqDiff, sp1, sp2, a1, a2, FnSpec.out, Shape.build, leafs, leafCells, tups, oneOf, List.cons_append, List.nil_append, List.length_cons, List.length_nil, s_hAddA, s_hPairsA, re4, rv_raw, rv_N0, dv, dz, dx, dcn, dm_raw, dm_N0, vI_N0, raw6_is, raw3_is, pick2, decide_eq_true_eq, decide_eq_false_iff_not, gt_iff_lt, ge_iff_le, Dy.n, Dy.add, Dy.sub, Dy.mul, Dy.neg, Dy.abs, Dy.to, Dy.pow, sg_nonpos7, sg_nonneg7, rv8, rw12_is, re8, s_hRaw, rcn, padd, psub, pneg, phull, pround, pmul, psq, pnorm, lp3, lit3] at *
 all_goals (repeat' (first
  | with_reducible exact hQ
  | with_reducible assumption
  | with_reducible exact isi_int _ _
  | with_reducible exact okR_S (by with_reducible assumption) (by with_reducible assumption)
  | with_reducible exact okP_S (by with_reducible assumption) (by with_reducible assumption) (by with_reducible assumption) (by with_reducible assumption)
  | with_reducible exact okQ_mk
  | with_reducible exact okT_S (by with_reducible assumption)
  | with_reducible exact okM_S (by with_reducible assumption) (by with_reducible assumption)
  | with_reducible exact okPM_S (by with_reducible assumption) (by with_reducible assumption) (by with_reducible assumption) (by with_reducible assumption)
  | with_reducible exact few30_S (by with_reducible assumption) (by with_reducible assumption)
  | with_reducible refine And.intro ?_ ?_
  | rfl
  | omega))
 all_goals first
  | exact ⟨hx, hy, rfl⟩
  | exact hQ
  | (simp; done)
  | trace_state
def zsq (c : Re) (r : Dy) : Rc := ((c.1.sub r, c.1.add r), (c.2.sub r, c.2.add r))
theorem rn_neg {r : Dy} (hn : r.n = r) (h : 0 ≤ r.1) : rn (r.neg, r) = (r.neg, r) := rn_id (by
 unfold rok
 rw [show qv (r.neg, r).1 = -qv r from qv_neg r]
 have := qv_nn.2 h
 show -qv r ≤ qv r
 grind) (neg_n _) hn
theorem inside_eq {c : Re} {r : Dy} (hc : ccan c) (hn : r.n = r) (h : 0 ≤ r.1) : padd (rcn (ppt c)) (rcn ((r.neg, r), (r.neg, r))) = zsq c r := by
 unfold padd rcn ppt zsq radd
 dsimp only
 rw [rn_pair hc.1, rn_pair hc.2, rn_neg hn h]
 have key : ∀ x : Dy, x.add r.neg = x.sub r := fun x => nn_eq (add_n _ _) (sub_n _ _) (by rw [qv_add, qv_sub, qv_neg]; grind)
 rw [key, key]
def s_jInside : FnSpec := sp1 PS okF (fun x i => re8 (zsq (dct (rv9 x)).1 (dct (rv9 x)).2) i) (fun _ _ => false)
def mid2 (a : Dy) : Prop := a.n = a ∧ ∃ L H, sz a L H ∧ L + H ≤ 9500
theorem okS_2 {a : Dy} (h : mid2 a) : okS (N0.ln a.1) (N0.lm a.1) a.2 := by
 obtain ⟨hn, L, H, h1, h2⟩ := h
 exact (okSM_z hn h1 h2).1
theorem okP_q {a b c d : Dy} (h1 : mid2 a) (h2 : mid2 b) (h3 : mid2 c) (h4 : mid2 d) : okP (.agg [.bool (N0.neg a.1), .sl (N0.ln a.1) (N0.lm a.1), .int .i64 a.2, .bool (N0.neg b.1), .sl (N0.ln b.1) (N0.lm b.1), .int .i64 b.2, .bool (N0.neg c.1), .sl (N0.ln c.1) (N0.lm c.1), .int .i64 c.2, .bool (N0.neg d.1), .sl (N0.ln d.1) (N0.lm d.1), .int .i64 d.2]) := ⟨okS_2 h1, okS_2 h2, okS_2 h3, okS_2 h4⟩
theorem good_jInside : Good Tryz.prog (GWL [0, 1, 2]) N0 48 s_jInside := by
 refine goodM 0 (gl good_jRadius rfl <| gl good_cNeg rfl <| gl good_hOf rfl <| gl good_hAddA rfl gn) Tryz.f48 (by kernel_rfl) (by kernel_rfl) fun ds hp F A Q hF hA hQ => ?_
 obtain ⟨x, rfl, hx⟩ := sp1_arg hp
 have qK := okF_qd hx
 have hxA := okF_A hx
 obtain ⟨s1, n1, c1, e1, s2, n2, c2, e2, s3, n3, c3, e3, rfl⟩ := okF_arg hx
 obtain ⟨K, hK⟩ : ∃ K : Dc, dct (((vI s1 c1, e1), (vI s2 c2, e2)), (vI s3 c3, e3)) = K := ⟨_, rfl⟩
 have hK1 : ca ((vI s1 c1, e1), (vI s2 c2, e2)) = K.1 := congrArg Prod.fst hK
 have hK2 : rad (vI s3 c3, e3) = K.2 := congrArg Prod.snd hK
 have posK : 0 ≤ K.2.1 := hK ▸ dct_rn _
 rw [rv9_raw, hK] at qK
 have gK : okR (.agg [.bool s1, .sl n1 c1, .int .i64 e1, .bool s2, .sl n2 c2, .int .i64 e2]) := okR_S hxA.1.1 hxA.2.1.1
 have mK := mid_mk qK.1.2 qK.2.2 (by omega) (by omega)
 have oK := mid_okD mK
 have lK := Nat.le_trans (mid_ln mK) (show 20000 ≤ 90000 by omega)
 have a1_ : mid2 K.1.1 := ⟨qK.1.1.1, _, _, qK.2.1.1, by omega⟩
 have a2_ : mid2 K.1.2 := ⟨qK.1.1.2, _, _, qK.2.1.2, by omega⟩
 have a3_ : mid2 K.2 := ⟨qK.1.2, _, _, qK.2.2, by omega⟩
 have a4_ : mid2 K.2.neg := ⟨neg_n _, _, _, sz_neg qK.2.2, by omega⟩
 have oP1 := okP_q a1_ a1_ a2_ a2_
 have oP2 := okP_q a4_ a3_ a4_ a3_
 have hI := inside_eq qK.1.1 qK.1.2 posK
 unfold ppt at hI
 clear hp hx
 cbv
 repeat' (first | with_reducible refine And.intro ?_ ?_ | (with_reducible refine safe_lift hA ?_; kernel_rfl) | (intro hc_; cbv))
 all_goals (repeat (rw [safe_true hA, true_and]; rotate_left; kernel_rfl))
 all_goals subst hF hA
 all_goals simp only [fnOf, find, std, reduceIte, Nat.reduceEqDiff, sp1, sp2, a1, a2, FnSpec.out, Shape.build, leafs, leafCells, tups, oneOf, List.cons_append, List.nil_append, List.length_cons, List.length_nil, s_jInside, s_jRadius, s_cNeg, s_hOf, s_hAddA, rv_raw, rv_N0, dv, dz, dx, dcn, dm_raw, dm_N0, vI_N0, raw6_is, Prod.eta, rv9_raw, re2, re4, re6, decide_eq_true_eq, decide_eq_false_iff_not, hK, hK1, hK2, ppt, rv8, rw12_is, re8, hI] at *
 all_goals (repeat' (first
  | with_reducible exact hQ
  | with_reducible assumption
  | with_reducible exact isi_int _ _
  | with_reducible refine And.intro ?_ ?_
  | omega))
 all_goals first
  | exact hQ
  | exact oP1
  | exact oP2
  | trace_state
def toldL (x : D) : Prop := ∃ a : Dy, x = rel3 a ∧ a.n = a ∧ sz a 1000 1320
theorem toldL_arg {x : D} (h : toldL x) : ∃ (a : Dy) (s : Bool) (n : Nat) (c : List D) (e : Int), x = .agg [.bool s, .sl n c, .int .i64 e] ∧ N0.neg a.1 = s ∧ N0.ln a.1 = n ∧ N0.lm a.1 = c ∧ a.2 = e ∧ a.n = a ∧ sz a 1000 1320 := by
 obtain ⟨a, rfl, h⟩ := h
 exact ⟨a, _, _, _, _, rfl, rfl, rfl, rfl, rfl, h⟩
theorem sz_halfD {a : Dy} {L H : Nat} (h : sz a L H) : sz (a.scl (-1)) (L + 1) H := by
 obtain ⟨Z, h1, h2⟩ := h
 refine ⟨Z, h1.mono (by omega), ?_⟩
 rw [qv_half, h2]
 have e : qv (Z, -(L : Int)) = qv (Z * 2 ^ 1, -(L : Int) - (1 : Nat)) := (qv_up Z (-(L : Int)) 1).symm
 rw [e, show -(L : Int) - (1 : Nat) = -((L + 1 : Nat) : Int) by omega]
 unfold qv
 dsimp only
 rw [Rat.intCast_mul, cast_pow2]
 grind
theorem mid_sz {a b : Dy} (ha : sz a 1000 1320) (hb : sz b 1000 1320) : sz ((a.add b).scl (-1)) 1001 1321 := sz_halfD (sz_add ha hb)
def s_zSq : FnSpec := sp2 PS (fun x y => toldC x ∧ toldL y) (fun x y i => re8 (zsq (rv x) (dv y)) i) (fun _ _ _ => false)
def s_zAround : FnSpec := sp2 DS (fun x y => (toldP x ∧ pz (rv8 x) 1000 1320) ∧ isi .i64 y ∧ dz y ≤ 200) (fun x y i => re6 (zaround (rv8 x) (dz y)) i) (fun _ _ _ => false)
def qw (a : Dc) : Prop := (ccan a.1 ∧ a.2.n = a.2) ∧ cz a.1 1001 1322 ∧ sz a.2 1300 1600
def toldW (x : D) : Prop := ∃ a : Dc, x = rel9 a ∧ qw a
theorem toldW_arg {x : D} (h : toldW x) : ∃ (a : Dc) (s1 : Bool) (n1 : Nat) (c1 : List D) (e1 : Int) (s2 : Bool) (n2 : Nat) (c2 : List D) (e2 : Int) (s3 : Bool) (n3 : Nat) (c3 : List D) (e3 : Int), x = .agg [.bool s1, .sl n1 c1, .int .i64 e1, .bool s2, .sl n2 c2, .int .i64 e2, .bool s3, .sl n3 c3, .int .i64 e3] ∧
  N0.neg a.1.1.1 = s1 ∧ N0.ln a.1.1.1 = n1 ∧ N0.lm a.1.1.1 = c1 ∧ a.1.1.2 = e1 ∧ N0.neg a.1.2.1 = s2 ∧ N0.ln a.1.2.1 = n2 ∧ N0.lm a.1.2.1 = c2 ∧ a.1.2.2 = e2 ∧ N0.neg a.2.1 = s3 ∧ N0.ln a.2.1 = n3 ∧ N0.lm a.2.1 = c3 ∧ a.2.2 = e3 ∧ qw a := by
 obtain ⟨a, rfl, h⟩ := h
 exact ⟨a, _, _, _, _, _, _, _, _, _, _, _, _, rfl, rfl, rfl, rfl, rfl, rfl, rfl, rfl, rfl, rfl, rfl, rfl, rfl, h⟩
def s_zHoldsW : FnSpec := sp2 (.one .b) (fun x y => toldW x ∧ toldC y) (fun _ _ _ => 0) (fun x y _ => xhas (rv9 x) (rv y))
theorem good_zHoldsW : Good Tryz.prog (GWL [0, 1]) N0 22 s_zHoldsW := by
 refine goodM 0 (gc good_vSub <| gc good_vNorm <| gl good_tMul rfl <| gl good_tCmp rfl gn) Tryz.f22 (by kernel_rfl) (by kernel_rfl) fun ds hp F A Q hF hA hQ => ?_
 obtain ⟨x, y, rfl, hx, hy⟩ := sp2_arg hp
 obtain ⟨K, s1, n1, c1, e1, s2, n2, c2, e2, s3, n3, c3, e3, rfl, u1, u2, u3, u4, u5, u6, u7, u8, u9, u10, u11, u12, qK⟩ := toldW_arg hx
 obtain ⟨M, p1, q1, r1, i1, p2, q2, r2, i2, rfl, w1, w2, w3, w4, w5, w6, w7, w8, kM, yM⟩ := toldC_arg hy
 have rK := canR_sj qK.1.1 qK.2.1 (by omega)
 have dK := dC_sj qK.1.2 qK.2.2 (by omega)
 have cK := canD_c dK
 have oK := okD_dC dK
 have lK := ln_dC dK
 have rM := canR_sj kM yM (by omega)
 have zS := cz_sub (cz_mono yM (show 1000 ≤ 1001 by omega) (show 1320 ≤ 1322 by omega)) qK.2.1
 have rS := canR_sj (ccan_sub M K.1) zS (by omega)
 have mS : smallM (csub M K.1) (csub M K.1) := ⟨_, _, _, _, zS, zS, by omega⟩
 have zN := cz_norm zS
 have dN := dC_sj (norm_n _) zN (by omega)
 have cN := canD_c dN
 have fK := fit_dC dK dK
 have dP := dC_sj (mul_n _ _) (sz_mul qK.2.2 qK.2.2) (by omega)
 have cP := canD_c dP
 have nNP := near_dC dN dP
 clear hp hx hy zS zN
 cbv
 repeat' (first | with_reducible refine And.intro ?_ ?_ | (with_reducible refine safe_lift hA ?_; kernel_rfl) | (intro hc_; cbv))
 all_goals (repeat (rw [safe_true hA, true_and]; rotate_left; kernel_rfl))
 all_goals subst hF hA
 all_goals subst u1 u2 u3 u4 u5 u6 u7 u8 u9 u10 u11 u12
 all_goals subst w1 w2 w3 w4 w5 w6 w7 w8
 all_goals simp only [fnOf, find, std, reduceIte, Nat.reduceEqDiff, sp1, sp2, a1, a2, FnSpec.out, Shape.build, leafs, leafCells, tups, oneOf, List.cons_append, List.nil_append, List.length_cons, List.length_nil, s_zHoldsW, s_vSub, s_vNorm, s_tMul, s_tCmp, rv_raw, rv_N0, dv, dz, dx, dcn, dm_raw, dm_N0, vI_N0, raw6_is, Prod.eta, rv9_raw, re2, re4, re6, decide_eq_true_eq, decide_eq_false_iff_not] at *
 all_goals (repeat' (first
  | with_reducible exact hQ
  | with_reducible assumption
  | with_reducible exact isi_int _ _
  | with_reducible refine And.intro ?_ ?_
  | omega))
 all_goals first
  | exact hQ
  | trace_state
theorem good_zSq : Good Tryz.prog (GWL [0, 1]) N0 49 s_zSq := by
 refine goodM 0 (gl good_tSub rfl <| gl good_tAdd rfl gn) Tryz.f49 (by kernel_rfl) (by kernel_rfl) fun ds hp F A Q hF hA hQ => ?_
 obtain ⟨x, y, rfl, hx, hy⟩ := sp2_arg hp
 obtain ⟨K, p1, q1, r1, i1, p2, q2, r2, i2, rfl, u1, u2, u3, u4, u5, u6, u7, u8, kK, yK⟩ := toldC_arg hx
 obtain ⟨M, t1, m1, d1, f1, rfl, w1, w2, w3, w4, nM, zM⟩ := toldL_arg hy
 have dA := dC_sj kK.1 yK.1 (by omega)
 have dB := dC_sj kK.2 yK.2 (by omega)
 have dM := dC_sj nM zM (by omega)
 have cA := canD_c dA
 have cB := canD_c dB
 have cM := canD_c dM
 have nA := near_dC dA dM
 have nB := near_dC dB dM
 clear hp hx hy
 cbv
 repeat' (first | with_reducible refine And.intro ?_ ?_ | (with_reducible refine safe_lift hA ?_; kernel_rfl) | (intro hc_; cbv))
 all_goals (repeat (rw [safe_true hA, true_and]; rotate_left; kernel_rfl))
 all_goals subst hF hA
 all_goals subst u1 u2 u3 u4 u5 u6 u7 u8
 all_goals subst w1 w2 w3 w4
 all_goals simp only [fnOf, find, std, reduceIte, Nat.reduceEqDiff, sp1, sp2, a1, a2, FnSpec.out, Shape.build, leafs, leafCells, tups, oneOf, List.cons_append, List.nil_append, List.length_cons, List.length_nil, s_zSq, s_tSub, s_tAdd, rv_raw, rv_N0, dv, dz, dx, dcn, dm_raw, dm_N0, vI_N0, raw6_is, Prod.eta, rv9_raw, re2, re4, re6, decide_eq_true_eq, decide_eq_false_iff_not, zsq, re8] at *
 all_goals (repeat' (first
  | with_reducible exact hQ
  | with_reducible assumption
  | with_reducible exact isi_int _ _
  | with_reducible refine And.intro ?_ ?_
  | omega))
 all_goals first
  | exact hQ
  | trace_state
theorem good_zAround : Good Tryz.prog (GWL [0, 1]) N0 46 s_zAround := by
 refine goodM 0 (gc good_zMid <| gc good_vSub <| gl good_zFar rfl gn) Tryz.f46 (by kernel_rfl) (by kernel_rfl) fun ds hp F A Q hF hA hQ => ?_
 obtain ⟨x, y, rfl, hx, hy⟩ := sp2_arg hp
 have hx9 := hx.1
 obtain ⟨X, s1, n1, c1, e1, s2, n2, c2, e2, s3, n3, c3, e3, s4, n4, c4, e4, rfl, hX, k1, k2, u1, u2, u3, u4, u5, u6, u7, u8, u9, u10, u11, u12, u13, u14, u15, u16⟩ := toldP_arg hx.1
 obtain ⟨k, rfl⟩ := isi_arg hy.1
 have hk : k ≤ 200 := hy.2
 have hz := hx.2
 rw [hX] at hz
 have zmr := sz_mono (mid_sz hz.1.2.1 hz.1.2.2) (Nat.le_refl 1001) (show 1321 ≤ 1322 by omega)
 have zmi := sz_mono (mid_sz hz.2.2.1 hz.2.2.2) (Nat.le_refl 1001) (show 1321 ≤ 1322 by omega)
 have cH := canR_sj (a := (X.1.2, X.2.2)) ⟨hz.1.1.2.2, hz.2.1.2.2⟩ ⟨hz.1.2.2, hz.2.2.2⟩ (by omega)
 have cM := canR_sj (a := pmid X) ⟨scl_n _ _, scl_n _ _⟩ ⟨zmr, zmi⟩ (by omega)
 have zS := cz_sub (x := (X.1.2, X.2.2)) (y := pmid X) (cz_mono ⟨hz.1.2.2, hz.2.2.2⟩ (show 1000 ≤ 1001 by omega) (show 1320 ≤ 1322 by omega)) ⟨zmr, zmi⟩
 have tS : toldK (rl4 (csub (X.1.2, X.2.2) (pmid X))) := ⟨_, rfl, ccan_sub _ _, cz_mono zS (by omega) (by omega)⟩
 clear hp hx hy
 cbv
 repeat' (first | with_reducible refine And.intro ?_ ?_ | (with_reducible refine safe_lift hA ?_; kernel_rfl) | (intro hc_; cbv))
 all_goals (repeat (rw [safe_true hA, true_and]; rotate_left; kernel_rfl))
 all_goals subst hF hA
 all_goals subst u1 u2 u3 u4 u5 u6 u7 u8 u9 u10 u11 u12 u13 u14 u15 u16
 all_goals simp only [fnOf, find, std, reduceIte, Nat.reduceEqDiff, sp1, sp2, a1, a2, FnSpec.out, Shape.build, leafs, leafCells, tups, oneOf, List.cons_append, List.nil_append, List.length_cons, List.length_nil, s_zAround, s_zMid, s_vSub, s_zFar, rv_raw, rv_N0, dv, dz, dx, dcn, dm_raw, dm_N0, vI_N0, raw6_is, Prod.eta, rv9_raw, re2, re4, re6, decide_eq_true_eq, decide_eq_false_iff_not, hX, zaround, re8, rv8_N0] at *
 all_goals (repeat' (first
  | with_reducible exact hQ
  | with_reducible assumption
  | with_reducible exact isi_int _ _
  | with_reducible refine And.intro ?_ ?_
  | omega))
 all_goals first
  | exact hQ
  | exact hx9
  | exact cH
  | exact cM
  | exact tS
  | trace_state
end Go.Proofs.YtnjjfakjnkhhjaaGreatDoor.Ev
namespace Go.Proofs.YtnjjfakjnkhhjaaGreatDoor.Ev
open Go Go.RowKit Go.ChangeShapes Go.WideShapes Go.ChangeAt
def argC (n : Nat) (zs : List Nat) : List D := if n ≤ 100000 then u32s zs else []
theorem argC_ok {w : World} {A : Option Addr} {n c : Nat} {zs : List Nat} (h : Arg w A n c zs) (hn : n ≤ 100000) : okC n (argC n zs) := by
 unfold argC
 rw [if_pos hn]
 refine ⟨by rw [nums_u32s], by unfold u32s; rw [List.length_map]; exact h.1.1, by rw [nums_u32s]; exact h.2.1, hn⟩
theorem argC_den {w : World} {A : Option Addr} {n c : Nat} {zs : List Nat} (h : Arg w A n c zs) : den ⟨w, fun _ => False, fun _ => none⟩ (.sl n (argC n zs)) (.slice A n c) := by
 simp only [den]
 refine ⟨A, c, rfl, h.1.2, fun h0 => ?_⟩
 unfold argC at h0 ⊢
 by_cases hn : n ≤ 100000
 ·rw [if_pos hn] at h0 ⊢
  have hl : (u32s zs).length = n := by unfold u32s; rw [List.length_map]; exact h.1.1
  obtain ⟨b, o, rfl, hlt, hc⟩ := h.2.2 (by omega)
  exact ⟨b, o, rfl, hlt, fun hx => hx, nums_denC fun j hj => hc j (by rw [h.1.1] at hj; exact hj)⟩
 ·rw [if_neg hn] at h0
  exact absurd h0 (by simp)
theorem denL0 {E : Env} : denL E [] [] := by simp only [denL]
theorem denL1 {E : Env} {d : D} {v : Value} {ds : List D} {vs : List Value} (h : den E d v) (k : denL E ds vs) : denL E (d :: ds) (v :: vs) := by
 simp only [denL]; exact ⟨_, _, rfl, h, k⟩
theorem den_i {E : Env} (k : IntKind) (z : Int) : den E (.int k z) (.int k z) := by simp only [den]
end Go.Proofs.YtnjjfakjnkhhjaaGreatDoor.Ev
namespace Go.Proofs.YtnjjfakjnkhhjaaGreatDoor.Ev
open Go Go.RowKit Go.ChangeShapes Go.WideShapes Go.ChangeAt
theorem cells24 {H : Type} {enc : TypeId × Value → H} {P : Program} {w : World} {base : Nat} {sp : Nat → Bool} {held : Bool} {fuel : Nat} {t e e' : TypeId} {k : IntKind} {cs : List Value} {r0 r1 : List Int} {p : List MemPlace}
  (ht : P.underlying t = some (.array 2 e)) (hte : P.underlying e = some (.array 4 e')) (he : P.underlying e' = some (.int k)) (hc1 : P.cellsOf e' = 1) (hc4 : P.cellsOf e = 4) (hc8 : P.cellsOf t = 8)
  (h : DataW.trod enc P w base sp held fuel t cs = some (.agg [Lib.tabData k r0, Lib.tabData k r1], p)) : cs = (r0 ++ r1).map fun z => Value.int k z := by
 obtain ⟨xs, m, _, hx, hl, hxl, hall⟩ := DataW.trod_array ht h
 rw [hc8] at hl
 rw [hc4] at hall
 match xs, hxl with
 | [x0, x1], _ =>
 simp only [Prod.mk.injEq, DataW.agg.injEq, List.map_cons, List.map_nil, List.cons.injEq, and_true] at hx
 obtain ⟨⟨e0, e1⟩, _⟩ := hx
 obtain ⟨x0a, x0b⟩ := x0
 obtain ⟨x1a, x1b⟩ := x1
 subst e0; subst e1
 have a0 := Lib.cells_of_tab hte he hc1 hc4 (hall 0 (by omega))
 have a1 := Lib.cells_of_tab hte he hc1 hc4 (hall 1 (by omega))
 match cs, hl with
 | [c0, c1, c2, c3, c4, c5, c6, c7], _ =>
 simp only [Nat.zero_mul, Nat.one_mul, List.drop_zero, List.drop_succ_cons, List.take_succ_cons, List.take_zero] at a0 a1
 rw [List.map_append, ← a0, ← a1]
 rfl
theorem cells324 {H : Type} {enc : TypeId × Value → H} {P : Program} {w : World} {base : Nat} {sp : Nat → Bool} {held : Bool} {fuel : Nat} {t u e e' : TypeId} {k : IntKind} {cs : List Value} {r0 r1 r2 r3 r4 r5 : List Int} {p : List MemPlace}
  (ht : P.underlying t = some (.array 3 u)) (hu : P.underlying u = some (.array 2 e)) (hte : P.underlying e = some (.array 4 e')) (he : P.underlying e' = some (.int k)) (hc1 : P.cellsOf e' = 1) (hc4 : P.cellsOf e = 4) (hc8 : P.cellsOf u = 8) (hc24 : P.cellsOf t = 24)
  (h : DataW.trod enc P w base sp held fuel t cs = some (.agg [.agg [Lib.tabData k r0, Lib.tabData k r1], .agg [Lib.tabData k r2, Lib.tabData k r3], .agg [Lib.tabData k r4, Lib.tabData k r5]], p)) : cs = (r0 ++ r1 ++ (r2 ++ r3) ++ (r4 ++ r5)).map fun z => Value.int k z := by
 obtain ⟨xs, m, _, hx, hl, hxl, hall⟩ := DataW.trod_array ht h
 rw [hc24] at hl
 rw [hc8] at hall
 match xs, hxl with
 | [x0, x1, x2], _ =>
 simp only [Prod.mk.injEq, DataW.agg.injEq, List.map_cons, List.map_nil, List.cons.injEq, and_true] at hx
 obtain ⟨⟨e0, e1, e2⟩, _⟩ := hx
 obtain ⟨x0a, x0b⟩ := x0
 obtain ⟨x1a, x1b⟩ := x1
 obtain ⟨x2a, x2b⟩ := x2
 subst e0; subst e1; subst e2
 have a0 := cells24 hu hte he hc1 hc4 hc8 (hall 0 (by omega))
 have a1 := cells24 hu hte he hc1 hc4 hc8 (hall 1 (by omega))
 have a2 := cells24 hu hte he hc1 hc4 hc8 (hall 2 (by omega))
 rw [List.map_append, List.map_append, ← a0, ← a1, ← a2]
 simp only [Nat.zero_mul, Nat.one_mul, List.drop_zero]
 have hd : cs = cs.take 8 ++ ((cs.drop 8).take 8 ++ (cs.drop 16).take 8) := by
  have h2 : (cs.drop 16).take 8 = cs.drop 16 := List.take_of_length_le (by rw [List.length_drop, hl]; omega)
  rw [h2]
  have h3 : cs.drop 16 = (cs.drop 8).drop 8 := by rw [List.drop_drop]
  rw [h3, List.take_append_drop, List.take_append_drop]
 rw [List.append_assoc]
 exact hd
end Go.Proofs.YtnjjfakjnkhhjaaGreatDoor.Ev
