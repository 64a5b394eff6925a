import Derived.Test.YtnjjfakjnkhhjaaGreatDoorHc
import Derived.Test.YtnjjfakjnkhhjaaGreatDoorGv
set_option maxHeartbeats 6000000
set_option maxRecDepth 100000
set_option linter.all false
namespace Go.Proofs.YtnjjfakjnkhhjaaGreatDoor.Ev
open Go Go.RowKit
def toldP (x : D) : Prop := (x = .agg [.bool (N0.neg (rv8 x).1.1.1), .sl (N0.ln (rv8 x).1.1.1) (N0.lm (rv8 x).1.1.1), .int .i64 (rv8 x).1.1.2, .bool (N0.neg (rv8 x).1.2.1), .sl (N0.ln (rv8 x).1.2.1) (N0.lm (rv8 x).1.2.1), .int .i64 (rv8 x).1.2.2,
  .bool (N0.neg (rv8 x).2.1.1), .sl (N0.ln (rv8 x).2.1.1) (N0.lm (rv8 x).2.1.1), .int .i64 (rv8 x).2.1.2, .bool (N0.neg (rv8 x).2.2.1), .sl (N0.ln (rv8 x).2.2.1) (N0.lm (rv8 x).2.2.1), .int .i64 (rv8 x).2.2.2]) ∧ rC (rv8 x).1 ∧ rC (rv8 x).2
theorem toldP_arg {x : D} (h : toldP x) : ∃ (X : Rc) (s1 : Bool) (n1 : Nat) (c1 : List D) (e1 : Int) (s2 : Bool) (n2 : Nat) (c2 : List D) (e2 : Int) (s3 : Bool) (n3 : Nat) (c3 : List D) (e3 : Int) (s4 : Bool) (n4 : Nat) (c4 : List D) (e4 : Int),
  x = .agg [.bool s1, .sl n1 c1, .int .i64 e1, .bool s2, .sl n2 c2, .int .i64 e2, .bool s3, .sl n3 c3, .int .i64 e3, .bool s4, .sl n4 c4, .int .i64 e4] ∧ rv8 x = X ∧ rC X.1 ∧ rC X.2 ∧
  N0.neg X.1.1.1 = s1 ∧ N0.ln X.1.1.1 = n1 ∧ N0.lm X.1.1.1 = c1 ∧ X.1.1.2 = e1 ∧ N0.neg X.1.2.1 = s2 ∧ N0.ln X.1.2.1 = n2 ∧ N0.lm X.1.2.1 = c2 ∧ X.1.2.2 = e2 ∧
  N0.neg X.2.1.1 = s3 ∧ N0.ln X.2.1.1 = n3 ∧ N0.lm X.2.1.1 = c3 ∧ X.2.1.2 = e3 ∧ N0.neg X.2.2.1 = s4 ∧ N0.ln X.2.2.1 = n4 ∧ N0.lm X.2.2.1 = c4 ∧ X.2.2.2 = e4 :=
 ⟨rv8 x, _, _, _, _, _, _, _, _, _, _, _, _, _, _, _, _, h.1, rfl, h.2.1, h.2.2, rfl, rfl, rfl, rfl, rfl, rfl, rfl, rfl, rfl, rfl, rfl, rfl, rfl, rfl, rfl, rfl⟩
theorem toldP_c {x : Rc} (h1 : rC x.1) (h2 : rC x.2) : toldP (.agg [.bool (N0.neg x.1.1.1), .sl (N0.ln x.1.1.1) (N0.lm x.1.1.1), .int .i64 x.1.1.2, .bool (N0.neg x.1.2.1), .sl (N0.ln x.1.2.1) (N0.lm x.1.2.1), .int .i64 x.1.2.2,
  .bool (N0.neg x.2.1.1), .sl (N0.ln x.2.1.1) (N0.lm x.2.1.1), .int .i64 x.2.1.2, .bool (N0.neg x.2.2.1), .sl (N0.ln x.2.2.1) (N0.lm x.2.2.1), .int .i64 x.2.2.2]) := by
 unfold toldP; rw [rv8_N0]; exact ⟨rfl, h1, h2⟩
theorem toldP_pz {x : Rc} {L H : Nat} (h : pz x L H) (hl : L + H ≤ 19200) : toldP (.agg [.bool (N0.neg x.1.1.1), .sl (N0.ln x.1.1.1) (N0.lm x.1.1.1), .int .i64 x.1.1.2, .bool (N0.neg x.1.2.1), .sl (N0.ln x.1.2.1) (N0.lm x.1.2.1), .int .i64 x.1.2.2,
  .bool (N0.neg x.2.1.1), .sl (N0.ln x.2.1.1) (N0.lm x.2.1.1), .int .i64 x.2.1.2, .bool (N0.neg x.2.2.1), .sl (N0.ln x.2.2.1) (N0.lm x.2.2.1), .int .i64 x.2.2.2]) := toldP_c (h.1.c hl) (h.2.c hl)
def few100P (x : D) : Prop := rw12 False (fun _ _ _ e1 _ _ _ e2 _ _ _ e3 _ _ _ e4 => ((-10000 ≤ e1 ∧ e1 ≤ 10000) ∧ -10000 ≤ e2 ∧ e2 ≤ 10000) ∧ (-10000 ≤ e3 ∧ e3 ≤ 10000) ∧ -10000 ≤ e4 ∧ e4 ≤ 10000) x
theorem few100_S {s t : Bool} {n m : Nat} {cs es : List D} {e f : Int} (h : (-10000 ≤ e ∧ e ≤ 10000) ∧ -10000 ≤ f ∧ f ≤ 10000) : few100 (.agg [.bool s, .sl n cs, .int .i64 e, .bool t, .sl m es, .int .i64 f]) := h
def s_zRect : FnSpec := sp1 PS (fun x => okP x ∧ few100P x) (fun x i => re8 (rcn (rv8 x)) i) (fun _ _ => false)
def s_zEqual : FnSpec := sp2 (.one .b) (fun x y => toldP x ∧ toldP y) (fun _ _ _ => 0) (fun x y _ => decide (rv8 x = rv8 y))
def s_zMid : FnSpec := sp1 (.agg [.I, .i .i64, .I, .i .i64]) (fun x => toldP x ∧ pz (rv8 x) 1000 1320) (fun x i => re4 (pmid (rv8 x)) i) (fun _ _ => false)
theorem canD_1 {r : Re} (h : rC r) : canD (.agg [.bool (N0.neg r.1.1), .sl (N0.ln r.1.1) (N0.lm r.1.1), .int .i64 r.1.2]) := canD_c (dC_1 h)
theorem canD_2 {r : Re} (h : rC r) : canD (.agg [.bool (N0.neg r.2.1), .sl (N0.ln r.2.1) (N0.lm r.2.1), .int .i64 r.2.2]) := canD_c (dC_2 h)
theorem rC_cadd {X : Rc} (h : pz X 1000 1320) : dC (X.1.1.add X.1.2) ∧ dC (X.2.1.add X.2.2) := by
 have key : ∀ {a b : Dy}, sz a 1000 1320 → sz b 1000 1320 → dC (a.add b) := fun ha hb => ⟨add_n _ _, (sz_can (add_n _ _) (sz_add ha hb)).mono (by omega) (by omega)⟩
 exact ⟨key h.1.2.1 h.1.2.2, key h.2.2.1 h.2.2.2⟩
theorem dec_and {a b c d : Re} : decide ((a, b) = (c, d)) = (decide (a = c) && decide (b = d)) := by
 rw [Bool.eq_iff_iff, decide_eq_true_iff, Prod.mk.injEq, Bool.and_eq_true, decide_eq_true_iff, decide_eq_true_iff]
theorem dec_rc (X Y : Rc) : decide (X = Y) = (decide (X.1 = Y.1) && decide (X.2 = Y.2)) := dec_and
abbrev G_zRect : Prop := Good Tryz.prog (GWL [0, 1]) N0 44 s_zRect
abbrev G_zEqual : Prop := Good Tryz.prog (GWL [0, 1]) N0 47 s_zEqual
abbrev G_zMid : Prop := Good Tryz.prog (GWL [0, 1]) N0 127 s_zMid
theorem goods_he1 : G_zRect ∧ G_zEqual ∧ G_zMid := by
 refine ⟨?_, ?_, ?_⟩
 refine goodM 0 (gc good_yReal gn) Tryz.f44 (by kernel_rfl) (by kernel_rfl) fun ds hp F A Q hF hA hQ => ?_
 obtain ⟨x, rfl, hx, hx4⟩ := sp1_arg hp
 obtain ⟨s1, n1, c1, e1, s2, n2, c2, e2, s3, n3, c3, e3, s4, n4, c4, e4, rfl, x1, x2, x3, x4⟩ := okP_arg hx
 obtain ⟨g1, g2⟩ := hx4
 have l1 := few100_S g1 (s := s1) (t := s2) (n := n1) (m := n2) (cs := c1) (es := c2)
 have l2 := few100_S g2 (s := s3) (t := s4) (n := n3) (m := n4) (cs := c3) (es := c4)
 clear hp hx
 rotate_left
 refine goodM 0 (gc good_yEqual gn) Tryz.f47 (by kernel_rfl) (by kernel_rfl) fun ds hp F A Q hF hA hQ => ?_
 obtain ⟨x, y, rfl, hx, hy⟩ := sp2_arg hp
 obtain ⟨X, s1, n1, c1, e1, s2, n2, c2, e2, s3, n3, c3, e3, s4, n4, c4, e4, rfl, hvX, cX1, cX2, u1, u2, u3, u4, u5, u6, u7, u8, u9, u10, u11, u12, u13, u14, u15, u16⟩ := toldP_arg hx
 have rX1 := canR_c cX1
 have rX2 := canR_c cX2
 have yX1 := canD_1 cX1
 have yX2 := canD_2 cX1
 have yX3 := canD_1 cX2
 have yX4 := canD_2 cX2
 obtain ⟨Y, t1, m1, d1, f1, t2, m2, d2, f2, t3, m3, d3, f3, t4, m4, d4, f4, rfl, hvY, cY1, cY2, w1, w2, w3, w4, w5, w6, w7, w8, w9, w10, w11, w12, w13, w14, w15, w16⟩ := toldP_arg hy
 have rY1 := canR_c cY1
 have rY2 := canR_c cY2
 have yY1 := canD_1 cY1
 have yY2 := canD_2 cY1
 have yY3 := canD_1 cY2
 have yY4 := canD_2 cY2
 clear hp hx hy hvX hvY
 rotate_left
 refine goodM 0 (gc good_qAdd <| gc good_qScale gn) Tryz.f127 (by kernel_rfl) (by kernel_rfl) fun ds hp F A Q hF hA hQ => ?_
 obtain ⟨x, rfl, hx, hq⟩ := sp1_arg hp
 obtain ⟨X, s1, n1, c1, e1, s2, n2, c2, e2, s3, n3, c3, e3, s4, n4, c4, e4, rfl, hvX, cX1, cX2, u1, u2, u3, u4, u5, u6, u7, u8, u9, u10, u11, u12, u13, u14, u15, u16⟩ := toldP_arg hx
 have rX1 := canR_c cX1
 have rX2 := canR_c cX2
 have yX1 := canD_1 cX1
 have yX2 := canD_2 cX1
 have yX3 := canD_1 cX2
 have yX4 := canD_2 cX2
 rw [hvX] at hq
 obtain ⟨a1_, a2_⟩ := rC_cadd hq
 have q1_ := canD_c a1_
 have q2_ := canD_c a2_
 have l1 := near_c (s := N0.neg X.1.1.1) (t := N0.neg X.1.2.1) (n := N0.ln X.1.1.1) (m := N0.ln X.1.2.1) (cs := N0.lm X.1.1.1) (es := N0.lm X.1.2.1) (dC_1 cX1) (dC_2 cX1)
 have l2 := near_c (s := N0.neg X.2.1.1) (t := N0.neg X.2.2.1) (n := N0.ln X.2.1.1) (m := N0.ln X.2.2.1) (cs := N0.lm X.2.1.1) (es := N0.lm X.2.2.1) (dC_1 cX2) (dC_2 cX2)
 clear hp hx hvX hq
 rotate_left
 all_goals cbv
 all_goals (repeat' (first | with_reducible refine And.intro ?_ ?_ | (with_reducible refine safe_lift hA ?_; kernel_rfl) | (intro hc_; cbv)))
 all_goals (repeat (rw [safe_true hA, true_and]; rotate_left; kernel_rfl))
 all_goals subst hF hA
 all_goals (try subst u1 u2 u3 u4 u5 u6 u7 u8 u9 u10 u11 u12 u13 u14 u15 u16)
 all_goals (try subst w1 w2 w3 w4 w5 w6 w7 w8 w9 w10 w11 w12 w13 w14 w15 w16)
 all_goals simp only [fnOf, find, std, reduceIte, Nat.reduceEqDiff, sp1, sp2, a1, a2, FnSpec.out, Shape.build, leafs, leafCells, tups, oneOf, List.cons_append, List.nil_append, List.length_cons, List.length_nil, s_zRect, s_yReal, rv_raw, rv_N0, dv, dz, dx, dcn, dm_raw, dm_N0, vI_N0, decide_eq_true_eq, decide_eq_false_iff_not, re4, re8, Prod.eta, gt_iff_lt, ge_iff_le, padd, pmul, psq, pnorm, pround, pinvZ, pmid, ppt, rv8, rw12_is, rcn, s_zEqual, s_yEqual, rv8_N0, dec_rc, s_zMid, s_qAdd, s_qScale, Dy.scl, Dy.add, Dy.n] at *
 all_goals (repeat' (first
  | with_reducible exact hQ
  | with_reducible assumption
  | with_reducible exact isi_int _ _
  | with_reducible exact canR_c (by with_reducible assumption)
  | with_reducible exact canD_c (by with_reducible assumption)
  | with_reducible exact canD_1 (by with_reducible assumption)
  | with_reducible exact canD_2 (by with_reducible assumption)
  | with_reducible exact toldP_c (by with_reducible assumption) (by with_reducible assumption)
  | with_reducible exact okR_S (by with_reducible assumption) (by with_reducible assumption)
  | with_reducible refine And.intro ?_ ?_
  | rfl
  | omega))
 all_goals first
  | exact Post.b hQ (and_y (decide_eq_true hc_))
  | exact Post.b hQ (and_n (decide_eq_false hc_))
  | exact Post.b hQ (and_y hc_)
  | exact Post.b hQ (and_n hc_)
  | (simp only [decide_eq_true_eq, decide_eq_false_iff_not] at hc_; exact Post.b hQ (and_y (decide_eq_true hc_)))
  | (simp only [decide_eq_true_eq, decide_eq_false_iff_not] at hc_; exact Post.b hQ (and_n (decide_eq_false hc_)))
  | fail
theorem good_zRect : G_zRect := goods_he1.1
theorem good_zEqual : G_zEqual := goods_he1.2.1
theorem good_zMid : G_zMid := goods_he1.2.2
def okXP (x : D) : Prop := match x with
 | .agg [.bool _, .sl n1 c1, .int .i64 e1, .bool _, .sl n2 c2, .int .i64 e2, .bool _, .sl n3 c3, .int .i64 e3, .bool _, .sl n4 c4, .int .i64 e4] =>
  (((n1 ≤ 100000 → okC n1 c1) ∧ -9223372036854775808 ≤ e1 ∧ e1 ≤ 9223372036854775807) ∧ (n2 ≤ 100000 → okC n2 c2) ∧ -9223372036854775808 ≤ e2 ∧ e2 ≤ 9223372036854775807) ∧
  ((n3 ≤ 100000 → okC n3 c3) ∧ -9223372036854775808 ≤ e3 ∧ e3 ≤ 9223372036854775807) ∧ (n4 ≤ 100000 → okC n4 c4) ∧ -9223372036854775808 ≤ e4 ∧ e4 ≤ 9223372036854775807
 | _ => False
theorem okXP_arg {x : D} (h : okXP x) : ∃ s1 n1 c1 e1 s2 n2 c2 e2 s3 n3 c3 e3 s4 n4 c4 e4, x = .agg [.bool s1, .sl n1 c1, .int .i64 e1, .bool s2, .sl n2 c2, .int .i64 e2, .bool s3, .sl n3 c3, .int .i64 e3, .bool s4, .sl n4 c4, .int .i64 e4] ∧
  (((n1 ≤ 100000 → okC n1 c1) ∧ -9223372036854775808 ≤ e1 ∧ e1 ≤ 9223372036854775807) ∧ (n2 ≤ 100000 → okC n2 c2) ∧ -9223372036854775808 ≤ e2 ∧ e2 ≤ 9223372036854775807) ∧
  ((n3 ≤ 100000 → okC n3 c3) ∧ -9223372036854775808 ≤ e3 ∧ e3 ≤ 9223372036854775807) ∧ (n4 ≤ 100000 → okC n4 c4) ∧ -9223372036854775808 ≤ e4 ∧ e4 ≤ 9223372036854775807 := by
 unfold okXP at h
 split at h
 ·exact ⟨_, _, _, _, _, _, _, _, _, _, _, _, _, _, _, _, rfl, h⟩
 ·exact h.elim
abbrev fewQ (n1 : Nat) (e1 : Int) (n2 : Nat) (e2 : Int) (n3 : Nat) (e3 : Int) (n4 : Nat) (e4 : Int) : Prop := ((n1 ≤ 10 ∧ -1000 ≤ e1 ∧ e1 ≤ 1000) ∧ n2 ≤ 10 ∧ -1000 ≤ e2 ∧ e2 ≤ 1000) ∧ (n3 ≤ 10 ∧ -1000 ≤ e3 ∧ e3 ≤ 1000) ∧ n4 ≤ 10 ∧ -1000 ≤ e4 ∧ e4 ≤ 1000
end Go.Proofs.YtnjjfakjnkhhjaaGreatDoor.Ev
