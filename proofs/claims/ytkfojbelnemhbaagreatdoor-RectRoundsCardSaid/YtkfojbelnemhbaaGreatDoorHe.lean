import Derived.Test.YtkfojbelnemhbaaGreatDoorHd
import Derived.Test.YtkfojbelnemhbaaGreatDoorGv
set_option maxHeartbeats 16000000
set_option maxRecDepth 100000
set_option linter.all false
namespace Go.Proofs.YtkfojbelnemhbaaGreatDoor.Ev
open Go Go.RowKit
def toldP (x : D) : Prop := (x = .agg [.bool (N0.neg (rv8 x).1.1.1), .sl (N0.ln (rv8 x).1.1.1) (N0.lm (rv8 x).1.1.1), .int .i64 (rv8 x).1.1.2, .bool (N0.neg (rv8 x).1.2.1), .sl (N0.ln (rv8 x).1.2.1) (N0.lm (rv8 x).1.2.1), .int .i64 (rv8 x).1.2.2,
  .bool (N0.neg (rv8 x).2.1.1), .sl (N0.ln (rv8 x).2.1.1) (N0.lm (rv8 x).2.1.1), .int .i64 (rv8 x).2.1.2, .bool (N0.neg (rv8 x).2.2.1), .sl (N0.ln (rv8 x).2.2.1) (N0.lm (rv8 x).2.2.1), .int .i64 (rv8 x).2.2.2]) ∧ rC (rv8 x).1 ∧ rC (rv8 x).2
theorem toldP_arg {x : D} (h : toldP x) : ∃ (X : Rc) (s1 : Bool) (n1 : Nat) (c1 : List D) (e1 : Int) (s2 : Bool) (n2 : Nat) (c2 : List D) (e2 : Int) (s3 : Bool) (n3 : Nat) (c3 : List D) (e3 : Int) (s4 : Bool) (n4 : Nat) (c4 : List D) (e4 : Int),
  x = .agg [.bool s1, .sl n1 c1, .int .i64 e1, .bool s2, .sl n2 c2, .int .i64 e2, .bool s3, .sl n3 c3, .int .i64 e3, .bool s4, .sl n4 c4, .int .i64 e4] ∧ rv8 x = X ∧ rC X.1 ∧ rC X.2 ∧
  N0.neg X.1.1.1 = s1 ∧ N0.ln X.1.1.1 = n1 ∧ N0.lm X.1.1.1 = c1 ∧ X.1.1.2 = e1 ∧ N0.neg X.1.2.1 = s2 ∧ N0.ln X.1.2.1 = n2 ∧ N0.lm X.1.2.1 = c2 ∧ X.1.2.2 = e2 ∧
  N0.neg X.2.1.1 = s3 ∧ N0.ln X.2.1.1 = n3 ∧ N0.lm X.2.1.1 = c3 ∧ X.2.1.2 = e3 ∧ N0.neg X.2.2.1 = s4 ∧ N0.ln X.2.2.1 = n4 ∧ N0.lm X.2.2.1 = c4 ∧ X.2.2.2 = e4 :=
 ⟨rv8 x, _, _, _, _, _, _, _, _, _, _, _, _, _, _, _, _, h.1, rfl, h.2.1, h.2.2, rfl, rfl, rfl, rfl, rfl, rfl, rfl, rfl, rfl, rfl, rfl, rfl, rfl, rfl, rfl, rfl⟩
theorem toldP_c {x : Rc} (h1 : rC x.1) (h2 : rC x.2) : toldP (.agg [.bool (N0.neg x.1.1.1), .sl (N0.ln x.1.1.1) (N0.lm x.1.1.1), .int .i64 x.1.1.2, .bool (N0.neg x.1.2.1), .sl (N0.ln x.1.2.1) (N0.lm x.1.2.1), .int .i64 x.1.2.2,
  .bool (N0.neg x.2.1.1), .sl (N0.ln x.2.1.1) (N0.lm x.2.1.1), .int .i64 x.2.1.2, .bool (N0.neg x.2.2.1), .sl (N0.ln x.2.2.1) (N0.lm x.2.2.1), .int .i64 x.2.2.2]) := by
 unfold toldP; rw [rv8_N0]; exact ⟨rfl, h1, h2⟩
theorem toldP_pz {x : Rc} {L H : Nat} (h : pz x L H) (hl : L + H ≤ 19200) : toldP (.agg [.bool (N0.neg x.1.1.1), .sl (N0.ln x.1.1.1) (N0.lm x.1.1.1), .int .i64 x.1.1.2, .bool (N0.neg x.1.2.1), .sl (N0.ln x.1.2.1) (N0.lm x.1.2.1), .int .i64 x.1.2.2,
  .bool (N0.neg x.2.1.1), .sl (N0.ln x.2.1.1) (N0.lm x.2.1.1), .int .i64 x.2.1.2, .bool (N0.neg x.2.2.1), .sl (N0.ln x.2.2.1) (N0.lm x.2.2.1), .int .i64 x.2.2.2]) := toldP_c (h.1.c hl) (h.2.c hl)
def pq (x : Rc) : Prop := pz x 1000 1320 ∧ fR x.1 320 1320 ∧ fR x.2 320 1320
def few100P (x : D) : Prop := rw12 False (fun _ _ _ e1 _ _ _ e2 _ _ _ e3 _ _ _ e4 => ((-10000 ≤ e1 ∧ e1 ≤ 10000) ∧ -10000 ≤ e2 ∧ e2 ≤ 10000) ∧ (-10000 ≤ e3 ∧ e3 ≤ 10000) ∧ -10000 ≤ e4 ∧ e4 ≤ 10000) x
theorem few100_S {s t : Bool} {n m : Nat} {cs es : List D} {e f : Int} (h : (-10000 ≤ e ∧ e ≤ 10000) ∧ -10000 ≤ f ∧ f ≤ 10000) : few100 (.agg [.bool s, .sl n cs, .int .i64 e, .bool t, .sl m es, .int .i64 f]) := h
def smallP (X Y : Rc) : Prop := ∃ L H M K, pz X L H ∧ pz Y M K ∧ L + M + (H + K) ≤ 19000
def s_zRect : FnSpec := sp1 PS (fun x => okP x ∧ few100P x) (fun x i => re8 (rcn (rv8 x)) i) (fun _ _ => false)
def s_zPoint : FnSpec := sp1 PS canR (fun x i => re8 (ppt (rv x)) i) (fun _ _ => false)
def s_zEqual : FnSpec := sp2 (.one .b) (fun x y => toldP x ∧ toldP y) (fun _ _ _ => 0) (fun x y _ => decide (rv8 x = rv8 y))
def s_zHas : FnSpec := sp2 (.one .b) (fun x y => toldP x ∧ canR y) (fun _ _ _ => 0) (fun x y _ => hasY (rv8 x).1 (rv y).1 && hasY (rv8 x).2 (rv y).2)
def s_zIn : FnSpec := sp2 (.one .b) (fun x y => toldP x ∧ toldP y) (fun _ _ _ => 0) (fun x y _ => inY (rv8 x).1 (rv8 y).1 && inY (rv8 x).2 (rv8 y).2)
def s_zAdd : FnSpec := sp2 PS (fun x y => toldP x ∧ toldP y) (fun x y i => re8 (padd (rv8 x) (rv8 y)) i) (fun _ _ _ => false)
def s_zMul : FnSpec := sp2 PS (fun x y => toldP x ∧ toldP y ∧ smallP (rv8 x) (rv8 y)) (fun x y i => re8 (pmul (rv8 x) (rv8 y)) i) (fun _ _ _ => false)
def s_zSquare : FnSpec := sp1 PS (fun x => toldP x ∧ pq (rv8 x)) (fun x i => re8 (psq (rv8 x)) i) (fun _ _ => false)
def s_zPow : FnSpec := sp2 PS (fun x y => (toldP x ∧ pz (rv8 x) 1000 1320) ∧ isi .i64 y ∧ powN (dz y) ≤ 5) (fun x y i => re8 (ppw (rv8 x) (powN (dz y))) i) (fun _ _ _ => false)
def s_zNorm : FnSpec := sp1 (.agg [.I, .i .i64, .I, .i .i64]) (fun x => toldP x ∧ pq (rv8 x)) (fun x i => re4 (pnorm (rv8 x)) i) (fun _ _ => false)
def s_zMid : FnSpec := sp1 (.agg [.I, .i .i64, .I, .i .i64]) (fun x => toldP x ∧ pz (rv8 x) 1000 1320) (fun x i => re4 (pmid (rv8 x)) i) (fun _ _ => false)
def s_zRound : FnSpec := sp2 PS (fun x y => (toldP x ∧ fR (rv8 x).1 9700 9700 ∧ fR (rv8 x).2 9700 9700) ∧ isi .i64 y) (fun x y i => re8 (pround (rv8 x) (dz y)) i) (fun _ _ _ => false)
def s_zInv : FnSpec := sp2 (.tup [(true, [.I, .i .i64, .I, .i .i64, .I, .i .i64, .I, .i .i64]), (false, [.i .i64])]) (fun x y => (toldP x ∧ pq (rv8 x)) ∧ isi .i64 y ∧ dz y ≤ 200) (fun x y i => match i with | 8 => er0 (pnorm (rv8 x)) | i => re8 (pinvZ (rv8 x) (dz y)) i) (fun _ _ _ => false)
def s_zDiv : FnSpec := ⟨.tup [(true, [.I, .i .i64, .I, .i .i64, .I, .i .i64, .I, .i .i64]), (false, [.i .i64])], fun ds => match ds with | [x, y, .int .i64 p] => (toldP x ∧ pz (rv8 x) 1000 1320) ∧ (toldP y ∧ pq (rv8 y)) ∧ p ≤ 200 | _ => False,
 fun ds i => match ds with | [x, y, .int _ p] => (match i with | 8 => er0 (pnorm (rv8 y)) | i => re8 (pdivZ (rv8 x) (rv8 y) p) i) | _ => 0, fun _ _ => false, fun _ _ => 0, fun _ _ => []⟩
theorem zdiv_arg {ds : List D} (h : s_zDiv.p ds) : ∃ x y p, ds = [x, y, .int .i64 p] ∧ (toldP x ∧ pz (rv8 x) 1000 1320) ∧ (toldP y ∧ pq (rv8 y)) ∧ p ≤ 200 := by
 unfold s_zDiv at h
 dsimp only at h
 split at h
 ·exact ⟨_, _, _, rfl, h⟩
 ·exact h.elim
theorem canD_1 {r : Re} (h : rC r) : canD (.agg [.bool (N0.neg r.1.1), .sl (N0.ln r.1.1) (N0.lm r.1.1), .int .i64 r.1.2]) := canD_c (dC_1 h)
theorem canD_2 {r : Re} (h : rC r) : canD (.agg [.bool (N0.neg r.2.1), .sl (N0.ln r.2.1) (N0.lm r.2.1), .int .i64 r.2.2]) := canD_c (dC_2 h)
theorem rC_cadd {X : Rc} (h : pz X 1000 1320) : dC (X.1.1.add X.1.2) ∧ dC (X.2.1.add X.2.2) := by
 have key : ∀ {a b : Dy}, sz a 1000 1320 → sz b 1000 1320 → dC (a.add b) := fun ha hb => ⟨add_n _ _, (sz_can (add_n _ _) (sz_add ha hb)).mono (by omega) (by omega)⟩
 exact ⟨key h.1.2.1 h.1.2.2, key h.2.2.1 h.2.2.2⟩
theorem pq_ac {X : Rc} (h : pq X) : rC (rpow X.1 2) ∧ rC (rpow X.2 2) ∧ rC (rmul X.1 X.2) := ⟨(rz_sq h.1.1).c (by omega), (rz_sq h.1.2).c (by omega), (rz_mul h.1.1 h.1.2).c (by omega)⟩
theorem sm_ac {X Y : Rc} (h : smallP X Y) : (rC (rmul X.1 Y.1) ∧ rC (rmul X.2 Y.2) ∧ rC (rmul X.1 Y.2) ∧ rC (rmul X.2 Y.1)) ∧ (prodOk X.1 Y.1 ∧ prodOk X.2 Y.2) ∧ prodOk X.1 Y.2 ∧ prodOk X.2 Y.1 := by
 obtain ⟨L, H, M, K, h1, h2, h3⟩ := h
 exact ⟨⟨(rz_mul h1.1 h2.1).c (by omega), (rz_mul h1.2 h2.2).c (by omega), (rz_mul h1.1 h2.2).c (by omega), (rz_mul h1.2 h2.1).c (by omega)⟩,
  ⟨prodOk_cz h1.1.2 h2.1.2 (by omega), prodOk_cz h1.2.2 h2.2.2 (by omega)⟩, prodOk_cz h1.1.2 h2.2.2 (by omega), prodOk_cz h1.2.2 h2.1.2 (by omega)⟩
theorem dec_and {a b c d : Re} : decide ((a, b) = (c, d)) = (decide (a = c) && decide (b = d)) := by
 rw [Bool.eq_iff_iff, decide_eq_true_iff, Prod.mk.injEq, Bool.and_eq_true, decide_eq_true_iff, decide_eq_true_iff]
theorem dec_rc (X Y : Rc) : decide (X = Y) = (decide (X.1 = Y.1) && decide (X.2 = Y.2)) := dec_and
abbrev G_zRect : Prop := Good Tryz.prog (GWL [0, 1]) N0 12 s_zRect
abbrev G_zPoint : Prop := Good Tryz.prog (GWL [0, 1]) N0 41 s_zPoint
abbrev G_zEqual : Prop := Good Tryz.prog (GWL [0, 1]) N0 20 s_zEqual
abbrev G_zHas : Prop := Good Tryz.prog (GWL [0, 1]) N0 16 s_zHas
abbrev G_zIn : Prop := Good Tryz.prog (GWL [0, 1]) N0 19 s_zIn
abbrev G_zAdd : Prop := Good Tryz.prog (GWL [0, 1]) N0 22 s_zAdd
abbrev G_zMul : Prop := Good Tryz.prog (GWL [0, 1]) N0 26 s_zMul
abbrev G_zSquare : Prop := Good Tryz.prog (GWL [0, 1]) N0 28 s_zSquare
theorem goods_he1 : G_zRect ∧ G_zPoint ∧ G_zEqual ∧ G_zHas ∧ G_zIn ∧ G_zAdd ∧ G_zMul ∧ G_zSquare := by
 refine ⟨?_, ?_, ?_, ?_, ?_, ?_, ?_, ?_⟩
 refine goodM 0 (gc good_yReal gn) Tryz.f12 (by kernel_rfl) (by kernel_rfl) fun ds hp F A Q hF hA hQ => ?_
 obtain ⟨x, rfl, hx, hx4⟩ := sp1_arg hp
 obtain ⟨s1, n1, c1, e1, s2, n2, c2, e2, s3, n3, c3, e3, s4, n4, c4, e4, rfl, x1, x2, x3, x4⟩ := okP_arg hx
 obtain ⟨g1, g2⟩ := hx4
 have l1 := few100_S g1 (s := s1) (t := s2) (n := n1) (m := n2) (cs := c1) (es := c2)
 have l2 := few100_S g2 (s := s3) (t := s4) (n := n3) (m := n4) (cs := c3) (es := c4)
 clear hp hx
 rotate_left
 refine goodM 0 gn Tryz.f41 (by kernel_rfl) (by kernel_rfl) fun ds hp F A Q hF hA hQ => ?_
 obtain ⟨x, rfl, hx⟩ := sp1_arg hp
 obtain ⟨z, e, v, f, s, n, cs, t, m, es, rfl, i1, i2, i3, i4, i5, i6, hz, he, hv, hf, hfz, he1, he2, hfv, hf1, hf2⟩ := canR_arg hx
 clear hp hx
 rotate_left
 refine goodM 0 (gc good_yEqual gn) Tryz.f20 (by kernel_rfl) (by kernel_rfl) fun ds hp F A Q hF hA hQ => ?_
 obtain ⟨x, y, rfl, hx, hy⟩ := sp2_arg hp
 obtain ⟨X, s1, n1, c1, e1, s2, n2, c2, e2, s3, n3, c3, e3, s4, n4, c4, e4, rfl, hvX, cX1, cX2, u1, u2, u3, u4, u5, u6, u7, u8, u9, u10, u11, u12, u13, u14, u15, u16⟩ := toldP_arg hx
 have rX1 := canR_c cX1
 have rX2 := canR_c cX2
 have yX1 := canD_1 cX1
 have yX2 := canD_2 cX1
 have yX3 := canD_1 cX2
 have yX4 := canD_2 cX2
 obtain ⟨Y, t1, m1, d1, f1, t2, m2, d2, f2, t3, m3, d3, f3, t4, m4, d4, f4, rfl, hvY, cY1, cY2, w1, w2, w3, w4, w5, w6, w7, w8, w9, w10, w11, w12, w13, w14, w15, w16⟩ := toldP_arg hy
 have rY1 := canR_c cY1
 have rY2 := canR_c cY2
 have yY1 := canD_1 cY1
 have yY2 := canD_2 cY1
 have yY3 := canD_1 cY2
 have yY4 := canD_2 cY2
 clear hp hx hy hvX hvY
 rotate_left
 refine goodM 0 (gc good_yHas gn) Tryz.f16 (by kernel_rfl) (by kernel_rfl) fun ds hp F A Q hF hA hQ => ?_
 obtain ⟨x, y, rfl, hx, hy⟩ := sp2_arg hp
 obtain ⟨X, s1, n1, c1, e1, s2, n2, c2, e2, s3, n3, c3, e3, s4, n4, c4, e4, rfl, hvX, cX1, cX2, u1, u2, u3, u4, u5, u6, u7, u8, u9, u10, u11, u12, u13, u14, u15, u16⟩ := toldP_arg hx
 have rX1 := canR_c cX1
 have rX2 := canR_c cX2
 have yX1 := canD_1 cX1
 have yX2 := canD_2 cX1
 have yX3 := canD_1 cX2
 have yX4 := canD_2 cX2
 obtain ⟨u, g, w, h, s2, n2, cs2, t2, m2, es2, rfl, j1, j2, j3, j4, j5, j6, hu, hg, hw, hh, hfu, hg1, hg2, hfw, hh1, hh2⟩ := canR_arg hy
 have cu : okC (N0.ln u) (N0.lm u) := okC_fitN hfu (by omega)
 have lu : N0.ln u ≤ 600 := ln_fit hfu
 have yu : canD (.agg [.bool (N0.neg u), .sl (N0.ln u) (N0.lm u), .int .i64 g]) := canD_N0 hu hg (hfu.mono (by omega)) (by omega) (by omega)
 have cw : okC (N0.ln w) (N0.lm w) := okC_fitN hfw (by omega)
 have lw : N0.ln w ≤ 600 := ln_fit hfw
 have yw : canD (.agg [.bool (N0.neg w), .sl (N0.ln w) (N0.lm w), .int .i64 h]) := canD_N0 hw hh (hfw.mono (by omega)) (by omega) (by omega)
 have nY1 : Dy.n (u, g) = (u, g) := Prod.ext hu hg
 have nY2 : Dy.n (w, h) = (w, h) := Prod.ext hw hh
 have fY : fR ((u, g), (w, h)) 19200 20000 := ⟨⟨hfu, hg1, hg2⟩, hfw, hh1, hh2⟩
 have rY : canR (.agg [.bool (N0.neg u), .sl (N0.ln u) (N0.lm u), .int .i64 g, .bool (N0.neg w), .sl (N0.ln w) (N0.lm w), .int .i64 h]) := canR_mk (r := ((u, g), (w, h))) nY1 nY2 fY
 clear hp hx hy hvX
 rotate_left
 refine goodM 0 (gc good_yIn gn) Tryz.f19 (by kernel_rfl) (by kernel_rfl) fun ds hp F A Q hF hA hQ => ?_
 obtain ⟨x, y, rfl, hx, hy⟩ := sp2_arg hp
 obtain ⟨X, s1, n1, c1, e1, s2, n2, c2, e2, s3, n3, c3, e3, s4, n4, c4, e4, rfl, hvX, cX1, cX2, u1, u2, u3, u4, u5, u6, u7, u8, u9, u10, u11, u12, u13, u14, u15, u16⟩ := toldP_arg hx
 have rX1 := canR_c cX1
 have rX2 := canR_c cX2
 have yX1 := canD_1 cX1
 have yX2 := canD_2 cX1
 have yX3 := canD_1 cX2
 have yX4 := canD_2 cX2
 obtain ⟨Y, t1, m1, d1, f1, t2, m2, d2, f2, t3, m3, d3, f3, t4, m4, d4, f4, rfl, hvY, cY1, cY2, w1, w2, w3, w4, w5, w6, w7, w8, w9, w10, w11, w12, w13, w14, w15, w16⟩ := toldP_arg hy
 have rY1 := canR_c cY1
 have rY2 := canR_c cY2
 have yY1 := canD_1 cY1
 have yY2 := canD_2 cY1
 have yY3 := canD_1 cY2
 have yY4 := canD_2 cY2
 clear hp hx hy hvX hvY
 rotate_left
 refine goodM 0 (gc good_yAdd gn) Tryz.f22 (by kernel_rfl) (by kernel_rfl) fun ds hp F A Q hF hA hQ => ?_
 obtain ⟨x, y, rfl, hx, hy⟩ := sp2_arg hp
 obtain ⟨X, s1, n1, c1, e1, s2, n2, c2, e2, s3, n3, c3, e3, s4, n4, c4, e4, rfl, hvX, cX1, cX2, u1, u2, u3, u4, u5, u6, u7, u8, u9, u10, u11, u12, u13, u14, u15, u16⟩ := toldP_arg hx
 have rX1 := canR_c cX1
 have rX2 := canR_c cX2
 have yX1 := canD_1 cX1
 have yX2 := canD_2 cX1
 have yX3 := canD_1 cX2
 have yX4 := canD_2 cX2
 obtain ⟨Y, t1, m1, d1, f1, t2, m2, d2, f2, t3, m3, d3, f3, t4, m4, d4, f4, rfl, hvY, cY1, cY2, w1, w2, w3, w4, w5, w6, w7, w8, w9, w10, w11, w12, w13, w14, w15, w16⟩ := toldP_arg hy
 have rY1 := canR_c cY1
 have rY2 := canR_c cY2
 have yY1 := canD_1 cY1
 have yY2 := canD_2 cY1
 have yY3 := canD_1 cY2
 have yY4 := canD_2 cY2
 clear hp hx hy hvX hvY
 rotate_left
 refine goodM 0 (gc good_yMulB <| gc good_ySub <| gc good_yAdd gn) Tryz.f26 (by kernel_rfl) (by kernel_rfl) fun ds hp F A Q hF hA hQ => ?_
 obtain ⟨x, y, rfl, hx, hy, hsm⟩ := sp2_arg hp
 obtain ⟨X, s1, n1, c1, e1, s2, n2, c2, e2, s3, n3, c3, e3, s4, n4, c4, e4, rfl, hvX, cX1, cX2, u1, u2, u3, u4, u5, u6, u7, u8, u9, u10, u11, u12, u13, u14, u15, u16⟩ := toldP_arg hx
 have rX1 := canR_c cX1
 have rX2 := canR_c cX2
 have yX1 := canD_1 cX1
 have yX2 := canD_2 cX1
 have yX3 := canD_1 cX2
 have yX4 := canD_2 cX2
 obtain ⟨Y, t1, m1, d1, f1, t2, m2, d2, f2, t3, m3, d3, f3, t4, m4, d4, f4, rfl, hvY, cY1, cY2, w1, w2, w3, w4, w5, w6, w7, w8, w9, w10, w11, w12, w13, w14, w15, w16⟩ := toldP_arg hy
 have rY1 := canR_c cY1
 have rY2 := canR_c cY2
 have yY1 := canD_1 cY1
 have yY2 := canD_2 cY1
 have yY3 := canD_1 cY2
 have yY4 := canD_2 cY2
 rw [hvX, hvY] at hsm
 obtain ⟨⟨a1_, a2_, a3_, a4_⟩, ⟨b1_, b2_⟩, b3_, b4_⟩ := sm_ac hsm
 clear hp hx hy hvX hvY hsm
 rotate_left
 refine goodM 0 (gc good_yMulB <| gc good_yPow <| gc good_ySub <| gc good_yAdd gn) Tryz.f28 (by kernel_rfl) (by kernel_rfl) fun ds hp F A Q hF hA hQ => ?_
 obtain ⟨x, rfl, hx, hq⟩ := sp1_arg hp
 obtain ⟨X, s1, n1, c1, e1, s2, n2, c2, e2, s3, n3, c3, e3, s4, n4, c4, e4, rfl, hvX, cX1, cX2, u1, u2, u3, u4, u5, u6, u7, u8, u9, u10, u11, u12, u13, u14, u15, u16⟩ := toldP_arg hx
 have rX1 := canR_c cX1
 have rX2 := canR_c cX2
 have yX1 := canD_1 cX1
 have yX2 := canD_2 cX1
 have yX3 := canD_1 cX2
 have yX4 := canD_2 cX2
 rw [hvX] at hq
 obtain ⟨a1_, a2_, a3_⟩ := pq_ac hq
 have b1_ := prodOk_cz hq.1.1.2 hq.1.2.2 (by omega)
 have b2_ := hq.2.1.mono (show 320 ≤ 1280 by omega) (show 1320 ≤ 20000 by omega)
 have b3_ := hq.2.2.mono (show 320 ≤ 1280 by omega) (show 1320 ≤ 20000 by omega)
 clear hp hx hvX hq
 rotate_left
 all_goals cbv
 all_goals (repeat' (first | with_reducible refine And.intro ?_ ?_ | (with_reducible refine safe_lift hA ?_; kernel_rfl) | (intro hc_; cbv)))
 all_goals (repeat (rw [safe_true hA, true_and]; rotate_left; kernel_rfl))
 all_goals subst hF hA
 all_goals (try subst i1 i2 i3 i4 i5 i6)
 all_goals (try subst u1 u2 u3 u4 u5 u6 u7 u8 u9 u10 u11 u12 u13 u14 u15 u16)
 all_goals (try subst w1 w2 w3 w4 w5 w6 w7 w8 w9 w10 w11 w12 w13 w14 w15 w16)
 all_goals (try subst j1 j2 j3 j4 j5 j6)
 all_goals simp only [fnOf, find, std, reduceIte, Nat.reduceEqDiff, sp1, sp2, a1, a2, FnSpec.out, Shape.build, leafs, leafCells, tups, oneOf, List.cons_append, List.nil_append, List.length_cons, List.length_nil, s_zRect, s_yReal, rv_raw, rv_N0, dv, dz, dx, dcn, dm_raw, dm_N0, vI_N0, decide_eq_true_eq, decide_eq_false_iff_not, re4, re8, Prod.eta, gt_iff_lt, ge_iff_le, padd, pmul, psq, pnorm, pround, pinvZ, pmid, ppt, rv8, rw12_is, rcn, s_zPoint, rv8_N0, s_zEqual, s_yEqual, dec_rc, s_zHas, s_yHas, s_zIn, s_yIn, s_zAdd, s_yAdd, s_zMul, s_yMulB, s_ySub, s_zSquare, s_yPow, powN_2] at *
 all_goals (repeat' (first
  | with_reducible exact hQ
  | with_reducible assumption
  | with_reducible exact isi_int _ _
  | with_reducible exact canR_c (by with_reducible assumption)
  | with_reducible exact canD_c (by with_reducible assumption)
  | with_reducible exact canD_1 (by with_reducible assumption)
  | with_reducible exact canD_2 (by with_reducible assumption)
  | with_reducible exact toldP_c (by with_reducible assumption) (by with_reducible assumption)
  | with_reducible exact okR_S (by with_reducible assumption) (by with_reducible assumption)
  | with_reducible refine And.intro ?_ ?_
  | rfl
  | omega))
 all_goals first
  | exact Post.b hQ (and_y (decide_eq_true hc_))
  | exact Post.b hQ (and_n (decide_eq_false hc_))
  | exact Post.b hQ (and_y hc_)
  | exact Post.b hQ (and_n hc_)
  | (simp only [decide_eq_true_eq, decide_eq_false_iff_not] at hc_; exact Post.b hQ (and_y (decide_eq_true hc_)))
  | (simp only [decide_eq_true_eq, decide_eq_false_iff_not] at hc_; exact Post.b hQ (and_n (decide_eq_false hc_)))
  | fail
theorem good_zRect : G_zRect := goods_he1.1
theorem good_zPoint : G_zPoint := goods_he1.2.1
theorem good_zEqual : G_zEqual := goods_he1.2.2.1
theorem good_zHas : G_zHas := goods_he1.2.2.2.1
theorem good_zIn : G_zIn := goods_he1.2.2.2.2.1
theorem good_zAdd : G_zAdd := goods_he1.2.2.2.2.2.1
theorem good_zMul : G_zMul := goods_he1.2.2.2.2.2.2.1
theorem good_zSquare : G_zSquare := goods_he1.2.2.2.2.2.2.2
def s_few9 : FnSpec := sp1 (.one .b) okW (fun _ _ => 0) (fun x _ => decide (dcn x ≤ 10 ∧ -1000 ≤ dx x ∧ dx x ≤ 1000))
def s_fewR9 : FnSpec := sp1 (.one .b) okX (fun _ _ => 0) (fun x _ => raw6 false (fun _ n _ e _ m _ f => decide ((n ≤ 10 ∧ -1000 ≤ e ∧ e ≤ 1000) ∧ m ≤ 10 ∧ -1000 ≤ f ∧ f ≤ 1000)) x)
def s_fewC9 : FnSpec := sp1 (.one .b) okX (fun _ _ => 0) (fun x _ => raw6 false (fun _ n _ e _ m _ f => decide ((n ≤ 10 ∧ -1000 ≤ e ∧ e ≤ 1000) ∧ m ≤ 10 ∧ -1000 ≤ f ∧ f ≤ 1000)) x)
def okXP (x : D) : Prop := match x with
 | .agg [.bool _, .sl n1 c1, .int .i64 e1, .bool _, .sl n2 c2, .int .i64 e2, .bool _, .sl n3 c3, .int .i64 e3, .bool _, .sl n4 c4, .int .i64 e4] =>
  (((n1 ≤ 100000 → okC n1 c1) ∧ -9223372036854775808 ≤ e1 ∧ e1 ≤ 9223372036854775807) ∧ (n2 ≤ 100000 → okC n2 c2) ∧ -9223372036854775808 ≤ e2 ∧ e2 ≤ 9223372036854775807) ∧
  ((n3 ≤ 100000 → okC n3 c3) ∧ -9223372036854775808 ≤ e3 ∧ e3 ≤ 9223372036854775807) ∧ (n4 ≤ 100000 → okC n4 c4) ∧ -9223372036854775808 ≤ e4 ∧ e4 ≤ 9223372036854775807
 | _ => False
theorem okXP_arg {x : D} (h : okXP x) : ∃ s1 n1 c1 e1 s2 n2 c2 e2 s3 n3 c3 e3 s4 n4 c4 e4, x = .agg [.bool s1, .sl n1 c1, .int .i64 e1, .bool s2, .sl n2 c2, .int .i64 e2, .bool s3, .sl n3 c3, .int .i64 e3, .bool s4, .sl n4 c4, .int .i64 e4] ∧
  (((n1 ≤ 100000 → okC n1 c1) ∧ -9223372036854775808 ≤ e1 ∧ e1 ≤ 9223372036854775807) ∧ (n2 ≤ 100000 → okC n2 c2) ∧ -9223372036854775808 ≤ e2 ∧ e2 ≤ 9223372036854775807) ∧
  ((n3 ≤ 100000 → okC n3 c3) ∧ -9223372036854775808 ≤ e3 ∧ e3 ≤ 9223372036854775807) ∧ (n4 ≤ 100000 → okC n4 c4) ∧ -9223372036854775808 ≤ e4 ∧ e4 ≤ 9223372036854775807 := by
 unfold okXP at h
 split at h
 ·exact ⟨_, _, _, _, _, _, _, _, _, _, _, _, _, _, _, _, rfl, h⟩
 ·exact h.elim
abbrev fewQ (n1 : Nat) (e1 : Int) (n2 : Nat) (e2 : Int) (n3 : Nat) (e3 : Int) (n4 : Nat) (e4 : Int) : Prop := ((n1 ≤ 10 ∧ -1000 ≤ e1 ∧ e1 ≤ 1000) ∧ n2 ≤ 10 ∧ -1000 ≤ e2 ∧ e2 ≤ 1000) ∧ (n3 ≤ 10 ∧ -1000 ≤ e3 ∧ e3 ≤ 1000) ∧ n4 ≤ 10 ∧ -1000 ≤ e4 ∧ e4 ≤ 1000
def s_fewP9 : FnSpec := sp1 (.one .b) okXP (fun _ _ => 0) (fun x _ => rw12 false (fun _ n1 _ e1 _ n2 _ e2 _ n3 _ e3 _ n4 _ e4 => decide (fewQ n1 e1 n2 e2 n3 e3 n4 e4)) x)
abbrev G_zNorm : Prop := Good Tryz.prog (GWL [0, 1]) N0 33 s_zNorm
abbrev G_zMid : Prop := Good Tryz.prog (GWL [0, 1]) N0 38 s_zMid
abbrev G_zRound : Prop := Good Tryz.prog (GWL [0, 1]) N0 47 s_zRound
abbrev G_few9 : Prop := Good Tryz.prog (GWL [0, 1]) N0 91 s_few9
abbrev G_fewR9 : Prop := Good Tryz.prog (GWL [0, 1]) N0 90 s_fewR9
abbrev G_fewC9 : Prop := Good Tryz.prog (GWL [0, 1]) N0 11 s_fewC9
abbrev G_fewP9 : Prop := Good Tryz.prog (GWL [0, 1]) N0 10 s_fewP9
theorem goods_he2 : G_zNorm ∧ G_zMid ∧ G_zRound ∧ G_few9 ∧ (G_few9 → G_fewR9) ∧ (G_few9 → G_fewC9) ∧ (G_fewR9 → G_fewP9) := by
 refine ⟨?_, ?_, ?_, ?_, ?_, ?_, ?_⟩
 refine goodM 0 (gc good_yPow <| gc good_yAdd gn) Tryz.f33 (by kernel_rfl) (by kernel_rfl) fun ds hp F A Q hF hA hQ => ?_
 obtain ⟨x, rfl, hx, hq⟩ := sp1_arg hp
 obtain ⟨X, s1, n1, c1, e1, s2, n2, c2, e2, s3, n3, c3, e3, s4, n4, c4, e4, rfl, hvX, cX1, cX2, u1, u2, u3, u4, u5, u6, u7, u8, u9, u10, u11, u12, u13, u14, u15, u16⟩ := toldP_arg hx
 have rX1 := canR_c cX1
 have rX2 := canR_c cX2
 have yX1 := canD_1 cX1
 have yX2 := canD_2 cX1
 have yX3 := canD_1 cX2
 have yX4 := canD_2 cX2
 rw [hvX] at hq
 obtain ⟨a1_, a2_, a3_⟩ := pq_ac hq
 have b2_ := hq.2.1.mono (show 320 ≤ 1280 by omega) (show 1320 ≤ 20000 by omega)
 have b3_ := hq.2.2.mono (show 320 ≤ 1280 by omega) (show 1320 ≤ 20000 by omega)
 clear hp hx hvX hq
 rotate_left
 refine goodM 0 (gc good_qAdd <| gc good_qScale gn) Tryz.f38 (by kernel_rfl) (by kernel_rfl) fun ds hp F A Q hF hA hQ => ?_
 obtain ⟨x, rfl, hx, hq⟩ := sp1_arg hp
 obtain ⟨X, s1, n1, c1, e1, s2, n2, c2, e2, s3, n3, c3, e3, s4, n4, c4, e4, rfl, hvX, cX1, cX2, u1, u2, u3, u4, u5, u6, u7, u8, u9, u10, u11, u12, u13, u14, u15, u16⟩ := toldP_arg hx
 have rX1 := canR_c cX1
 have rX2 := canR_c cX2
 have yX1 := canD_1 cX1
 have yX2 := canD_2 cX1
 have yX3 := canD_1 cX2
 have yX4 := canD_2 cX2
 rw [hvX] at hq
 obtain ⟨a1_, a2_⟩ := rC_cadd hq
 have q1_ := canD_c a1_
 have q2_ := canD_c a2_
 have l1 := near_c (s := N0.neg X.1.1.1) (t := N0.neg X.1.2.1) (n := N0.ln X.1.1.1) (m := N0.ln X.1.2.1) (cs := N0.lm X.1.1.1) (es := N0.lm X.1.2.1) (dC_1 cX1) (dC_2 cX1)
 have l2 := near_c (s := N0.neg X.2.1.1) (t := N0.neg X.2.2.1) (n := N0.ln X.2.1.1) (m := N0.ln X.2.2.1) (cs := N0.lm X.2.1.1) (es := N0.lm X.2.2.1) (dC_1 cX2) (dC_2 cX2)
 clear hp hx hvX hq
 rotate_left
 refine goodM 0 (gc good_yRoundB gn) Tryz.f47 (by kernel_rfl) (by kernel_rfl) fun ds hp F A Q hF hA hQ => ?_
 obtain ⟨x, y, rfl, ⟨hx, hq1, hq2⟩, hy⟩ := sp2_arg hp
 obtain ⟨X, s1, n1, c1, e1, s2, n2, c2, e2, s3, n3, c3, e3, s4, n4, c4, e4, rfl, hvX, cX1, cX2, u1, u2, u3, u4, u5, u6, u7, u8, u9, u10, u11, u12, u13, u14, u15, u16⟩ := toldP_arg hx
 have rX1 := canR_c cX1
 have rX2 := canR_c cX2
 have yX1 := canD_1 cX1
 have yX2 := canD_2 cX1
 have yX3 := canD_1 cX2
 have yX4 := canD_2 cX2
 rw [hvX] at hq1 hq2
 obtain ⟨k, rfl⟩ := isi_arg hy
 clear hp hx hvX hy
 rotate_left
 refine goodM 0 gn Tryz.f91 (by kernel_rfl) (by kernel_rfl) fun ds hp F A Q hF hA hQ => ?_
 obtain ⟨x, rfl, hx⟩ := sp1_arg hp
 obtain ⟨s, n, cs, e, rfl, hw, hr1, hr2⟩ := okW_arg hx
 clear hp hx
 rotate_left
 intro good_few9
 refine goodM 0 (gc good_few9 gn) Tryz.f90 (by kernel_rfl) (by kernel_rfl) fun ds hp F A Q hF hA hQ => ?_
 clear good_few9
 obtain ⟨x, rfl, hx⟩ := sp1_arg hp
 obtain ⟨s, n, cs, e, t, m, es, f, rfl, hw, hr, hw2, hr2⟩ := okX_arg hx
 clear hp hx
 rotate_left
 intro good_few9
 refine goodM 0 (gc good_few9 gn) Tryz.f11 (by kernel_rfl) (by kernel_rfl) fun ds hp F A Q hF hA hQ => ?_
 clear good_few9
 obtain ⟨x, rfl, hx⟩ := sp1_arg hp
 obtain ⟨s, n, cs, e, t, m, es, f, rfl, hw, hr, hw2, hr2⟩ := okX_arg hx
 clear hp hx
 rotate_left
 intro good_fewR9
 refine goodM 0 (gc good_fewR9 gn) Tryz.f10 (by kernel_rfl) (by kernel_rfl) fun ds hp F A Q hF hA hQ => ?_
 clear good_fewR9
 obtain ⟨x, rfl, hx⟩ := sp1_arg hp
 obtain ⟨s1, n1, c1, e1, s2, n2, c2, e2, s3, n3, c3, e3, s4, n4, c4, e4, rfl, ⟨⟨g1, h1⟩, g2, h2⟩, ⟨g3, h3⟩, g4, h4⟩ := okXP_arg hx
 clear hp hx
 rotate_left
 all_goals cbv
 all_goals (repeat' (first | with_reducible refine And.intro ?_ ?_ | (with_reducible refine safe_lift hA ?_; kernel_rfl) | (intro hc_; cbv)))
 all_goals (repeat (rw [safe_true hA, true_and]; rotate_left; kernel_rfl))
 all_goals subst hF hA
 all_goals (try subst u1 u2 u3 u4 u5 u6 u7 u8 u9 u10 u11 u12 u13 u14 u15 u16)
 all_goals simp only [fnOf, find, std, reduceIte, Nat.reduceEqDiff, sp1, sp2, a1, a2, FnSpec.out, Shape.build, leafs, leafCells, tups, oneOf, List.cons_append, List.nil_append, List.length_cons, List.length_nil, s_zNorm, s_yPow, s_yAdd, rv_raw, rv_N0, dv, dz, dx, dcn, dm_raw, dm_N0, vI_N0, decide_eq_true_eq, decide_eq_false_iff_not, re4, re8, rv8_N0, Prod.eta, gt_iff_lt, ge_iff_le, padd, pmul, psq, pnorm, pround, pinvZ, pmid, ppt, powN_2, s_zMid, s_qAdd, s_qScale, Dy.scl, Dy.add, Dy.n, s_zRound, s_yRoundB, s_few9, s_fewR9, raw6_is, s_fewC9, s_fewP9, rw12_is] at *
 all_goals (repeat' (first
  | with_reducible exact hQ
  | with_reducible assumption
  | with_reducible exact isi_int _ _
  | with_reducible exact canR_c (by with_reducible assumption)
  | with_reducible exact canD_c (by with_reducible assumption)
  | with_reducible exact canD_1 (by with_reducible assumption)
  | with_reducible exact canD_2 (by with_reducible assumption)
  | with_reducible exact toldP_c (by with_reducible assumption) (by with_reducible assumption)
  | with_reducible exact okR_S (by with_reducible assumption) (by with_reducible assumption)
  | with_reducible refine And.intro ?_ ?_
  | rfl
  | omega))
 all_goals first
  | exact Post.b hQ (dec_eq (by omega))
  | exact Post.b hQ (dec_no (by have hk := of_decide_eq_false hc_; omega))
  | exact okW_mk hw hr.1 hr.2
  | exact okW_mk hw2 hr2.1 hr2.2
  | exact Post.b hQ (dec_eq ⟨fun k => k.2, fun k => ⟨of_decide_eq_true hc_, k⟩⟩)
  | exact Post.b hQ (dec_no (fun k => of_decide_eq_false hc_ k.1))
  | exact okX_mk g1 h1 g2 h2
  | exact okX_mk g3 h3 g4 h4
  | exact Post.b hQ (dec_eq ⟨fun k => k.2, fun k => ⟨hc_, k⟩⟩)
  | exact Post.b hQ (dec_no (fun k => hc_ k.1))
  | fail
theorem good_zNorm : G_zNorm := goods_he2.1
theorem good_zMid : G_zMid := goods_he2.2.1
theorem good_zRound : G_zRound := goods_he2.2.2.1
theorem good_few9 : G_few9 := goods_he2.2.2.2.1
theorem good_fewR9 : G_fewR9 := goods_he2.2.2.2.2.1 good_few9
theorem good_fewC9 : G_fewC9 := goods_he2.2.2.2.2.2.1 good_few9
theorem good_fewP9 : G_fewP9 := goods_he2.2.2.2.2.2.2 good_fewR9
theorem good_zPow : Good Tryz.prog (GWL [0, 1]) N0 30 s_zPow := by
 refine goodM 0 (gc good_vOf <| gc good_zPoint <| gc good_zMul gn) Tryz.f30 (by kernel_rfl) (by kernel_rfl) fun ds hp F A Q hF hA hQ => ?_
 obtain ⟨x, y, rfl, ⟨hx, hq⟩, hy, hk⟩ := sp2_arg hp
 obtain ⟨X, s1, n1, c1, e1, s2, n2, c2, e2, s3, n3, c3, e3, s4, n4, c4, e4, rfl, hvX, cX1, cX2, u1, u2, u3, u4, u5, u6, u7, u8, u9, u10, u11, u12, u13, u14, u15, u16⟩ := toldP_arg hx
 have rX1 := canR_c cX1
 have rX2 := canR_c cX2
 have yX1 := canD_1 cX1
 have yX2 := canD_2 cX1
 have yX3 := canD_1 cX2
 have yX4 := canD_2 cX2
 rw [hvX] at hq
 obtain ⟨k, rfl⟩ := isi_arg hy
 have hk : powN k ≤ 5 := hk
 obtain ⟨C, hC⟩ : ∃ C : Nat → Rc, ∀ i : Nat, C i = ppw X i := ⟨_, fun _ => rfl⟩
 obtain ⟨J, hJ⟩ : ∃ J : Nat → Int, ∀ i : Nat, J i = Int.ofNat i := ⟨_, fun _ => rfl⟩
 obtain ⟨M, hM⟩ : ∃ M, M = powN k := ⟨_, rfl⟩
 clear hp hx hvX hy
 cbv
 repeat' (first | with_reducible refine And.intro ?_ ?_ | (with_reducible refine safe_lift hA ?_; kernel_rfl) | (with_reducible refine loop_by (fun i st => (st.setT 6 (.int .i64 (J i))).setC 2 [.bool (F.neg (C i).1.1.1), .sl (F.ln (C i).1.1.1) (F.lm (C i).1.1.1), .int .i64 (C i).1.1.2, .bool (F.neg (C i).1.2.1), .sl (F.ln (C i).1.2.1) (F.lm (C i).1.2.1), .int .i64 (C i).1.2.2, .bool (F.neg (C i).2.1.1), .sl (F.ln (C i).2.1.1) (F.lm (C i).2.1.1), .int .i64 (C i).2.1.2, .bool (F.neg (C i).2.2.1), .sl (F.ln (C i).2.2.1) (F.lm (C i).2.2.1), .int .i64 (C i).2.2.2]) M ?_ ?_; cbv; rotate_left; intro i hi; cbv) | (intro hc_; cbv))
 all_goals (repeat (rw [safe_true hA, true_and]; rotate_left; kernel_rfl))
 all_goals subst hF hA u1 u2 u3 u4 u5 u6 u7 u8 u9 u10 u11 u12 u13 u14 u15 u16
 all_goals simp only [fnOf, find, std, reduceIte, Nat.reduceEqDiff, sp1, sp2, a1, a2, FnSpec.out, Shape.build, leafs, leafCells, List.cons_append, List.nil_append, s_zPow, s_vOf, s_zPoint, s_zMul, rv_raw, dz, vI_N0, decide_eq_true_eq, decide_eq_false_iff_not, re4, re8, rv8_N0, gt_iff_lt, ppt, s_uOf, ca, Dy.n, k1, k1e, tmI_zero, teI_zero, powN_if2] at *
 all_goals
  have hI0 : C 0 = (((1, 0), (1, 0)), ((0, 0), (0, 0))) := by rw [hC]; rfl
 all_goals first
  | exact ⟨⟨rfl, by decide, by decide⟩, rfl, by decide, by decide⟩
  | (rw [hJ]; rfl)
  | (rw [hI0]; done)
  | exact canR_c (r := ((1, 0), (0, 0))) ⟨one_n, zero_n, fD_one.mono (by omega) (by omega), fD_zero _ _⟩
  | skip
 all_goals
  have hJi : J i = (i : Int) := hJ i
  rw [hJi] at hc_
  (try rw [powN_lt] at hc_)
  have hJ1 : J (i + 1) = J i + 1 := by rw [hJ, hJ]; rfl
  have zC : pz (C i) (1000 * i) ((1320 + 1) * i + 1) := by rw [hC]; exact pz_pw (x := X) (L := 1000) (H := 1320) hq i
  have hS : C (i + 1) = pmul (C i) X := by rw [hC, hC]; rfl
 all_goals first
  | exact ⟨toldP_pz (zC.mono (show 1000 * i ≤ 4000 by omega) (show (1320 + 1) * i + 1 ≤ 5285 by omega)) (by omega), toldP_c cX1 cX2, ⟨_, _, _, _, zC, hq, by omega⟩⟩
  | exact (show i + 1 ≤ M by omega)
  | rw [hJ1, hJi, wrap_in (by omega) (by omega)]
  | (rw [hS]; done)
  | (have hi2 : i = powN k := by omega
     rw [hC, hi2]; exact hQ)
  | trace_state
theorem good_zInv : Good Tryz.prog (GWL [0, 1]) N0 43 s_zInv := by
 refine goodM 0 (gc good_zNorm <| gc good_yNeg <| gc good_yDivB gn) Tryz.f43 (by kernel_rfl) (by kernel_rfl) fun ds hp F A Q hF hA hQ => ?_
 obtain ⟨x, y, rfl, ⟨hx, hq⟩, hy, hk⟩ := sp2_arg hp
 obtain ⟨X, s1, n1, c1, e1, s2, n2, c2, e2, s3, n3, c3, e3, s4, n4, c4, e4, rfl, hvX, cX1, cX2, u1, u2, u3, u4, u5, u6, u7, u8, u9, u10, u11, u12, u13, u14, u15, u16⟩ := toldP_arg hx
 have rX1 := canR_c cX1
 have rX2 := canR_c cX2
 have yX1 := canD_1 cX1
 have yX2 := canD_2 cX1
 have yX3 := canD_1 cX2
 have yX4 := canD_2 cX2
 have hxx := hx
 rw [hvX] at hq
 obtain ⟨p, rfl⟩ := isi_arg hy
 have hk : p ≤ 200 := hk
 have zN : rz (pnorm X) 2000 2641 := (pz_norm (x := X) (L := 1000) (H := 1320) hq.1).mono (by omega) (by omega)
 have cN := zN.c (by omega)
 have rN := canR_c cN
 have zV := rz_neg hq.1.2
 have rV := canR_c (zV.c (by omega))
 have z1 := hq.1.1
 have tX := toldP_c cX1 cX2
 clear hp hx hxx hvX hy
 rcases er_cases (pnorm X) with k1 | ⟨k1, k2⟩
 skip
 have kd := trivial
 rotate_left
 have kd := fun (a : Re) => divZ_0 (x := a) (p := p) k2
 rotate_left
 all_goals (cbv)
 all_goals (repeat' (first | with_reducible refine And.intro ?_ ?_ | (with_reducible refine safe_lift hA ?_; kernel_rfl) | (intro hc_; cbv)))
 all_goals (repeat (rw [safe_true hA, true_and]; rotate_left; kernel_rfl))
 all_goals subst hF hA u1 u2 u3 u4 u5 u6 u7 u8 u9 u10 u11 u12 u13 u14 u15 u16
 all_goals simp only [fnOf, find, std, reduceIte, Nat.reduceEqDiff, sp1, sp2, a1, a2, FnSpec.out, Shape.build, leafs, leafCells, tups, oneOf, List.cons_append, List.nil_append, List.length_cons, List.length_nil, s_zInv, s_zNorm, s_yNeg, s_yDivB, rv_raw, dz, vI_N0, re4, re8, rv8_N0, Prod.eta, gt_iff_lt, pinvZ, k1, kd, N0_neg0, N0_ln0, N0_lm0] at *
 all_goals (repeat' (first
  | with_reducible exact hQ
  | with_reducible assumption
  | with_reducible exact isi_int _ _
  | with_reducible exact canR_c (by with_reducible assumption)
  | with_reducible exact canD_c (by with_reducible assumption)
  | with_reducible exact canD_1 (by with_reducible assumption)
  | with_reducible exact canD_2 (by with_reducible assumption)
  | with_reducible exact toldP_c (by with_reducible assumption) (by with_reducible assumption)
  | with_reducible exact okR_S (by with_reducible assumption) (by with_reducible assumption)
  | with_reducible refine And.intro ?_ ?_
  | rfl
  | omega))
 all_goals first
  | exact hQ
  | (exfalso; simp at hc_; done)
  | (simp only [N0_neg0, N0_ln0, N0_lm0] at hQ; exact hQ)
  | trace_state
theorem good_zDiv : Good Tryz.prog (GWL [0, 1]) N0 45 s_zDiv := by
 refine goodM 0 (gc good_zInv <| gc good_zMul <| gc good_zRound gn) Tryz.f45 (by kernel_rfl) (by kernel_rfl) fun ds hp F A Q hF hA hQ => ?_
 obtain ⟨x, y, p, rfl, ⟨hx, hq⟩, ⟨hy, hqy⟩, hk⟩ := zdiv_arg hp
 obtain ⟨X, s1, n1, c1, e1, s2, n2, c2, e2, s3, n3, c3, e3, s4, n4, c4, e4, rfl, hvX, cX1, cX2, u1, u2, u3, u4, u5, u6, u7, u8, u9, u10, u11, u12, u13, u14, u15, u16⟩ := toldP_arg hx
 have rX1 := canR_c cX1
 have rX2 := canR_c cX2
 have yX1 := canD_1 cX1
 have yX2 := canD_2 cX1
 have yX3 := canD_1 cX2
 have yX4 := canD_2 cX2
 obtain ⟨Y, t1, m1, d1, f1, t2, m2, d2, f2, t3, m3, d3, f3, t4, m4, d4, f4, rfl, hvY, cY1, cY2, w1, w2, w3, w4, w5, w6, w7, w8, w9, w10, w11, w12, w13, w14, w15, w16⟩ := toldP_arg hy
 have rY1 := canR_c cY1
 have rY2 := canR_c cY2
 have yY1 := canD_1 cY1
 have yY2 := canD_2 cY1
 have yY3 := canD_1 cY2
 have yY4 := canD_2 cY2
 rw [hvX] at hq
 rw [hvY] at hqy
 have zI := pz_inv hqy.1 hk
 have tI := toldP_pz zI (by omega)
 have sI : smallP X (pinvZ Y p) := ⟨_, _, _, _, hq, zI, by omega⟩
 have zM := pz_mul hq zI
 have tM := toldP_pz zM (by omega)
 have fM1 := zM.1.fR.mono (show 1000 + 3841 + (1320 + 3323 + 1) ≤ 9700 by omega) (show 1000 + 3841 + (1320 + 3323 + 1) ≤ 9700 by omega)
 have fM2 := zM.2.fR.mono (show 1000 + 3841 + (1320 + 3323 + 1) ≤ 9700 by omega) (show 1000 + 3841 + (1320 + 3323 + 1) ≤ 9700 by omega)
 have tX := toldP_c cX1 cX2
 have tY := toldP_c cY1 cY2
 clear hp hx hy hvX hvY zI zM
 rcases er_cases (pnorm Y) with k1 | ⟨k1, k2⟩
 have eD : pdivZ X Y p = pround (pmul X (pinvZ Y p)) p := if_pos k1
 rotate_left
 have eD : pdivZ X Y p = pzero := if_neg (by rw [k1]; decide)
 rotate_left
 all_goals (cbv)
 all_goals (repeat' (first | with_reducible refine And.intro ?_ ?_ | (with_reducible refine safe_lift hA ?_; kernel_rfl) | (intro hc_; cbv)))
 all_goals (repeat (rw [safe_true hA, true_and]; rotate_left; kernel_rfl))
 all_goals subst hF hA u1 u2 u3 u4 u5 u6 u7 u8 u9 u10 u11 u12 u13 u14 u15 u16 w1 w2 w3 w4 w5 w6 w7 w8 w9 w10 w11 w12 w13 w14 w15 w16
 all_goals simp only [fnOf, find, std, reduceIte, Nat.reduceEqDiff, sp2, a2, FnSpec.out, Shape.build, leafs, leafCells, tups, oneOf, List.cons_append, List.nil_append, List.length_cons, List.length_nil, s_zDiv, s_zInv, s_zMul, s_zRound, dz, re8, rv8_N0, gt_iff_lt, k1, eD, pzero, N0_neg0, N0_ln0, N0_lm0] at *
 all_goals (repeat' (first
  | with_reducible exact hQ
  | with_reducible assumption
  | with_reducible exact isi_int _ _
  | with_reducible exact canR_c (by with_reducible assumption)
  | with_reducible exact canD_c (by with_reducible assumption)
  | with_reducible exact canD_1 (by with_reducible assumption)
  | with_reducible exact canD_2 (by with_reducible assumption)
  | with_reducible exact toldP_c (by with_reducible assumption) (by with_reducible assumption)
  | with_reducible exact okR_S (by with_reducible assumption) (by with_reducible assumption)
  | with_reducible refine And.intro ?_ ?_
  | rfl
  | omega))
 all_goals first
  | exact hQ
  | (exfalso; simp at hc_; done)
  | (simp only [N0_neg0, N0_ln0, N0_lm0] at hQ; exact hQ)
  | trace_state
end Go.Proofs.YtkfojbelnemhbaaGreatDoor.Ev
