import Derived.Test.YtnjjfakjnkhhjaaGreatDoorGu
import Derived.Test.YtnjjfakjnkhhjaaGreatDoorJc
set_option maxHeartbeats 16000000
set_option maxRecDepth 100000
set_option linter.all false
namespace Go.Proofs.YtnjjfakjnkhhjaaGreatDoor.Ev
open Go Go.RowKit
end Go.Proofs.YtnjjfakjnkhhjaaGreatDoor.Ev
namespace Go.Proofs.YtnjjfakjnkhhjaaGreatDoor.Ev
open Go Go.RowKit
def s_vCplx : FnSpec := sp1 (.agg [.I, .i .i64, .I, .i .i64]) okR (fun x i => re4 (ca (rv x)) i) (fun _ _ => false)
def s_vOf : FnSpec := s_uOf
def s_vEqual : FnSpec := s_yEqual
def s_vZero : FnSpec := sp1 (.one .b) canR (fun _ _ => 0) (fun x _ => sg (rv x).1.1 == 0 && sg (rv x).2.1 == 0)
def s_vAdd : FnSpec := sp2 (.agg [.I, .i .i64, .I, .i .i64]) (fun x y => canR x ∧ canR y) (fun x y i => re4 (cadd (rv x) (rv y)) i) (fun _ _ _ => false)
def s_vNeg : FnSpec := sp1 (.agg [.I, .i .i64, .I, .i .i64]) canR (fun x i => re4 (cneg (rv x)) i) (fun _ _ => false)
def s_vSub : FnSpec := sp2 (.agg [.I, .i .i64, .I, .i .i64]) (fun x y => canR x ∧ canR y) (fun x y i => re4 (csub (rv x) (rv y)) i) (fun _ _ _ => false)
def smallM (x y : Re) : Prop := ∃ L H M K, cz x L H ∧ cz y M K ∧ L + H + (M + K) ≤ 19000
def s_vMul : FnSpec := sp2 (.agg [.I, .i .i64, .I, .i .i64]) (fun x y => canR x ∧ canR y ∧ smallM (rv x) (rv y)) (fun x y i => re4 (cmul (rv x) (rv y)) i) (fun _ _ _ => false)
def s_vTimes : FnSpec := sp2 (.agg [.I, .i .i64, .I, .i .i64]) (fun x y => canR x ∧ canD y ∧ Fit (dm y) 19200) (fun x y i => re4 (ctms (rv x) (dv y)) i) (fun _ _ _ => false)
def s_vNorm : FnSpec := sp1 (.agg [.I, .i .i64]) (fun x => canR x ∧ smallM (rv x) (rv x)) (fun x i => match i with | 0 => (cnorm (rv x)).1 | _ => (cnorm (rv x)).2) (fun _ _ => false)
def s_vPow : FnSpec := sp2 (.agg [.I, .i .i64, .I, .i .i64]) (fun x y => (canR x ∧ cz (rv x) 1000 1320) ∧ isi .i64 y ∧ powN (dz y) ≤ 8) (fun x y i => re4 (cpw (rv x) (powN (dz y))) i) (fun _ _ _ => false)
theorem pc_facts {a b : Dy} {L H M K : Nat} (ha : sz a L H) (hb : sz b M K) (h : L + H + (M + K) ≤ 19000) : fD (a.mul b) 19000 19000 := (sz_can (mul_n _ _) (sz_mul ha hb)).mono (by omega) (by omega)
theorem sm_facts {x y : Re} (h : smallM x y) : fD (x.1.mul y.1) 19000 19000 ∧ fD (x.2.mul y.2) 19000 19000 ∧ fD (x.1.mul y.2) 19000 19000 ∧ fD (x.2.mul y.1) 19000 19000 := by
 obtain ⟨L, H, M, K, h1, h2, h3⟩ := h
 exact ⟨pc_facts h1.1 h2.1 h3, pc_facts h1.2 h2.2 h3, pc_facts h1.1 h2.2 h3, pc_facts h1.2 h2.1 h3⟩
theorem pd_facts {z e v f : Int} (h : fD (Dy.mul (z, e) (v, f)) 19000 19000) : canD (.agg [.bool (N0.neg (tmI (z * v))), .sl (N0.ln (tmI (z * v))) (N0.lm (tmI (z * v))), .int .i64 (teI (z * v) (e + f))]) ∧ -19000 ≤ teI (z * v) (e + f) ∧ teI (z * v) (e + f) ≤ 19000 :=
 ⟨canD_fD (a := Dy.mul (z, e) (v, f)) (mul_n _ _) (h.mono (by omega) (by omega)), h.2.1, h.2.2⟩
theorem near_19 {a b : Int} {s t : Bool} {n m : Nat} {cs es : List D} (h1 : -19000 ≤ a) (h2 : a ≤ 19000) (h3 : -19000 ≤ b) (h4 : b ≤ 19000) : near 60000 (.agg [.bool s, .sl n cs, .int .i64 a]) (.agg [.bool t, .sl m es, .int .i64 b]) := near_of (by omega) (by omega) (by omega) (by omega)
theorem fit_pr {z v : Int} (h : Fit z 19200) (k : Fit v 19200) : Fit (z * v) 100000 := h.mul k (by omega)
theorem okD_pr {z e : Int} (h : Fit z 19200) (h1 : -20000 ≤ e) (h2 : e ≤ 20000) : okD (.agg [.bool (N0.neg z), .sl (N0.ln z) (N0.lm z), .int .i64 e]) := ⟨okC_fitN h (by omega), by omega, by omega⟩
theorem canR_cneg {r : Re} (h1 : r.1.n = r.1) (h2 : r.2.n = r.2) (h : fR r 19200 20000) : canR (.agg [.bool (N0.neg (cneg r).1.1), .sl (N0.ln (cneg r).1.1) (N0.lm (cneg r).1.1), .int .i64 (cneg r).1.2, .bool (N0.neg (cneg r).2.1), .sl (N0.ln (cneg r).2.1) (N0.lm (cneg r).2.1), .int .i64 (cneg r).2.2]) :=
 canR_mk (neg_n _) (neg_n _) ⟨by show fD r.1.neg _ _; rw [neg_can h1]; exact ⟨h.1.1.neg, h.1.2⟩, by show fD r.2.neg _ _; rw [neg_can h2]; exact ⟨h.2.1.neg, h.2.2⟩⟩
theorem powN_if2 (k : Int) : (if 64 < k then 64 else k) = min k 64 := by split <;> omega
theorem powN_lt (i : Nat) (k : Int) : ((i : Int) < min k 64) = (i < powN k) := propext (by unfold powN; omega)
theorem eq4_y {z e v f u g w h : Int} (hc : (decide (e = g) && decide (z = u)) = true) : decide (((z, e), v, f) = ((u, g), w, h)) = (decide (f = h) && decide (v = w)) := by
 simp only [Bool.and_eq_true, decide_eq_true_eq] at hc
 obtain ⟨rfl, rfl⟩ := hc
 rw [Bool.eq_iff_iff]
 simp only [Prod.mk.injEq, true_and, decide_eq_true_eq, Bool.and_eq_true]
 exact ⟨fun ⟨a, b⟩ => ⟨b, a⟩, fun ⟨a, b⟩ => ⟨b, a⟩⟩
theorem eq4_n {z e v f u g w h : Int} (hc : (decide (e = g) && decide (z = u)) = !true) : decide (((z, e), v, f) = ((u, g), w, h)) = false := by
 refine decide_eq_false fun hk => ?_
 simp only [Prod.mk.injEq] at hk
 rw [decide_eq_true hk.1.2, decide_eq_true hk.1.1] at hc
 cases hc
abbrev G_vCplx : Prop := Good Tryz.prog (GWL [0, 1]) N0 23 s_vCplx
abbrev G_vOf : Prop := Good Tryz.prog (GWL [0, 1]) N0 53 s_vOf
abbrev G_vEqual : Prop := Good Tryz.prog (GWL [0, 1]) N0 73 s_vEqual
abbrev G_vZero : Prop := Good Tryz.prog (GWL [0, 1]) N0 81 s_vZero
abbrev G_vAdd : Prop := Good Tryz.prog (GWL [0, 1]) N0 51 s_vAdd
abbrev G_vNeg : Prop := Good Tryz.prog (GWL [0, 1]) N0 32 s_vNeg
abbrev G_vSub : Prop := Good Tryz.prog (GWL [0, 1]) N0 82 s_vSub
abbrev G_vMul : Prop := Good Tryz.prog (GWL [0, 1]) N0 52 s_vMul
theorem goods_gv1 : G_vCplx ∧ G_vOf ∧ G_vEqual ∧ G_vZero ∧ G_vAdd ∧ G_vNeg ∧ (G_vAdd → G_vNeg → G_vSub) ∧ G_vMul := by
 refine ⟨?_, ?_, ?_, ?_, ?_, ?_, ?_, ?_⟩
 refine goodM 0 (gc good_yExact gn) Tryz.f23 (by kernel_rfl) (by kernel_rfl) fun ds hp F A Q hF hA hQ => ?_
 obtain ⟨x, rfl, hx⟩ := sp1_arg hp
 obtain ⟨s, n, cs, e, t, m, es, f, rfl, hc, hn, he1, he2, hc2, hm, hf1, hf2⟩ := okR_arg hx
 have kS : Fit (vI s cs) 100000 := (okC_fit hc s).mono (by omega)
 have kT : Fit (vI t es) 100000 := (okC_fit hc2 t).mono (by omega)
 clear hp hx
 rotate_left
 refine goodM 0 (gc good_qOf gn) Tryz.f53 (by kernel_rfl) (by kernel_rfl) fun ds hp F A Q hF hA hQ => ?_
 obtain ⟨x, y, rfl, ⟨hx, ha1, ha2⟩, hy, hb1, hb2⟩ := sp2_arg hp
 obtain ⟨a, rfl⟩ := isi_arg hx
 obtain ⟨b, rfl⟩ := isi_arg hy
 clear hp hx hy
 rotate_left
 refine goodM 0 (gc good_qEqual gn) Tryz.f73 (by kernel_rfl) (by kernel_rfl) fun ds hp F A Q hF hA hQ => ?_
 obtain ⟨x, y, rfl, hx, hy⟩ := sp2_arg hp
 obtain ⟨z, e, v, f, s, n, cs, t, m, es, rfl, i1, i2, i3, i4, i5, i6, hz, he, hv, hf, hfz, he1, he2, hfv, hf1, hf2⟩ := canR_arg hx
 have cz : okC (N0.ln z) (N0.lm z) := okC_fitN hfz (by omega)
 have lz : N0.ln z ≤ 600 := ln_fit hfz
 have yz : canD (.agg [.bool (N0.neg z), .sl (N0.ln z) (N0.lm z), .int .i64 e]) := canD_N0 hz he (hfz.mono (by omega)) (by omega) (by omega)
 have cv : okC (N0.ln v) (N0.lm v) := okC_fitN hfv (by omega)
 have lv : N0.ln v ≤ 600 := ln_fit hfv
 have yv : canD (.agg [.bool (N0.neg v), .sl (N0.ln v) (N0.lm v), .int .i64 f]) := canD_N0 hv hf (hfv.mono (by omega)) (by omega) (by omega)
 have nX1 : Dy.n (z, e) = (z, e) := Prod.ext hz he
 have nX2 : Dy.n (v, f) = (v, f) := Prod.ext hv hf
 have fX : fR ((z, e), (v, f)) 19200 20000 := ⟨⟨hfz, he1, he2⟩, hfv, hf1, hf2⟩
 have rX : canR (.agg [.bool (N0.neg z), .sl (N0.ln z) (N0.lm z), .int .i64 e, .bool (N0.neg v), .sl (N0.ln v) (N0.lm v), .int .i64 f]) := canR_mk (r := ((z, e), (v, f))) nX1 nX2 fX
 obtain ⟨u, g, w, h, s2, n2, cs2, t2, m2, es2, rfl, j1, j2, j3, j4, j5, j6, hu, hg, hw, hh, hfu, hg1, hg2, hfw, hh1, hh2⟩ := canR_arg hy
 have cu : okC (N0.ln u) (N0.lm u) := okC_fitN hfu (by omega)
 have lu : N0.ln u ≤ 600 := ln_fit hfu
 have yu : canD (.agg [.bool (N0.neg u), .sl (N0.ln u) (N0.lm u), .int .i64 g]) := canD_N0 hu hg (hfu.mono (by omega)) (by omega) (by omega)
 have cw : okC (N0.ln w) (N0.lm w) := okC_fitN hfw (by omega)
 have lw : N0.ln w ≤ 600 := ln_fit hfw
 have yw : canD (.agg [.bool (N0.neg w), .sl (N0.ln w) (N0.lm w), .int .i64 h]) := canD_N0 hw hh (hfw.mono (by omega)) (by omega) (by omega)
 have nY1 : Dy.n (u, g) = (u, g) := Prod.ext hu hg
 have nY2 : Dy.n (w, h) = (w, h) := Prod.ext hw hh
 have fY : fR ((u, g), (w, h)) 19200 20000 := ⟨⟨hfu, hg1, hg2⟩, hfw, hh1, hh2⟩
 have rY : canR (.agg [.bool (N0.neg u), .sl (N0.ln u) (N0.lm u), .int .i64 g, .bool (N0.neg w), .sl (N0.ln w) (N0.lm w), .int .i64 h]) := canR_mk (r := ((u, g), (w, h))) nY1 nY2 fY
 clear hp hx hy
 rotate_left
 refine goodM 0 (gc good_qSign gn) Tryz.f81 (by kernel_rfl) (by kernel_rfl) fun ds hp F A Q hF hA hQ => ?_
 obtain ⟨x, rfl, hx⟩ := sp1_arg hp
 obtain ⟨z, e, v, f, s, n, cs, t, m, es, rfl, i1, i2, i3, i4, i5, i6, hz, he, hv, hf, hfz, he1, he2, hfv, hf1, hf2⟩ := canR_arg hx
 have cz : okC (N0.ln z) (N0.lm z) := okC_fitN hfz (by omega)
 have lz : N0.ln z ≤ 600 := ln_fit hfz
 have yz : canD (.agg [.bool (N0.neg z), .sl (N0.ln z) (N0.lm z), .int .i64 e]) := canD_N0 hz he (hfz.mono (by omega)) (by omega) (by omega)
 have cv : okC (N0.ln v) (N0.lm v) := okC_fitN hfv (by omega)
 have lv : N0.ln v ≤ 600 := ln_fit hfv
 have yv : canD (.agg [.bool (N0.neg v), .sl (N0.ln v) (N0.lm v), .int .i64 f]) := canD_N0 hv hf (hfv.mono (by omega)) (by omega) (by omega)
 have nX1 : Dy.n (z, e) = (z, e) := Prod.ext hz he
 have nX2 : Dy.n (v, f) = (v, f) := Prod.ext hv hf
 have fX : fR ((z, e), (v, f)) 19200 20000 := ⟨⟨hfz, he1, he2⟩, hfv, hf1, hf2⟩
 have rX : canR (.agg [.bool (N0.neg z), .sl (N0.ln z) (N0.lm z), .int .i64 e, .bool (N0.neg v), .sl (N0.ln v) (N0.lm v), .int .i64 f]) := canR_mk (r := ((z, e), (v, f))) nX1 nX2 fX
 clear hp hx
 rotate_left
 refine goodM 0 (gc good_qAdd gn) Tryz.f51 (by kernel_rfl) (by kernel_rfl) fun ds hp F A Q hF hA hQ => ?_
 obtain ⟨x, y, rfl, hx, hy⟩ := sp2_arg hp
 obtain ⟨z, e, v, f, s, n, cs, t, m, es, rfl, i1, i2, i3, i4, i5, i6, hz, he, hv, hf, hfz, he1, he2, hfv, hf1, hf2⟩ := canR_arg hx
 have cz : okC (N0.ln z) (N0.lm z) := okC_fitN hfz (by omega)
 have lz : N0.ln z ≤ 600 := ln_fit hfz
 have yz : canD (.agg [.bool (N0.neg z), .sl (N0.ln z) (N0.lm z), .int .i64 e]) := canD_N0 hz he (hfz.mono (by omega)) (by omega) (by omega)
 have cv : okC (N0.ln v) (N0.lm v) := okC_fitN hfv (by omega)
 have lv : N0.ln v ≤ 600 := ln_fit hfv
 have yv : canD (.agg [.bool (N0.neg v), .sl (N0.ln v) (N0.lm v), .int .i64 f]) := canD_N0 hv hf (hfv.mono (by omega)) (by omega) (by omega)
 have nX1 : Dy.n (z, e) = (z, e) := Prod.ext hz he
 have nX2 : Dy.n (v, f) = (v, f) := Prod.ext hv hf
 have fX : fR ((z, e), (v, f)) 19200 20000 := ⟨⟨hfz, he1, he2⟩, hfv, hf1, hf2⟩
 have rX : canR (.agg [.bool (N0.neg z), .sl (N0.ln z) (N0.lm z), .int .i64 e, .bool (N0.neg v), .sl (N0.ln v) (N0.lm v), .int .i64 f]) := canR_mk (r := ((z, e), (v, f))) nX1 nX2 fX
 obtain ⟨u, g, w, h, s2, n2, cs2, t2, m2, es2, rfl, j1, j2, j3, j4, j5, j6, hu, hg, hw, hh, hfu, hg1, hg2, hfw, hh1, hh2⟩ := canR_arg hy
 have cu : okC (N0.ln u) (N0.lm u) := okC_fitN hfu (by omega)
 have lu : N0.ln u ≤ 600 := ln_fit hfu
 have yu : canD (.agg [.bool (N0.neg u), .sl (N0.ln u) (N0.lm u), .int .i64 g]) := canD_N0 hu hg (hfu.mono (by omega)) (by omega) (by omega)
 have cw : okC (N0.ln w) (N0.lm w) := okC_fitN hfw (by omega)
 have lw : N0.ln w ≤ 600 := ln_fit hfw
 have yw : canD (.agg [.bool (N0.neg w), .sl (N0.ln w) (N0.lm w), .int .i64 h]) := canD_N0 hw hh (hfw.mono (by omega)) (by omega) (by omega)
 have nY1 : Dy.n (u, g) = (u, g) := Prod.ext hu hg
 have nY2 : Dy.n (w, h) = (w, h) := Prod.ext hw hh
 have fY : fR ((u, g), (w, h)) 19200 20000 := ⟨⟨hfu, hg1, hg2⟩, hfw, hh1, hh2⟩
 have rY : canR (.agg [.bool (N0.neg u), .sl (N0.ln u) (N0.lm u), .int .i64 g, .bool (N0.neg w), .sl (N0.ln w) (N0.lm w), .int .i64 h]) := canR_mk (r := ((u, g), (w, h))) nY1 nY2 fY
 clear hp hx hy
 rotate_left
 refine goodM 0 (gc good_qNeg gn) Tryz.f32 (by kernel_rfl) (by kernel_rfl) fun ds hp F A Q hF hA hQ => ?_
 obtain ⟨x, rfl, hx⟩ := sp1_arg hp
 obtain ⟨z, e, v, f, s, n, cs, t, m, es, rfl, i1, i2, i3, i4, i5, i6, hz, he, hv, hf, hfz, he1, he2, hfv, hf1, hf2⟩ := canR_arg hx
 have cz : okC (N0.ln z) (N0.lm z) := okC_fitN hfz (by omega)
 have lz : N0.ln z ≤ 600 := ln_fit hfz
 have yz : canD (.agg [.bool (N0.neg z), .sl (N0.ln z) (N0.lm z), .int .i64 e]) := canD_N0 hz he (hfz.mono (by omega)) (by omega) (by omega)
 have cv : okC (N0.ln v) (N0.lm v) := okC_fitN hfv (by omega)
 have lv : N0.ln v ≤ 600 := ln_fit hfv
 have yv : canD (.agg [.bool (N0.neg v), .sl (N0.ln v) (N0.lm v), .int .i64 f]) := canD_N0 hv hf (hfv.mono (by omega)) (by omega) (by omega)
 have nX1 : Dy.n (z, e) = (z, e) := Prod.ext hz he
 have nX2 : Dy.n (v, f) = (v, f) := Prod.ext hv hf
 have fX : fR ((z, e), (v, f)) 19200 20000 := ⟨⟨hfz, he1, he2⟩, hfv, hf1, hf2⟩
 have rX : canR (.agg [.bool (N0.neg z), .sl (N0.ln z) (N0.lm z), .int .i64 e, .bool (N0.neg v), .sl (N0.ln v) (N0.lm v), .int .i64 f]) := canR_mk (r := ((z, e), (v, f))) nX1 nX2 fX
 clear hp hx
 rotate_left
 intro good_vAdd good_vNeg
 refine goodM 0 (gc good_vNeg <| gc good_vAdd gn) Tryz.f82 (by kernel_rfl) (by kernel_rfl) fun ds hp F A Q hF hA hQ => ?_
 clear good_vAdd good_vNeg
 obtain ⟨x, y, rfl, hx, hy⟩ := sp2_arg hp
 obtain ⟨z, e, v, f, s, n, cs, t, m, es, rfl, i1, i2, i3, i4, i5, i6, hz, he, hv, hf, hfz, he1, he2, hfv, hf1, hf2⟩ := canR_arg hx
 have cz : okC (N0.ln z) (N0.lm z) := okC_fitN hfz (by omega)
 have lz : N0.ln z ≤ 600 := ln_fit hfz
 have yz : canD (.agg [.bool (N0.neg z), .sl (N0.ln z) (N0.lm z), .int .i64 e]) := canD_N0 hz he (hfz.mono (by omega)) (by omega) (by omega)
 have cv : okC (N0.ln v) (N0.lm v) := okC_fitN hfv (by omega)
 have lv : N0.ln v ≤ 600 := ln_fit hfv
 have yv : canD (.agg [.bool (N0.neg v), .sl (N0.ln v) (N0.lm v), .int .i64 f]) := canD_N0 hv hf (hfv.mono (by omega)) (by omega) (by omega)
 have nX1 : Dy.n (z, e) = (z, e) := Prod.ext hz he
 have nX2 : Dy.n (v, f) = (v, f) := Prod.ext hv hf
 have fX : fR ((z, e), (v, f)) 19200 20000 := ⟨⟨hfz, he1, he2⟩, hfv, hf1, hf2⟩
 have rX : canR (.agg [.bool (N0.neg z), .sl (N0.ln z) (N0.lm z), .int .i64 e, .bool (N0.neg v), .sl (N0.ln v) (N0.lm v), .int .i64 f]) := canR_mk (r := ((z, e), (v, f))) nX1 nX2 fX
 obtain ⟨u, g, w, h, s2, n2, cs2, t2, m2, es2, rfl, j1, j2, j3, j4, j5, j6, hu, hg, hw, hh, hfu, hg1, hg2, hfw, hh1, hh2⟩ := canR_arg hy
 have cu : okC (N0.ln u) (N0.lm u) := okC_fitN hfu (by omega)
 have lu : N0.ln u ≤ 600 := ln_fit hfu
 have yu : canD (.agg [.bool (N0.neg u), .sl (N0.ln u) (N0.lm u), .int .i64 g]) := canD_N0 hu hg (hfu.mono (by omega)) (by omega) (by omega)
 have cw : okC (N0.ln w) (N0.lm w) := okC_fitN hfw (by omega)
 have lw : N0.ln w ≤ 600 := ln_fit hfw
 have yw : canD (.agg [.bool (N0.neg w), .sl (N0.ln w) (N0.lm w), .int .i64 h]) := canD_N0 hw hh (hfw.mono (by omega)) (by omega) (by omega)
 have nY1 : Dy.n (u, g) = (u, g) := Prod.ext hu hg
 have nY2 : Dy.n (w, h) = (w, h) := Prod.ext hw hh
 have fY : fR ((u, g), (w, h)) 19200 20000 := ⟨⟨hfu, hg1, hg2⟩, hfw, hh1, hh2⟩
 have rY : canR (.agg [.bool (N0.neg u), .sl (N0.ln u) (N0.lm u), .int .i64 g, .bool (N0.neg w), .sl (N0.ln w) (N0.lm w), .int .i64 h]) := canR_mk (r := ((u, g), (w, h))) nY1 nY2 fY
 have cN := canR_cneg nY1 nY2 fY
 clear hp hx hy
 rotate_left
 refine goodM 0 (gc good_qMul <| gc good_qSub <| gc good_qAdd gn) Tryz.f52 (by kernel_rfl) (by kernel_rfl) fun ds hp F A Q hF hA hQ => ?_
 obtain ⟨x, y, rfl, hx, hy, hsm⟩ := sp2_arg hp
 obtain ⟨z, e, v, f, s, n, cs, t, m, es, rfl, i1, i2, i3, i4, i5, i6, hz, he, hv, hf, hfz, he1, he2, hfv, hf1, hf2⟩ := canR_arg hx
 have cz : okC (N0.ln z) (N0.lm z) := okC_fitN hfz (by omega)
 have lz : N0.ln z ≤ 600 := ln_fit hfz
 have yz : canD (.agg [.bool (N0.neg z), .sl (N0.ln z) (N0.lm z), .int .i64 e]) := canD_N0 hz he (hfz.mono (by omega)) (by omega) (by omega)
 have cv : okC (N0.ln v) (N0.lm v) := okC_fitN hfv (by omega)
 have lv : N0.ln v ≤ 600 := ln_fit hfv
 have yv : canD (.agg [.bool (N0.neg v), .sl (N0.ln v) (N0.lm v), .int .i64 f]) := canD_N0 hv hf (hfv.mono (by omega)) (by omega) (by omega)
 have nX1 : Dy.n (z, e) = (z, e) := Prod.ext hz he
 have nX2 : Dy.n (v, f) = (v, f) := Prod.ext hv hf
 have fX : fR ((z, e), (v, f)) 19200 20000 := ⟨⟨hfz, he1, he2⟩, hfv, hf1, hf2⟩
 have rX : canR (.agg [.bool (N0.neg z), .sl (N0.ln z) (N0.lm z), .int .i64 e, .bool (N0.neg v), .sl (N0.ln v) (N0.lm v), .int .i64 f]) := canR_mk (r := ((z, e), (v, f))) nX1 nX2 fX
 obtain ⟨u, g, w, h, s2, n2, cs2, t2, m2, es2, rfl, j1, j2, j3, j4, j5, j6, hu, hg, hw, hh, hfu, hg1, hg2, hfw, hh1, hh2⟩ := canR_arg hy
 have cu : okC (N0.ln u) (N0.lm u) := okC_fitN hfu (by omega)
 have lu : N0.ln u ≤ 600 := ln_fit hfu
 have yu : canD (.agg [.bool (N0.neg u), .sl (N0.ln u) (N0.lm u), .int .i64 g]) := canD_N0 hu hg (hfu.mono (by omega)) (by omega) (by omega)
 have cw : okC (N0.ln w) (N0.lm w) := okC_fitN hfw (by omega)
 have lw : N0.ln w ≤ 600 := ln_fit hfw
 have yw : canD (.agg [.bool (N0.neg w), .sl (N0.ln w) (N0.lm w), .int .i64 h]) := canD_N0 hw hh (hfw.mono (by omega)) (by omega) (by omega)
 have nY1 : Dy.n (u, g) = (u, g) := Prod.ext hu hg
 have nY2 : Dy.n (w, h) = (w, h) := Prod.ext hw hh
 have fY : fR ((u, g), (w, h)) 19200 20000 := ⟨⟨hfu, hg1, hg2⟩, hfw, hh1, hh2⟩
 have rY : canR (.agg [.bool (N0.neg u), .sl (N0.ln u) (N0.lm u), .int .i64 g, .bool (N0.neg w), .sl (N0.ln w) (N0.lm w), .int .i64 h]) := canR_mk (r := ((u, g), (w, h))) nY1 nY2 fY
 obtain ⟨pa, pb, pc, pd⟩ := sm_facts hsm
 obtain ⟨pa1, pa2, pa3⟩ := pd_facts pa
 obtain ⟨pb1, pb2, pb3⟩ := pd_facts pb
 obtain ⟨pc1, pc2, pc3⟩ := pd_facts pc
 obtain ⟨pd1, pd2, pd3⟩ := pd_facts pd
 clear hp hx hy hsm pa pb pc pd
 rotate_left
 all_goals cbv
 all_goals (repeat' (first | with_reducible refine And.intro ?_ ?_ | (with_reducible refine safe_lift hA ?_; kernel_rfl) | (intro hc_; cbv)))
 all_goals (repeat (rw [safe_true hA, true_and]; rotate_left; kernel_rfl))
 all_goals subst hF hA
 all_goals (try subst i1 i2 i3 i4 i5 i6)
 all_goals (try subst j1 j2 j3 j4 j5 j6)
 all_goals simp only [fnOf, find, std, reduceIte, Nat.reduceEqDiff, sp1, sp2, a1, a2, FnSpec.out, Shape.build, leafs, leafCells, tups, oneOf, List.cons_append, List.nil_append, List.length_cons, List.length_nil, s_vCplx, s_yExact, rv_raw, rv_N0, dv, dz, dx, dcn, dm_raw, dm_N0, vI_N0, decide_eq_true_eq, decide_eq_false_iff_not, cmpD_nrm, sameI_N0, beq_dec, pow_if, pow_ev, k1, k1e, re4, min_if, gt_iff_lt, ge_iff_le, Prod.eta, sg_nonpos7, sg_nonneg7, s_uOf, s_yEqual, ca, cadd, csub, cmul, cneg, cconj, cnorm, ctms, Dy.n, Dy.add, Dy.sub, Dy.mul, Dy.neg, s_vOf, s_qOf, s_vEqual, s_qEqual, s_vZero, s_qSign, s_vAdd, s_qAdd, s_vNeg, s_qNeg, s_vSub, tmI_addR, teI_addR, s_vMul, s_qMul, s_qSub] at *
 all_goals (repeat' (first
  | with_reducible exact hQ
  | with_reducible assumption
  | with_reducible exact isi_int _ _
  | with_reducible exact near_of (by assumption) (by assumption) (by assumption) (by assumption)
  | with_reducible exact near_19 (by assumption) (by assumption) (by assumption) (by assumption)
  | with_reducible exact fit_pr (by assumption) (by assumption)
  | with_reducible exact okD_pr (by assumption) (by assumption) (by assumption)
  | with_reducible refine okD_mk ?_ ?_ ?_
  | with_reducible refine okE_mk ?_
  | exact hQ
  | with_reducible refine And.intro ?_ ?_
  | omega))
 all_goals first
  | exact Post.b hQ (eq4_y hc_)
  | exact Post.b hQ (eq4_n hc_)
  | exact Post.b hQ (and_y hc_)
  | exact Post.b hQ (and_n hc_)
  | exact Post.b hQ (and_y (decide_eq_true hc_))
  | fail
theorem good_vCplx : G_vCplx := goods_gv1.1
theorem good_vOf : G_vOf := goods_gv1.2.1
theorem good_vEqual : G_vEqual := goods_gv1.2.2.1
theorem good_vAdd : G_vAdd := goods_gv1.2.2.2.2.1
theorem good_vNeg : G_vNeg := goods_gv1.2.2.2.2.2.1
theorem good_vSub : G_vSub := goods_gv1.2.2.2.2.2.2.1 good_vAdd good_vNeg
theorem good_vMul : G_vMul := goods_gv1.2.2.2.2.2.2.2
abbrev G_vTimes : Prop := Good Tryz.prog (GWL [0, 1]) N0 142 s_vTimes
abbrev G_vNorm : Prop := Good Tryz.prog (GWL [0, 1]) N0 100 s_vNorm
theorem goods_gv2 : G_vTimes ∧ G_vNorm := by
 refine ⟨?_, ?_⟩
 refine goodM 0 (gc good_qMul gn) Tryz.f142 (by kernel_rfl) (by kernel_rfl) fun ds hp F A Q hF hA hQ => ?_
 obtain ⟨x, y, rfl, hx, hy, hyf⟩ := sp2_arg hp
 obtain ⟨z, e, v, f, s, n, cs, t, m, es, rfl, i1, i2, i3, i4, i5, i6, hz, he, hv, hf, hfz, he1, he2, hfv, hf1, hf2⟩ := canR_arg hx
 have cz : okC (N0.ln z) (N0.lm z) := okC_fitN hfz (by omega)
 have lz : N0.ln z ≤ 600 := ln_fit hfz
 have yz : canD (.agg [.bool (N0.neg z), .sl (N0.ln z) (N0.lm z), .int .i64 e]) := canD_N0 hz he (hfz.mono (by omega)) (by omega) (by omega)
 have cv : okC (N0.ln v) (N0.lm v) := okC_fitN hfv (by omega)
 have lv : N0.ln v ≤ 600 := ln_fit hfv
 have yv : canD (.agg [.bool (N0.neg v), .sl (N0.ln v) (N0.lm v), .int .i64 f]) := canD_N0 hv hf (hfv.mono (by omega)) (by omega) (by omega)
 have nX1 : Dy.n (z, e) = (z, e) := Prod.ext hz he
 have nX2 : Dy.n (v, f) = (v, f) := Prod.ext hv hf
 have fX : fR ((z, e), (v, f)) 19200 20000 := ⟨⟨hfz, he1, he2⟩, hfv, hf1, hf2⟩
 have rX : canR (.agg [.bool (N0.neg z), .sl (N0.ln z) (N0.lm z), .int .i64 e, .bool (N0.neg v), .sl (N0.ln v) (N0.lm v), .int .i64 f]) := canR_mk (r := ((z, e), (v, f))) nX1 nX2 fX
 obtain ⟨u, g, s2, n2, cs2, rfl, hs2, hn2, hcs2, hu, hg, hfu, hg1, hg2⟩ := canD_arg hy
 have cu : okC (N0.ln u) (N0.lm u) := okC_fitN hfu (by omega)
 have lu : N0.ln u ≤ 1000 := ln_fit hfu
 clear hp hx hy
 rotate_left
 refine goodM 0 (gc good_qMul <| gc good_qAdd gn) Tryz.f100 (by kernel_rfl) (by kernel_rfl) fun ds hp F A Q hF hA hQ => ?_
 obtain ⟨x, rfl, hx, hsm⟩ := sp1_arg hp
 obtain ⟨z, e, v, f, s, n, cs, t, m, es, rfl, i1, i2, i3, i4, i5, i6, hz, he, hv, hf, hfz, he1, he2, hfv, hf1, hf2⟩ := canR_arg hx
 have cz : okC (N0.ln z) (N0.lm z) := okC_fitN hfz (by omega)
 have lz : N0.ln z ≤ 600 := ln_fit hfz
 have yz : canD (.agg [.bool (N0.neg z), .sl (N0.ln z) (N0.lm z), .int .i64 e]) := canD_N0 hz he (hfz.mono (by omega)) (by omega) (by omega)
 have cv : okC (N0.ln v) (N0.lm v) := okC_fitN hfv (by omega)
 have lv : N0.ln v ≤ 600 := ln_fit hfv
 have yv : canD (.agg [.bool (N0.neg v), .sl (N0.ln v) (N0.lm v), .int .i64 f]) := canD_N0 hv hf (hfv.mono (by omega)) (by omega) (by omega)
 have nX1 : Dy.n (z, e) = (z, e) := Prod.ext hz he
 have nX2 : Dy.n (v, f) = (v, f) := Prod.ext hv hf
 have fX : fR ((z, e), (v, f)) 19200 20000 := ⟨⟨hfz, he1, he2⟩, hfv, hf1, hf2⟩
 have rX : canR (.agg [.bool (N0.neg z), .sl (N0.ln z) (N0.lm z), .int .i64 e, .bool (N0.neg v), .sl (N0.ln v) (N0.lm v), .int .i64 f]) := canR_mk (r := ((z, e), (v, f))) nX1 nX2 fX
 obtain ⟨pa, pb, pc, pd⟩ := sm_facts hsm
 obtain ⟨pa1, pa2, pa3⟩ := pd_facts pa
 obtain ⟨pb1, pb2, pb3⟩ := pd_facts pb
 clear hp hx hsm pa pb pc pd
 rotate_left
 all_goals cbv
 all_goals (repeat' (first | with_reducible refine And.intro ?_ ?_ | (with_reducible refine safe_lift hA ?_; kernel_rfl) | (intro hc_; cbv)))
 all_goals (repeat (rw [safe_true hA, true_and]; rotate_left; kernel_rfl))
 all_goals subst hF hA
 all_goals (try subst hs2)
 all_goals (try subst hn2)
 all_goals (try subst hcs2)
 all_goals (try subst i1 i2 i3 i4 i5 i6)
 all_goals simp only [fnOf, find, std, reduceIte, Nat.reduceEqDiff, sp1, sp2, a1, a2, FnSpec.out, Shape.build, leafs, leafCells, tups, oneOf, List.cons_append, List.nil_append, List.length_cons, List.length_nil, s_vTimes, s_qMul, rv_raw, rv_N0, dv, dz, dx, dcn, dm_raw, dm_N0, vI_N0, decide_eq_true_eq, decide_eq_false_iff_not, cmpD_nrm, sameI_N0, beq_dec, pow_if, pow_ev, k1, k1e, re4, min_if, gt_iff_lt, ge_iff_le, Prod.eta, sg_nonpos7, sg_nonneg7, s_uOf, s_yEqual, ca, cadd, csub, cmul, cneg, cconj, cnorm, ctms, Dy.n, Dy.add, Dy.sub, Dy.mul, Dy.neg, s_vNorm, s_qAdd] at *
 all_goals (repeat' (first
  | with_reducible exact hQ
  | with_reducible assumption
  | with_reducible exact isi_int _ _
  | with_reducible exact near_of (by assumption) (by assumption) (by assumption) (by assumption)
  | with_reducible exact near_19 (by assumption) (by assumption) (by assumption) (by assumption)
  | with_reducible exact fit_pr (by assumption) (by assumption)
  | with_reducible exact okD_pr (by assumption) (by assumption) (by assumption)
  | with_reducible refine okD_mk ?_ ?_ ?_
  | with_reducible refine okE_mk ?_
  | exact hQ
  | with_reducible refine And.intro ?_ ?_
  | omega))
theorem good_vNorm : G_vNorm := goods_gv2.2
theorem good_vPow : Good Tryz.prog (GWL [0, 1]) N0 50 s_vPow := by
 refine goodM 0 (gc good_vOf <| gc good_vMul gn) Tryz.f50 (by kernel_rfl) (by kernel_rfl) fun ds hp F A Q hF hA hQ => ?_
 obtain ⟨x, y, rfl, ⟨hx, hxf⟩, hy, hk⟩ := sp2_arg hp
 obtain ⟨z, e, v, f, s, n, cs, t, m, es, rfl, i1, i2, i3, i4, i5, i6, hz, he, hv, hf, hfz, he1, he2, hfv, hf1, hf2⟩ := canR_arg hx
 have cz : okC (N0.ln z) (N0.lm z) := okC_fitN hfz (by omega)
 have lz : N0.ln z ≤ 600 := ln_fit hfz
 have yz : canD (.agg [.bool (N0.neg z), .sl (N0.ln z) (N0.lm z), .int .i64 e]) := canD_N0 hz he (hfz.mono (by omega)) (by omega) (by omega)
 have cv : okC (N0.ln v) (N0.lm v) := okC_fitN hfv (by omega)
 have lv : N0.ln v ≤ 600 := ln_fit hfv
 have yv : canD (.agg [.bool (N0.neg v), .sl (N0.ln v) (N0.lm v), .int .i64 f]) := canD_N0 hv hf (hfv.mono (by omega)) (by omega) (by omega)
 have nX1 : Dy.n (z, e) = (z, e) := Prod.ext hz he
 have nX2 : Dy.n (v, f) = (v, f) := Prod.ext hv hf
 have fX : fR ((z, e), (v, f)) 19200 20000 := ⟨⟨hfz, he1, he2⟩, hfv, hf1, hf2⟩
 have rX : canR (.agg [.bool (N0.neg z), .sl (N0.ln z) (N0.lm z), .int .i64 e, .bool (N0.neg v), .sl (N0.ln v) (N0.lm v), .int .i64 f]) := canR_mk (r := ((z, e), (v, f))) nX1 nX2 fX
 obtain ⟨k, rfl⟩ := isi_arg hy
 have hk : powN k ≤ 8 := hk
 clear hp hx hy
 cbv
 have cW : canR (.agg [.bool (N0.neg z), .sl (N0.ln z) (N0.lm z), .int .i64 e, .bool (N0.neg v), .sl (N0.ln v) (N0.lm v), .int .i64 f]) := canR_mk (r := ((z, e), (v, f))) nX1 nX2 fX
 rw [i1, i2, i3, i4, i5, i6] at cW
 obtain ⟨C, hC⟩ : ∃ C : Nat → Re, ∀ i : Nat, C i = cpw ((z, e), (v, f)) i := ⟨_, fun _ => rfl⟩
 obtain ⟨J, hJ⟩ : ∃ J : Nat → Int, ∀ i : Nat, J i = Int.ofNat i := ⟨_, fun _ => rfl⟩
 obtain ⟨M, hM⟩ : ∃ M, M = powN k := ⟨_, rfl⟩
 refine And.intro ?_ (loop_by (fun i st => (st.setT 6 (.int .i64 (J i))).setC 2 [.bool (F.neg (C i).1.1), .sl (F.ln (C i).1.1) (F.lm (C i).1.1), .int .i64 (C i).1.2, .bool (F.neg (C i).2.1), .sl (F.ln (C i).2.1) (F.lm (C i).2.1), .int .i64 (C i).2.2]) M ?_ (fun i hi => ?_))
 all_goals cbv
 repeat' (first | with_reducible refine And.intro ?_ ?_ | (with_reducible refine safe_lift hA ?_; kernel_rfl) | (intro hc_; cbv))
 all_goals (repeat (rw [safe_true hA, true_and]; rotate_left; kernel_rfl))
 all_goals subst hF hA i1 i2 i3 i4 i5 i6
 all_goals simp only [fnOf, find, std, reduceIte, Nat.reduceEqDiff, sp1, sp2, a1, a2, FnSpec.out, Shape.build, leafs, leafCells, tups, oneOf, List.cons_append, List.nil_append, List.length_cons, List.length_nil, s_vPow, s_vOf, s_vMul, rv_raw, rv_N0, dv, dz, dx, dcn, dm_raw, dm_N0, vI_N0, decide_eq_true_eq, decide_eq_false_iff_not, cmpD_nrm, sameI_N0, beq_dec, pow_if, pow_ev, k1, k1e, re4, min_if, gt_iff_lt, ge_iff_le, Prod.eta, sg_nonpos7, sg_nonneg7, s_uOf, s_yEqual, ca, cadd, csub, cmul, cneg, cconj, cnorm, ctms, Dy.n, Dy.add, Dy.sub, Dy.mul, Dy.neg, powN_if2, powN_lt] at *
 all_goals
  have hI0 : C 0 = ((tmI 1, teI 1 0), (tmI 0, teI 0 0)) := by rw [hC]; show cone = _; exact Prod.ext one_n.symm zero_n.symm
 all_goals first
  | exact ⟨⟨rfl, by decide, by decide⟩, rfl, by decide, by decide⟩
  | (rw [hJ]; rfl)
  | (rw [hI0]; done)
  | (rw [show C 0 = ((1, 0), (0, 0)) by rw [hC]; rfl]; done)
  | (rw [show C 0 = ((1, 0), (0, 0)) by rw [hC]; rfl]; simp only [k1, k1e, tmI_zero, teI_zero]; done)
  | skip
 all_goals
  have hJi : J i = (i : Int) := hJ i
  rw [hJi] at hc_
  try rw [powN_lt] at hc_
  have hJ1 : J (i + 1) = J i + 1 := by rw [hJ, hJ]; rfl
  have hzi := cz_pw hxf i
  have hz := cz_can (ccan_pw ((z, e), (v, f)) i) (cz_mono hzi (show 1000 * i ≤ 8000 by omega) (show (1320 + 1) * i + 1 ≤ 10569 by omega))
  have hcn := ccan_pw ((z, e), (v, f)) i
  rw [← hC] at hz hzi hcn
  have hS : C (i + 1) = cmul (C i) ((z, e), (v, f)) := by rw [hC, hC]; rfl
  unfold cmul Dy.sub Dy.add Dy.mul Dy.n at hS
  dsimp only at hS
 all_goals first
  | exact ⟨canR_mk hcn.1 hcn.2 (hz.mono (by omega) (by omega)), cW, ⟨_, _, _, _, hzi, hxf, by omega⟩⟩
  | exact (show i + 1 ≤ M by omega)
  | rw [hJ1, hJi, wrap_in (by omega) (by omega)]
  | rw [hS]
  | (have hi2 : i = powN k := by omega
     rw [hC, hi2]; exact hQ)
  | trace_state
end Go.Proofs.YtnjjfakjnkhhjaaGreatDoor.Ev
