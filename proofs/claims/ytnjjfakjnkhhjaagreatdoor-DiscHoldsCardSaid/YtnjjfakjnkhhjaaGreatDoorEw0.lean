import Derived.Test.YtnjjfakjnkhhjaaGreatDoorXq
import Derived.Test.YtnjjfakjnkhhjaaGreatDoorRefG
import Derived.Test.YtnjjfakjnkhhjaaGreatDoorXp
set_option maxHeartbeats 6000000
set_option maxRecDepth 100000
set_option linter.all false
namespace Go.Proofs.YtnjjfakjnkhhjaaGreatDoor.Ev
open Go Go.RowKit
def rv : D → Re
 | .agg [.bool s, .sl _ cs, .int _ e, .bool t, .sl _ es, .int _ f] => ((vI s cs, e), (vI t es, f))
 | _ => ((0, 0), (0, 0))
def dv (x : D) : Dy := (dm x, dx x)
def re4 (r : Re) (i : Nat) : Int := match i with | 0 => r.1.1 | 1 => r.1.2 | 2 => r.2.1 | _ => r.2.2
def okR (x : D) : Prop := match x with
 | .agg [.bool _, .sl n cs, .int .i64 e, .bool _, .sl m es, .int .i64 f] => (okC n cs ∧ n ≤ 600 ∧ -50000 ≤ e ∧ e ≤ 50000) ∧ okC m es ∧ m ≤ 600 ∧ -50000 ≤ f ∧ f ≤ 50000
 | _ => False
theorem okR_arg {x : D} (h : okR x) : ∃ s n cs e t m es f, x = .agg [.bool s, .sl n cs, .int .i64 e, .bool t, .sl m es, .int .i64 f] ∧ okC n cs ∧ n ≤ 600 ∧ -50000 ≤ e ∧ e ≤ 50000 ∧ okC m es ∧ m ≤ 600 ∧ -50000 ≤ f ∧ f ≤ 50000 := by
 unfold okR at h
 split at h
 ·exact ⟨_, _, _, _, _, _, _, _, rfl, h.1.1, h.1.2.1, h.1.2.2.1, h.1.2.2.2, h.2⟩
 ·exact h.elim
theorem rv_raw {s t : Bool} {n m : Nat} {cs es : List D} {e f : Int} {k l : IntKind} : rv (.agg [.bool s, .sl n cs, .int k e, .bool t, .sl m es, .int l f]) = ((vI s cs, e), (vI t es, f)) := rfl
def canR (x : D) : Prop := x = .agg [.bool (N0.neg (rv x).1.1), .sl (N0.ln (rv x).1.1) (N0.lm (rv x).1.1), .int .i64 (rv x).1.2, .bool (N0.neg (rv x).2.1), .sl (N0.ln (rv x).2.1) (N0.lm (rv x).2.1), .int .i64 (rv x).2.2] ∧
 (rv x).1.n = (rv x).1 ∧ (rv x).2.n = (rv x).2 ∧ fR (rv x) 19200 20000
theorem canR_arg {x : D} (h : canR x) : ∃ z e v f s n cs t m es, x = .agg [.bool s, .sl n cs, .int .i64 e, .bool t, .sl m es, .int .i64 f] ∧ N0.neg z = s ∧ N0.ln z = n ∧ N0.lm z = cs ∧ N0.neg v = t ∧ N0.ln v = m ∧ N0.lm v = es ∧
  tmI z = z ∧ teI z e = e ∧ tmI v = v ∧ teI v f = f ∧ Fit z 19200 ∧ -20000 ≤ e ∧ e ≤ 20000 ∧ Fit v 19200 ∧ -20000 ≤ f ∧ f ≤ 20000 := by
 obtain ⟨h1, h2, h3, ⟨h4, h5, h6⟩, h7, h8, h9⟩ := h
 exact ⟨_, _, _, _, _, _, _, _, _, _, h1, rfl, rfl, rfl, rfl, rfl, rfl, congrArg Prod.fst h2, congrArg Prod.snd h2, congrArg Prod.fst h3, congrArg Prod.snd h3, h4, h5, h6, h7, h8, h9⟩
theorem rv_N0 {z e v f : Int} : rv (.agg [.bool (N0.neg z), .sl (N0.ln z) (N0.lm z), .int .i64 e, .bool (N0.neg v), .sl (N0.ln v) (N0.lm v), .int .i64 f]) = ((z, e), (v, f)) := by rw [rv_raw, vI_N0, vI_N0]
theorem canR_mk {r : Re} (h1 : r.1.n = r.1) (h2 : r.2.n = r.2) (h3 : fR r 19200 20000) : canR (.agg [.bool (N0.neg r.1.1), .sl (N0.ln r.1.1) (N0.lm r.1.1), .int .i64 r.1.2, .bool (N0.neg r.2.1), .sl (N0.ln r.2.1) (N0.lm r.2.1), .int .i64 r.2.2]) := by
 unfold canR
 rw [rv_N0]
 exact ⟨rfl, h1, h2, h3⟩
theorem canD_of {a : Dy} {k B : Nat} (h : a.n = a) (hf : fD a k B) (hk : k ≤ 32000) (hB : B ≤ 50000000) : canD (.agg [.bool (N0.neg a.1), .sl (N0.ln a.1) (N0.lm a.1), .int .i64 a.2]) := by
 have := hf.2
 exact canD_N0 (congrArg Prod.fst h) (congrArg Prod.snd h) (hf.1.mono hk) (by omega) (by omega)
theorem near_of {a b : Int} {s t : Bool} {n m : Nat} {cs es : List D} (h1 : -20000 ≤ a) (h2 : a ≤ 20000) (h3 : -20000 ≤ b) (h4 : b ≤ 20000) : near 60000 (.agg [.bool s, .sl n cs, .int .i64 a]) (.agg [.bool t, .sl m es, .int .i64 b]) := fun _ _ => by
 show a - min a b ≤ 60000 ∧ b - min b a ≤ 60000
 omega
theorem Post.r {Q : Post} {r : Re} {z e v f : Int} (h : Q.R (.agg [.bool (N0.neg r.1.1), .sl (N0.ln r.1.1) (N0.lm r.1.1), .int .i64 r.1.2, .bool (N0.neg r.2.1), .sl (N0.ln r.2.1) (N0.lm r.2.1), .int .i64 r.2.2])) (h1 : r = ((z, e), (v, f))) :
  Q.R (.agg [.bool (N0.neg z), .sl (N0.ln z) (N0.lm z), .int .i64 e, .bool (N0.neg v), .sl (N0.ln v) (N0.lm v), .int .i64 f]) := by
 subst h1; exact h
def s_yExact : FnSpec := sp1 (.agg [.I, .i .i64]) (fun x => okD x ∧ Fit (dm x) 100000) (fun x i => match i with | 0 => tmI (dm x) | _ => teI (dm x) (dx x)) (fun _ _ => false)
def few100 (x : D) : Prop := match x with | .agg [.bool _, .sl _ _, .int .i64 e, .bool _, .sl _ _, .int .i64 f] => (-10000 ≤ e ∧ e ≤ 10000) ∧ -10000 ≤ f ∧ f ≤ 10000 | _ => False
def s_yReal : FnSpec := sp1 (.agg [.I, .i .i64, .I, .i .i64]) (fun x => okR x ∧ few100 x) (fun x i => re4 (rn (rv x)) i) (fun _ _ => false)
def s_yEqual : FnSpec := sp2 (.one .b) (fun x y => canR x ∧ canR y) (fun _ _ _ => 0) (fun x y _ => decide (rv x = rv y))
def hasY (r : Re) (d : Dy) : Bool := decide (cmpY r.1 d ≤ 0) && decide (cmpY d r.2 ≤ 0)
def inY (x y : Re) : Bool := decide (cmpY y.1 x.1 ≤ 0) && decide (cmpY x.2 y.2 ≤ 0)
def zeroY (r : Re) : Bool := decide (r.1.1 ≤ 0) && decide (0 ≤ r.2.1)
def rdivZ (x y : Re) (p : Int) : Re := if zeroY y = true then ((0, 0), (0, 0)) else rdiv x y p
theorem and_y {a b : Bool} (h : a = true) : (a && b) = b := by rw [h]; rfl
theorem and_n {a b : Bool} (h : a = !true) : (a && b) = false := by rw [h]; rfl
theorem neg_can {a : Dy} (h : a.n = a) : a.neg = (-a.1, a.2) := by
 unfold Dy.neg Dy.n
 rw [tmI_neg, teI_neg]
 have h1 : tmI a.1 = a.1 := congrArg Prod.fst h
 have h2 : teI a.1 a.2 = a.2 := congrArg Prod.snd h
 rw [h1, h2]
theorem canD_fD {a : Dy} (h : a.n = a) (hf : fD a 32000 50000000) : canD (.agg [.bool (N0.neg a.1), .sl (N0.ln a.1) (N0.lm a.1), .int .i64 a.2]) := canD_of h hf (Nat.le_refl _) (Nat.le_refl _)
theorem near_fD {a b : Dy} {k l : Nat} {s t : Bool} {n m : Nat} {cs es : List D} (h : fD a k 30000) (g : fD b l 30000) : near 60000 (.agg [.bool s, .sl n cs, .int .i64 a.2]) (.agg [.bool t, .sl m es, .int .i64 b.2]) := fun _ _ => by
 have := h.2
 have := g.2
 show a.2 - min a.2 b.2 ≤ 60000 ∧ b.2 - min b.2 a.2 ≤ 60000
 omega
theorem okD_fD {a : Dy} {k : Nat} (h : fD a k 50000000) (hk : k ≤ 3200000) : okD (.agg [.bool (N0.neg a.1), .sl (N0.ln a.1) (N0.lm a.1), .int .i64 a.2]) := ⟨okC_fitN h.1 hk, by have := h.2.1; omega, by have := h.2.2; omega⟩
theorem pow_if (k : Int) : powN (if 0 < min k 64 then min k 64 else 0) = powN k := by unfold powN; split <;> omega
theorem pow_ev (k : Int) : ((if 0 < min k 64 then min k 64 else 0).tmod 2 = 0) = (powN k % 2 = 0) := propext (by
 unfold powN
 split
 ·rw [Int.tmod_eq_emod_of_nonneg (by omega)]; omega
 ·rw [Int.tmod_eq_emod_of_nonneg (by omega)]; omega)
abbrev G_yExact : Prop := Good Tryz.prog (GWL [0, 1]) N0 86 s_yExact
abbrev G_yReal : Prop := Good Tryz.prog (GWL [0, 1]) N0 124 s_yReal
abbrev G_yEqual : Prop := Good Tryz.prog (GWL [0, 1]) N0 128 s_yEqual
theorem goods_ew01 : G_yExact ∧ (G_yExact → G_yReal) ∧ G_yEqual := by
 refine ⟨?_, ?_, ?_⟩
 refine goodM 0 (gc good_qExact gn) Tryz.f86 (by kernel_rfl) (by kernel_rfl) fun ds hp F A Q hF hA hQ => ?_
 obtain ⟨x, rfl, hx, hF1⟩ := sp1_arg hp
 obtain ⟨s, n, cs, e, rfl, hc, he1, he2⟩ := okD_arg hx
 clear hp hx
 rotate_left
 intro good_yExact
 refine goodM 0 (gc good_yExact <| gc good_qCmp gn) Tryz.f124 (by kernel_rfl) (by kernel_rfl) fun ds hp F A Q hF hA hQ => ?_
 clear good_yExact
 obtain ⟨x, rfl, hx, hx4⟩ := sp1_arg hp
 obtain ⟨s, n, cs, e, t, m, es, f, rfl, hc, hn, he1, he2, hc2, hm, hf1, hf2⟩ := okR_arg hx
 obtain ⟨⟨ha1, ha2⟩, hb1, hb2⟩ := hx4
 have kS : Fit (vI s cs) 19200 := (okC_fit hc s).mono (by omega)
 have kT : Fit (vI t es) 19200 := (okC_fit hc2 t).mono (by omega)
 have kS2 : Fit (vI s cs) 100000 := kS.mono (by omega)
 have kT2 : Fit (vI t es) 100000 := kT.mono (by omega)
 have bS := te_in (e := e) (a := -10000) (b := 10000) (c := 29200) kS (by omega) (by omega) (by omega) (by omega) (by decide)
 have bT := te_in (e := f) (a := -10000) (b := 10000) (c := 29200) kT (by omega) (by omega) (by omega) (by omega) (by decide)
 have cS : canD (.agg [.bool (N0.neg (tmI (vI s cs))), .sl (N0.ln (tmI (vI s cs))) (N0.lm (tmI (vI s cs))), .int .i64 (teI (vI s cs) e)]) := canD_N0 (tmI_idem _) (teI_idem _ _) (fit_tm (kS.mono (by omega))) (by omega) (by omega)
 have cT : canD (.agg [.bool (N0.neg (tmI (vI t es))), .sl (N0.ln (tmI (vI t es))) (N0.lm (tmI (vI t es))), .int .i64 (teI (vI t es) f)]) := canD_N0 (tmI_idem _) (teI_idem _ _) (fit_tm (kT.mono (by omega))) (by omega) (by omega)
 clear hp hx
 rotate_left
 refine goodM 0 (gc good_qEqual gn) Tryz.f128 (by kernel_rfl) (by kernel_rfl) fun ds hp F A Q hF hA hQ => ?_
 obtain ⟨x, y, rfl, hx, hy⟩ := sp2_arg hp
 obtain ⟨z, e, v, f, s, n, cs, t, m, es, rfl, i1, i2, i3, i4, i5, i6, hz, he, hv, hf, hfz, he1, he2, hfv, hf1, hf2⟩ := canR_arg hx
 have cz : okC (N0.ln z) (N0.lm z) := okC_fitN hfz (by omega)
 have lz : N0.ln z ≤ 600 := ln_fit hfz
 have yz : canD (.agg [.bool (N0.neg z), .sl (N0.ln z) (N0.lm z), .int .i64 e]) := canD_N0 hz he (hfz.mono (by omega)) (by omega) (by omega)
 have cv : okC (N0.ln v) (N0.lm v) := okC_fitN hfv (by omega)
 have lv : N0.ln v ≤ 600 := ln_fit hfv
 have yv : canD (.agg [.bool (N0.neg v), .sl (N0.ln v) (N0.lm v), .int .i64 f]) := canD_N0 hv hf (hfv.mono (by omega)) (by omega) (by omega)
 have nX1 : Dy.n (z, e) = (z, e) := Prod.ext hz he
 have nX2 : Dy.n (v, f) = (v, f) := Prod.ext hv hf
 have fX : fR ((z, e), (v, f)) 19200 20000 := ⟨⟨hfz, he1, he2⟩, hfv, hf1, hf2⟩
 have rX : canR (.agg [.bool (N0.neg z), .sl (N0.ln z) (N0.lm z), .int .i64 e, .bool (N0.neg v), .sl (N0.ln v) (N0.lm v), .int .i64 f]) := canR_mk (r := ((z, e), (v, f))) nX1 nX2 fX
 obtain ⟨u, g, w, h, s2, n2, cs2, t2, m2, es2, rfl, j1, j2, j3, j4, j5, j6, hu, hg, hw, hh, hfu, hg1, hg2, hfw, hh1, hh2⟩ := canR_arg hy
 have cu : okC (N0.ln u) (N0.lm u) := okC_fitN hfu (by omega)
 have lu : N0.ln u ≤ 600 := ln_fit hfu
 have yu : canD (.agg [.bool (N0.neg u), .sl (N0.ln u) (N0.lm u), .int .i64 g]) := canD_N0 hu hg (hfu.mono (by omega)) (by omega) (by omega)
 have cw : okC (N0.ln w) (N0.lm w) := okC_fitN hfw (by omega)
 have lw : N0.ln w ≤ 600 := ln_fit hfw
 have yw : canD (.agg [.bool (N0.neg w), .sl (N0.ln w) (N0.lm w), .int .i64 h]) := canD_N0 hw hh (hfw.mono (by omega)) (by omega) (by omega)
 have nY1 : Dy.n (u, g) = (u, g) := Prod.ext hu hg
 have nY2 : Dy.n (w, h) = (w, h) := Prod.ext hw hh
 have fY : fR ((u, g), (w, h)) 19200 20000 := ⟨⟨hfu, hg1, hg2⟩, hfw, hh1, hh2⟩
 have rY : canR (.agg [.bool (N0.neg u), .sl (N0.ln u) (N0.lm u), .int .i64 g, .bool (N0.neg w), .sl (N0.ln w) (N0.lm w), .int .i64 h]) := canR_mk (r := ((u, g), (w, h))) nY1 nY2 fY
 clear hp hx hy
 rotate_left
 all_goals cbv
 all_goals (repeat' (first | with_reducible refine And.intro ?_ ?_ | (with_reducible refine safe_lift hA ?_; kernel_rfl) | (intro hc_; cbv)))
 all_goals (repeat (rw [safe_true hA, true_and]; rotate_left; kernel_rfl))
 all_goals subst hF hA
 all_goals (try subst i1 i2 i3 i4 i5 i6)
 all_goals (try subst j1 j2 j3 j4 j5 j6)
 all_goals simp only [fnOf, find, std, reduceIte, Nat.reduceEqDiff, sp1, sp2, a1, a2, FnSpec.out, Shape.build, leafs, leafCells, tups, oneOf, List.cons_append, List.nil_append, List.length_cons, List.length_nil, s_yExact, s_qExact, rv_raw, rv_N0, dv, dz, dx, dcn, dm_raw, dm_N0, vI_N0, decide_eq_true_eq, decide_eq_false_iff_not, cmpD_nrm, sameI_N0, beq_dec, pow_if, pow_ev, k1, k1e, re4, min_if, gt_iff_lt, ge_iff_le, Prod.eta, sg_nonpos7, sg_nonneg7, s_yReal, s_qCmp, s_yEqual, s_qEqual] at *
 all_goals (repeat' (first
  | with_reducible exact hQ
  | with_reducible assumption
  | with_reducible exact isi_int _ _
  | with_reducible refine okE_mk ?_
  | with_reducible refine okI_mk ?_
  | with_reducible refine okD_mk ?_ ?_ ?_
  | (with_reducible refine near_mk ?_ ?_; (focus omega); (focus omega))
  | with_reducible refine And.intro ?_ ?_
  | omega))
 all_goals first
  | (have hk : ¬cmpD (vI s cs) e (vI t es) f ≤ 0 := by omega
     simp only [rn, if_neg hk, Dy.n] at hQ; exact hQ)
  | (have hk : cmpD (vI s cs) e (vI t es) f ≤ 0 := by omega
     simp only [rn, if_pos hk, Dy.n] at hQ; exact hQ)
  | exact hQ
  | exact Post.b hQ (and_y (decide_eq_true hc_))
  | exact Post.b hQ (and_n hc_)
  | (refine Post.b hQ ?_; rw [Bool.eq_iff_iff]; (try simp only [Bool.and_eq_true, decide_eq_true_eq, decide_eq_false_iff_not, Bool.not_true, Bool.and_eq_false_imp, Bool.false_eq_true] at hc_); simp only [hasY, inY, cmpY, Bool.and_eq_true, decide_eq_true_eq, decide_eq_false_iff_not, Prod.mk.injEq, Bool.false_eq_true]; (first | (constructor <;> intro k <;> simp_all; done) | (simp_all; done)))
  | fail
theorem good_yExact : G_yExact := goods_ew01.1
theorem good_yReal : G_yReal := goods_ew01.2.1 good_yExact
theorem good_yEqual : G_yEqual := goods_ew01.2.2
end Go.Proofs.YtnjjfakjnkhhjaaGreatDoor.Ev
