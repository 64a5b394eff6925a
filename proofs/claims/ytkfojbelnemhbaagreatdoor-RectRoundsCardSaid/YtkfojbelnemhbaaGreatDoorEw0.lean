import Derived.Test.YtkfojbelnemhbaaGreatDoorXq
import Derived.Test.YtkfojbelnemhbaaGreatDoorEqr
import Derived.Test.YtkfojbelnemhbaaGreatDoorXp
set_option maxHeartbeats 16000000
set_option maxRecDepth 100000
set_option linter.all false
namespace Go.Proofs.YtkfojbelnemhbaaGreatDoor.Ev
open Go Go.RowKit
def rv : D → Re
 | .agg [.bool s, .sl _ cs, .int _ e, .bool t, .sl _ es, .int _ f] => ((vI s cs, e), (vI t es, f))
 | _ => ((0, 0), (0, 0))
def dv (x : D) : Dy := (dm x, dx x)
def re4 (r : Re) (i : Nat) : Int := match i with | 0 => r.1.1 | 1 => r.1.2 | 2 => r.2.1 | _ => r.2.2
def okR (x : D) : Prop := match x with
 | .agg [.bool _, .sl n cs, .int .i64 e, .bool _, .sl m es, .int .i64 f] => (okC n cs ∧ n ≤ 600 ∧ -50000 ≤ e ∧ e ≤ 50000) ∧ okC m es ∧ m ≤ 600 ∧ -50000 ≤ f ∧ f ≤ 50000
 | _ => False
theorem okR_arg {x : D} (h : okR x) : ∃ s n cs e t m es f, x = .agg [.bool s, .sl n cs, .int .i64 e, .bool t, .sl m es, .int .i64 f] ∧ okC n cs ∧ n ≤ 600 ∧ -50000 ≤ e ∧ e ≤ 50000 ∧ okC m es ∧ m ≤ 600 ∧ -50000 ≤ f ∧ f ≤ 50000 := by
 unfold okR at h
 split at h
 ·exact ⟨_, _, _, _, _, _, _, _, rfl, h.1.1, h.1.2.1, h.1.2.2.1, h.1.2.2.2, h.2⟩
 ·exact h.elim
theorem rv_raw {s t : Bool} {n m : Nat} {cs es : List D} {e f : Int} {k l : IntKind} : rv (.agg [.bool s, .sl n cs, .int k e, .bool t, .sl m es, .int l f]) = ((vI s cs, e), (vI t es, f)) := rfl
def canR (x : D) : Prop := x = .agg [.bool (N0.neg (rv x).1.1), .sl (N0.ln (rv x).1.1) (N0.lm (rv x).1.1), .int .i64 (rv x).1.2, .bool (N0.neg (rv x).2.1), .sl (N0.ln (rv x).2.1) (N0.lm (rv x).2.1), .int .i64 (rv x).2.2] ∧
 (rv x).1.n = (rv x).1 ∧ (rv x).2.n = (rv x).2 ∧ fR (rv x) 19200 20000
theorem canR_arg {x : D} (h : canR x) : ∃ z e v f s n cs t m es, x = .agg [.bool s, .sl n cs, .int .i64 e, .bool t, .sl m es, .int .i64 f] ∧ N0.neg z = s ∧ N0.ln z = n ∧ N0.lm z = cs ∧ N0.neg v = t ∧ N0.ln v = m ∧ N0.lm v = es ∧
  tmI z = z ∧ teI z e = e ∧ tmI v = v ∧ teI v f = f ∧ Fit z 19200 ∧ -20000 ≤ e ∧ e ≤ 20000 ∧ Fit v 19200 ∧ -20000 ≤ f ∧ f ≤ 20000 := by
 obtain ⟨h1, h2, h3, ⟨h4, h5, h6⟩, h7, h8, h9⟩ := h
 exact ⟨_, _, _, _, _, _, _, _, _, _, h1, rfl, rfl, rfl, rfl, rfl, rfl, congrArg Prod.fst h2, congrArg Prod.snd h2, congrArg Prod.fst h3, congrArg Prod.snd h3, h4, h5, h6, h7, h8, h9⟩
theorem rv_N0 {z e v f : Int} : rv (.agg [.bool (N0.neg z), .sl (N0.ln z) (N0.lm z), .int .i64 e, .bool (N0.neg v), .sl (N0.ln v) (N0.lm v), .int .i64 f]) = ((z, e), (v, f)) := by rw [rv_raw, vI_N0, vI_N0]
theorem canR_mk {r : Re} (h1 : r.1.n = r.1) (h2 : r.2.n = r.2) (h3 : fR r 19200 20000) : canR (.agg [.bool (N0.neg r.1.1), .sl (N0.ln r.1.1) (N0.lm r.1.1), .int .i64 r.1.2, .bool (N0.neg r.2.1), .sl (N0.ln r.2.1) (N0.lm r.2.1), .int .i64 r.2.2]) := by
 unfold canR
 rw [rv_N0]
 exact ⟨rfl, h1, h2, h3⟩
theorem canD_of {a : Dy} {k B : Nat} (h : a.n = a) (hf : fD a k B) (hk : k ≤ 32000) (hB : B ≤ 50000000) : canD (.agg [.bool (N0.neg a.1), .sl (N0.ln a.1) (N0.lm a.1), .int .i64 a.2]) := by
 have := hf.2
 exact canD_N0 (congrArg Prod.fst h) (congrArg Prod.snd h) (hf.1.mono hk) (by omega) (by omega)
theorem near_of {a b : Int} {s t : Bool} {n m : Nat} {cs es : List D} (h1 : -20000 ≤ a) (h2 : a ≤ 20000) (h3 : -20000 ≤ b) (h4 : b ≤ 20000) : near 60000 (.agg [.bool s, .sl n cs, .int .i64 a]) (.agg [.bool t, .sl m es, .int .i64 b]) := fun _ _ => by
 show a - min a b ≤ 60000 ∧ b - min b a ≤ 60000
 omega
theorem Post.r {Q : Post} {r : Re} {z e v f : Int} (h : Q.R (.agg [.bool (N0.neg r.1.1), .sl (N0.ln r.1.1) (N0.lm r.1.1), .int .i64 r.1.2, .bool (N0.neg r.2.1), .sl (N0.ln r.2.1) (N0.lm r.2.1), .int .i64 r.2.2])) (h1 : r = ((z, e), (v, f))) :
  Q.R (.agg [.bool (N0.neg z), .sl (N0.ln z) (N0.lm z), .int .i64 e, .bool (N0.neg v), .sl (N0.ln v) (N0.lm v), .int .i64 f]) := by
 subst h1; exact h
def s_yExact : FnSpec := sp1 (.agg [.I, .i .i64]) (fun x => okD x ∧ Fit (dm x) 100000) (fun x i => match i with | 0 => tmI (dm x) | _ => teI (dm x) (dx x)) (fun _ _ => false)
def few100 (x : D) : Prop := match x with | .agg [.bool _, .sl _ _, .int .i64 e, .bool _, .sl _ _, .int .i64 f] => (-10000 ≤ e ∧ e ≤ 10000) ∧ -10000 ≤ f ∧ f ≤ 10000 | _ => False
def s_yReal : FnSpec := sp1 (.agg [.I, .i .i64, .I, .i .i64]) (fun x => okR x ∧ few100 x) (fun x i => re4 (rn (rv x)) i) (fun _ _ => false)
def s_yMin : FnSpec := sp2 (.agg [.I, .i .i64]) (fun x y => canD x ∧ canD y ∧ near 60000 x y) (fun x y i => match i with | 0 => (dmin (dv x) (dv y)).1 | _ => (dmin (dv x) (dv y)).2) (fun _ _ _ => false)
def s_yMax : FnSpec := sp2 (.agg [.I, .i .i64]) (fun x y => canD x ∧ canD y ∧ near 60000 x y) (fun x y i => match i with | 0 => (dmax (dv x) (dv y)).1 | _ => (dmax (dv x) (dv y)).2) (fun _ _ _ => false)
def s_yEqual : FnSpec := sp2 (.one .b) (fun x y => canR x ∧ canR y) (fun _ _ _ => 0) (fun x y _ => decide (rv x = rv y))
def hasY (r : Re) (d : Dy) : Bool := decide (cmpY r.1 d ≤ 0) && decide (cmpY d r.2 ≤ 0)
def s_yHas : FnSpec := sp2 (.one .b) (fun x y => canR x ∧ canD y ∧ -20000 ≤ dx y ∧ dx y ≤ 20000) (fun _ _ _ => 0) (fun x y _ => hasY (rv x) (dv y))
def inY (x y : Re) : Bool := decide (cmpY y.1 x.1 ≤ 0) && decide (cmpY x.2 y.2 ≤ 0)
def s_yIn : FnSpec := sp2 (.one .b) (fun x y => canR x ∧ canR y) (fun _ _ _ => 0) (fun x y _ => inY (rv x) (rv y))
def s_yAdd : FnSpec := sp2 (.agg [.I, .i .i64, .I, .i .i64]) (fun x y => canR x ∧ canR y) (fun x y i => re4 (radd (rv x) (rv y)) i) (fun _ _ _ => false)
def s_yNeg : FnSpec := sp1 (.agg [.I, .i .i64, .I, .i .i64]) canR (fun x i => re4 (rneg (rv x)) i) (fun _ _ => false)
def s_ySub : FnSpec := sp2 (.agg [.I, .i .i64, .I, .i .i64]) (fun x y => canR x ∧ canR y) (fun x y i => re4 (rsub (rv x) (rv y)) i) (fun _ _ _ => false)
def s_yMul : FnSpec := sp2 (.agg [.I, .i .i64, .I, .i .i64]) (fun x y => (canR x ∧ fR (rv x) 4000 8000) ∧ canR y ∧ fR (rv y) 4000 8000) (fun x y i => re4 (rmul (rv x) (rv y)) i) (fun _ _ _ => false)
def s_yAbs : FnSpec := sp1 (.agg [.I, .i .i64, .I, .i .i64]) canR (fun x i => re4 (rabs (rv x)) i) (fun _ _ => false)
def s_yPow : FnSpec := sp2 (.agg [.I, .i .i64, .I, .i .i64]) (fun x y => canR x ∧ fR (rv x) 1280 20000 ∧ isi .i64 y) (fun x y i => re4 (rpow (rv x) (powN (dz y))) i) (fun _ _ _ => false)
def zeroY (r : Re) : Bool := decide (r.1.1 ≤ 0) && decide (0 ≤ r.2.1)
def rinvZ (r : Re) (p : Int) : Re := if zeroY r = true then ((0, 0), (0, 0)) else rinv r p
def rdivZ (x y : Re) (p : Int) : Re := if zeroY y = true then ((0, 0), (0, 0)) else rdiv x y p
def er0 (r : Re) : Int := if zeroY r = true then 11 else 0
def s_yInv : FnSpec := sp2 (.tup [(true, [.I, .i .i64, .I, .i .i64]), (false, [.i .i64])]) (fun x y => (canR x ∧ fR (rv x) 640 2000) ∧ isi .i64 y ∧ dz y ≤ 400) (fun x y i => match i with | 4 => er0 (rv x) | i => re4 (rinvZ (rv x) (dz y)) i) (fun _ _ _ => false)
def s_yRound : FnSpec := sp2 (.agg [.I, .i .i64, .I, .i .i64]) (fun x y => (canR x ∧ fR (rv x) 8000 10000) ∧ isi .i64 y) (fun x y i => re4 (rround (rv x) (dz y)) i) (fun _ _ _ => false)
def s_yDiv : FnSpec := ⟨.tup [(true, [.I, .i .i64, .I, .i .i64]), (false, [.i .i64])], fun ds => match ds with | [x, y, .int .i64 p] => (canR x ∧ fR (rv x) 640 2000) ∧ (canR y ∧ fR (rv y) 640 2000) ∧ p ≤ 400 | _ => False,
 fun ds i => match ds with | [x, y, .int _ p] => (match i with | 4 => er0 (rv y) | i => re4 (rdivZ (rv x) (rv y) p) i) | _ => 0, fun _ _ => false, fun _ _ => 0, fun _ _ => []⟩
theorem ydiv_arg {ds : List D} (h : s_yDiv.p ds) : ∃ x y p, ds = [x, y, .int .i64 p] ∧ (canR x ∧ fR (rv x) 640 2000) ∧ (canR y ∧ fR (rv y) 640 2000) ∧ p ≤ 400 := by
 unfold s_yDiv at h
 dsimp only at h
 split at h
 ·exact ⟨_, _, _, rfl, h⟩
 ·exact h.elim
def s_yHull : FnSpec := sp2 (.agg [.I, .i .i64, .I, .i .i64]) (fun x y => canR x ∧ canR y) (fun x y i => re4 (rhull (rv x) (rv y)) i) (fun _ _ _ => false)
def meetY (x y : Re) : Bool := decide (cmpY (rmeet x y).1 (rmeet x y).2 ≤ 0)
def rmeetZ (x y : Re) : Re := if meetY x y = true then rmeet x y else ((0, 0), (0, 0))
def s_yMeet : FnSpec := sp2 (.tup [(true, [.I, .i .i64, .I, .i .i64]), (false, [.b])]) (fun x y => canR x ∧ canR y) (fun x y i => re4 (rmeetZ (rv x) (rv y)) i) (fun x y _ => meetY (rv x) (rv y))
theorem and_y {a b : Bool} (h : a = true) : (a && b) = b := by rw [h]; rfl
theorem and_n {a b : Bool} (h : a = !true) : (a && b) = false := by rw [h]; rfl
theorem neg_can {a : Dy} (h : a.n = a) : a.neg = (-a.1, a.2) := by
 unfold Dy.neg Dy.n
 rw [tmI_neg, teI_neg]
 have h1 : tmI a.1 = a.1 := congrArg Prod.fst h
 have h2 : teI a.1 a.2 = a.2 := congrArg Prod.snd h
 rw [h1, h2]
theorem abs_can {a : Dy} (h : a.n = a) : a.abs = (((a.1.natAbs : Nat) : Int), a.2) := by
 unfold Dy.abs Dy.n
 rw [tmI_abs, teI_abs]
 have h1 : tmI a.1 = a.1 := congrArg Prod.fst h
 have h2 : teI a.1 a.2 = a.2 := congrArg Prod.snd h
 rw [h1, h2]
theorem canR_neg {r : Re} (h1 : r.1.n = r.1) (h2 : r.2.n = r.2) (h : fR r 19200 20000) : canR (.agg [.bool (N0.neg (rneg r).1.1), .sl (N0.ln (rneg r).1.1) (N0.lm (rneg r).1.1), .int .i64 (rneg r).1.2, .bool (N0.neg (rneg r).2.1), .sl (N0.ln (rneg r).2.1) (N0.lm (rneg r).2.1), .int .i64 (rneg r).2.2]) :=
 canR_mk (neg_n _) (neg_n _) ⟨by show fD r.2.neg _ _; rw [neg_can h2]; exact ⟨h.2.1.neg, h.2.2⟩, by show fD r.1.neg _ _; rw [neg_can h1]; exact ⟨h.1.1.neg, h.1.2⟩⟩
theorem canD_fD {a : Dy} (h : a.n = a) (hf : fD a 32000 50000000) : canD (.agg [.bool (N0.neg a.1), .sl (N0.ln a.1) (N0.lm a.1), .int .i64 a.2]) := canD_of h hf (Nat.le_refl _) (Nat.le_refl _)
theorem near_fD {a b : Dy} {k l : Nat} {s t : Bool} {n m : Nat} {cs es : List D} (h : fD a k 30000) (g : fD b l 30000) : near 60000 (.agg [.bool s, .sl n cs, .int .i64 a.2]) (.agg [.bool t, .sl m es, .int .i64 b.2]) := fun _ _ => by
 have := h.2
 have := g.2
 show a.2 - min a.2 b.2 ≤ 60000 ∧ b.2 - min b.2 a.2 ≤ 60000
 omega
theorem okD_fD {a : Dy} {k : Nat} (h : fD a k 50000000) (hk : k ≤ 3200000) : okD (.agg [.bool (N0.neg a.1), .sl (N0.ln a.1) (N0.lm a.1), .int .i64 a.2]) := ⟨okC_fitN h.1 hk, by have := h.2.1; omega, by have := h.2.2; omega⟩
theorem pow_if (k : Int) : powN (if 0 < min k 64 then min k 64 else 0) = powN k := by unfold powN; split <;> omega
theorem pow_ev (k : Int) : ((if 0 < min k 64 then min k 64 else 0).tmod 2 = 0) = (powN k % 2 = 0) := propext (by
 unfold powN
 split
 ·rw [Int.tmod_eq_emod_of_nonneg (by omega)]; omega
 ·rw [Int.tmod_eq_emod_of_nonneg (by omega)]; omega)
theorem rabs_n (x : Re) : (rabs x).1.n = (rabs x).1 ∧ (rabs x).2.n = (rabs x).2 := by
 constructor
 ·unfold rabs; split
  ·exact zero_n
  ·exact dmin_can (abs_n _) (abs_n _)
 ·unfold rabs; split
  ·exact dmax_can (abs_n _) (abs_n _)
  ·exact dmax_can (abs_n _) (abs_n _)
theorem ypow_facts {x : Re} (hx : fR x 1280 20000) : canD (.agg [.bool (N0.neg (rabs x).1.1), .sl (N0.ln (rabs x).1.1) (N0.lm (rabs x).1.1), .int .i64 (rabs x).1.2]) ∧ canD (.agg [.bool (N0.neg (rabs x).2.1), .sl (N0.ln (rabs x).2.1) (N0.lm (rabs x).2.1), .int .i64 (rabs x).2.2]) ∧
  N0.ln (rabs x).1.1 ≤ 40 ∧ N0.ln (rabs x).2.1 ≤ 40 ∧ (-1000000 ≤ (rabs x).1.2 ∧ (rabs x).1.2 ≤ 1000000) ∧ -1000000 ≤ (rabs x).2.2 ∧ (rabs x).2.2 ≤ 1000000 := by
 have h := fR_rabs hx
 have hn := rabs_n x
 have b1 := h.1.2
 have b2 := h.2.2
 exact ⟨canD_of hn.1 h.1 (by omega) (by omega), canD_of hn.2 h.2 (by omega) (by omega), ln_fit h.1.1, ln_fit h.2.1, ⟨by omega, by omega⟩, by omega, by omega⟩
theorem fit_1k (k : Nat) (hk : 1 ≤ k) : Fit 1 k := (show Fit 1 1 by unfold Fit; decide).mono hk
theorem ymul_facts {z e v f u g w h : Int} (hx : fR ((z, e), (v, f)) 4000 8000) (hy : fR ((u, g), (w, h)) 4000 8000) : Fit (z * u) 100000 ∧ canD (.agg [.bool (N0.neg (tmI (z * u))), .sl (N0.ln (tmI (z * u))) (N0.lm (tmI (z * u))), .int .i64 (teI (z * u) (e + g))]) ∧ Fit (z * w) 100000 ∧ canD (.agg [.bool (N0.neg (tmI (z * w))), .sl (N0.ln (tmI (z * w))) (N0.lm (tmI (z * w))), .int .i64 (teI (z * w) (e + h))]) ∧ Fit (v * u) 100000 ∧ canD (.agg [.bool (N0.neg (tmI (v * u))), .sl (N0.ln (tmI (v * u))) (N0.lm (tmI (v * u))), .int .i64 (teI (v * u) (f + g))]) ∧ Fit (v * w) 100000 ∧ canD (.agg [.bool (N0.neg (tmI (v * w))), .sl (N0.ln (tmI (v * w))) (N0.lm (tmI (v * w))), .int .i64 (teI (v * w) (f + h))]) ∧ near 60000 (.agg [.bool (N0.neg (tmI (z * u))), .sl (N0.ln (tmI (z * u))) (N0.lm (tmI (z * u))), .int .i64 (teI (z * u) (e + g))]) (.agg [.bool (N0.neg (tmI (z * w))), .sl (N0.ln (tmI (z * w))) (N0.lm (tmI (z * w))), .int .i64 (teI (z * w) (e + h))]) ∧ near 60000 (.agg [.bool (N0.neg (tmI (v * u))), .sl (N0.ln (tmI (v * u))) (N0.lm (tmI (v * u))), .int .i64 (teI (v * u) (f + g))]) (.agg [.bool (N0.neg (tmI (v * w))), .sl (N0.ln (tmI (v * w))) (N0.lm (tmI (v * w))), .int .i64 (teI (v * w) (f + h))]) ∧ canD (.agg [.bool (N0.neg (dmin ((tmI (z * u)), (teI (z * u) (e + g))) ((tmI (z * w)), (teI (z * w) (e + h)))).1), .sl (N0.ln (dmin ((tmI (z * u)), (teI (z * u) (e + g))) ((tmI (z * w)), (teI (z * w) (e + h)))).1) (N0.lm (dmin ((tmI (z * u)), (teI (z * u) (e + g))) ((tmI (z * w)), (teI (z * w) (e + h)))).1), .int .i64 (dmin ((tmI (z * u)), (teI (z * u) (e + g))) ((tmI (z * w)), (teI (z * w) (e + h)))).2]) ∧ canD (.agg [.bool (N0.neg (dmin ((tmI (v * u)), (teI (v * u) (f + g))) ((tmI (v * w)), (teI (v * w) (f + h)))).1), .sl (N0.ln (dmin ((tmI (v * u)), (teI (v * u) (f + g))) ((tmI (v * w)), (teI (v * w) (f + h)))).1) (N0.lm (dmin ((tmI (v * u)), (teI (v * u) (f + g))) ((tmI (v * w)), (teI (v * w) (f + h)))).1), .int .i64 (dmin ((tmI (v * u)), (teI (v * u) (f + g))) ((tmI (v * w)), (teI (v * w) (f + h)))).2]) ∧ near 60000 (.agg [.bool (N0.neg (dmin ((tmI (z * u)), (teI (z * u) (e + g))) ((tmI (z * w)), (teI (z * w) (e + h)))).1), .sl (N0.ln (dmin ((tmI (z * u)), (teI (z * u) (e + g))) ((tmI (z * w)), (teI (z * w) (e + h)))).1) (N0.lm (dmin ((tmI (z * u)), (teI (z * u) (e + g))) ((tmI (z * w)), (teI (z * w) (e + h)))).1), .int .i64 (dmin ((tmI (z * u)), (teI (z * u) (e + g))) ((tmI (z * w)), (teI (z * w) (e + h)))).2]) (.agg [.bool (N0.neg (dmin ((tmI (v * u)), (teI (v * u) (f + g))) ((tmI (v * w)), (teI (v * w) (f + h)))).1), .sl (N0.ln (dmin ((tmI (v * u)), (teI (v * u) (f + g))) ((tmI (v * w)), (teI (v * w) (f + h)))).1) (N0.lm (dmin ((tmI (v * u)), (teI (v * u) (f + g))) ((tmI (v * w)), (teI (v * w) (f + h)))).1), .int .i64 (dmin ((tmI (v * u)), (teI (v * u) (f + g))) ((tmI (v * w)), (teI (v * w) (f + h)))).2]) ∧ canD (.agg [.bool (N0.neg (dmax ((tmI (z * u)), (teI (z * u) (e + g))) ((tmI (z * w)), (teI (z * w) (e + h)))).1), .sl (N0.ln (dmax ((tmI (z * u)), (teI (z * u) (e + g))) ((tmI (z * w)), (teI (z * w) (e + h)))).1) (N0.lm (dmax ((tmI (z * u)), (teI (z * u) (e + g))) ((tmI (z * w)), (teI (z * w) (e + h)))).1), .int .i64 (dmax ((tmI (z * u)), (teI (z * u) (e + g))) ((tmI (z * w)), (teI (z * w) (e + h)))).2]) ∧ canD (.agg [.bool (N0.neg (dmax ((tmI (v * u)), (teI (v * u) (f + g))) ((tmI (v * w)), (teI (v * w) (f + h)))).1), .sl (N0.ln (dmax ((tmI (v * u)), (teI (v * u) (f + g))) ((tmI (v * w)), (teI (v * w) (f + h)))).1) (N0.lm (dmax ((tmI (v * u)), (teI (v * u) (f + g))) ((tmI (v * w)), (teI (v * w) (f + h)))).1), .int .i64 (dmax ((tmI (v * u)), (teI (v * u) (f + g))) ((tmI (v * w)), (teI (v * w) (f + h)))).2]) ∧ near 60000 (.agg [.bool (N0.neg (dmax ((tmI (z * u)), (teI (z * u) (e + g))) ((tmI (z * w)), (teI (z * w) (e + h)))).1), .sl (N0.ln (dmax ((tmI (z * u)), (teI (z * u) (e + g))) ((tmI (z * w)), (teI (z * w) (e + h)))).1) (N0.lm (dmax ((tmI (z * u)), (teI (z * u) (e + g))) ((tmI (z * w)), (teI (z * w) (e + h)))).1), .int .i64 (dmax ((tmI (z * u)), (teI (z * u) (e + g))) ((tmI (z * w)), (teI (z * w) (e + h)))).2]) (.agg [.bool (N0.neg (dmax ((tmI (v * u)), (teI (v * u) (f + g))) ((tmI (v * w)), (teI (v * w) (f + h)))).1), .sl (N0.ln (dmax ((tmI (v * u)), (teI (v * u) (f + g))) ((tmI (v * w)), (teI (v * w) (f + h)))).1) (N0.lm (dmax ((tmI (v * u)), (teI (v * u) (f + g))) ((tmI (v * w)), (teI (v * w) (f + h)))).1), .int .i64 (dmax ((tmI (v * u)), (teI (v * u) (f + g))) ((tmI (v * w)), (teI (v * w) (f + h)))).2]) := by
 have m1 : fD ((tmI (z * u)), (teI (z * u) (e + g))) 8000 30000 := (fD_mul (a := (z, e)) (b := (u, g)) hx.1 hy.1).mono (by omega) (by omega)
 have s1 := (hx.1.1.mul hy.1.1 (Nat.le_refl _)).mono (show 8000 ≤ 100000 by omega)
 have s2 := canD_of (a := ((tmI (z * u)), (teI (z * u) (e + g)))) (mul_n (z, e) (u, g)) m1 (by omega) (by omega)
 have m2 : fD ((tmI (z * w)), (teI (z * w) (e + h))) 8000 30000 := (fD_mul (a := (z, e)) (b := (w, h)) hx.1 hy.2).mono (by omega) (by omega)
 have s3 := (hx.1.1.mul hy.2.1 (Nat.le_refl _)).mono (show 8000 ≤ 100000 by omega)
 have s4 := canD_of (a := ((tmI (z * w)), (teI (z * w) (e + h)))) (mul_n (z, e) (w, h)) m2 (by omega) (by omega)
 have m3 : fD ((tmI (v * u)), (teI (v * u) (f + g))) 8000 30000 := (fD_mul (a := (v, f)) (b := (u, g)) hx.2 hy.1).mono (by omega) (by omega)
 have s5 := (hx.2.1.mul hy.1.1 (Nat.le_refl _)).mono (show 8000 ≤ 100000 by omega)
 have s6 := canD_of (a := ((tmI (v * u)), (teI (v * u) (f + g)))) (mul_n (v, f) (u, g)) m3 (by omega) (by omega)
 have m4 : fD ((tmI (v * w)), (teI (v * w) (f + h))) 8000 30000 := (fD_mul (a := (v, f)) (b := (w, h)) hx.2 hy.2).mono (by omega) (by omega)
 have s7 := (hx.2.1.mul hy.2.1 (Nat.le_refl _)).mono (show 8000 ≤ 100000 by omega)
 have s8 := canD_of (a := ((tmI (v * w)), (teI (v * w) (f + h)))) (mul_n (v, f) (w, h)) m4 (by omega) (by omega)
 have s9 : near 60000 (.agg [.bool (N0.neg (tmI (z * u))), .sl (N0.ln (tmI (z * u))) (N0.lm (tmI (z * u))), .int .i64 (teI (z * u) (e + g))]) (.agg [.bool (N0.neg (tmI (z * w))), .sl (N0.ln (tmI (z * w))) (N0.lm (tmI (z * w))), .int .i64 (teI (z * w) (e + h))]) := near_fD m1 m2
 have s10 : near 60000 (.agg [.bool (N0.neg (tmI (v * u))), .sl (N0.ln (tmI (v * u))) (N0.lm (tmI (v * u))), .int .i64 (teI (v * u) (f + g))]) (.agg [.bool (N0.neg (tmI (v * w))), .sl (N0.ln (tmI (v * w))) (N0.lm (tmI (v * w))), .int .i64 (teI (v * w) (f + h))]) := near_fD m3 m4
 have m5 : fD (dmin ((tmI (z * u)), (teI (z * u) (e + g))) ((tmI (z * w)), (teI (z * w) (e + h)))) 8000 30000 := fD_min m1 m2
 have s11 := canD_of (a := (dmin ((tmI (z * u)), (teI (z * u) (e + g))) ((tmI (z * w)), (teI (z * w) (e + h))))) (dmin_can (mul_n (z, e) (u, g)) (mul_n (z, e) (w, h))) m5 (by omega) (by omega)
 have m6 : fD (dmin ((tmI (v * u)), (teI (v * u) (f + g))) ((tmI (v * w)), (teI (v * w) (f + h)))) 8000 30000 := fD_min m3 m4
 have s12 := canD_of (a := (dmin ((tmI (v * u)), (teI (v * u) (f + g))) ((tmI (v * w)), (teI (v * w) (f + h))))) (dmin_can (mul_n (v, f) (u, g)) (mul_n (v, f) (w, h))) m6 (by omega) (by omega)
 have s13 : near 60000 (.agg [.bool (N0.neg (dmin ((tmI (z * u)), (teI (z * u) (e + g))) ((tmI (z * w)), (teI (z * w) (e + h)))).1), .sl (N0.ln (dmin ((tmI (z * u)), (teI (z * u) (e + g))) ((tmI (z * w)), (teI (z * w) (e + h)))).1) (N0.lm (dmin ((tmI (z * u)), (teI (z * u) (e + g))) ((tmI (z * w)), (teI (z * w) (e + h)))).1), .int .i64 (dmin ((tmI (z * u)), (teI (z * u) (e + g))) ((tmI (z * w)), (teI (z * w) (e + h)))).2]) (.agg [.bool (N0.neg (dmin ((tmI (v * u)), (teI (v * u) (f + g))) ((tmI (v * w)), (teI (v * w) (f + h)))).1), .sl (N0.ln (dmin ((tmI (v * u)), (teI (v * u) (f + g))) ((tmI (v * w)), (teI (v * w) (f + h)))).1) (N0.lm (dmin ((tmI (v * u)), (teI (v * u) (f + g))) ((tmI (v * w)), (teI (v * w) (f + h)))).1), .int .i64 (dmin ((tmI (v * u)), (teI (v * u) (f + g))) ((tmI (v * w)), (teI (v * w) (f + h)))).2]) := near_fD m5 m6
 have m7 : fD (dmax ((tmI (z * u)), (teI (z * u) (e + g))) ((tmI (z * w)), (teI (z * w) (e + h)))) 8000 30000 := fD_max m1 m2
 have s14 := canD_of (a := (dmax ((tmI (z * u)), (teI (z * u) (e + g))) ((tmI (z * w)), (teI (z * w) (e + h))))) (dmax_can (mul_n (z, e) (u, g)) (mul_n (z, e) (w, h))) m7 (by omega) (by omega)
 have m8 : fD (dmax ((tmI (v * u)), (teI (v * u) (f + g))) ((tmI (v * w)), (teI (v * w) (f + h)))) 8000 30000 := fD_max m3 m4
 have s15 := canD_of (a := (dmax ((tmI (v * u)), (teI (v * u) (f + g))) ((tmI (v * w)), (teI (v * w) (f + h))))) (dmax_can (mul_n (v, f) (u, g)) (mul_n (v, f) (w, h))) m8 (by omega) (by omega)
 have s16 : near 60000 (.agg [.bool (N0.neg (dmax ((tmI (z * u)), (teI (z * u) (e + g))) ((tmI (z * w)), (teI (z * w) (e + h)))).1), .sl (N0.ln (dmax ((tmI (z * u)), (teI (z * u) (e + g))) ((tmI (z * w)), (teI (z * w) (e + h)))).1) (N0.lm (dmax ((tmI (z * u)), (teI (z * u) (e + g))) ((tmI (z * w)), (teI (z * w) (e + h)))).1), .int .i64 (dmax ((tmI (z * u)), (teI (z * u) (e + g))) ((tmI (z * w)), (teI (z * w) (e + h)))).2]) (.agg [.bool (N0.neg (dmax ((tmI (v * u)), (teI (v * u) (f + g))) ((tmI (v * w)), (teI (v * w) (f + h)))).1), .sl (N0.ln (dmax ((tmI (v * u)), (teI (v * u) (f + g))) ((tmI (v * w)), (teI (v * w) (f + h)))).1) (N0.lm (dmax ((tmI (v * u)), (teI (v * u) (f + g))) ((tmI (v * w)), (teI (v * w) (f + h)))).1), .int .i64 (dmax ((tmI (v * u)), (teI (v * u) (f + g))) ((tmI (v * w)), (teI (v * w) (f + h)))).2]) := near_fD m7 m8
 exact ⟨s1, s2, s3, s4, s5, s6, s7, s8, s9, s10, s11, s12, s13, s14, s15, s16⟩
theorem yabs_facts {z e v f : Int} (n1 : Dy.n (z, e) = (z, e)) (n2 : Dy.n (v, f) = (v, f)) (hx : fR ((z, e), (v, f)) 19200 20000) : canD (.agg [.bool (N0.neg (tmI (z.natAbs : Nat))), .sl (N0.ln (tmI (z.natAbs : Nat))) (N0.lm (tmI (z.natAbs : Nat))), .int .i64 (teI (z.natAbs : Nat) e)]) ∧ canD (.agg [.bool (N0.neg (tmI (v.natAbs : Nat))), .sl (N0.ln (tmI (v.natAbs : Nat))) (N0.lm (tmI (v.natAbs : Nat))), .int .i64 (teI (v.natAbs : Nat) f)]) ∧ near 60000 (.agg [.bool (N0.neg (tmI (z.natAbs : Nat))), .sl (N0.ln (tmI (z.natAbs : Nat))) (N0.lm (tmI (z.natAbs : Nat))), .int .i64 (teI (z.natAbs : Nat) e)]) (.agg [.bool (N0.neg (tmI (v.natAbs : Nat))), .sl (N0.ln (tmI (v.natAbs : Nat))) (N0.lm (tmI (v.natAbs : Nat))), .int .i64 (teI (v.natAbs : Nat) f)]) := by
 have m1 : fD (Dy.abs (z, e)) 19200 20000 := by rw [abs_can n1]; exact ⟨fit_abs hx.1.1, hx.1.2⟩
 have m2 : fD (Dy.abs (v, f)) 19200 20000 := by rw [abs_can n2]; exact ⟨fit_abs hx.2.1, hx.2.2⟩
 exact ⟨canD_of (abs_n (z, e)) m1 (by omega) (by omega), canD_of (abs_n (v, f)) m2 (by omega) (by omega), near_fD (m1.mono (Nat.le_refl _) (by omega)) (m2.mono (Nat.le_refl _) (by omega))⟩
theorem ymeet_facts {z e v f u g w h : Int} (nX1 : Dy.n (z, e) = (z, e)) (nX2 : Dy.n (v, f) = (v, f)) (nY1 : Dy.n (u, g) = (u, g)) (nY2 : Dy.n (w, h) = (w, h)) (hx : fR ((z, e), (v, f)) 19200 20000) (hy : fR ((u, g), (w, h)) 19200 20000) : canD (.agg [.bool (N0.neg (dmax (z, e) (u, g)).1), .sl (N0.ln (dmax (z, e) (u, g)).1) (N0.lm (dmax (z, e) (u, g)).1), .int .i64 (dmax (z, e) (u, g)).2]) ∧ canD (.agg [.bool (N0.neg (dmin (v, f) (w, h)).1), .sl (N0.ln (dmin (v, f) (w, h)).1) (N0.lm (dmin (v, f) (w, h)).1), .int .i64 (dmin (v, f) (w, h)).2]) ∧ near 60000 (.agg [.bool (N0.neg (dmax (z, e) (u, g)).1), .sl (N0.ln (dmax (z, e) (u, g)).1) (N0.lm (dmax (z, e) (u, g)).1), .int .i64 (dmax (z, e) (u, g)).2]) (.agg [.bool (N0.neg (dmin (v, f) (w, h)).1), .sl (N0.ln (dmin (v, f) (w, h)).1) (N0.lm (dmin (v, f) (w, h)).1), .int .i64 (dmin (v, f) (w, h)).2]) := by
 have m1 := fD_max hx.1 hy.1
 have m2 := fD_min hx.2 hy.2
 exact ⟨canD_of (dmax_can nX1 nY1) m1 (by omega) (by omega), canD_of (dmin_can nX2 nY2) m2 (by omega) (by omega), near_fD (m1.mono (Nat.le_refl _) (by omega)) (m2.mono (Nat.le_refl _) (by omega))⟩
theorem er0_0 {y : Re} (h : er0 y = 0) : ¬zeroY y = true := fun hz => by rw [show er0 y = 11 from if_pos hz] at h; exact absurd h (by decide)
theorem er0_1 {y : Re} (h : ¬er0 y = 0) : zeroY y = true := Classical.byContradiction fun hz => h (if_neg hz)
theorem ydiv_facts {x y : Re} {k : Int} (hx : fR x 640 2000) (hy : fR y 640 2000) (hk : k ≤ 400) (he : er0 y = 0) : rdivZ x y k = rround (rmul x (rinvZ y k)) k ∧ canR (.agg [.bool (N0.neg (rinvZ y k).1.1), .sl (N0.ln (rinvZ y k).1.1) (N0.lm (rinvZ y k).1.1), .int .i64 (rinvZ y k).1.2, .bool (N0.neg (rinvZ y k).2.1), .sl (N0.ln (rinvZ y k).2.1) (N0.lm (rinvZ y k).2.1), .int .i64 (rinvZ y k).2.2]) ∧ fR (rinvZ y k) 4000 8000 ∧ canR (.agg [.bool (N0.neg (rmul x (rinvZ y k)).1.1), .sl (N0.ln (rmul x (rinvZ y k)).1.1) (N0.lm (rmul x (rinvZ y k)).1.1), .int .i64 (rmul x (rinvZ y k)).1.2, .bool (N0.neg (rmul x (rinvZ y k)).2.1), .sl (N0.ln (rmul x (rinvZ y k)).2.1) (N0.lm (rmul x (rinvZ y k)).2.1), .int .i64 (rmul x (rinvZ y k)).2.2]) ∧ fR (rmul x (rinvZ y k)) 8000 10000 ∧ fR x 4000 8000 := by
 have hz := er0_0 he
 have e1 : rinvZ y k = rinv y k := if_neg hz
 have e2 : rdivZ x y k = rdiv x y k := if_neg hz
 rw [e1, e2]
 have f1 := fR_rinv hy hk
 have f2 := fR_rmul hx f1
 exact ⟨rfl, canR_mk (div_n _ _ _ _) (div_n _ _ _ _) (f1.mono (by omega) (by omega)), f1.mono (by omega) (by omega), canR_mk (dmin_can (dmin_can (mul_n _ _) (mul_n _ _)) (dmin_can (mul_n _ _) (mul_n _ _))) (dmax_can (dmax_can (mul_n _ _) (mul_n _ _)) (dmax_can (mul_n _ _) (mul_n _ _))) (f2.mono (by omega) (by omega)), f2.mono (by omega) (by omega), hx.mono (by omega) (by omega)⟩
abbrev G_yExact : Prop := Good Tryz.prog (GWL [0, 1]) N0 100 s_yExact
abbrev G_yReal : Prop := Good Tryz.prog (GWL [0, 1]) N0 92 s_yReal
abbrev G_yMin : Prop := Good Tryz.prog (GWL [0, 1]) N0 97 s_yMin
abbrev G_yMax : Prop := Good Tryz.prog (GWL [0, 1]) N0 96 s_yMax
abbrev G_yEqual : Prop := Good Tryz.prog (GWL [0, 1]) N0 31 s_yEqual
abbrev G_yHas : Prop := Good Tryz.prog (GWL [0, 1]) N0 54 s_yHas
abbrev G_yIn : Prop := Good Tryz.prog (GWL [0, 1]) N0 103 s_yIn
abbrev G_yAdd : Prop := Good Tryz.prog (GWL [0, 1]) N0 106 s_yAdd
theorem goods_ew01 : G_yExact ∧ (G_yExact → G_yReal) ∧ G_yMin ∧ G_yMax ∧ G_yEqual ∧ G_yHas ∧ G_yIn ∧ G_yAdd := by
 refine ⟨?_, ?_, ?_, ?_, ?_, ?_, ?_, ?_⟩
 refine goodM 0 (gc good_qExact gn) Tryz.f100 (by kernel_rfl) (by kernel_rfl) fun ds hp F A Q hF hA hQ => ?_
 obtain ⟨x, rfl, hx, hF1⟩ := sp1_arg hp
 obtain ⟨s, n, cs, e, rfl, hc, he1, he2⟩ := okD_arg hx
 clear hp hx
 rotate_left
 intro good_yExact
 refine goodM 0 (gc good_yExact <| gc good_qCmp gn) Tryz.f92 (by kernel_rfl) (by kernel_rfl) fun ds hp F A Q hF hA hQ => ?_
 clear good_yExact
 obtain ⟨x, rfl, hx, hx4⟩ := sp1_arg hp
 obtain ⟨s, n, cs, e, t, m, es, f, rfl, hc, hn, he1, he2, hc2, hm, hf1, hf2⟩ := okR_arg hx
 obtain ⟨⟨ha1, ha2⟩, hb1, hb2⟩ := hx4
 have kS : Fit (vI s cs) 19200 := (okC_fit hc s).mono (by omega)
 have kT : Fit (vI t es) 19200 := (okC_fit hc2 t).mono (by omega)
 have kS2 : Fit (vI s cs) 100000 := kS.mono (by omega)
 have kT2 : Fit (vI t es) 100000 := kT.mono (by omega)
 have bS := te_in (e := e) (a := -10000) (b := 10000) (c := 29200) kS (by omega) (by omega) (by omega) (by omega) (by decide)
 have bT := te_in (e := f) (a := -10000) (b := 10000) (c := 29200) kT (by omega) (by omega) (by omega) (by omega) (by decide)
 have cS : canD (.agg [.bool (N0.neg (tmI (vI s cs))), .sl (N0.ln (tmI (vI s cs))) (N0.lm (tmI (vI s cs))), .int .i64 (teI (vI s cs) e)]) := canD_N0 (tmI_idem _) (teI_idem _ _) (fit_tm (kS.mono (by omega))) (by omega) (by omega)
 have cT : canD (.agg [.bool (N0.neg (tmI (vI t es))), .sl (N0.ln (tmI (vI t es))) (N0.lm (tmI (vI t es))), .int .i64 (teI (vI t es) f)]) := canD_N0 (tmI_idem _) (teI_idem _ _) (fit_tm (kT.mono (by omega))) (by omega) (by omega)
 clear hp hx
 rotate_left
 refine goodM 0 (gc good_qCmp gn) Tryz.f97 (by kernel_rfl) (by kernel_rfl) fun ds hp F A Q hF hA hQ => ?_
 obtain ⟨x, y, rfl, hx, hy, hnr⟩ := sp2_arg hp
 obtain ⟨z, e, s, n, cs, rfl, hs, hn, hcs, hz, he, hfz, he1, he2⟩ := canD_arg hx
 obtain ⟨v, f, t, m, es, rfl, ht, hm, hes, hv, hf, hfv, hf1, hf2⟩ := canD_arg hy
 clear hp
 rotate_left
 refine goodM 0 (gc good_qCmp gn) Tryz.f96 (by kernel_rfl) (by kernel_rfl) fun ds hp F A Q hF hA hQ => ?_
 obtain ⟨x, y, rfl, hx, hy, hnr⟩ := sp2_arg hp
 obtain ⟨z, e, s, n, cs, rfl, hs, hn, hcs, hz, he, hfz, he1, he2⟩ := canD_arg hx
 obtain ⟨v, f, t, m, es, rfl, ht, hm, hes, hv, hf, hfv, hf1, hf2⟩ := canD_arg hy
 clear hp
 rotate_left
 refine goodM 0 (gc good_qEqual gn) Tryz.f31 (by kernel_rfl) (by kernel_rfl) fun ds hp F A Q hF hA hQ => ?_
 obtain ⟨x, y, rfl, hx, hy⟩ := sp2_arg hp
 obtain ⟨z, e, v, f, s, n, cs, t, m, es, rfl, i1, i2, i3, i4, i5, i6, hz, he, hv, hf, hfz, he1, he2, hfv, hf1, hf2⟩ := canR_arg hx
 have cz : okC (N0.ln z) (N0.lm z) := okC_fitN hfz (by omega)
 have lz : N0.ln z ≤ 600 := ln_fit hfz
 have yz : canD (.agg [.bool (N0.neg z), .sl (N0.ln z) (N0.lm z), .int .i64 e]) := canD_N0 hz he (hfz.mono (by omega)) (by omega) (by omega)
 have cv : okC (N0.ln v) (N0.lm v) := okC_fitN hfv (by omega)
 have lv : N0.ln v ≤ 600 := ln_fit hfv
 have yv : canD (.agg [.bool (N0.neg v), .sl (N0.ln v) (N0.lm v), .int .i64 f]) := canD_N0 hv hf (hfv.mono (by omega)) (by omega) (by omega)
 have nX1 : Dy.n (z, e) = (z, e) := Prod.ext hz he
 have nX2 : Dy.n (v, f) = (v, f) := Prod.ext hv hf
 have fX : fR ((z, e), (v, f)) 19200 20000 := ⟨⟨hfz, he1, he2⟩, hfv, hf1, hf2⟩
 have rX : canR (.agg [.bool (N0.neg z), .sl (N0.ln z) (N0.lm z), .int .i64 e, .bool (N0.neg v), .sl (N0.ln v) (N0.lm v), .int .i64 f]) := canR_mk (r := ((z, e), (v, f))) nX1 nX2 fX
 obtain ⟨u, g, w, h, s2, n2, cs2, t2, m2, es2, rfl, j1, j2, j3, j4, j5, j6, hu, hg, hw, hh, hfu, hg1, hg2, hfw, hh1, hh2⟩ := canR_arg hy
 have cu : okC (N0.ln u) (N0.lm u) := okC_fitN hfu (by omega)
 have lu : N0.ln u ≤ 600 := ln_fit hfu
 have yu : canD (.agg [.bool (N0.neg u), .sl (N0.ln u) (N0.lm u), .int .i64 g]) := canD_N0 hu hg (hfu.mono (by omega)) (by omega) (by omega)
 have cw : okC (N0.ln w) (N0.lm w) := okC_fitN hfw (by omega)
 have lw : N0.ln w ≤ 600 := ln_fit hfw
 have yw : canD (.agg [.bool (N0.neg w), .sl (N0.ln w) (N0.lm w), .int .i64 h]) := canD_N0 hw hh (hfw.mono (by omega)) (by omega) (by omega)
 have nY1 : Dy.n (u, g) = (u, g) := Prod.ext hu hg
 have nY2 : Dy.n (w, h) = (w, h) := Prod.ext hw hh
 have fY : fR ((u, g), (w, h)) 19200 20000 := ⟨⟨hfu, hg1, hg2⟩, hfw, hh1, hh2⟩
 have rY : canR (.agg [.bool (N0.neg u), .sl (N0.ln u) (N0.lm u), .int .i64 g, .bool (N0.neg w), .sl (N0.ln w) (N0.lm w), .int .i64 h]) := canR_mk (r := ((u, g), (w, h))) nY1 nY2 fY
 clear hp hx hy
 rotate_left
 refine goodM 0 (gc good_qCmp gn) Tryz.f54 (by kernel_rfl) (by kernel_rfl) fun ds hp F A Q hF hA hQ => ?_
 obtain ⟨x, y, rfl, hx, hy, hy1, hy2⟩ := sp2_arg hp
 obtain ⟨z, e, v, f, s, n, cs, t, m, es, rfl, i1, i2, i3, i4, i5, i6, hz, he, hv, hf, hfz, he1, he2, hfv, hf1, hf2⟩ := canR_arg hx
 have cz : okC (N0.ln z) (N0.lm z) := okC_fitN hfz (by omega)
 have lz : N0.ln z ≤ 600 := ln_fit hfz
 have yz : canD (.agg [.bool (N0.neg z), .sl (N0.ln z) (N0.lm z), .int .i64 e]) := canD_N0 hz he (hfz.mono (by omega)) (by omega) (by omega)
 have cv : okC (N0.ln v) (N0.lm v) := okC_fitN hfv (by omega)
 have lv : N0.ln v ≤ 600 := ln_fit hfv
 have yv : canD (.agg [.bool (N0.neg v), .sl (N0.ln v) (N0.lm v), .int .i64 f]) := canD_N0 hv hf (hfv.mono (by omega)) (by omega) (by omega)
 have nX1 : Dy.n (z, e) = (z, e) := Prod.ext hz he
 have nX2 : Dy.n (v, f) = (v, f) := Prod.ext hv hf
 have fX : fR ((z, e), (v, f)) 19200 20000 := ⟨⟨hfz, he1, he2⟩, hfv, hf1, hf2⟩
 have rX : canR (.agg [.bool (N0.neg z), .sl (N0.ln z) (N0.lm z), .int .i64 e, .bool (N0.neg v), .sl (N0.ln v) (N0.lm v), .int .i64 f]) := canR_mk (r := ((z, e), (v, f))) nX1 nX2 fX
 obtain ⟨u, g, s, n, cs, rfl, hs, hn, hcs, hu, hg, hfu, hg1, hg2⟩ := canD_arg hy
 replace hy1 : -20000 ≤ g := hy1
 replace hy2 : g ≤ 20000 := hy2
 clear hp hx
 rotate_left
 refine goodM 0 (gc good_qCmp gn) Tryz.f103 (by kernel_rfl) (by kernel_rfl) fun ds hp F A Q hF hA hQ => ?_
 obtain ⟨x, y, rfl, hx, hy⟩ := sp2_arg hp
 obtain ⟨z, e, v, f, s, n, cs, t, m, es, rfl, i1, i2, i3, i4, i5, i6, hz, he, hv, hf, hfz, he1, he2, hfv, hf1, hf2⟩ := canR_arg hx
 have cz : okC (N0.ln z) (N0.lm z) := okC_fitN hfz (by omega)
 have lz : N0.ln z ≤ 600 := ln_fit hfz
 have yz : canD (.agg [.bool (N0.neg z), .sl (N0.ln z) (N0.lm z), .int .i64 e]) := canD_N0 hz he (hfz.mono (by omega)) (by omega) (by omega)
 have cv : okC (N0.ln v) (N0.lm v) := okC_fitN hfv (by omega)
 have lv : N0.ln v ≤ 600 := ln_fit hfv
 have yv : canD (.agg [.bool (N0.neg v), .sl (N0.ln v) (N0.lm v), .int .i64 f]) := canD_N0 hv hf (hfv.mono (by omega)) (by omega) (by omega)
 have nX1 : Dy.n (z, e) = (z, e) := Prod.ext hz he
 have nX2 : Dy.n (v, f) = (v, f) := Prod.ext hv hf
 have fX : fR ((z, e), (v, f)) 19200 20000 := ⟨⟨hfz, he1, he2⟩, hfv, hf1, hf2⟩
 have rX : canR (.agg [.bool (N0.neg z), .sl (N0.ln z) (N0.lm z), .int .i64 e, .bool (N0.neg v), .sl (N0.ln v) (N0.lm v), .int .i64 f]) := canR_mk (r := ((z, e), (v, f))) nX1 nX2 fX
 obtain ⟨u, g, w, h, s2, n2, cs2, t2, m2, es2, rfl, j1, j2, j3, j4, j5, j6, hu, hg, hw, hh, hfu, hg1, hg2, hfw, hh1, hh2⟩ := canR_arg hy
 have cu : okC (N0.ln u) (N0.lm u) := okC_fitN hfu (by omega)
 have lu : N0.ln u ≤ 600 := ln_fit hfu
 have yu : canD (.agg [.bool (N0.neg u), .sl (N0.ln u) (N0.lm u), .int .i64 g]) := canD_N0 hu hg (hfu.mono (by omega)) (by omega) (by omega)
 have cw : okC (N0.ln w) (N0.lm w) := okC_fitN hfw (by omega)
 have lw : N0.ln w ≤ 600 := ln_fit hfw
 have yw : canD (.agg [.bool (N0.neg w), .sl (N0.ln w) (N0.lm w), .int .i64 h]) := canD_N0 hw hh (hfw.mono (by omega)) (by omega) (by omega)
 have nY1 : Dy.n (u, g) = (u, g) := Prod.ext hu hg
 have nY2 : Dy.n (w, h) = (w, h) := Prod.ext hw hh
 have fY : fR ((u, g), (w, h)) 19200 20000 := ⟨⟨hfu, hg1, hg2⟩, hfw, hh1, hh2⟩
 have rY : canR (.agg [.bool (N0.neg u), .sl (N0.ln u) (N0.lm u), .int .i64 g, .bool (N0.neg w), .sl (N0.ln w) (N0.lm w), .int .i64 h]) := canR_mk (r := ((u, g), (w, h))) nY1 nY2 fY
 clear hp hx hy
 rotate_left
 refine goodM 0 (gc good_qAdd gn) Tryz.f106 (by kernel_rfl) (by kernel_rfl) fun ds hp F A Q hF hA hQ => ?_
 obtain ⟨x, y, rfl, hx, hy⟩ := sp2_arg hp
 obtain ⟨z, e, v, f, s, n, cs, t, m, es, rfl, i1, i2, i3, i4, i5, i6, hz, he, hv, hf, hfz, he1, he2, hfv, hf1, hf2⟩ := canR_arg hx
 have cz : okC (N0.ln z) (N0.lm z) := okC_fitN hfz (by omega)
 have lz : N0.ln z ≤ 600 := ln_fit hfz
 have yz : canD (.agg [.bool (N0.neg z), .sl (N0.ln z) (N0.lm z), .int .i64 e]) := canD_N0 hz he (hfz.mono (by omega)) (by omega) (by omega)
 have cv : okC (N0.ln v) (N0.lm v) := okC_fitN hfv (by omega)
 have lv : N0.ln v ≤ 600 := ln_fit hfv
 have yv : canD (.agg [.bool (N0.neg v), .sl (N0.ln v) (N0.lm v), .int .i64 f]) := canD_N0 hv hf (hfv.mono (by omega)) (by omega) (by omega)
 have nX1 : Dy.n (z, e) = (z, e) := Prod.ext hz he
 have nX2 : Dy.n (v, f) = (v, f) := Prod.ext hv hf
 have fX : fR ((z, e), (v, f)) 19200 20000 := ⟨⟨hfz, he1, he2⟩, hfv, hf1, hf2⟩
 have rX : canR (.agg [.bool (N0.neg z), .sl (N0.ln z) (N0.lm z), .int .i64 e, .bool (N0.neg v), .sl (N0.ln v) (N0.lm v), .int .i64 f]) := canR_mk (r := ((z, e), (v, f))) nX1 nX2 fX
 obtain ⟨u, g, w, h, s2, n2, cs2, t2, m2, es2, rfl, j1, j2, j3, j4, j5, j6, hu, hg, hw, hh, hfu, hg1, hg2, hfw, hh1, hh2⟩ := canR_arg hy
 have cu : okC (N0.ln u) (N0.lm u) := okC_fitN hfu (by omega)
 have lu : N0.ln u ≤ 600 := ln_fit hfu
 have yu : canD (.agg [.bool (N0.neg u), .sl (N0.ln u) (N0.lm u), .int .i64 g]) := canD_N0 hu hg (hfu.mono (by omega)) (by omega) (by omega)
 have cw : okC (N0.ln w) (N0.lm w) := okC_fitN hfw (by omega)
 have lw : N0.ln w ≤ 600 := ln_fit hfw
 have yw : canD (.agg [.bool (N0.neg w), .sl (N0.ln w) (N0.lm w), .int .i64 h]) := canD_N0 hw hh (hfw.mono (by omega)) (by omega) (by omega)
 have nY1 : Dy.n (u, g) = (u, g) := Prod.ext hu hg
 have nY2 : Dy.n (w, h) = (w, h) := Prod.ext hw hh
 have fY : fR ((u, g), (w, h)) 19200 20000 := ⟨⟨hfu, hg1, hg2⟩, hfw, hh1, hh2⟩
 have rY : canR (.agg [.bool (N0.neg u), .sl (N0.ln u) (N0.lm u), .int .i64 g, .bool (N0.neg w), .sl (N0.ln w) (N0.lm w), .int .i64 h]) := canR_mk (r := ((u, g), (w, h))) nY1 nY2 fY
 clear hp hx hy
 rotate_left
 all_goals cbv
 all_goals (repeat' (first | with_reducible refine And.intro ?_ ?_ | (with_reducible refine safe_lift hA ?_; kernel_rfl) | (intro hc_; cbv)))
 all_goals (repeat (rw [safe_true hA, true_and]; rotate_left; kernel_rfl))
 all_goals subst hF hA
 all_goals (try subst hs)
 all_goals (try subst hn)
 all_goals (try subst hcs)
 all_goals (try subst ht)
 all_goals (try subst hm)
 all_goals (try subst hes)
 all_goals (try subst i1 i2 i3 i4 i5 i6)
 all_goals (try subst j1 j2 j3 j4 j5 j6)
 all_goals simp only [fnOf, find, std, reduceIte, Nat.reduceEqDiff, sp1, sp2, a1, a2, FnSpec.out, Shape.build, leafs, leafCells, tups, oneOf, List.cons_append, List.nil_append, List.length_cons, List.length_nil, s_yExact, s_qExact, rv_raw, rv_N0, dv, dz, dx, dcn, dm_raw, dm_N0, vI_N0, decide_eq_true_eq, decide_eq_false_iff_not, cmpD_nrm, sameI_N0, beq_dec, pow_if, pow_ev, k1, k1e, re4, min_if, gt_iff_lt, ge_iff_le, Prod.eta, sg_nonpos7, sg_nonneg7, s_yReal, s_qCmp, s_yMin, s_yMax, s_yEqual, s_qEqual, s_yHas, s_yIn, s_yAdd, s_qAdd] at *
 all_goals (repeat' (first
  | with_reducible exact hQ
  | with_reducible assumption
  | with_reducible exact isi_int _ _
  | with_reducible refine okE_mk ?_
  | with_reducible refine okI_mk ?_
  | with_reducible refine okD_mk ?_ ?_ ?_
  | (with_reducible refine near_mk ?_ ?_; (focus omega); (focus omega))
  | with_reducible refine And.intro ?_ ?_
  | omega))
 all_goals first
  | (have hk : ¬cmpD (vI s cs) e (vI t es) f ≤ 0 := by omega
     simp only [rn, if_neg hk, Dy.n] at hQ; exact hQ)
  | (have hk : cmpD (vI s cs) e (vI t es) f ≤ 0 := by omega
     simp only [rn, if_pos hk, Dy.n] at hQ; exact hQ)
  | (simp only [dmin, if_pos hc_] at hQ; exact hQ)
  | (simp only [dmin, if_neg hc_] at hQ; exact hQ)
  | (simp only [dmax, if_pos hc_] at hQ; exact hQ)
  | (simp only [dmax, if_neg hc_] at hQ; exact hQ)
  | exact hQ
  | exact Post.b hQ (and_y (decide_eq_true hc_))
  | exact Post.b hQ (and_n hc_)
  | (refine Post.b hQ ?_; rw [Bool.eq_iff_iff]; (try simp only [Bool.and_eq_true, decide_eq_true_eq, decide_eq_false_iff_not, Bool.not_true, Bool.and_eq_false_imp, Bool.false_eq_true] at hc_); simp only [hasY, inY, cmpY, Bool.and_eq_true, decide_eq_true_eq, decide_eq_false_iff_not, Prod.mk.injEq, Bool.false_eq_true]; (first | (constructor <;> intro k <;> simp_all; done) | (simp_all; done)))
  | fail
theorem good_yExact : G_yExact := goods_ew01.1
theorem good_yReal : G_yReal := goods_ew01.2.1 good_yExact
theorem good_yMin : G_yMin := goods_ew01.2.2.1
theorem good_yMax : G_yMax := goods_ew01.2.2.2.1
theorem good_yEqual : G_yEqual := goods_ew01.2.2.2.2.1
theorem good_yHas : G_yHas := goods_ew01.2.2.2.2.2.1
theorem good_yIn : G_yIn := goods_ew01.2.2.2.2.2.2.1
theorem good_yAdd : G_yAdd := goods_ew01.2.2.2.2.2.2.2
abbrev G_yNeg : Prop := Good Tryz.prog (GWL [0, 1]) N0 24 s_yNeg
abbrev G_ySub : Prop := Good Tryz.prog (GWL [0, 1]) N0 109 s_ySub
abbrev G_yMul : Prop := Good Tryz.prog (GWL [0, 1]) N0 110 s_yMul
abbrev G_yAbs : Prop := Good Tryz.prog (GWL [0, 1]) N0 171 s_yAbs
abbrev G_yPow : Prop := Good Tryz.prog (GWL [0, 1]) N0 113 s_yPow
abbrev G_yInv : Prop := Good Tryz.prog (GWL [0, 1]) N0 177 s_yInv
abbrev G_yRound : Prop := Good Tryz.prog (GWL [0, 1]) N0 128 s_yRound
abbrev G_yDiv : Prop := Good Tryz.prog (GWL [0, 1]) N0 124 s_yDiv
theorem goods_ew02 : G_yNeg ∧ (G_yNeg → G_ySub) ∧ G_yMul ∧ G_yAbs ∧ (G_yAbs → G_yPow) ∧ G_yInv ∧ G_yRound ∧ (G_yMul → G_yInv → G_yRound → G_yDiv) := by
 refine ⟨?_, ?_, ?_, ?_, ?_, ?_, ?_, ?_⟩
 refine goodM 0 (gc good_qNeg gn) Tryz.f24 (by kernel_rfl) (by kernel_rfl) fun ds hp F A Q hF hA hQ => ?_
 obtain ⟨x, rfl, hx⟩ := sp1_arg hp
 obtain ⟨z, e, v, f, s, n, cs, t, m, es, rfl, i1, i2, i3, i4, i5, i6, hz, he, hv, hf, hfz, he1, he2, hfv, hf1, hf2⟩ := canR_arg hx
 have cz : okC (N0.ln z) (N0.lm z) := okC_fitN hfz (by omega)
 have lz : N0.ln z ≤ 600 := ln_fit hfz
 have yz : canD (.agg [.bool (N0.neg z), .sl (N0.ln z) (N0.lm z), .int .i64 e]) := canD_N0 hz he (hfz.mono (by omega)) (by omega) (by omega)
 have cv : okC (N0.ln v) (N0.lm v) := okC_fitN hfv (by omega)
 have lv : N0.ln v ≤ 600 := ln_fit hfv
 have yv : canD (.agg [.bool (N0.neg v), .sl (N0.ln v) (N0.lm v), .int .i64 f]) := canD_N0 hv hf (hfv.mono (by omega)) (by omega) (by omega)
 have nX1 : Dy.n (z, e) = (z, e) := Prod.ext hz he
 have nX2 : Dy.n (v, f) = (v, f) := Prod.ext hv hf
 have fX : fR ((z, e), (v, f)) 19200 20000 := ⟨⟨hfz, he1, he2⟩, hfv, hf1, hf2⟩
 have rX : canR (.agg [.bool (N0.neg z), .sl (N0.ln z) (N0.lm z), .int .i64 e, .bool (N0.neg v), .sl (N0.ln v) (N0.lm v), .int .i64 f]) := canR_mk (r := ((z, e), (v, f))) nX1 nX2 fX
 clear hp hx
 rotate_left
 intro good_yNeg
 refine goodM 0 (gc good_yNeg <| gc good_yAdd gn) Tryz.f109 (by kernel_rfl) (by kernel_rfl) fun ds hp F A Q hF hA hQ => ?_
 clear good_yNeg
 obtain ⟨x, y, rfl, hx, hy⟩ := sp2_arg hp
 obtain ⟨z, e, v, f, s, n, cs, t, m, es, rfl, i1, i2, i3, i4, i5, i6, hz, he, hv, hf, hfz, he1, he2, hfv, hf1, hf2⟩ := canR_arg hx
 have cz : okC (N0.ln z) (N0.lm z) := okC_fitN hfz (by omega)
 have lz : N0.ln z ≤ 600 := ln_fit hfz
 have yz : canD (.agg [.bool (N0.neg z), .sl (N0.ln z) (N0.lm z), .int .i64 e]) := canD_N0 hz he (hfz.mono (by omega)) (by omega) (by omega)
 have cv : okC (N0.ln v) (N0.lm v) := okC_fitN hfv (by omega)
 have lv : N0.ln v ≤ 600 := ln_fit hfv
 have yv : canD (.agg [.bool (N0.neg v), .sl (N0.ln v) (N0.lm v), .int .i64 f]) := canD_N0 hv hf (hfv.mono (by omega)) (by omega) (by omega)
 have nX1 : Dy.n (z, e) = (z, e) := Prod.ext hz he
 have nX2 : Dy.n (v, f) = (v, f) := Prod.ext hv hf
 have fX : fR ((z, e), (v, f)) 19200 20000 := ⟨⟨hfz, he1, he2⟩, hfv, hf1, hf2⟩
 have rX : canR (.agg [.bool (N0.neg z), .sl (N0.ln z) (N0.lm z), .int .i64 e, .bool (N0.neg v), .sl (N0.ln v) (N0.lm v), .int .i64 f]) := canR_mk (r := ((z, e), (v, f))) nX1 nX2 fX
 obtain ⟨u, g, w, h, s2, n2, cs2, t2, m2, es2, rfl, j1, j2, j3, j4, j5, j6, hu, hg, hw, hh, hfu, hg1, hg2, hfw, hh1, hh2⟩ := canR_arg hy
 have cu : okC (N0.ln u) (N0.lm u) := okC_fitN hfu (by omega)
 have lu : N0.ln u ≤ 600 := ln_fit hfu
 have yu : canD (.agg [.bool (N0.neg u), .sl (N0.ln u) (N0.lm u), .int .i64 g]) := canD_N0 hu hg (hfu.mono (by omega)) (by omega) (by omega)
 have cw : okC (N0.ln w) (N0.lm w) := okC_fitN hfw (by omega)
 have lw : N0.ln w ≤ 600 := ln_fit hfw
 have yw : canD (.agg [.bool (N0.neg w), .sl (N0.ln w) (N0.lm w), .int .i64 h]) := canD_N0 hw hh (hfw.mono (by omega)) (by omega) (by omega)
 have nY1 : Dy.n (u, g) = (u, g) := Prod.ext hu hg
 have nY2 : Dy.n (w, h) = (w, h) := Prod.ext hw hh
 have fY : fR ((u, g), (w, h)) 19200 20000 := ⟨⟨hfu, hg1, hg2⟩, hfw, hh1, hh2⟩
 have rY : canR (.agg [.bool (N0.neg u), .sl (N0.ln u) (N0.lm u), .int .i64 g, .bool (N0.neg w), .sl (N0.ln w) (N0.lm w), .int .i64 h]) := canR_mk (r := ((u, g), (w, h))) nY1 nY2 fY
 clear hp hx hy
 rotate_left
 refine goodM 0 (gc good_qMul <| gc good_yMin <| gc good_yMax gn) Tryz.f110 (by kernel_rfl) (by kernel_rfl) fun ds hp F A Q hF hA hQ => ?_
 obtain ⟨x, y, rfl, ⟨hx, hxf⟩, hy, hyf⟩ := sp2_arg hp
 obtain ⟨z, e, v, f, s, n, cs, t, m, es, rfl, i1, i2, i3, i4, i5, i6, hz, he, hv, hf, hfz, he1, he2, hfv, hf1, hf2⟩ := canR_arg hx
 have cz : okC (N0.ln z) (N0.lm z) := okC_fitN hfz (by omega)
 have lz : N0.ln z ≤ 600 := ln_fit hfz
 have yz : canD (.agg [.bool (N0.neg z), .sl (N0.ln z) (N0.lm z), .int .i64 e]) := canD_N0 hz he (hfz.mono (by omega)) (by omega) (by omega)
 have cv : okC (N0.ln v) (N0.lm v) := okC_fitN hfv (by omega)
 have lv : N0.ln v ≤ 600 := ln_fit hfv
 have yv : canD (.agg [.bool (N0.neg v), .sl (N0.ln v) (N0.lm v), .int .i64 f]) := canD_N0 hv hf (hfv.mono (by omega)) (by omega) (by omega)
 have nX1 : Dy.n (z, e) = (z, e) := Prod.ext hz he
 have nX2 : Dy.n (v, f) = (v, f) := Prod.ext hv hf
 have fX : fR ((z, e), (v, f)) 19200 20000 := ⟨⟨hfz, he1, he2⟩, hfv, hf1, hf2⟩
 have rX : canR (.agg [.bool (N0.neg z), .sl (N0.ln z) (N0.lm z), .int .i64 e, .bool (N0.neg v), .sl (N0.ln v) (N0.lm v), .int .i64 f]) := canR_mk (r := ((z, e), (v, f))) nX1 nX2 fX
 obtain ⟨u, g, w, h, s2, n2, cs2, t2, m2, es2, rfl, j1, j2, j3, j4, j5, j6, hu, hg, hw, hh, hfu, hg1, hg2, hfw, hh1, hh2⟩ := canR_arg hy
 have cu : okC (N0.ln u) (N0.lm u) := okC_fitN hfu (by omega)
 have lu : N0.ln u ≤ 600 := ln_fit hfu
 have yu : canD (.agg [.bool (N0.neg u), .sl (N0.ln u) (N0.lm u), .int .i64 g]) := canD_N0 hu hg (hfu.mono (by omega)) (by omega) (by omega)
 have cw : okC (N0.ln w) (N0.lm w) := okC_fitN hfw (by omega)
 have lw : N0.ln w ≤ 600 := ln_fit hfw
 have yw : canD (.agg [.bool (N0.neg w), .sl (N0.ln w) (N0.lm w), .int .i64 h]) := canD_N0 hw hh (hfw.mono (by omega)) (by omega) (by omega)
 have nY1 : Dy.n (u, g) = (u, g) := Prod.ext hu hg
 have nY2 : Dy.n (w, h) = (w, h) := Prod.ext hw hh
 have fY : fR ((u, g), (w, h)) 19200 20000 := ⟨⟨hfu, hg1, hg2⟩, hfw, hh1, hh2⟩
 have rY : canR (.agg [.bool (N0.neg u), .sl (N0.ln u) (N0.lm u), .int .i64 g, .bool (N0.neg w), .sl (N0.ln w) (N0.lm w), .int .i64 h]) := canR_mk (r := ((u, g), (w, h))) nY1 nY2 fY
 clear hp hx hy
 rotate_left
 refine goodM 0 (gc good_qAbs <| gc good_qSign <| gc good_yMax <| gc good_yMin gn) Tryz.f171 (by kernel_rfl) (by kernel_rfl) fun ds hp F A Q hF hA hQ => ?_
 obtain ⟨x, rfl, hx⟩ := sp1_arg hp
 obtain ⟨z, e, v, f, s, n, cs, t, m, es, rfl, i1, i2, i3, i4, i5, i6, hz, he, hv, hf, hfz, he1, he2, hfv, hf1, hf2⟩ := canR_arg hx
 have cz : okC (N0.ln z) (N0.lm z) := okC_fitN hfz (by omega)
 have lz : N0.ln z ≤ 600 := ln_fit hfz
 have yz : canD (.agg [.bool (N0.neg z), .sl (N0.ln z) (N0.lm z), .int .i64 e]) := canD_N0 hz he (hfz.mono (by omega)) (by omega) (by omega)
 have cv : okC (N0.ln v) (N0.lm v) := okC_fitN hfv (by omega)
 have lv : N0.ln v ≤ 600 := ln_fit hfv
 have yv : canD (.agg [.bool (N0.neg v), .sl (N0.ln v) (N0.lm v), .int .i64 f]) := canD_N0 hv hf (hfv.mono (by omega)) (by omega) (by omega)
 have nX1 : Dy.n (z, e) = (z, e) := Prod.ext hz he
 have nX2 : Dy.n (v, f) = (v, f) := Prod.ext hv hf
 have fX : fR ((z, e), (v, f)) 19200 20000 := ⟨⟨hfz, he1, he2⟩, hfv, hf1, hf2⟩
 have rX : canR (.agg [.bool (N0.neg z), .sl (N0.ln z) (N0.lm z), .int .i64 e, .bool (N0.neg v), .sl (N0.ln v) (N0.lm v), .int .i64 f]) := canR_mk (r := ((z, e), (v, f))) nX1 nX2 fX
 clear hp hx
 rotate_left
 intro good_yAbs
 refine goodM 0 (gc good_yAbs <| gc good_qPow gn) Tryz.f113 (by kernel_rfl) (by kernel_rfl) fun ds hp F A Q hF hA hQ => ?_
 clear good_yAbs
 obtain ⟨x, y, rfl, hx, hxf, hy⟩ := sp2_arg hp
 obtain ⟨z, e, v, f, s, n, cs, t, m, es, rfl, i1, i2, i3, i4, i5, i6, hz, he, hv, hf, hfz, he1, he2, hfv, hf1, hf2⟩ := canR_arg hx
 have cz : okC (N0.ln z) (N0.lm z) := okC_fitN hfz (by omega)
 have lz : N0.ln z ≤ 600 := ln_fit hfz
 have yz : canD (.agg [.bool (N0.neg z), .sl (N0.ln z) (N0.lm z), .int .i64 e]) := canD_N0 hz he (hfz.mono (by omega)) (by omega) (by omega)
 have cv : okC (N0.ln v) (N0.lm v) := okC_fitN hfv (by omega)
 have lv : N0.ln v ≤ 600 := ln_fit hfv
 have yv : canD (.agg [.bool (N0.neg v), .sl (N0.ln v) (N0.lm v), .int .i64 f]) := canD_N0 hv hf (hfv.mono (by omega)) (by omega) (by omega)
 have nX1 : Dy.n (z, e) = (z, e) := Prod.ext hz he
 have nX2 : Dy.n (v, f) = (v, f) := Prod.ext hv hf
 have fX : fR ((z, e), (v, f)) 19200 20000 := ⟨⟨hfz, he1, he2⟩, hfv, hf1, hf2⟩
 have rX : canR (.agg [.bool (N0.neg z), .sl (N0.ln z) (N0.lm z), .int .i64 e, .bool (N0.neg v), .sl (N0.ln v) (N0.lm v), .int .i64 f]) := canR_mk (r := ((z, e), (v, f))) nX1 nX2 fX
 obtain ⟨k, rfl⟩ := isi_arg hy
 clear hp hx hy
 rotate_left
 refine goodM 0 (gc good_qSign <| gc good_qOf <| gc good_rqDiv gn) Tryz.f177 (by kernel_rfl) (by kernel_rfl) fun ds hp F A Q hF hA hQ => ?_
 obtain ⟨x, y, rfl, ⟨hx, hxf⟩, hy, hk⟩ := sp2_arg hp
 obtain ⟨z, e, v, f, s, n, cs, t, m, es, rfl, i1, i2, i3, i4, i5, i6, hz, he, hv, hf, hfz, he1, he2, hfv, hf1, hf2⟩ := canR_arg hx
 have cz : okC (N0.ln z) (N0.lm z) := okC_fitN hfz (by omega)
 have lz : N0.ln z ≤ 600 := ln_fit hfz
 have yz : canD (.agg [.bool (N0.neg z), .sl (N0.ln z) (N0.lm z), .int .i64 e]) := canD_N0 hz he (hfz.mono (by omega)) (by omega) (by omega)
 have cv : okC (N0.ln v) (N0.lm v) := okC_fitN hfv (by omega)
 have lv : N0.ln v ≤ 600 := ln_fit hfv
 have yv : canD (.agg [.bool (N0.neg v), .sl (N0.ln v) (N0.lm v), .int .i64 f]) := canD_N0 hv hf (hfv.mono (by omega)) (by omega) (by omega)
 have nX1 : Dy.n (z, e) = (z, e) := Prod.ext hz he
 have nX2 : Dy.n (v, f) = (v, f) := Prod.ext hv hf
 have fX : fR ((z, e), (v, f)) 19200 20000 := ⟨⟨hfz, he1, he2⟩, hfv, hf1, hf2⟩
 have rX : canR (.agg [.bool (N0.neg z), .sl (N0.ln z) (N0.lm z), .int .i64 e, .bool (N0.neg v), .sl (N0.ln v) (N0.lm v), .int .i64 f]) := canR_mk (r := ((z, e), (v, f))) nX1 nX2 fX
 obtain ⟨k, rfl⟩ := isi_arg hy
 clear hp hx hy
 rotate_left
 refine goodM 0 (gc good_qTo gn) Tryz.f128 (by kernel_rfl) (by kernel_rfl) fun ds hp F A Q hF hA hQ => ?_
 obtain ⟨x, y, rfl, ⟨hx, hxf⟩, hy⟩ := sp2_arg hp
 obtain ⟨z, e, v, f, s, n, cs, t, m, es, rfl, i1, i2, i3, i4, i5, i6, hz, he, hv, hf, hfz, he1, he2, hfv, hf1, hf2⟩ := canR_arg hx
 have cz : okC (N0.ln z) (N0.lm z) := okC_fitN hfz (by omega)
 have lz : N0.ln z ≤ 600 := ln_fit hfz
 have yz : canD (.agg [.bool (N0.neg z), .sl (N0.ln z) (N0.lm z), .int .i64 e]) := canD_N0 hz he (hfz.mono (by omega)) (by omega) (by omega)
 have cv : okC (N0.ln v) (N0.lm v) := okC_fitN hfv (by omega)
 have lv : N0.ln v ≤ 600 := ln_fit hfv
 have yv : canD (.agg [.bool (N0.neg v), .sl (N0.ln v) (N0.lm v), .int .i64 f]) := canD_N0 hv hf (hfv.mono (by omega)) (by omega) (by omega)
 have nX1 : Dy.n (z, e) = (z, e) := Prod.ext hz he
 have nX2 : Dy.n (v, f) = (v, f) := Prod.ext hv hf
 have fX : fR ((z, e), (v, f)) 19200 20000 := ⟨⟨hfz, he1, he2⟩, hfv, hf1, hf2⟩
 have rX : canR (.agg [.bool (N0.neg z), .sl (N0.ln z) (N0.lm z), .int .i64 e, .bool (N0.neg v), .sl (N0.ln v) (N0.lm v), .int .i64 f]) := canR_mk (r := ((z, e), (v, f))) nX1 nX2 fX
 obtain ⟨k, rfl⟩ := isi_arg hy
 clear hp hx hy
 rotate_left
 intro good_yMul good_yInv good_yRound
 refine goodM 0 (gc good_yInv <| gc good_yMul <| gc good_yRound gn) Tryz.f124 (by kernel_rfl) (by kernel_rfl) fun ds hp F A Q hF hA hQ => ?_
 clear good_yMul good_yInv good_yRound
 obtain ⟨x, y, k, rfl, ⟨hx, hxf⟩, ⟨hy, hyf⟩, hk⟩ := ydiv_arg hp
 obtain ⟨z, e, v, f, s, n, cs, t, m, es, rfl, i1, i2, i3, i4, i5, i6, hz, he, hv, hf, hfz, he1, he2, hfv, hf1, hf2⟩ := canR_arg hx
 have cz : okC (N0.ln z) (N0.lm z) := okC_fitN hfz (by omega)
 have lz : N0.ln z ≤ 600 := ln_fit hfz
 have yz : canD (.agg [.bool (N0.neg z), .sl (N0.ln z) (N0.lm z), .int .i64 e]) := canD_N0 hz he (hfz.mono (by omega)) (by omega) (by omega)
 have cv : okC (N0.ln v) (N0.lm v) := okC_fitN hfv (by omega)
 have lv : N0.ln v ≤ 600 := ln_fit hfv
 have yv : canD (.agg [.bool (N0.neg v), .sl (N0.ln v) (N0.lm v), .int .i64 f]) := canD_N0 hv hf (hfv.mono (by omega)) (by omega) (by omega)
 have nX1 : Dy.n (z, e) = (z, e) := Prod.ext hz he
 have nX2 : Dy.n (v, f) = (v, f) := Prod.ext hv hf
 have fX : fR ((z, e), (v, f)) 19200 20000 := ⟨⟨hfz, he1, he2⟩, hfv, hf1, hf2⟩
 have rX : canR (.agg [.bool (N0.neg z), .sl (N0.ln z) (N0.lm z), .int .i64 e, .bool (N0.neg v), .sl (N0.ln v) (N0.lm v), .int .i64 f]) := canR_mk (r := ((z, e), (v, f))) nX1 nX2 fX
 obtain ⟨u, g, w, h, s2, n2, cs2, t2, m2, es2, rfl, j1, j2, j3, j4, j5, j6, hu, hg, hw, hh, hfu, hg1, hg2, hfw, hh1, hh2⟩ := canR_arg hy
 have cu : okC (N0.ln u) (N0.lm u) := okC_fitN hfu (by omega)
 have lu : N0.ln u ≤ 600 := ln_fit hfu
 have yu : canD (.agg [.bool (N0.neg u), .sl (N0.ln u) (N0.lm u), .int .i64 g]) := canD_N0 hu hg (hfu.mono (by omega)) (by omega) (by omega)
 have cw : okC (N0.ln w) (N0.lm w) := okC_fitN hfw (by omega)
 have lw : N0.ln w ≤ 600 := ln_fit hfw
 have yw : canD (.agg [.bool (N0.neg w), .sl (N0.ln w) (N0.lm w), .int .i64 h]) := canD_N0 hw hh (hfw.mono (by omega)) (by omega) (by omega)
 have nY1 : Dy.n (u, g) = (u, g) := Prod.ext hu hg
 have nY2 : Dy.n (w, h) = (w, h) := Prod.ext hw hh
 have fY : fR ((u, g), (w, h)) 19200 20000 := ⟨⟨hfu, hg1, hg2⟩, hfw, hh1, hh2⟩
 have rY : canR (.agg [.bool (N0.neg u), .sl (N0.ln u) (N0.lm u), .int .i64 g, .bool (N0.neg w), .sl (N0.ln w) (N0.lm w), .int .i64 h]) := canR_mk (r := ((u, g), (w, h))) nY1 nY2 fY
 clear hp hx hy
 rotate_left
 all_goals cbv
 all_goals (repeat' (first | with_reducible refine And.intro ?_ ?_ | (with_reducible refine safe_lift hA ?_; kernel_rfl) | (intro hc_; cbv)))
 all_goals (repeat (rw [safe_true hA, true_and]; rotate_left; kernel_rfl))
 all_goals subst hF hA
 all_goals (try subst i1 i2 i3 i4 i5 i6)
 all_goals (try subst j1 j2 j3 j4 j5 j6)
 all_goals simp only [fnOf, find, std, reduceIte, Nat.reduceEqDiff, sp1, sp2, a1, a2, FnSpec.out, Shape.build, leafs, leafCells, tups, oneOf, List.cons_append, List.nil_append, List.length_cons, List.length_nil, s_yNeg, s_qNeg, rv_raw, rv_N0, dv, dz, dx, dcn, dm_raw, dm_N0, vI_N0, decide_eq_true_eq, decide_eq_false_iff_not, cmpD_nrm, sameI_N0, beq_dec, pow_if, pow_ev, k1, k1e, re4, min_if, gt_iff_lt, ge_iff_le, Prod.eta, sg_nonpos7, sg_nonneg7, s_ySub, s_yAdd, s_yMul, s_qMul, s_yMin, s_yMax, s_yAbs, s_qAbs, s_qSign, s_yPow, s_qPow, s_yInv, s_qOf, s_rqDiv, s_yRound, s_qTo, s_yDiv] at *
 all_goals (try (have g_ := ymul_facts hxf hyf; obtain ⟨s1, s2, s3, s4, s5, s6, s7, s8, s9, s10, s11, s12, s13, s14, s15, s16⟩ := g_))
 all_goals (try (have g_ := yabs_facts nX1 nX2 fX; obtain ⟨s1, s2, s3⟩ := g_))
 all_goals (try (have g_ := ypow_facts hxf; obtain ⟨s1, s2, s3, s4, ⟨s5, s6⟩, s7, s8⟩ := g_))
 all_goals (try (have l1 : N0.ln z ≤ 40 := ln_fit hxf.1.1))
 all_goals (try (have l2 : N0.ln v ≤ 40 := ln_fit hxf.2.1))
 all_goals (try (have b1 := hxf.1.2))
 all_goals (try (have b2 := hxf.2.2))
 all_goals (try (have f1 : Fit z 700 := hxf.1.1.mono (by omega)))
 all_goals (try (have f2 : Fit v 700 := hxf.2.1.mono (by omega)))
 all_goals (try (have f3 := fit_1k 700 (by omega)))
 all_goals (try (have f4 := canD_N0 (e := 0) k1 (k1e 0) fit_1 (by decide) (by decide)))
 all_goals (try (dsimp only at b1 b2))
 all_goals (try (have f1 : Fit z 9000 := hxf.1.1.mono (by omega)))
 all_goals (try (have f2 : Fit v 9000 := hxf.2.1.mono (by omega)))
 all_goals (try (first
  | (have he0 : er0 ((u, g), (w, h)) = 0 := by first | (simpa using hc_; done) | fail
     obtain ⟨s1, s2, s3, s4, s5, s6⟩ := ydiv_facts hxf hyf hk he0)
  | skip
  | fail))
 all_goals (repeat' (first
  | with_reducible exact hQ
  | with_reducible assumption
  | with_reducible exact isi_int _ _
  | with_reducible refine okE_mk ?_
  | with_reducible refine okI_mk ?_
  | with_reducible refine okD_mk ?_ ?_ ?_
  | (with_reducible refine near_mk ?_ ?_; (focus omega); (focus omega))
  | with_reducible refine And.intro ?_ ?_
  | omega))
 all_goals first
  | exact hQ
  | exact canR_neg nY1 nY2 fY
  | exact Post.r hQ rfl
  | (have hr : rabs ((z, e), (v, f)) = ((0, 0), dmax (Dy.abs (z, e)) (Dy.abs (v, f))) := if_pos ⟨by assumption, hc_⟩
     simp only [hr, N0_neg0, N0_ln0, N0_lm0] at hQ; exact hQ)
  | (have hr : rabs ((z, e), (v, f)) = (dmin (Dy.abs (z, e)) (Dy.abs (v, f)), dmax (Dy.abs (z, e)) (Dy.abs (v, f))) := if_neg (by first | exact fun k => absurd k.2 hc_ | exact fun k => absurd k.1 (of_decide_eq_false hc_))
     simp only [hr] at hQ; exact hQ)
  | (have hr : rpow ((z, e), (v, f)) (powN k) = (Dy.pow (rabs ((z, e), (v, f))).1 (powN k), Dy.pow (rabs ((z, e), (v, f))).2 (powN k)) := if_pos hc_
     simp only [hr] at hQ; exact hQ)
  | (have hr : rpow ((z, e), (v, f)) (powN k) = (Dy.pow (z, e) (powN k), Dy.pow (v, f) (powN k)) := if_neg hc_
     simp only [hr] at hQ; exact hQ)
  | (have hz : zeroY ((z, e), (v, f)) = true := by show (decide _ && decide _) = true; rw [Bool.and_eq_true]; exact ⟨decide_eq_true (by assumption), decide_eq_true hc_⟩
     have h1 : rinvZ ((z, e), (v, f)) k = ((0, 0), (0, 0)) := if_pos hz
     have h2 : er0 ((z, e), (v, f)) = 11 := if_pos hz
     simp only [h1, h2, N0_neg0, N0_ln0, N0_lm0] at hQ; exact hQ)
  | (have hz : ¬zeroY ((z, e), (v, f)) = true := by
      show ¬(decide _ && decide _) = true; rw [Bool.and_eq_true]; (first | exact fun k => hc_ (of_decide_eq_true k.2) | exact fun k => by rw [hc_] at k; exact absurd k.1 (by decide))
     have h1 : rinvZ ((z, e), (v, f)) k = rinv ((z, e), (v, f)) k := if_neg hz
     have h2 : er0 ((z, e), (v, f)) = 0 := if_neg hz
     simp only [h1, h2] at hQ; exact hQ)
  | (simp only [s1, he0] at hQ; exact hQ)
  | (have hz := er0_1 (y := ((u, g), (w, h))) (by simpa using hc_)
     have hr : rdivZ ((z, e), (v, f)) ((u, g), (w, h)) k = ((0, 0), (0, 0)) := if_pos hz
     simp only [hr, N0_neg0, N0_ln0, N0_lm0] at hQ; exact hQ)
  | fail
theorem good_yNeg : G_yNeg := goods_ew02.1
theorem good_ySub : G_ySub := goods_ew02.2.1 good_yNeg
theorem good_yMul : G_yMul := goods_ew02.2.2.1
theorem good_yAbs : G_yAbs := goods_ew02.2.2.2.1
theorem good_yPow : G_yPow := goods_ew02.2.2.2.2.1 good_yAbs
theorem good_yInv : G_yInv := goods_ew02.2.2.2.2.2.1
theorem good_yRound : G_yRound := goods_ew02.2.2.2.2.2.2.1
abbrev G_yHull : Prop := Good Tryz.prog (GWL [0, 1]) N0 35 s_yHull
abbrev G_yMeet : Prop := Good Tryz.prog (GWL [0, 1]) N0 14 s_yMeet
theorem goods_ew03 : G_yHull ∧ G_yMeet := by
 refine ⟨?_, ?_⟩
 refine goodM 0 (gc good_yMin <| gc good_yMax gn) Tryz.f35 (by kernel_rfl) (by kernel_rfl) fun ds hp F A Q hF hA hQ => ?_
 obtain ⟨x, y, rfl, hx, hy⟩ := sp2_arg hp
 obtain ⟨z, e, v, f, s, n, cs, t, m, es, rfl, i1, i2, i3, i4, i5, i6, hz, he, hv, hf, hfz, he1, he2, hfv, hf1, hf2⟩ := canR_arg hx
 have cz : okC (N0.ln z) (N0.lm z) := okC_fitN hfz (by omega)
 have lz : N0.ln z ≤ 600 := ln_fit hfz
 have yz : canD (.agg [.bool (N0.neg z), .sl (N0.ln z) (N0.lm z), .int .i64 e]) := canD_N0 hz he (hfz.mono (by omega)) (by omega) (by omega)
 have cv : okC (N0.ln v) (N0.lm v) := okC_fitN hfv (by omega)
 have lv : N0.ln v ≤ 600 := ln_fit hfv
 have yv : canD (.agg [.bool (N0.neg v), .sl (N0.ln v) (N0.lm v), .int .i64 f]) := canD_N0 hv hf (hfv.mono (by omega)) (by omega) (by omega)
 have nX1 : Dy.n (z, e) = (z, e) := Prod.ext hz he
 have nX2 : Dy.n (v, f) = (v, f) := Prod.ext hv hf
 have fX : fR ((z, e), (v, f)) 19200 20000 := ⟨⟨hfz, he1, he2⟩, hfv, hf1, hf2⟩
 have rX : canR (.agg [.bool (N0.neg z), .sl (N0.ln z) (N0.lm z), .int .i64 e, .bool (N0.neg v), .sl (N0.ln v) (N0.lm v), .int .i64 f]) := canR_mk (r := ((z, e), (v, f))) nX1 nX2 fX
 obtain ⟨u, g, w, h, s2, n2, cs2, t2, m2, es2, rfl, j1, j2, j3, j4, j5, j6, hu, hg, hw, hh, hfu, hg1, hg2, hfw, hh1, hh2⟩ := canR_arg hy
 have cu : okC (N0.ln u) (N0.lm u) := okC_fitN hfu (by omega)
 have lu : N0.ln u ≤ 600 := ln_fit hfu
 have yu : canD (.agg [.bool (N0.neg u), .sl (N0.ln u) (N0.lm u), .int .i64 g]) := canD_N0 hu hg (hfu.mono (by omega)) (by omega) (by omega)
 have cw : okC (N0.ln w) (N0.lm w) := okC_fitN hfw (by omega)
 have lw : N0.ln w ≤ 600 := ln_fit hfw
 have yw : canD (.agg [.bool (N0.neg w), .sl (N0.ln w) (N0.lm w), .int .i64 h]) := canD_N0 hw hh (hfw.mono (by omega)) (by omega) (by omega)
 have nY1 : Dy.n (u, g) = (u, g) := Prod.ext hu hg
 have nY2 : Dy.n (w, h) = (w, h) := Prod.ext hw hh
 have fY : fR ((u, g), (w, h)) 19200 20000 := ⟨⟨hfu, hg1, hg2⟩, hfw, hh1, hh2⟩
 have rY : canR (.agg [.bool (N0.neg u), .sl (N0.ln u) (N0.lm u), .int .i64 g, .bool (N0.neg w), .sl (N0.ln w) (N0.lm w), .int .i64 h]) := canR_mk (r := ((u, g), (w, h))) nY1 nY2 fY
 clear hp hx hy
 rotate_left
 refine goodM 0 (gc good_yMin <| gc good_yMax <| gc good_qCmp gn) Tryz.f14 (by kernel_rfl) (by kernel_rfl) fun ds hp F A Q hF hA hQ => ?_
 obtain ⟨x, y, rfl, hx, hy⟩ := sp2_arg hp
 obtain ⟨z, e, v, f, s, n, cs, t, m, es, rfl, i1, i2, i3, i4, i5, i6, hz, he, hv, hf, hfz, he1, he2, hfv, hf1, hf2⟩ := canR_arg hx
 have cz : okC (N0.ln z) (N0.lm z) := okC_fitN hfz (by omega)
 have lz : N0.ln z ≤ 600 := ln_fit hfz
 have yz : canD (.agg [.bool (N0.neg z), .sl (N0.ln z) (N0.lm z), .int .i64 e]) := canD_N0 hz he (hfz.mono (by omega)) (by omega) (by omega)
 have cv : okC (N0.ln v) (N0.lm v) := okC_fitN hfv (by omega)
 have lv : N0.ln v ≤ 600 := ln_fit hfv
 have yv : canD (.agg [.bool (N0.neg v), .sl (N0.ln v) (N0.lm v), .int .i64 f]) := canD_N0 hv hf (hfv.mono (by omega)) (by omega) (by omega)
 have nX1 : Dy.n (z, e) = (z, e) := Prod.ext hz he
 have nX2 : Dy.n (v, f) = (v, f) := Prod.ext hv hf
 have fX : fR ((z, e), (v, f)) 19200 20000 := ⟨⟨hfz, he1, he2⟩, hfv, hf1, hf2⟩
 have rX : canR (.agg [.bool (N0.neg z), .sl (N0.ln z) (N0.lm z), .int .i64 e, .bool (N0.neg v), .sl (N0.ln v) (N0.lm v), .int .i64 f]) := canR_mk (r := ((z, e), (v, f))) nX1 nX2 fX
 obtain ⟨u, g, w, h, s2, n2, cs2, t2, m2, es2, rfl, j1, j2, j3, j4, j5, j6, hu, hg, hw, hh, hfu, hg1, hg2, hfw, hh1, hh2⟩ := canR_arg hy
 have cu : okC (N0.ln u) (N0.lm u) := okC_fitN hfu (by omega)
 have lu : N0.ln u ≤ 600 := ln_fit hfu
 have yu : canD (.agg [.bool (N0.neg u), .sl (N0.ln u) (N0.lm u), .int .i64 g]) := canD_N0 hu hg (hfu.mono (by omega)) (by omega) (by omega)
 have cw : okC (N0.ln w) (N0.lm w) := okC_fitN hfw (by omega)
 have lw : N0.ln w ≤ 600 := ln_fit hfw
 have yw : canD (.agg [.bool (N0.neg w), .sl (N0.ln w) (N0.lm w), .int .i64 h]) := canD_N0 hw hh (hfw.mono (by omega)) (by omega) (by omega)
 have nY1 : Dy.n (u, g) = (u, g) := Prod.ext hu hg
 have nY2 : Dy.n (w, h) = (w, h) := Prod.ext hw hh
 have fY : fR ((u, g), (w, h)) 19200 20000 := ⟨⟨hfu, hg1, hg2⟩, hfw, hh1, hh2⟩
 have rY : canR (.agg [.bool (N0.neg u), .sl (N0.ln u) (N0.lm u), .int .i64 g, .bool (N0.neg w), .sl (N0.ln w) (N0.lm w), .int .i64 h]) := canR_mk (r := ((u, g), (w, h))) nY1 nY2 fY
 clear hp hx hy
 rotate_left
 all_goals cbv
 all_goals (repeat' (first | with_reducible refine And.intro ?_ ?_ | (with_reducible refine safe_lift hA ?_; kernel_rfl) | (intro hc_; cbv)))
 all_goals (repeat (rw [safe_true hA, true_and]; rotate_left; kernel_rfl))
 all_goals subst hF hA
 all_goals (try subst i1 i2 i3 i4 i5 i6)
 all_goals (try subst j1 j2 j3 j4 j5 j6)
 all_goals simp only [fnOf, find, std, reduceIte, Nat.reduceEqDiff, sp1, sp2, a1, a2, FnSpec.out, Shape.build, leafs, leafCells, tups, oneOf, List.cons_append, List.nil_append, List.length_cons, List.length_nil, s_yHull, s_yMin, s_yMax, rv_raw, rv_N0, dv, dz, dx, dcn, dm_raw, dm_N0, vI_N0, decide_eq_true_eq, decide_eq_false_iff_not, cmpD_nrm, sameI_N0, beq_dec, pow_if, pow_ev, k1, k1e, re4, min_if, gt_iff_lt, ge_iff_le, Prod.eta, sg_nonpos7, sg_nonneg7, s_yMeet, s_qCmp] at *
 all_goals (try (have g_ := ymeet_facts nX1 nX2 nY1 nY2 fX fY; obtain ⟨s1, s2, s3⟩ := g_))
 all_goals (repeat' (first
  | with_reducible exact hQ
  | with_reducible assumption
  | with_reducible exact isi_int _ _
  | with_reducible refine okE_mk ?_
  | with_reducible refine okI_mk ?_
  | with_reducible refine okD_mk ?_ ?_ ?_
  | (with_reducible refine near_mk ?_ ?_; (focus omega); (focus omega))
  | with_reducible refine And.intro ?_ ?_
  | omega))
 all_goals first
  | exact hQ
  | (have hm : meetY ((z, e), (v, f)) ((u, g), (w, h)) = false := decide_eq_false (by show ¬cmpD (dmax (z, e) (u, g)).1 (dmax (z, e) (u, g)).2 (dmin (v, f) (w, h)).1 (dmin (v, f) (w, h)).2 ≤ 0; omega)
     have hr : rmeetZ ((z, e), (v, f)) ((u, g), (w, h)) = ((0, 0), (0, 0)) := if_neg (by rw [hm]; decide)
     simp only [hm, hr, N0_neg0, N0_ln0, N0_lm0] at hQ; exact hQ)
  | (have hm : meetY ((z, e), (v, f)) ((u, g), (w, h)) = true := decide_eq_true (by show cmpD (dmax (z, e) (u, g)).1 (dmax (z, e) (u, g)).2 (dmin (v, f) (w, h)).1 (dmin (v, f) (w, h)).2 ≤ 0; omega)
     have hr : rmeetZ ((z, e), (v, f)) ((u, g), (w, h)) = (dmax (z, e) (u, g), dmin (v, f) (w, h)) := if_pos hm
     simp only [hm, hr] at hQ; exact hQ)
  | fail
theorem good_yHull : G_yHull := goods_ew03.1
theorem good_yMeet : G_yMeet := goods_ew03.2
end Go.Proofs.YtkfojbelnemhbaaGreatDoor.Ev
