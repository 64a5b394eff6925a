import Derived.Test.YtkfojbelnemhbaaGreatDoorGu
set_option maxHeartbeats 16000000
set_option maxRecDepth 100000
set_option linter.all false
namespace Go.Proofs.YtkfojbelnemhbaaGreatDoor.Ev
open Go Go.RowKit
def oif {α : Type} (X : Re) (a b : α) : α := if cmpD X.1.1 X.1.2 X.2.1 X.2.2 ≤ 0 then a else b
def lif {α : Type} (X Y : Dy) (a b : α) : α := if 0 < cmpD X.1 X.2 Y.1 Y.2 then b else a
def gif {α : Type} (X Y : Dy) (a b : α) : α := if cmpD X.1 X.2 Y.1 Y.2 < 0 then b else a
theorem cmp_raw {X Y : Dy} (h : 0 < cmpD X.1 X.2 Y.1 Y.2) : dmin X Y = Y := by unfold dmin; rw [if_neg (by omega)]
theorem cmp_raw2 {X Y : Dy} (h : ¬0 < cmpD X.1 X.2 Y.1 Y.2) : dmin X Y = X := by unfold dmin; rw [if_pos (by omega)]
theorem cmp_raw3 {X Y : Dy} (h : cmpD X.1 X.2 Y.1 Y.2 < 0) : dmax X Y = Y := by unfold dmax; rw [if_neg (by omega)]
theorem cmp_raw4 {X Y : Dy} (h : ¬cmpD X.1 X.2 Y.1 Y.2 < 0) : dmax X Y = X := by unfold dmax; rw [if_pos (by omega)]
theorem ord_pick {s t : Bool} {n m : Nat} {cs es : List D} {e f : Int} (h : okS n cs e) (k : okS m es f) :
  ∃ s1 n1 c1 e1 t1 m1 d1 f1, oif ((vI s cs, e), (vI t es, f)) s t = s1 ∧ oif ((vI s cs, e), (vI t es, f)) n m = n1 ∧ oif ((vI s cs, e), (vI t es, f)) cs es = c1 ∧ oif ((vI s cs, e), (vI t es, f)) e f = e1 ∧
   oif ((vI s cs, e), (vI t es, f)) t s = t1 ∧ oif ((vI s cs, e), (vI t es, f)) m n = m1 ∧ oif ((vI s cs, e), (vI t es, f)) es cs = d1 ∧ oif ((vI s cs, e), (vI t es, f)) f e = f1 ∧
   ro ((vI s cs, e), (vI t es, f)) = ((vI s1 c1, e1), (vI t1 d1, f1)) ∧ okC n1 c1 ∧ n1 ≤ 600 ∧ -50000 ≤ e1 ∧ e1 ≤ 50000 ∧ okC m1 d1 ∧ m1 ≤ 600 ∧ -50000 ≤ f1 ∧ f1 ≤ 50000 ∧
   rn ((vI s1 c1, e1), (vI t1 d1, f1)) = rn ((vI s cs, e), (vI t es, f)) ∧ ro ((vI s1 c1, e1), (vI t1 d1, f1)) = ((vI s1 c1, e1), (vI t1 d1, f1)) ∧ (∀ K, n ≤ K → m ≤ K → n1 ≤ K ∧ m1 ≤ K) ∧ (∀ K : Int, -K ≤ e → e ≤ K → -K ≤ f → f ≤ K → (-K ≤ e1 ∧ e1 ≤ K) ∧ -K ≤ f1 ∧ f1 ≤ K) := by
 refine ⟨_, _, _, _, _, _, _, _, rfl, rfl, rfl, rfl, rfl, rfl, rfl, rfl, ?_⟩
 have hro := ro_ok ((vI s cs, e), (vI t es, f))
 have hid := ro_id hro
 have hrn : rn (ro ((vI s cs, e), (vI t es, f))) = rn ((vI s cs, e), (vI t es, f)) := by rw [rn_ro, hid, ← rn_ro]
 unfold oif
 have e0 : ro ((vI s cs, e), (vI t es, f)) = if cmpD (vI s cs) e (vI t es) f ≤ 0 then ((vI s cs, e), (vI t es, f)) else ((vI t es, f), (vI s cs, e)) := rfl
 rw [e0] at hid hrn ⊢
 by_cases hc : cmpD (vI s cs) e (vI t es) f ≤ 0
 ·simp only [if_pos hc] at hid hrn ⊢
  exact ⟨trivial, h.1, h.2.1, h.2.2.1, h.2.2.2, k.1, k.2.1, k.2.2.1, k.2.2.2, trivial, hid, fun K a b => ⟨a, b⟩, fun K a b c d => ⟨⟨a, b⟩, c, d⟩⟩
 ·simp only [if_neg hc] at hid hrn ⊢
  exact ⟨trivial, k.1, k.2.1, k.2.2.1, k.2.2.2, h.1, h.2.1, h.2.2.1, h.2.2.2, hrn, hid, fun K a b => ⟨b, a⟩, fun K a b c d => ⟨⟨c, d⟩, a, b⟩⟩
theorem less_pick {s t : Bool} {n m : Nat} {cs es : List D} {e f : Int} (h : okS n cs e) (k : okS m es f) :
  ∃ s1 n1 c1 e1, lif (vI s cs, e) (vI t es, f) s t = s1 ∧ lif (vI s cs, e) (vI t es, f) n m = n1 ∧ lif (vI s cs, e) (vI t es, f) cs es = c1 ∧ lif (vI s cs, e) (vI t es, f) e f = e1 ∧
   dmin (vI s cs, e) (vI t es, f) = (vI s1 c1, e1) ∧ okC n1 c1 ∧ n1 ≤ 600 ∧ -50000 ≤ e1 ∧ e1 ≤ 50000 := by
 refine ⟨_, _, _, _, rfl, rfl, rfl, rfl, ?_⟩
 unfold lif
 by_cases hc : 0 < cmpD (vI s cs, e).1 (vI s cs, e).2 (vI t es, f).1 (vI t es, f).2
 ·simp only [if_pos hc]
  exact ⟨cmp_raw hc, k⟩
 ·simp only [if_neg hc]
  exact ⟨cmp_raw2 hc, h⟩
theorem more_pick {s t : Bool} {n m : Nat} {cs es : List D} {e f : Int} (h : okS n cs e) (k : okS m es f) :
  ∃ s1 n1 c1 e1, gif (vI s cs, e) (vI t es, f) s t = s1 ∧ gif (vI s cs, e) (vI t es, f) n m = n1 ∧ gif (vI s cs, e) (vI t es, f) cs es = c1 ∧ gif (vI s cs, e) (vI t es, f) e f = e1 ∧
   dmax (vI s cs, e) (vI t es, f) = (vI s1 c1, e1) ∧ okC n1 c1 ∧ n1 ≤ 600 ∧ -50000 ≤ e1 ∧ e1 ≤ 50000 := by
 refine ⟨_, _, _, _, rfl, rfl, rfl, rfl, ?_⟩
 unfold gif
 by_cases hc : cmpD (vI s cs, e).1 (vI s cs, e).2 (vI t es, f).1 (vI t es, f).2 < 0
 ·simp only [if_pos hc]
  exact ⟨cmp_raw3 hc, k⟩
 ·simp only [if_neg hc]
  exact ⟨cmp_raw4 hc, h⟩
theorem lif_neg (a e b f : Int) : lif (a, e) (b, f) (N0.neg a) (N0.neg b) = N0.neg (dmin (a, e) (b, f)).1 := by
 unfold lif; split
 ·rw [cmp_raw (by assumption)]
 ·rw [cmp_raw2 (by assumption)]
theorem lif_ln (a e b f : Int) : lif (a, e) (b, f) (N0.ln a) (N0.ln b) = N0.ln (dmin (a, e) (b, f)).1 := by
 unfold lif; split
 ·rw [cmp_raw (by assumption)]
 ·rw [cmp_raw2 (by assumption)]
theorem lif_lm (a e b f : Int) : lif (a, e) (b, f) (N0.lm a) (N0.lm b) = N0.lm (dmin (a, e) (b, f)).1 := by
 unfold lif; split
 ·rw [cmp_raw (by assumption)]
 ·rw [cmp_raw2 (by assumption)]
theorem lif_e (a e b f : Int) : lif (a, e) (b, f) e f = (dmin (a, e) (b, f)).2 := by
 unfold lif; split
 ·rw [cmp_raw (by assumption)]
 ·rw [cmp_raw2 (by assumption)]
theorem gif_neg (a e b f : Int) : gif (a, e) (b, f) (N0.neg a) (N0.neg b) = N0.neg (dmax (a, e) (b, f)).1 := by
 unfold gif; split
 ·rw [cmp_raw3 (by assumption)]
 ·rw [cmp_raw4 (by assumption)]
theorem gif_ln (a e b f : Int) : gif (a, e) (b, f) (N0.ln a) (N0.ln b) = N0.ln (dmax (a, e) (b, f)).1 := by
 unfold gif; split
 ·rw [cmp_raw3 (by assumption)]
 ·rw [cmp_raw4 (by assumption)]
theorem gif_lm (a e b f : Int) : gif (a, e) (b, f) (N0.lm a) (N0.lm b) = N0.lm (dmax (a, e) (b, f)).1 := by
 unfold gif; split
 ·rw [cmp_raw3 (by assumption)]
 ·rw [cmp_raw4 (by assumption)]
theorem gif_e (a e b f : Int) : gif (a, e) (b, f) e f = (dmax (a, e) (b, f)).2 := by
 unfold gif; split
 ·rw [cmp_raw3 (by assumption)]
 ·rw [cmp_raw4 (by assumption)]
def s_eOrd : FnSpec := ⟨.agg [.R, .i .i64, .R, .i .i64], fun ds => match ds with | [x] => okR x | _ => False,
 a1 0 fun x i => raw6 0 (fun s n cs e t m es f => match i with | 1 => oif ((vI s cs, e), (vI t es, f)) e f | _ => oif ((vI s cs, e), (vI t es, f)) f e) x,
 a1 false fun x i => raw6 false (fun s n cs e t m es f => match i with | 0 => oif ((vI s cs, e), (vI t es, f)) s t | _ => oif ((vI s cs, e), (vI t es, f)) t s) x,
 a1 0 fun x i => raw6 0 (fun s n cs e t m es f => match i with | 0 => oif ((vI s cs, e), (vI t es, f)) n m | _ => oif ((vI s cs, e), (vI t es, f)) m n) x,
 a1 [] fun x i => raw6 [] (fun s n cs e t m es f => match i with | 0 => oif ((vI s cs, e), (vI t es, f)) cs es | _ => oif ((vI s cs, e), (vI t es, f)) es cs) x⟩
def s_eLess : FnSpec := pick2 lif
def s_eMore : FnSpec := pick2 gif
theorem pick_arg {pk : ∀ {α : Type}, Dy → Dy → α → α → α} {ds : List D} (h : (pick2 pk).p ds) : ∃ x y, ds = [x, y] ∧ okT x ∧ okT y := by
 match ds, h with
 | [x, y], h => exact ⟨x, y, rfl, h⟩
theorem ord_arg {ds : List D} (h : s_eOrd.p ds) : ∃ x, ds = [x] ∧ okR x := by
 match ds, h with
 | [x], h => exact ⟨x, rfl, h⟩
def s_eTold : FnSpec := sp2 (.agg [.I, .i .i64, .I, .i .i64]) (fun x y => okT x ∧ okT y) (fun x y i => re4 ((dv x).n, (dv y).n) i) (fun _ _ _ => false)
def s_eIs : FnSpec := sp1 (.one .b) okR (fun _ _ => 0) (fun x _ => decide (cmpD (rv x).1.1 (rv x).1.2 (rv x).2.1 (rv x).2.2 ≤ 0))
def s_eOf : FnSpec := sp1 (.agg [.I, .i .i64, .I, .i .i64]) okT (fun x i => re4 ((dv x).n, (dv x).n) i) (fun _ _ => false)
def s_eHas : FnSpec := sp2 (.one .b) (fun x y => okR x ∧ okT y) (fun _ _ _ => 0) (fun x y _ => hasB (rv x) (dv y))
def s_eIn : FnSpec := sp2 (.one .b) (fun x y => okR x ∧ okR y) (fun _ _ _ => 0) (fun x y _ => inB (rv x) (rv y))
def s_eSame : FnSpec := sp2 (.one .b) (fun x y => okR x ∧ okR y) (fun _ _ _ => 0) (fun x y _ => decide (rn (rv x) = rn (rv y)))
def s_eHull : FnSpec := sp2 (.agg [.I, .i .i64, .I, .i .i64]) (fun x y => okR x ∧ okR y) (fun x y i => re4 (rhull (rn (rv x)) (rn (rv y))) i) (fun _ _ _ => false)
def s_eMeet : FnSpec := sp2 (.tup [(true, [.I, .i .i64, .I, .i .i64]), (false, [.b])]) (fun x y => okR x ∧ okR y) (fun x y i => re4 (rmeetZ (rn (rv x)) (rn (rv y))) i) (fun x y _ => meetB (rv x) (rv y))
def s_eRound : FnSpec := sp2 (.agg [.I, .i .i64, .I, .i .i64]) (fun x y => okR x ∧ isi .i64 y) (fun x y i => re4 (rround (rn (rv x)) (dz y)) i) (fun _ _ _ => false)
def s_eAdd : FnSpec := sp2 (.agg [.I, .i .i64, .I, .i .i64]) (fun x y => okR x ∧ okR y) (fun x y i => re4 (radd (rn (rv x)) (rn (rv y))) i) (fun _ _ _ => false)
def s_eSub : FnSpec := sp2 (.agg [.I, .i .i64, .I, .i .i64]) (fun x y => okR x ∧ okR y) (fun x y i => re4 (rsub (rn (rv x)) (rn (rv y))) i) (fun _ _ _ => false)
def s_eNeg : FnSpec := sp1 (.agg [.I, .i .i64, .I, .i .i64]) okR (fun x i => re4 (rneg (rn (rv x))) i) (fun _ _ => false)
def s_eSide : FnSpec := sp1 (.one (.i .i64)) okR (fun x _ => sideZ (rv x)) (fun _ _ => false)
def s_eEnd : FnSpec := ⟨.agg [.R, .i .i64], fun ds => match ds with | [x, y] => okR x ∧ isi .i64 y | _ => False,
 a2 0 fun x y _ => raw6 0 (fun s n cs e t m es f => if dz y = 0 then e else f) x,
 a2 false fun x y _ => raw6 false (fun s n cs e t m es f => if dz y = 0 then s else t) x,
 a2 0 fun x y _ => raw6 0 (fun s n cs e t m es f => if dz y = 0 then n else m) x,
 a2 [] fun x y _ => raw6 [] (fun s n cs e t m es f => if dz y = 0 then cs else es) x⟩
theorem end_arg {ds : List D} (h : s_eEnd.p ds) : ∃ x i, ds = [x, .int .i64 i] ∧ okR x := by
 match ds, h with
 | [x, y], h =>
  obtain ⟨i, rfl⟩ := isi_arg h.2
  exact ⟨x, i, rfl, h.1⟩
def cx (x : D) : Int := match x with | .agg [.int _ i, .int _ _] => i | _ => 0
def cy (x : D) : Int := match x with | .agg [.int _ _, .int _ j] => j | _ => 0
theorem isC_arg {x : D} (h : isC x) : ∃ i j, x = .agg [.int .i64 i, .int .i64 j] ∧ (0 ≤ i ∧ i ≤ 1) ∧ 0 ≤ j ∧ j ≤ 1 := by
 unfold isC at h
 split at h
 ·exact ⟨_, _, rfl, h⟩
 ·exact h.elim
def s_eOpp : FnSpec := sp1 (.agg [.i .i64, .i .i64]) isC (fun x i => match i with | 0 => 1 - cx x | _ => 1 - cy x) (fun _ _ => false)
def s_eProd : FnSpec := ⟨.agg [.I, .i .i64], fun ds => match ds with | [x, y, c] => okR x ∧ okR y ∧ isC c | _ => False,
 fun ds i => match ds with | [x, y, c] => (match i with | 0 => (crn (rv x) (rv y) (cx c) (cy c)).1 | _ => (crn (rv x) (rv y) (cx c) (cy c)).2) | _ => 0, fun _ _ => false, fun _ _ => 0, fun _ _ => []⟩
theorem prod_arg {ds : List D} (h : s_eProd.p ds) : ∃ x y c, ds = [x, y, c] ∧ okR x ∧ okR y ∧ isC c := by
 match ds, h with
 | [x, y, c], h => exact ⟨x, y, c, rfl, h⟩
def s_eAbs : FnSpec := sp1 (.agg [.I, .i .i64, .I, .i .i64]) (fun x => okR x ∧ few30 x) (fun x i => re4 (rabs (rn (rv x))) i) (fun _ _ => false)
def s_eSquare : FnSpec := sp1 (.agg [.I, .i .i64, .I, .i .i64]) (fun x => okR x ∧ few30 x) (fun x i => re4 (rpow (rn (rv x)) 2) i) (fun _ _ => false)
theorem meetY_rn (X Y : Re) : meetY (rn X) (rn Y) = meetB X Y := rfl
theorem zeroY_rn (X : Re) : zeroY (rn X) = zeroB X := rfl
theorem not_zero {X : Re} (h : ¬zeroY (rn X) = true) : 0 < qv (rn X).1 ∨ qv (rn X).2 < 0 := no_zero (by rw [← zeroY_rn]; simpa using h)
theorem rmeetZ_y {X Y : Re} (h : meetB X Y = true) : rmeetZ (rn X) (rn Y) = rmeet (rn X) (rn Y) := if_pos h
theorem rmeetZ_n {X Y : Re} (h : meetB X Y = false) : rmeetZ (rn X) (rn Y) = ((0, 0), (0, 0)) := if_neg (by rw [meetY_rn, h]; decide)
theorem tab_is (x y : Re) (k : Nat) : ([1, 1, 0, 0, 0, 1, 0, 0, 0, 1, 1, 0, 1, 0, 0, 0, 1, 0, 1, 1, 0, 1, 1, 1, 1, 0, 0, 1, 1, 0, 1, 1, 0, 0, 1, 1] : List Int).getD (0 + (sideZ x).toNat * 12 + (sideZ y).toNat * 4 + k) 0 = tabZ x y k := by
 unfold tabZ; rw [Nat.zero_add]; rfl
theorem side_rng (x : Re) : 0 ≤ sideZ x ∧ sideZ x ≤ 2 := by
 rcases sideZ_cases x with ⟨h, _⟩ | ⟨h, _⟩ | ⟨h, _⟩ <;> rw [h] <;> decide
theorem tab_rng (x y : Re) : ((0 ≤ tabZ x y 0 ∧ tabZ x y 0 ≤ 1) ∧ 0 ≤ tabZ x y 1 ∧ tabZ x y 1 ≤ 1) ∧ (0 ≤ tabZ x y 2 ∧ tabZ x y 2 ≤ 1) ∧ 0 ≤ tabZ x y 3 ∧ tabZ x y 3 ≤ 1 := by
 unfold tabZ
 rcases sideZ_cases x with ⟨h, _⟩ | ⟨h, _⟩ | ⟨h, _⟩ <;> rcases sideZ_cases y with ⟨k, _⟩ | ⟨k, _⟩ | ⟨k, _⟩ <;> rw [h, k] <;> decide
theorem tab_mid {x y : Re} (h : sideZ x = 1) (k : sideZ y = 1) : tabZ x y 0 = 1 ∧ tabZ x y 1 = 0 ∧ tabZ x y 2 = 1 ∧ tabZ x y 3 = 1 := by
 unfold tabZ; rw [h, k]; decide
theorem crn_fD {x y : Re} (hx : fR x 9568 15000) (hy : fR y 9568 15000) (i j : Int) : fD (crn x y i j) 19200 50000 := by
 unfold crn endZ
 split <;> split
 ·exact (fD_mul hx.1 hy.1).mono (by omega) (by omega)
 ·exact (fD_mul hx.1 hy.2).mono (by omega) (by omega)
 ·exact (fD_mul hx.2 hy.1).mono (by omega) (by omega)
 ·exact (fD_mul hx.2 hy.2).mono (by omega) (by omega)
theorem side_2 {x : Re} (h : sideZ x = 2) : 0 ≤ x.1.1 := by
 unfold sideZ at h; split at h
 ·assumption
 ·split at h <;> exact absurd h (by decide)
theorem side_n2 {x : Re} (h : ¬sideZ x = 2) : ¬0 ≤ x.1.1 := fun k => h (if_pos k)
theorem side_0 {x : Re} (h : sideZ x = 0) : x.2.1 ≤ 0 := by
 unfold sideZ at h; split at h
 ·exact absurd h (by decide)
 ·split at h
  ·assumption
  ·exact absurd h (by decide)
theorem side_n0 {x : Re} (h : ¬sideZ x = 2) (k : ¬sideZ x = 0) : ¬x.2.1 ≤ 0 := fun l => k (by unfold sideZ; rw [if_neg (side_n2 h), if_pos l])
theorem beq_ne {a b : Int} (h : (a == b) = false) : ¬a = b := fun k => by rw [k] at h; simp at h
theorem abs_okT {a : Dy} {k B : Nat} (h : fD a k B) (hk : k + B ≤ 50000) (hk2 : k ≤ 19200) : okT (.agg [.bool (N0.neg (tmI (a.1.natAbs : Nat))), .sl (N0.ln (tmI (a.1.natAbs : Nat))) (N0.lm (tmI (a.1.natAbs : Nat))), .int .i64 (teI (a.1.natAbs : Nat) a.2)]) :=
 okT_fD (a := a.abs) ((fD_abs h).mono hk2 (by omega))
theorem fR_abs30 {x : Re} (h : fR x 19200 30000) : fR (rabs (rn x)) 19200 90000 := (fR_rabs (fR_rn h)).mono (by omega) (by omega)
theorem div_nn (b : Dy) (p md : Int) : Dy.div (1, 0) b.n p md = Dy.div (1, 0) b p md := by
 unfold Dy.div Dy.n
 dsimp only
 by_cases hb : b.1 = 0
 ·simp only [hb, tmI_zero, teI_zero, qm_zY]
 ·have h1 := fun E => qm_nrm (X := 1) (e := 0) (Y := b.1) (f := b.2) (E := E) (mode := md) (by decide) hb
  have h2 := topD_nrm (X := 1) (e := 0) (Y := b.1) (f := b.2) (by decide) hb
  rw [k1, k1e] at h2
  have hE : qE 1 0 (tmI b.1) (teI b.1 b.2) p = qE 1 0 b.1 b.2 p := by unfold qE; rw [h2]
  rw [hE]
  have h3 := h1 (qE 1 0 b.1 b.2 p)
  rw [k1, k1e] at h3
  rw [h3]
theorem e_inv (x : Re) (p : Int) : rinv (rn x) p = (Dy.div (1, 0) (ro x).2 p 0, Dy.div (1, 0) (ro x).1 p 1) := by
 rw [rn_ro]; unfold rinv; simp only [div_nn]
theorem okT_0 : okT (.agg [.bool (N0.neg 0), .sl (N0.ln 0) (N0.lm 0), .int .i64 0]) := okT_fD (a := (0, 0)) (fD_zero _ _)
theorem okD_1 : okD (.agg [.bool (N0.neg 1), .sl (N0.ln 1) (N0.lm 1), .int .i64 0]) := okD_fD (a := (1, 0)) (k := 640) (fD_one.mono (Nat.le_refl _) (by omega)) (by omega)
theorem ln_1 : N0.ln 1 ≤ 5000 := Nat.le_trans (ln_fit (n := 20) fD_one.1) (by omega)
abbrev G_eIs : Prop := Good Tryz.prog (GWL [0, 1]) N0 161 s_eIs
abbrev G_eOrd : Prop := Good Tryz.prog (GWL [0, 1]) N0 162 s_eOrd
abbrev G_eLess : Prop := Good Tryz.prog (GWL [0, 1]) N0 164 s_eLess
abbrev G_eMore : Prop := Good Tryz.prog (GWL [0, 1]) N0 163 s_eMore
abbrev G_eTold : Prop := Good Tryz.prog (GWL [0, 1]) N0 165 s_eTold
abbrev G_eOf : Prop := Good Tryz.prog (GWL [0, 1]) N0 121 s_eOf
theorem goods_ew11 : G_eIs ∧ (G_eIs → G_eOrd) ∧ G_eLess ∧ G_eMore ∧ G_eTold ∧ (G_eTold → G_eOf) := by
 refine ⟨?_, ?_, ?_, ?_, ?_, ?_⟩
 refine goodM 0 (gc good_dCmp gn) Tryz.f161 (by kernel_rfl) (by kernel_rfl) fun ds hp F A Q hF hA hQ => ?_
 obtain ⟨x, rfl, hx⟩ := sp1_arg hp
 obtain ⟨s, n, cs, e, t, m, es, f, rfl, hc, hn, he1, he2, hc2, hm, hf1, hf2⟩ := okR_arg hx
 clear hp hx
 rotate_left
 intro good_eIs
 refine goodM 0 (gc good_eIs gn) Tryz.f162 (by kernel_rfl) (by kernel_rfl) fun ds hp F A Q hF hA hQ => ?_
 clear good_eIs
 obtain ⟨x, rfl, hx⟩ := ord_arg hp
 obtain ⟨s, n, cs, e, t, m, es, f, rfl, hc, hn, he1, he2, hc2, hm, hf1, hf2⟩ := okR_arg hx
 clear hp hx
 rotate_left
 refine goodM 0 (gc good_dCmp gn) Tryz.f164 (by kernel_rfl) (by kernel_rfl) fun ds hp F A Q hF hA hQ => ?_
 obtain ⟨x, y, rfl, hx, hy⟩ := pick_arg hp
 obtain ⟨s, n, cs, e, rfl, hc, hn, he1, he2⟩ := okT_arg hx
 obtain ⟨t, m, es, f, rfl, hc2, hm, hf1, hf2⟩ := okT_arg hy
 clear hp hx hy
 rotate_left
 refine goodM 0 (gc good_dCmp gn) Tryz.f163 (by kernel_rfl) (by kernel_rfl) fun ds hp F A Q hF hA hQ => ?_
 obtain ⟨x, y, rfl, hx, hy⟩ := pick_arg hp
 obtain ⟨s, n, cs, e, rfl, hc, hn, he1, he2⟩ := okT_arg hx
 obtain ⟨t, m, es, f, rfl, hc2, hm, hf1, hf2⟩ := okT_arg hy
 clear hp hx hy
 rotate_left
 refine goodM 0 (gc good_dScale gn) Tryz.f165 (by kernel_rfl) (by kernel_rfl) fun ds hp F A Q hF hA hQ => ?_
 obtain ⟨x, y, rfl, hx, hy⟩ := sp2_arg hp
 obtain ⟨s, n, cs, e, rfl, hc, hn, he1, he2⟩ := okT_arg hx
 obtain ⟨t, m, es, f, rfl, hc2, hm, hf1, hf2⟩ := okT_arg hy
 clear hp hx hy
 rotate_left
 intro good_eTold
 refine goodM 0 (gc good_eTold gn) Tryz.f121 (by kernel_rfl) (by kernel_rfl) fun ds hp F A Q hF hA hQ => ?_
 clear good_eTold
 obtain ⟨x, rfl, hx⟩ := sp1_arg hp
 obtain ⟨s, n, cs, e, rfl, hc, hn, he1, he2⟩ := okT_arg hx
 clear hp hx
 rotate_left
 all_goals cbv
 all_goals (repeat' (first | with_reducible refine And.intro ?_ ?_ | (with_reducible refine safe_lift hA ?_; kernel_rfl) | (intro hc_; cbv)))
 all_goals (repeat (rw [safe_true hA, true_and]; rotate_left; kernel_rfl))
 all_goals subst hF hA
 all_goals simp only [fnOf, find, std, reduceIte, Nat.reduceEqDiff, sp1, sp2, a1, a2, FnSpec.out, Shape.build, leafs, leafCells, tups, oneOf, List.cons_append, List.nil_append, List.length_cons, List.length_nil, s_eIs, s_dCmp, re4, rv_raw, rv_N0, dv, dz, dx, dcn, dm_raw, dm_N0, vI_N0, raw6_is, raw3_is, pick2, decide_eq_true_eq, decide_eq_false_iff_not, gt_iff_lt, ge_iff_le, Dy.n, Dy.add, Dy.sub, Dy.mul, Dy.neg, Dy.abs, Dy.to, Dy.pow, sg_nonpos7, sg_nonneg7, s_eOrd, s_eLess, s_eMore, s_eTold, s_dScale, min_z, Int.add_zero, s_eOf] at *
 all_goals (repeat' (first
  | with_reducible exact hQ
  | with_reducible assumption
  | with_reducible exact isi_int _ _
  | with_reducible exact okR_mk hc hn he1 he2 hc2 hm hf1 hf2
  | with_reducible refine okD_mk ?_ ?_ ?_
  | with_reducible refine okT_mk ?_ ?_ ?_ ?_
  | with_reducible refine okR_mk ?_ ?_ ?_ ?_ ?_ ?_ ?_ ?_
  | (with_reducible refine near_mk ?_ ?_; (focus omega); (focus omega))
  | (with_reducible refine isC_mk ?_ ?_)
  | with_reducible refine And.intro ?_ ?_
  | omega))
 all_goals first
  | exact hQ
  | (have hk := of_decide_eq_true hc_
     simp only [oif, if_pos hk] at hQ; exact hQ)
  | (have hk := of_decide_eq_false hc_
     simp only [oif, if_neg hk] at hQ; exact hQ)
  | (simp only [lif, if_pos hc_] at hQ; exact hQ)
  | (simp only [lif, if_neg hc_] at hQ; exact hQ)
  | (simp only [gif, if_pos hc_] at hQ; exact hQ)
  | (simp only [gif, if_neg hc_] at hQ; exact hQ)
  | fail
theorem good_eIs : G_eIs := goods_ew11.1
theorem good_eOrd : G_eOrd := goods_ew11.2.1 good_eIs
theorem good_eLess : G_eLess := goods_ew11.2.2.1
theorem good_eMore : G_eMore := goods_ew11.2.2.2.1
theorem good_eTold : G_eTold := goods_ew11.2.2.2.2.1
theorem good_eOf : G_eOf := goods_ew11.2.2.2.2.2 good_eTold
abbrev G_eHas : Prop := Good Tryz.prog (GWL [0, 1]) N0 99 s_eHas
abbrev G_eSame : Prop := Good Tryz.prog (GWL [0, 1]) N0 120 s_eSame
abbrev G_eHull : Prop := Good Tryz.prog (GWL [0, 1]) N0 115 s_eHull
abbrev G_eMeet : Prop := Good Tryz.prog (GWL [0, 1]) N0 94 s_eMeet
abbrev G_eRound : Prop := Good Tryz.prog (GWL [0, 1, 2, 4]) N0 127 s_eRound
abbrev G_eAdd : Prop := Good Tryz.prog (GWL [0, 1, 2]) N0 105 s_eAdd
abbrev G_eSub : Prop := Good Tryz.prog (GWL [0, 1, 2]) N0 107 s_eSub
abbrev G_eNeg : Prop := Good Tryz.prog (GWL [0, 1]) N0 122 s_eNeg
theorem goods_ew12 : G_eHas ∧ G_eSame ∧ G_eHull ∧ G_eMeet ∧ G_eRound ∧ G_eAdd ∧ G_eSub ∧ G_eNeg := by
 refine ⟨?_, ?_, ?_, ?_, ?_, ?_, ?_, ?_⟩
 refine goodM 0 (gc good_eOrd <| gc good_dCmp gn) Tryz.f99 (by kernel_rfl) (by kernel_rfl) fun ds hp F A Q hF hA hQ => ?_
 obtain ⟨x, y, rfl, hx, hy⟩ := sp2_arg hp
 obtain ⟨s, n, cs, e, t, m, es, f, rfl, hc, hn, he1, he2, hc2, hm, hf1, hf2⟩ := okR_arg hx
 obtain ⟨u, p, gs, g, rfl, hc3, hp3, hg1, hg2⟩ := okT_arg hy
 obtain ⟨s1, n1, c1, e1, t1, m1, d1, f1, o1, o2, o3, o4, o5, o6, o7, o8, oR, oa1, oa2, oa3, oa4, oa5, oa6, oa7, oa8, oN, oO, aK, aE⟩ := ord_pick (s := s) (t := t) (n := n) (m := m) (cs := cs) (es := es) (e := e) (f := f) ⟨hc, hn, he1, he2⟩ ⟨hc2, hm, hf1, hf2⟩
 clear hp hx hy
 obtain ⟨kD, l1, l2, l3, l4, lD, r1, r2, r3, r4, r5, r6, r7, r8, rR, y1, y2, y3, y4⟩ := trs
 rotate_left
 refine goodM 0 (gc good_eOrd <| gc good_dSame gn) Tryz.f120 (by kernel_rfl) (by kernel_rfl) fun ds hp F A Q hF hA hQ => ?_
 obtain ⟨x, y, rfl, hx, hy⟩ := sp2_arg hp
 obtain ⟨s, n, cs, e, t, m, es, f, rfl, hc, hn, he1, he2, hc2, hm, hf1, hf2⟩ := okR_arg hx
 obtain ⟨u, p, gs, g, v, q, hs, h, rfl, hc3, hp3, hg1, hg2, hc4, hq4, hh1, hh2⟩ := okR_arg hy
 obtain ⟨s1, n1, c1, e1, t1, m1, d1, f1, o1, o2, o3, o4, o5, o6, o7, o8, oR, oa1, oa2, oa3, oa4, oa5, oa6, oa7, oa8, oN, oO, aK, aE⟩ := ord_pick (s := s) (t := t) (n := n) (m := m) (cs := cs) (es := es) (e := e) (f := f) ⟨hc, hn, he1, he2⟩ ⟨hc2, hm, hf1, hf2⟩
 obtain ⟨u1, p1, g1, i1, v1, q1, h1, j1, r1, r2, r3, r4, r5, r6, r7, r8, rR, ob1, ob2, ob3, ob4, ob5, ob6, ob7, ob8, rN, rO, bK, bE⟩ := ord_pick (s := u) (t := v) (n := p) (m := q) (cs := gs) (es := hs) (e := g) (f := h) ⟨hc3, hp3, hg1, hg2⟩ ⟨hc4, hq4, hh1, hh2⟩
 clear hp hx hy
 obtain ⟨kD, l1, l2, l3, l4, lD, y1, y2, y3, y4⟩ := trs
 rotate_left
 refine goodM 0 (gc good_eOrd <| gc good_eLess <| gc good_eMore <| gc good_eTold gn) Tryz.f115 (by kernel_rfl) (by kernel_rfl) fun ds hp F A Q hF hA hQ => ?_
 obtain ⟨x, y, rfl, hx, hy⟩ := sp2_arg hp
 obtain ⟨s, n, cs, e, t, m, es, f, rfl, hc, hn, he1, he2, hc2, hm, hf1, hf2⟩ := okR_arg hx
 obtain ⟨u, p, gs, g, v, q, hs, h, rfl, hc3, hp3, hg1, hg2, hc4, hq4, hh1, hh2⟩ := okR_arg hy
 obtain ⟨s1, n1, c1, e1, t1, m1, d1, f1, o1, o2, o3, o4, o5, o6, o7, o8, oR, oa1, oa2, oa3, oa4, oa5, oa6, oa7, oa8, oN, oO, aK, aE⟩ := ord_pick (s := s) (t := t) (n := n) (m := m) (cs := cs) (es := es) (e := e) (f := f) ⟨hc, hn, he1, he2⟩ ⟨hc2, hm, hf1, hf2⟩
 obtain ⟨u1, p1, g1, i1, v1, q1, h1, j1, r1, r2, r3, r4, r5, r6, r7, r8, rR, ob1, ob2, ob3, ob4, ob5, ob6, ob7, ob8, rN, rO, bK, bE⟩ := ord_pick (s := u) (t := v) (n := p) (m := q) (cs := gs) (es := hs) (e := g) (f := h) ⟨hc3, hp3, hg1, hg2⟩ ⟨hc4, hq4, hh1, hh2⟩
 obtain ⟨s2, n2, c2, e2, l1, l2, l3, l4, lD, la, lb, lc, ld⟩ := less_pick (s := s1) (t := u1) (n := n1) (m := p1) (cs := c1) (es := g1) (e := e1) (f := i1) ⟨oa1, oa2, oa3, oa4⟩ ⟨ob1, ob2, ob3, ob4⟩
 obtain ⟨t2, m2, d2, f2, y1, y2, y3, y4, kD, ka, kb, kc, kd⟩ := more_pick (s := t1) (t := v1) (n := m1) (m := q1) (cs := d1) (es := h1) (e := f1) (f := j1) ⟨oa5, oa6, oa7, oa8⟩ ⟨ob5, ob6, ob7, ob8⟩
 clear hp hx hy
 rotate_left
 refine goodM 0 (gc good_eOrd <| gc good_eLess <| gc good_eMore <| gc good_dCmp <| gc good_eTold gn) Tryz.f94 (by kernel_rfl) (by kernel_rfl) fun ds hp F A Q hF hA hQ => ?_
 obtain ⟨x, y, rfl, hx, hy⟩ := sp2_arg hp
 obtain ⟨s, n, cs, e, t, m, es, f, rfl, hc, hn, he1, he2, hc2, hm, hf1, hf2⟩ := okR_arg hx
 obtain ⟨u, p, gs, g, v, q, hs, h, rfl, hc3, hp3, hg1, hg2, hc4, hq4, hh1, hh2⟩ := okR_arg hy
 obtain ⟨s1, n1, c1, e1, t1, m1, d1, f1, o1, o2, o3, o4, o5, o6, o7, o8, oR, oa1, oa2, oa3, oa4, oa5, oa6, oa7, oa8, oN, oO, aK, aE⟩ := ord_pick (s := s) (t := t) (n := n) (m := m) (cs := cs) (es := es) (e := e) (f := f) ⟨hc, hn, he1, he2⟩ ⟨hc2, hm, hf1, hf2⟩
 obtain ⟨u1, p1, g1, i1, v1, q1, h1, j1, r1, r2, r3, r4, r5, r6, r7, r8, rR, ob1, ob2, ob3, ob4, ob5, ob6, ob7, ob8, rN, rO, bK, bE⟩ := ord_pick (s := u) (t := v) (n := p) (m := q) (cs := gs) (es := hs) (e := g) (f := h) ⟨hc3, hp3, hg1, hg2⟩ ⟨hc4, hq4, hh1, hh2⟩
 obtain ⟨s2, n2, c2, e2, l1, l2, l3, l4, lD, la, lb, lc, ld⟩ := more_pick (s := s1) (t := u1) (n := n1) (m := p1) (cs := c1) (es := g1) (e := e1) (f := i1) ⟨oa1, oa2, oa3, oa4⟩ ⟨ob1, ob2, ob3, ob4⟩
 obtain ⟨t2, m2, d2, f2, y1, y2, y3, y4, kD, ka, kb, kc, kd⟩ := less_pick (s := t1) (t := v1) (n := m1) (m := q1) (cs := d1) (es := h1) (e := f1) (f := j1) ⟨oa5, oa6, oa7, oa8⟩ ⟨ob5, ob6, ob7, ob8⟩
 have hMe : meetB ((vI s cs, e), (vI t es, f)) ((vI u gs, g), (vI v hs, h)) = decide (cmpD (vI s2 c2) e2 (vI t2 d2) f2 ≤ 0) := by rw [e_meetB, oR, rR, lD, kD]
 have hMr : rmeet (rn ((vI s cs, e), (vI t es, f))) (rn ((vI u gs, g), (vI v hs, h))) = (Dy.n (vI s2 c2, e2), Dy.n (vI t2 d2, f2)) := by rw [e_meet, oR, rR, lD, kD]
 clear hp hx hy
 rotate_left
 refine goodM 0 (gl good_eOrd rfl <| gc good_oTo gn) Tryz.f127 (by kernel_rfl) (by kernel_rfl) fun ds hp F A Q hF hA hQ => ?_
 obtain ⟨x, y, rfl, hx, hy⟩ := sp2_arg hp
 obtain ⟨s, n, cs, e, t, m, es, f, rfl, hc, hn, he1, he2, hc2, hm, hf1, hf2⟩ := okR_arg hx
 obtain ⟨k, rfl⟩ := isi_arg hy
 obtain ⟨s1, n1, c1, e1, t1, m1, d1, f1, o1, o2, o3, o4, o5, o6, o7, o8, oR, oa1, oa2, oa3, oa4, oa5, oa6, oa7, oa8, oN, oO, aK, aE⟩ := ord_pick (s := s) (t := t) (n := n) (m := m) (cs := cs) (es := es) (e := e) (f := f) ⟨hc, hn, he1, he2⟩ ⟨hc2, hm, hf1, hf2⟩
 clear hp hx hy
 obtain ⟨kD, l1, l2, l3, l4, lD, r1, r2, r3, r4, r5, r6, r7, r8, rR, y1, y2, y3, y4⟩ := trs
 rotate_left
 refine goodM 0 (gl good_eOrd rfl <| gc good_dAdd gn) Tryz.f105 (by kernel_rfl) (by kernel_rfl) fun ds hp F A Q hF hA hQ => ?_
 obtain ⟨x, y, rfl, hx, hy⟩ := sp2_arg hp
 obtain ⟨s, n, cs, e, t, m, es, f, rfl, hc, hn, he1, he2, hc2, hm, hf1, hf2⟩ := okR_arg hx
 obtain ⟨u, p, gs, g, v, q, hs, h, rfl, hc3, hp3, hg1, hg2, hc4, hq4, hh1, hh2⟩ := okR_arg hy
 obtain ⟨s1, n1, c1, e1, t1, m1, d1, f1, o1, o2, o3, o4, o5, o6, o7, o8, oR, oa1, oa2, oa3, oa4, oa5, oa6, oa7, oa8, oN, oO, aK, aE⟩ := ord_pick (s := s) (t := t) (n := n) (m := m) (cs := cs) (es := es) (e := e) (f := f) ⟨hc, hn, he1, he2⟩ ⟨hc2, hm, hf1, hf2⟩
 obtain ⟨u1, p1, g1, i1, v1, q1, h1, j1, r1, r2, r3, r4, r5, r6, r7, r8, rR, ob1, ob2, ob3, ob4, ob5, ob6, ob7, ob8, rN, rO, bK, bE⟩ := ord_pick (s := u) (t := v) (n := p) (m := q) (cs := gs) (es := hs) (e := g) (f := h) ⟨hc3, hp3, hg1, hg2⟩ ⟨hc4, hq4, hh1, hh2⟩
 clear hp hx hy
 obtain ⟨kD, l1, l2, l3, l4, lD, y1, y2, y3, y4⟩ := trs
 rotate_left
 refine goodM 0 (gl good_eOrd rfl <| gc good_dSub gn) Tryz.f107 (by kernel_rfl) (by kernel_rfl) fun ds hp F A Q hF hA hQ => ?_
 obtain ⟨x, y, rfl, hx, hy⟩ := sp2_arg hp
 obtain ⟨s, n, cs, e, t, m, es, f, rfl, hc, hn, he1, he2, hc2, hm, hf1, hf2⟩ := okR_arg hx
 obtain ⟨u, p, gs, g, v, q, hs, h, rfl, hc3, hp3, hg1, hg2, hc4, hq4, hh1, hh2⟩ := okR_arg hy
 obtain ⟨s1, n1, c1, e1, t1, m1, d1, f1, o1, o2, o3, o4, o5, o6, o7, o8, oR, oa1, oa2, oa3, oa4, oa5, oa6, oa7, oa8, oN, oO, aK, aE⟩ := ord_pick (s := s) (t := t) (n := n) (m := m) (cs := cs) (es := es) (e := e) (f := f) ⟨hc, hn, he1, he2⟩ ⟨hc2, hm, hf1, hf2⟩
 obtain ⟨u1, p1, g1, i1, v1, q1, h1, j1, r1, r2, r3, r4, r5, r6, r7, r8, rR, ob1, ob2, ob3, ob4, ob5, ob6, ob7, ob8, rN, rO, bK, bE⟩ := ord_pick (s := u) (t := v) (n := p) (m := q) (cs := gs) (es := hs) (e := g) (f := h) ⟨hc3, hp3, hg1, hg2⟩ ⟨hc4, hq4, hh1, hh2⟩
 clear hp hx hy
 obtain ⟨kD, l1, l2, l3, l4, lD, y1, y2, y3, y4⟩ := trs
 rotate_left
 refine goodM 0 (gc good_eOrd <| gc good_dNeg gn) Tryz.f122 (by kernel_rfl) (by kernel_rfl) fun ds hp F A Q hF hA hQ => ?_
 obtain ⟨x, rfl, hx⟩ := sp1_arg hp
 obtain ⟨s, n, cs, e, t, m, es, f, rfl, hc, hn, he1, he2, hc2, hm, hf1, hf2⟩ := okR_arg hx
 obtain ⟨s1, n1, c1, e1, t1, m1, d1, f1, o1, o2, o3, o4, o5, o6, o7, o8, oR, oa1, oa2, oa3, oa4, oa5, oa6, oa7, oa8, oN, oO, aK, aE⟩ := ord_pick (s := s) (t := t) (n := n) (m := m) (cs := cs) (es := es) (e := e) (f := f) ⟨hc, hn, he1, he2⟩ ⟨hc2, hm, hf1, hf2⟩
 clear hp hx
 obtain ⟨kD, l1, l2, l3, l4, lD, r1, r2, r3, r4, r5, r6, r7, r8, rR, y1, y2, y3, y4⟩ := trs
 rotate_left
 all_goals cbv
 all_goals (repeat' (first | with_reducible refine And.intro ?_ ?_ | (with_reducible refine safe_lift hA ?_; kernel_rfl) | (intro hc_; cbv)))
 all_goals (repeat (rw [safe_true hA, true_and]; rotate_left; kernel_rfl))
 all_goals subst hF hA
 all_goals simp only [fnOf, find, std, reduceIte, Nat.reduceEqDiff, sp1, sp2, a1, a2, FnSpec.out, Shape.build, leafs, leafCells, tups, oneOf, List.cons_append, List.nil_append, List.length_cons, List.length_nil, s_eHas, s_eOrd, s_dCmp, re4, rv_raw, rv_N0, dv, dz, dx, dcn, dm_raw, dm_N0, vI_N0, raw6_is, raw3_is, pick2, decide_eq_true_eq, decide_eq_false_iff_not, gt_iff_lt, ge_iff_le, Dy.n, Dy.add, Dy.sub, Dy.mul, Dy.neg, Dy.abs, Dy.to, Dy.pow, sg_nonpos7, sg_nonneg7, o1, o2, o3, o4, o5, o6, o7, o8, oR, e_has, s_eSame, s_dSame, r1, r2, r3, r4, r5, r6, r7, r8, rR, e_same, beq_dec, s_eHull, s_eLess, s_eMore, s_eTold, l1, l2, l3, l4, lD, y1, y2, y3, y4, kD, e_hull, s_eLess, s_eMore, s_eMeet, s_eRound, s_oTo, e_round, s_eAdd, s_dAdd, e_add, s_eSub, s_dSub, e_sub, s_eNeg, s_dNeg, e_neg] at *
 all_goals (repeat' (first
  | with_reducible exact hQ
  | with_reducible assumption
  | with_reducible exact isi_int _ _
  | with_reducible exact okR_mk hc hn he1 he2 hc2 hm hf1 hf2
  | with_reducible refine okD_mk ?_ ?_ ?_
  | with_reducible refine okT_mk ?_ ?_ ?_ ?_
  | with_reducible refine okR_mk ?_ ?_ ?_ ?_ ?_ ?_ ?_ ?_
  | (with_reducible refine near_mk ?_ ?_; (focus omega); (focus omega))
  | (with_reducible refine isC_mk ?_ ?_)
  | with_reducible refine And.intro ?_ ?_
  | omega))
 all_goals first
  | exact hQ
  | exact Post.b hQ (and_y (decide_eq_true hc_))
  | exact Post.b hQ (and_y hc_)
  | exact Post.b hQ (and_n hc_)
  | (have hb : meetB ((vI s cs, e), (vI t es, f)) ((vI u gs, g), (vI v hs, h)) = false := by rw [hMe]; exact decide_eq_false (by omega)
     have hr := rmeetZ_n hb
     simp only [hb, hr, N0_neg0, N0_ln0, N0_lm0] at hQ; exact hQ)
  | (have hb : meetB ((vI s cs, e), (vI t es, f)) ((vI u gs, g), (vI v hs, h)) = true := by rw [hMe]; exact decide_eq_true (by omega)
     have hr := rmeetZ_y hb
     simp only [hb, hr, hMr, Dy.n] at hQ; exact hQ)
  | fail
theorem good_eHas : G_eHas := goods_ew12.1
theorem good_eSame : G_eSame := goods_ew12.2.1
theorem good_eHull : G_eHull := goods_ew12.2.2.1
theorem good_eMeet : G_eMeet := goods_ew12.2.2.2.1
theorem good_eRound : G_eRound := goods_ew12.2.2.2.2.1
theorem good_eAdd : G_eAdd := goods_ew12.2.2.2.2.2.1
theorem good_eSub : G_eSub := goods_ew12.2.2.2.2.2.2.1
theorem good_eNeg : G_eNeg := goods_ew12.2.2.2.2.2.2.2
abbrev G_eIn : Prop := Good Tryz.prog (GWL [0, 1]) N0 102 s_eIn
abbrev G_eSide : Prop := Good Tryz.prog (GWL [0, 1]) N0 167 s_eSide
abbrev G_eEnd : Prop := Good Tryz.prog (GWL [0, 1]) N0 206 s_eEnd
theorem goods_ew13 : G_eIn ∧ G_eSide ∧ G_eEnd := by
 refine ⟨?_, ?_, ?_⟩
 refine goodM 0 (gc good_eHas gn) Tryz.f102 (by kernel_rfl) (by kernel_rfl) fun ds hp F A Q hF hA hQ => ?_
 obtain ⟨x, y, rfl, hx, hy⟩ := sp2_arg hp
 obtain ⟨s, n, cs, e, t, m, es, f, rfl, hc, hn, he1, he2, hc2, hm, hf1, hf2⟩ := okR_arg hx
 obtain ⟨u, p, gs, g, v, q, hs, h, rfl, hc3, hp3, hg1, hg2, hc4, hq4, hh1, hh2⟩ := okR_arg hy
 clear hp hx hy
 rotate_left
 refine goodM 0 (gc good_dSign gn) Tryz.f167 (by kernel_rfl) (by kernel_rfl) fun ds hp F A Q hF hA hQ => ?_
 obtain ⟨x, rfl, hx⟩ := sp1_arg hp
 obtain ⟨s, n, cs, e, t, m, es, f, rfl, hc, hn, he1, he2, hc2, hm, hf1, hf2⟩ := okR_arg hx
 clear hp hx
 rotate_left
 refine goodM 0 gn Tryz.f206 (by kernel_rfl) (by kernel_rfl) fun ds hp F A Q hF hA hQ => ?_
 obtain ⟨x, i, rfl, hx⟩ := end_arg hp
 obtain ⟨s, n, cs, e, t, m, es, f, rfl, hc, hn, he1, he2, hc2, hm, hf1, hf2⟩ := okR_arg hx
 clear hp hx
 rotate_left
 all_goals cbv
 all_goals (repeat' (first | with_reducible refine And.intro ?_ ?_ | (with_reducible refine safe_lift hA ?_; kernel_rfl) | (intro hc_; cbv)))
 all_goals (repeat (rw [safe_true hA, true_and]; rotate_left; kernel_rfl))
 all_goals subst hF hA
 all_goals simp only [fnOf, find, std, reduceIte, Nat.reduceEqDiff, sp1, sp2, a1, a2, FnSpec.out, Shape.build, leafs, leafCells, tups, oneOf, List.cons_append, List.nil_append, List.length_cons, List.length_nil, s_eIn, s_eHas, re4, rv_raw, rv_N0, dv, dz, dx, dcn, dm_raw, dm_N0, vI_N0, raw6_is, raw3_is, pick2, decide_eq_true_eq, decide_eq_false_iff_not, gt_iff_lt, ge_iff_le, Dy.n, Dy.add, Dy.sub, Dy.mul, Dy.neg, Dy.abs, Dy.to, Dy.pow, sg_nonpos7, sg_nonneg7, e_in, s_eSide, s_dSign, s_eEnd] at *
 all_goals (repeat' (first
  | with_reducible exact hQ
  | with_reducible assumption
  | with_reducible exact isi_int _ _
  | with_reducible exact okR_mk hc hn he1 he2 hc2 hm hf1 hf2
  | with_reducible refine okD_mk ?_ ?_ ?_
  | with_reducible refine okT_mk ?_ ?_ ?_ ?_
  | with_reducible refine okR_mk ?_ ?_ ?_ ?_ ?_ ?_ ?_ ?_
  | (with_reducible refine near_mk ?_ ?_; (focus omega); (focus omega))
  | (with_reducible refine isC_mk ?_ ?_)
  | with_reducible refine And.intro ?_ ?_
  | omega))
 all_goals first
  | exact hQ
  | exact Post.b hQ (and_y (decide_eq_true hc_))
  | exact Post.b hQ (and_y hc_)
  | exact Post.b hQ (and_n hc_)
  | exact Post.i hQ (if_pos hc_)
  | exact Post.i hQ ((if_neg (by assumption)).trans (if_pos hc_))
  | exact Post.i hQ ((if_neg (by assumption)).trans (if_neg hc_))
  | (have hi : i = 0 := eq_of_beq hc_
     subst hi; simp only [eq_self, if_true] at hQ; exact hQ)
  | (have hi : (i = 0) = False := eq_false (fun k => by rw [k] at hc_; cases hc_)
     simp only [hi, if_false] at hQ; exact hQ)
  | fail
theorem good_eIn : G_eIn := goods_ew13.1
theorem good_eSide : G_eSide := goods_ew13.2.1
theorem good_eEnd : G_eEnd := goods_ew13.2.2
abbrev G_eOpp : Prop := Good Tryz.prog (GWL [0, 1]) N0 169 s_eOpp
abbrev G_eAbs : Prop := Good Tryz.prog (GWL [0, 1]) N0 170 s_eAbs
theorem goods_ew14 : G_eOpp ∧ G_eAbs := by
 refine ⟨?_, ?_⟩
 refine goodM 0 gn Tryz.f169 (by kernel_rfl) (by kernel_rfl) fun ds hp F A Q hF hA hQ => ?_
 obtain ⟨x, rfl, hx⟩ := sp1_arg hp
 obtain ⟨i, j, rfl, hi, hj⟩ := isC_arg hx
 have w1 : IntKind.i64.wrap (1 - i) = 1 - i := wrap_in (by omega) (by omega)
 have w2 : IntKind.i64.wrap (1 - j) = 1 - j := wrap_in (by omega) (by omega)
 clear hp hx
 obtain ⟨o1, o2, o3, o4, o5, o6, o7, o8⟩ := trs
 rotate_left
 refine goodM 0 (gc good_eOrd <| gc good_eSide <| gc good_eTold <| gc good_eNeg <| gc good_dAbs <| gc good_eMore gn) Tryz.f170 (by kernel_rfl) (by kernel_rfl) fun ds hp F A Q hF hA hQ => ?_
 obtain ⟨x, rfl, hx, hx4⟩ := sp1_arg hp
 obtain ⟨s, n, cs, e, t, m, es, f, rfl, hc, hn, he1, he2, hc2, hm, hf1, hf2⟩ := okR_arg hx
 obtain ⟨s1, n1, c1, e1, t1, m1, d1, f1, o1, o2, o3, o4, o5, o6, o7, o8, oR, oa1, oa2, oa3, oa4, oa5, oa6, oa7, oa8, oN, oO, aK, aE⟩ := ord_pick (s := s) (t := t) (n := n) (m := m) (cs := cs) (es := es) (e := e) (f := f) ⟨hc, hn, he1, he2⟩ ⟨hc2, hm, hf1, hf2⟩
 obtain ⟨⟨xa, xb⟩, xc, xd⟩ := hx4
 have aE1 := aE 30000 (by omega) (by omega) (by omega) (by omega)
 have hAb := e_abs ((vI s cs, e), (vI t es, f))
 rw [oR] at hAb
 dsimp only at hAb
 have kA : fD (vI s1 c1, e1) 19200 30000 := fD_raw oa1 (by omega) (by omega) (by omega)
 have kB : fD (vI t1 d1, f1) 19200 30000 := fD_raw oa5 (by omega) (by omega) (by omega)
 have gA := abs_okT kA (by omega) (by omega)
 have gB := abs_okT kB (by omega) (by omega)
 have sP := @side_2 ((vI s1 c1, e1), (vI t1 d1, f1))
 have sN := @side_n2 ((vI s1 c1, e1), (vI t1 d1, f1))
 have s0 := @side_0 ((vI s1 c1, e1), (vI t1 d1, f1))
 have sM := @side_n0 ((vI s1 c1, e1), (vI t1 d1, f1))
 obtain ⟨P, hP⟩ : ∃ P : Re, P = ((vI s1 c1, e1), (vI t1 d1, f1)) := ⟨_, rfl⟩
 have eN := e_neg ((vI s1 c1, e1), (vI t1 d1, f1))
 rw [oO] at eN
 clear hp hx oN oO aK aE
 obtain ⟨w1, w2⟩ := trs
 rotate_left
 all_goals cbv
 all_goals (repeat' (first | with_reducible refine And.intro ?_ ?_ | (with_reducible refine safe_lift hA ?_; kernel_rfl) | (intro hc_; cbv)))
 all_goals (repeat (rw [safe_true hA, true_and]; rotate_left; kernel_rfl))
 all_goals subst hF hA
 all_goals simp only [fnOf, find, std, reduceIte, Nat.reduceEqDiff, sp1, sp2, a1, a2, FnSpec.out, Shape.build, leafs, leafCells, tups, oneOf, List.cons_append, List.nil_append, List.length_cons, List.length_nil, s_eOpp, re4, rv_raw, rv_N0, dv, dz, dx, dcn, dm_raw, dm_N0, vI_N0, raw6_is, raw3_is, pick2, decide_eq_true_eq, decide_eq_false_iff_not, gt_iff_lt, ge_iff_le, Dy.n, Dy.add, Dy.sub, Dy.mul, Dy.neg, Dy.abs, Dy.to, Dy.pow, sg_nonpos7, sg_nonneg7, cx, cy, w1, w2, s_eAbs, s_eOrd, s_eSide, s_eTold, s_eNeg, s_dAbs, s_eMore, o1, o2, o3, o4, o5, o6, o7, o8, s_eMore] at *
 all_goals (try (have h30 : few30 (.agg [.bool s1, .sl n1 c1, .int .i64 e1, .bool t1, .sl m1 d1, .int .i64 f1]) := ⟨⟨by omega, by omega⟩, by omega, by omega⟩))
 all_goals (repeat' (first
  | with_reducible exact hQ
  | with_reducible assumption
  | with_reducible exact isi_int _ _
  | with_reducible exact okR_mk hc hn he1 he2 hc2 hm hf1 hf2
  | with_reducible refine okD_mk ?_ ?_ ?_
  | with_reducible refine okT_mk ?_ ?_ ?_ ?_
  | with_reducible refine okR_mk ?_ ?_ ?_ ?_ ?_ ?_ ?_ ?_
  | (with_reducible refine near_mk ?_ ?_; (focus omega); (focus omega))
  | (with_reducible refine isC_mk ?_ ?_)
  | exact gA
  | exact gB
  | with_reducible refine And.intro ?_ ?_
  | omega))
 all_goals first
  | exact hQ
  | (have h1 := sP (eq_of_beq hc_)
     rw [if_pos h1] at hAb
     simp only [hAb, Dy.n] at hQ; exact hQ)
  | (have h1 := sN (beq_ne (by assumption))
     have h2 := s0 (eq_of_beq hc_)
     rw [if_neg h1, if_pos h2] at hAb
     simp only [hAb] at hQ
     simp only [eN]
     exact hQ)
  | (have h1 := sN (beq_ne (by assumption))
     have h2 := sM (beq_ne (by assumption)) (beq_ne hc_)
     rw [if_neg h1, if_neg h2] at hAb
     simp only [hAb, N0_neg0, N0_ln0, N0_lm0] at hQ
     simp only [gif_neg, gif_ln, gif_lm, gif_e]
     exact hQ)
  | fail
theorem good_eOpp : G_eOpp := goods_ew14.1
theorem good_eAbs : G_eAbs := goods_ew14.2
theorem good_eProd : Good Tryz.prog (GWL [0, 1, 3]) N0 168 s_eProd := by
 refine goodM 0 (gl good_eEnd rfl <| gc good_dMul gn) Tryz.f168 (by kernel_rfl) (by kernel_rfl) fun ds hp F A Q hF hA hQ => ?_
 obtain ⟨x, y, c, rfl, hx, hy, hC⟩ := prod_arg hp
 obtain ⟨i, j, rfl, hi, hj⟩ := isC_arg hC
 obtain ⟨s, n, cs, e, t, m, es, f, rfl, hc, hn, he1, he2, hc2, hm, hf1, hf2⟩ := okR_arg hx
 obtain ⟨u, p, gs, g, v, q, hs, h, rfl, hc3, hp3, hg1, hg2, hc4, hq4, hh1, hh2⟩ := okR_arg hy
 clear hp hx hy hC
 cbv
 repeat' (first | with_reducible refine And.intro ?_ ?_ | (with_reducible refine safe_lift hA ?_; kernel_rfl) | (intro hc_; cbv))
 all_goals (repeat (rw [safe_true hA, true_and]; rotate_left; kernel_rfl))
 all_goals subst hF hA
 all_goals simp only [fnOf, find, reduceIte, Nat.reduceEqDiff, sp2, a2, FnSpec.out, Shape.build, leafs, leafCells, List.cons_append, List.nil_append, s_eProd, s_eEnd, s_dMul, rv_raw, dz, dx, dcn, dm_raw, raw6_is, Dy.n, Dy.mul, cx, cy, crn, endZ] at *
 all_goals (rcases (show i = 0 ∨ i = 1 by omega) with rfl | rfl <;> rcases (show j = 0 ∨ j = 1 by omega) with rfl | rfl)
 all_goals (try simp only [eq_self, if_true, if_false, Int.reduceEq] at hQ ⊢)
 all_goals (repeat' (first
  | with_reducible exact hQ
  | with_reducible assumption
  | with_reducible exact isi_int _ _
  | with_reducible exact okR_mk hc hn he1 he2 hc2 hm hf1 hf2
  | with_reducible refine okD_mk ?_ ?_ ?_
  | with_reducible refine okT_mk ?_ ?_ ?_ ?_
  | with_reducible refine okR_mk ?_ ?_ ?_ ?_ ?_ ?_ ?_ ?_
  | (with_reducible refine near_mk ?_ ?_; (focus omega); (focus omega))
  | (with_reducible refine isC_mk ?_ ?_)
  | omega
  | with_reducible refine And.intro ?_ ?_))
 all_goals first
  | exact hQ
  | trace_state
theorem good_eMul : Good Tryz.prog (GWL [0, 1, 3, 5]) N0 111 s_eMul := by
 refine goodM 0 (gl good_eOrd rfl <| gl good_eSide rfl <| gl good_eProd rfl <| gl good_eLess rfl <| gl good_eOpp rfl <| gl good_eMore rfl gn) Tryz.f111 (by kernel_rfl) (by kernel_rfl) fun ds hp F A Q hF hA hQ => ?_
 obtain ⟨x, y, rfl, ⟨hx, hx4⟩, hy, hy4⟩ := sp2_arg hp
 obtain ⟨s, n, cs, e, t, m, es, f, rfl, hc, hn, he1, he2, hc2, hm, hf1, hf2⟩ := okR_arg hx
 obtain ⟨u, p, gs, g, v, q, hs, h, rfl, hc3, hp3, hg1, hg2, hc4, hq4, hh1, hh2⟩ := okR_arg hy
 obtain ⟨s1, n1, c1, e1, t1, m1, d1, f1, o1, o2, o3, o4, o5, o6, o7, o8, oR, oa1, oa2, oa3, oa4, oa5, oa6, oa7, oa8, oN, oO, aK, aE⟩ := ord_pick (s := s) (t := t) (n := n) (m := m) (cs := cs) (es := es) (e := e) (f := f) ⟨hc, hn, he1, he2⟩ ⟨hc2, hm, hf1, hf2⟩
 obtain ⟨u1, p1, g1, i1, v1, q1, h1, j1, r1, r2, r3, r4, r5, r6, r7, r8, rR, ob1, ob2, ob3, ob4, ob5, ob6, ob7, ob8, rN, rO, bK, bE⟩ := ord_pick (s := u) (t := v) (n := p) (m := q) (cs := gs) (es := hs) (e := g) (f := h) ⟨hc3, hp3, hg1, hg2⟩ ⟨hc4, hq4, hh1, hh2⟩
 obtain ⟨⟨xa, xb⟩, ⟨xc, xd⟩, xe, xf⟩ := hx4
 obtain ⟨⟨ya, yb⟩, ⟨yc, yd⟩, ye, yf⟩ := hy4
 have aK1 := aK 299 xa xb
 have aE1 := aE 15000 (by omega) (by omega) (by omega) (by omega)
 have bK1 := bK 299 ya yb
 have bE1 := bE 15000 (by omega) (by omega) (by omega) (by omega)
 obtain ⟨P, hP⟩ : ∃ P : Re, P = ((vI s1 c1, e1), (vI t1 d1, f1)) := ⟨_, rfl⟩
 obtain ⟨R, hR⟩ : ∃ R : Re, R = ((vI u1 g1, i1), (vI v1 h1, j1)) := ⟨_, rfl⟩
 have hMu : rmul (rn ((vI s cs, e), (vI t es, f))) (rn ((vI u gs, g), (vI v hs, h))) = mulZ P R := by rw [e_mul, oR, rR, hP, hR]
 have fP : fR P 9568 15000 := by rw [hP]; exact ⟨fD_raw oa1 (by omega) (by omega) (by omega), fD_raw oa5 (by omega) (by omega) (by omega)⟩
 have fR_ : fR R 9568 15000 := by rw [hR]; exact ⟨fD_raw ob1 (by omega) (by omega) (by omega), fD_raw ob5 (by omega) (by omega) (by omega)⟩
 have cP := side_rng P
 have cR := side_rng R
 have tR := tab_rng P R
 have tM := fun h k => tab_mid (x := P) (y := R) h k
 have cF := crn_fD fP fR_
 clear hp aK aE bK bE oN oO rN rO
 cbv
 repeat' (first | with_reducible refine And.intro ?_ ?_ | (with_reducible refine safe_lift hA ?_; kernel_rfl) | (intro hc_; cbv))
 all_goals (repeat (rw [safe_true hA, true_and]; rotate_left; kernel_rfl))
 all_goals subst hF hA
 all_goals simp only [fnOf, find, std, reduceIte, Nat.reduceEqDiff, sp1, sp2, a1, a2, FnSpec.out, Shape.build, leafs, leafCells, List.cons_append, List.nil_append, s_eMul, s_eOrd, s_eSide, s_eProd, s_eLess, s_eOpp, s_eMore, re4, rv_raw, vI_N0, raw6_is, raw3_is, pick2, gt_iff_lt, o1, o2, o3, o4, o5, o6, o7, o8, r1, r2, r3, r4, r5, r6, r7, r8, oR, rR, cx, cy, ← hP, ← hR, tab_is, s_eLess, s_eMore] at *
 all_goals obtain ⟨⟨⟨tr1, tr2⟩, tr3, tr4⟩, ⟨tr5, tr6⟩, tr7, tr8⟩ := tR
 all_goals (repeat' (first
  | with_reducible exact hQ
  | with_reducible exact okT_fD (cF _ _)
  | with_reducible assumption
  | with_reducible exact isi_int _ _
  | with_reducible exact okR_mk hc hn he1 he2 hc2 hm hf1 hf2
  | with_reducible refine okD_mk ?_ ?_ ?_
  | with_reducible refine okT_mk ?_ ?_ ?_ ?_
  | with_reducible refine okR_mk ?_ ?_ ?_ ?_ ?_ ?_ ?_ ?_
  | (with_reducible refine near_mk ?_ ?_; (focus omega); (focus omega))
  | (with_reducible refine isC_mk ?_ ?_)
  | omega
  | with_reducible refine And.intro ?_ ?_))
 all_goals first
  | (have h1 : sideZ P = 1 := eq_of_beq (by assumption)
     have h2 : sideZ R = 1 := eq_of_beq (by assumption)
     obtain ⟨t0, t1, t2, t3⟩ := tM h1 h2
     simp only [t0, t1, t2, t3, Int.reduceSub, lif_neg, lif_ln, lif_lm, lif_e, gif_neg, gif_ln, gif_lm, gif_e]
     have hr : mulZ P R = (dmin (crn P R 1 0) (crn P R 0 1), dmax (crn P R 1 1) (crn P R 0 0)) := if_pos ⟨h1, h2⟩
     simp only [hMu, hr] at hQ; exact hQ)
  | (simp only [hMu] at hQ
     have hk : ¬(sideZ P = 1 ∧ sideZ R = 1) := by
      intro k
      first | (have hq := hc_; rw [k.1] at hq; exact absurd hq (by decide)) | (have hq := hc_; rw [k.2] at hq; exact absurd hq (by decide))
     have hr : mulZ P R = (crn P R (tabZ P R 0) (tabZ P R 1), crn P R (tabZ P R 2) (tabZ P R 3)) := if_neg hk
     simp only [hr] at hQ; exact hQ)
  | trace_state
theorem good_eSquare : Good Tryz.prog (GWL [0, 1, 3]) N0 112 s_eSquare := by
 refine goodM 0 (gl good_eAbs rfl <| gc good_dMul gn) Tryz.f112 (by kernel_rfl) (by kernel_rfl) fun ds hp F A Q hF hA hQ => ?_
 obtain ⟨x, rfl, hx, hx4⟩ := sp1_arg hp
 obtain ⟨s, n, cs, e, t, m, es, f, rfl, hc, hn, he1, he2, hc2, hm, hf1, hf2⟩ := okR_arg hx
 obtain ⟨⟨xa, xb⟩, xc, xd⟩ := hx4
 have hFx : fR ((vI s cs, e), (vI t es, f)) 19200 30000 := ⟨fD_raw hc (by omega) (by omega) (by omega), fD_raw hc2 (by omega) (by omega) (by omega)⟩
 obtain ⟨X, hX⟩ : ∃ X : Re, X = ((vI s cs, e), (vI t es, f)) := ⟨_, rfl⟩
 have hF2 := fR_abs30 (x := X) (hX ▸ hFx)
 have hSq := e_square X
 clear hp hx
 cbv
 repeat' (first | with_reducible refine And.intro ?_ ?_ | (with_reducible refine safe_lift hA ?_; kernel_rfl) | (intro hc_; cbv))
 all_goals (repeat (rw [safe_true hA, true_and]; rotate_left; kernel_rfl))
 all_goals subst hF hA
 all_goals simp only [fnOf, find, reduceIte, Nat.reduceEqDiff, sp1, sp2, a1, a2, FnSpec.out, Shape.build, leafs, leafCells, List.cons_append, List.nil_append, s_eSquare, s_eAbs, s_dMul, re4, rv_raw, dx, dcn, dm_raw, vI_N0, Dy.n, Dy.mul, ← hX] at *
 all_goals have q1 : okD (.agg [.bool (N0.neg (rabs (rn X)).1.1), .sl (N0.ln (rabs (rn X)).1.1) (N0.lm (rabs (rn X)).1.1), .int .i64 (rabs (rn X)).1.2]) := okD_fD (hF2.1.mono (Nat.le_refl _) (by omega)) (by omega)
 all_goals have q2 : okD (.agg [.bool (N0.neg (rabs (rn X)).2.1), .sl (N0.ln (rabs (rn X)).2.1) (N0.lm (rabs (rn X)).2.1), .int .i64 (rabs (rn X)).2.2]) := okD_fD (hF2.2.mono (Nat.le_refl _) (by omega)) (by omega)
 all_goals have l1 : N0.ln (rabs (rn X)).1.1 ≤ 600 := ln_fit hF2.1.1
 all_goals have l2 : N0.ln (rabs (rn X)).2.1 ≤ 600 := ln_fit hF2.2.1
 all_goals have h30 : few30 (.agg [.bool s, .sl n cs, .int .i64 e, .bool t, .sl m es, .int .i64 f]) := ⟨⟨by omega, by omega⟩, by omega, by omega⟩
 all_goals (repeat' (first
  | with_reducible exact hQ
  | with_reducible assumption
  | with_reducible exact isi_int _ _
  | with_reducible exact okR_mk hc hn he1 he2 hc2 hm hf1 hf2
  | with_reducible refine okD_mk ?_ ?_ ?_
  | with_reducible refine okT_mk ?_ ?_ ?_ ?_
  | with_reducible refine okR_mk ?_ ?_ ?_ ?_ ?_ ?_ ?_ ?_
  | (with_reducible refine near_mk ?_ ?_; (focus omega); (focus omega))
  | (with_reducible refine isC_mk ?_ ?_)
  | omega
  | with_reducible refine And.intro ?_ ?_))
 all_goals first
  | (simp only [hSq] at hQ; exact hQ)
  | trace_state
end Go.Proofs.YtkfojbelnemhbaaGreatDoor.Ev
namespace Go.Proofs.YtkfojbelnemhbaaGreatDoor.Ev
open Go Go.RowKit
theorem rC_of {r : Re} {k B : Nat} (h : rcan r) (hf : fR r k B) (hk : k ≤ 19200) (hB : B ≤ 20000) : rC r := ⟨h.2.1, h.2.2, hf.mono hk hB⟩
section
variable {s t : Bool} {n m : Nat} {cs es : List D} {e f : Int}
end
theorem hasY_n (X : Re) (m e : Int) : hasY (rn X) (tmI m, teI m e) = hasB X (m, e) := by
 unfold hasY hasB cmpY
 simp only [cmpD_nrmL, cmpD_nrmR]
theorem inY_rn (X Y : Re) : inY (rn X) (rn Y) = inB X Y := rfl
theorem powN_2 : powN 2 = 2 := by decide
theorem wrap_er (r : Re) : IntKind.i64.wrap (er0 r) = er0 r := by unfold er0; split <;> exact wrap_in (by decide) (by decide)
section
variable {X Y : Re} (fX : fR X 320 1000) (fY : fR Y 320 1000)
include fX
end
section
variable {A B : Re} (hA : fC A) (hB : fC B)
include hA
include hB
end
section
variable {X Y : Re} (fX : fR X 320 1000) (fY : fR Y 320 1000)
include fX fY
omit fY in
end
theorem nine7 {a b c d x y z : Prop} [Decidable a] [Decidable b] [Decidable c] [Decidable d] [Decidable x] [Decidable y] [Decidable z] : ¬a ∨ (a ∧ ¬b) ∨ (a ∧ b ∧ ¬c) ∨ (a ∧ b ∧ c ∧ ¬d) ∨ (a ∧ b ∧ c ∧ d ∧ ¬x) ∨ (a ∧ b ∧ c ∧ d ∧ x ∧ ¬y) ∨ (a ∧ b ∧ c ∧ d ∧ x ∧ y ∧ ¬z) ∨ (a ∧ b ∧ c ∧ d ∧ x ∧ y ∧ z) := by
 by_cases a <;> by_cases b <;> by_cases c <;> by_cases d <;> by_cases x <;> by_cases y <;> by_cases z <;> simp_all
section
variable {X Y : Re} {s t : Dy}
end
end Go.Proofs.YtkfojbelnemhbaaGreatDoor.Ev
namespace Go.Proofs.YtkfojbelnemhbaaGreatDoor.Ev
open Go Go.RowKit
end Go.Proofs.YtkfojbelnemhbaaGreatDoor.Ev
