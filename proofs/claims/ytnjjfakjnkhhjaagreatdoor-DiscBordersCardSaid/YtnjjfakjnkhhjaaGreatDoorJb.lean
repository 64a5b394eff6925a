import Derived.Test.YtnjjfakjnkhhjaaGreatDoorJa
import Derived.Test.YtnjjfakjnkhhjaaGreatDoorHc
set_option maxHeartbeats 2000000
set_option maxRecDepth 100000
set_option linter.all false
namespace Go.Proofs.YtnjjfakjnkhhjaaGreatDoor.Ev
open Go Go.RowKit
abbrev rel3 (a : Dy) : D := .agg [.bool (N0.neg a.1), .sl (N0.ln a.1) (N0.lm a.1), .int .i64 a.2]
def re2 (a : Dy) (i : Nat) : Int := match i with | 0 => a.1 | _ => a.2
abbrev SD : Shape := .agg [.I, .i .i64]
def s_cAdd : FnSpec := sp2 SD (fun x y => okD x ∧ okD y ∧ dcn x ≤ 20000 ∧ dcn y ≤ 20000 ∧ near 1500000 x y) (fun x y i => re2 ((dv x).add (dv y)) i) (fun _ _ _ => false)
def s_cMul : FnSpec := sp2 SD (fun x y => okD x ∧ okD y ∧ dcn x ≤ 40000 ∧ dcn y ≤ 40000) (fun x y i => re2 ((dv x).mul (dv y)) i) (fun _ _ _ => false)
def s_cNeg : FnSpec := sp1 SD (fun x => okD x ∧ dcn x ≤ 90000) (fun x i => re2 (dv x).neg i) (fun _ _ => false)
def s_cScale : FnSpec := sp2 SD (fun x y => okD x ∧ dcn x ≤ 90000 ∧ isi .i64 y) (fun x y i => re2 ((dv x).scl (dz y)) i) (fun _ _ _ => false)
def s_cCmp : FnSpec := sp2 (.one (.i .i64)) (fun x y => okD x ∧ okD y ∧ dcn x ≤ 20000 ∧ dcn y ≤ 20000) (fun x y _ => cmpY (dv x) (dv y)) (fun _ _ _ => false)
theorem good_cAdd : Good Tryz.prog (GWL [0, 1, 2]) N0 106 s_cAdd := by
 have e : s_cAdd = s_dAdd := by unfold s_cAdd s_dAdd re2; rfl
 rw [e]; exact good_dAdd.lift (by decide)
theorem good_cMul : Good Tryz.prog (GWL [0, 1, 3]) N0 98 s_cMul := by
 have e : s_cMul = s_dMul := by unfold s_cMul s_dMul re2; rfl
 rw [e]; exact good_dMul.lift (by decide)
theorem good_cNeg : Good Tryz.prog (GWL [0, 1]) N0 102 s_cNeg := by
 have e : s_cNeg = s_dNeg := by unfold s_cNeg s_dNeg re2; rfl
 rw [e]; exact good_dNeg
theorem good_cScale : Good Tryz.prog (GWL [0, 1]) N0 125 s_cScale := by
 have e : s_cScale = s_dScale := by unfold s_cScale s_dScale re2; rfl
 rw [e]; exact good_dScale
theorem good_cCmp : Good Tryz.prog (GWL [0, 1]) N0 96 s_cCmp := by
 have e : s_cCmp = s_dCmp := by unfold s_cCmp s_dCmp cmpY; rfl
 rw [e]; exact good_dCmp
def rw9 {α : Type} (d : α) (g : Bool → Nat → List D → Int → Bool → Nat → List D → Int → Bool → Nat → List D → Int → α) : D → α
 | .agg [.bool s1, .sl n1 c1, .int _ e1, .bool s2, .sl n2 c2, .int _ e2, .bool s3, .sl n3 c3, .int _ e3] => g s1 n1 c1 e1 s2 n2 c2 e2 s3 n3 c3 e3
 | _ => d
theorem rw9_is {α : Type} (d : α) (g : Bool → Nat → List D → Int → Bool → Nat → List D → Int → Bool → Nat → List D → Int → α) (s1 s2 s3 : Bool) (n1 n2 n3 : Nat) (c1 c2 c3 : List D) (e1 e2 e3 : Int) (k1 k2 k3 : IntKind) :
  rw9 d g (.agg [.bool s1, .sl n1 c1, .int k1 e1, .bool s2, .sl n2 c2, .int k2 e2, .bool s3, .sl n3 c3, .int k3 e3]) = g s1 n1 c1 e1 s2 n2 c2 e2 s3 n3 c3 e3 := rfl
def rv9 (x : D) : Dc := rw9 (((0, 0), (0, 0)), (0, 0)) (fun s1 _ c1 e1 s2 _ c2 e2 s3 _ c3 e3 => (((vI s1 c1, e1), (vI s2 c2, e2)), (vI s3 c3, e3))) x
theorem rv9_raw (s1 s2 s3 : Bool) (n1 n2 n3 : Nat) (c1 c2 c3 : List D) (e1 e2 e3 : Int) (k1 k2 k3 : IntKind) : rv9 (.agg [.bool s1, .sl n1 c1, .int k1 e1, .bool s2, .sl n2 c2, .int k2 e2, .bool s3, .sl n3 c3, .int k3 e3]) = (((vI s1 c1, e1), (vI s2 c2, e2)), (vI s3 c3, e3)) := rfl
abbrev rel9 (x : Dc) : D := .agg [.bool (N0.neg x.1.1.1), .sl (N0.ln x.1.1.1) (N0.lm x.1.1.1), .int .i64 x.1.1.2, .bool (N0.neg x.1.2.1), .sl (N0.ln x.1.2.1) (N0.lm x.1.2.1), .int .i64 x.1.2.2, .bool (N0.neg x.2.1), .sl (N0.ln x.2.1) (N0.lm x.2.1), .int .i64 x.2.2]
def re6 (x : Dc) (i : Nat) : Int := match i with | 0 => x.1.1.1 | 1 => x.1.1.2 | 2 => x.1.2.1 | 3 => x.1.2.2 | 4 => x.2.1 | _ => x.2.2
def okA (x : D) : Prop := match x with
 | .agg [.bool _, .sl n1 c1, .int .i64 e1, .bool _, .sl n2 c2, .int .i64 e2, .bool _, .sl n3 c3, .int .i64 e3] => okSM n1 c1 e1 ∧ okSM n2 c2 e2 ∧ okSM n3 c3 e3
 | _ => False
theorem okA_arg {x : D} (h : okA x) : ∃ s1 n1 c1 e1 s2 n2 c2 e2 s3 n3 c3 e3, x = .agg [.bool s1, .sl n1 c1, .int .i64 e1, .bool s2, .sl n2 c2, .int .i64 e2, .bool s3, .sl n3 c3, .int .i64 e3] ∧ okSM n1 c1 e1 ∧ okSM n2 c2 e2 ∧ okSM n3 c3 e3 := by
 unfold okA at h
 split at h
 ·exact ⟨_, _, _, _, _, _, _, _, _, _, _, _, rfl, h⟩
 ·exact h.elim
def okG (x : D) : Prop := match x with
 | .agg [.bool _, .sl n cs, .int .i64 e, .bool _, .sl m es, .int .i64 f] => okSM n cs e ∧ okSM m es f
 | _ => False
theorem okG_arg {x : D} (h : okG x) : ∃ s n cs e t m es f, x = .agg [.bool s, .sl n cs, .int .i64 e, .bool t, .sl m es, .int .i64 f] ∧ okSM n cs e ∧ okSM m es f := by
 unfold okG at h
 split at h
 ·exact ⟨_, _, _, _, _, _, _, _, rfl, h⟩
 ·exact h.elim
theorem okG_mk {s t : Bool} {n m : Nat} {cs es : List D} {e f : Int} (h : okSM n cs e) (k : okSM m es f) : okG (.agg [.bool s, .sl n cs, .int .i64 e, .bool t, .sl m es, .int .i64 f]) := ⟨h, k⟩
abbrev DS : Shape := .agg [.I, .i .i64, .I, .i .i64, .I, .i .i64]
def mid (a : Dy) : Prop := a.n = a ∧ ∃ L H, sz a L H ∧ L ≤ 300000 ∧ H ≤ 300000
theorem mid_mk {a : Dy} {L H : Nat} (hn : a.n = a) (h : sz a L H) (h1 : L ≤ 300000) (h2 : H ≤ 300000) : mid a := ⟨hn, L, H, h, h1, h2⟩
theorem mid_fD {a : Dy} (h : mid a) : ∃ k, fD a k k ∧ k ≤ 600000 := by
 obtain ⟨hn, L, H, h, h1, h2⟩ := h
 exact ⟨_, sz_can hn h, by omega⟩
theorem mid_okD {a : Dy} (h : mid a) : okD (rel3 a) := by
 obtain ⟨k, h, hk⟩ := mid_fD h
 exact okD_fD (h.mono (Nat.le_refl _) (by omega)) (by omega)
theorem mid_ln {a : Dy} (h : mid a) : N0.ln a.1 ≤ 20000 := by
 obtain ⟨k, h, hk⟩ := mid_fD h
 exact h.1.ln (by omega)
theorem mid_near {a b : Dy} (h : mid a) (k : mid b) : near 1500000 (rel3 a) (rel3 b) := by
 obtain ⟨_, h, hk⟩ := mid_fD h
 obtain ⟨_, g, gk⟩ := mid_fD k
 have h1 := h.2
 have k1 := g.2
 exact near_mk (by omega) (by omega)
theorem sz_SM {s : Bool} {n : Nat} {cs : List D} {e : Int} (h : okSM n cs e) : sz (vI s cs, e) 15000 24568 := sz_fD (fD_raw (k := 9568) (B := 15000) h.1.1 (by have := h.2.1; omega) (by have := h.2.2.1; omega) (by have := h.2.2.2; omega))
theorem sz_okT {s : Bool} {n : Nat} {cs : List D} {e : Int} (h : okC n cs) (hn : n ≤ 600) (h1 : -50000 ≤ e) (h2 : e ≤ 50000) : sz (vI s cs, e) 50000 69200 := sz_fD (fD_raw (k := 19200) (B := 50000) h (by omega) (by omega) (by omega))
theorem okT_f9 {a : Dy} {k B : Nat} (h : fD a k B) (hk : k ≤ 19200) (hB : B ≤ 50000) : okT (rel3 a) := okS_fD (h.mono hk hB)
theorem okD_SM {s : Bool} {n : Nat} {cs : List D} {e : Int} (h : okSM n cs e) : okD (.agg [.bool s, .sl n cs, .int .i64 e]) := okD_mk h.1.1 (by have := h.1.2.2.1; omega) (by have := h.1.2.2.2; omega)
theorem okT_SM {s : Bool} {n : Nat} {cs : List D} {e : Int} (h : okSM n cs e) : okT (.agg [.bool s, .sl n cs, .int .i64 e]) := h.1
theorem scl_0 (a : Dy) : a.scl 0 = a.n := by unfold Dy.scl; rw [show a.2 + min (max 0 (-20000)) 20000 = a.2 by omega]
theorem sz_dbl {a : Dy} {L H : Nat} (h : sz a L H) : sz (a.scl 1) L (H + 1) := by
 have e : a.scl 1 = (a.add a) := nn_eq (scl_n _ _) (add_n _ _) (by
  rw [qv_add]; unfold Dy.scl; rw [qv_n]; show qv (a.1, a.2 + 1) = _
  unfold qv; dsimp only; rw [Rat.zpow_add (by decide)]; have : (2 : Rat) ^ (1 : Int) = 2 := by decide +kernel
  rw [this]; grind)
 rw [e]; exact sz_add h h
theorem sq2_far (x y : Dy) : ((x.mul x).add (y.mul y)).add ((x.mul y).scl 1) = sq2 x y := nn_eq (add_n _ _) (mul_n _ _) (by
 have e : qv ((x.mul y).scl 1) = qv (x.mul y) + qv (x.mul y) := by
  unfold Dy.scl; rw [qv_n]; show qv ((x.mul y).1, (x.mul y).2 + 1) = _
  unfold qv; dsimp only; rw [Rat.zpow_add (by decide)]; have : (2 : Rat) ^ (1 : Int) = 2 := by decide +kernel
  rw [this]; grind
 rw [qv_add, qv_add, e, qv_sq2, qv_mul, qv_mul, qv_mul]; grind)
theorem sz_rad {r : Dy} {L H : Nat} (h : sz r L H) : sz (rad r) L H := by
 unfold rad; split
 ·exact sz_zero _ _
 ·exact sz_n h
theorem fD_SM {s : Bool} {n : Nat} {cs : List D} {e : Int} (h : okSM n cs e) : fD (vI s cs, e) 9568 15000 := fD_raw h.1.1 (by have := h.2.1; omega) (by have := h.2.2.1; omega) (by have := h.2.2.2; omega)
theorem sz_sq2 {x y : Dy} {L H : Nat} (h : sz x L H) (k : sz y L H) : sz (sq2 x y) (L + L) (H + 1 + (H + 1)) := sz_mul (sz_add h k) (sz_add h k)
theorem sq2_n (x y : Dy) : (sq2 x y).n = sq2 x y := mul_n _ _
theorem fD_rad {r : Dy} {k B : Nat} (h : fD r k B) : fD (rad r) k (B + k) := by
 unfold rad; split
 ·exact fD_zero _ _
 ·exact fD_n h
theorem sz_dist {a b : Re} {L H : Nat} (h : cz a L H) (k : cz b L H) : sz (dist2 a b) (L + L) (H + 1 + (H + 1) + 1) := sz_add (sz_sq2 h.1 (sz_neg k.1)) (sz_sq2 h.2 (sz_neg k.2))
theorem din_lo {a b : Dc} (h : cmpY (rad b.2) (rad a.2) < 0) : false = din a b := by
 unfold din; rw [decide_eq_false (by omega), Bool.false_and]
theorem din_hi {a b : Dc} (h : ¬cmpY (rad b.2) (rad a.2) < 0) : decide (cmpY (dist2 a.1 b.1) (dsub2 a b) ≤ 0) = din a b := by
 unfold din; rw [decide_eq_true (show 0 ≤ cmpY (rad b.2) (rad a.2) by omega), Bool.true_and]
theorem cscl_0 (a : Re) : cscl a 0 = ca a := by unfold cscl ca; rw [scl_0, scl_0]
theorem okA_mk {s1 s2 s3 : Bool} {n1 n2 n3 : Nat} {c1 c2 c3 : List D} {e1 e2 e3 : Int} (h1 : okSM n1 c1 e1) (h2 : okSM n2 c2 e2) (h3 : okSM n3 c3 e3) : okA (.agg [.bool s1, .sl n1 c1, .int .i64 e1, .bool s2, .sl n2 c2, .int .i64 e2, .bool s3, .sl n3 c3, .int .i64 e3]) := ⟨h1, h2, h3⟩
theorem rad_lo {z e : Int} (h : (!decide (0 ≤ sg z)) = true) : rad (z, e) = (0, 0) := by
 have h1 : ¬0 ≤ sg z := by simpa using h
 rw [sg_nonneg7] at h1
 exact if_pos (by dsimp only; omega)
theorem rad_hi {z e : Int} (h : (!decide (0 ≤ sg z)) = false) : Dy.scl (z, e) 0 = rad (z, e) := by
 have h1 : 0 ≤ sg z := by simpa using h
 rw [sg_nonneg7] at h1
 rw [scl_0]; exact (if_neg (by dsimp only; omega)).symm
theorem Post.j {Q : Post} {a b : Dy} (h : Q.R (rel3 a)) (e : b = a) : Q.R (rel3 b) := e ▸ h
theorem Post.j0 {Q : Post} {a : Dy} (h : Q.R (rel3 a)) (e : a = (0, 0)) : Q.R (.agg [.bool false, .sl 0 [], .int .i64 0]) := by
 subst e
 simpa only [rel3, N0_neg0, N0_ln0, N0_lm0] using h
def s_jIs : FnSpec := sp1 (.one .b) okA (fun _ _ => 0) (fun x _ => decide (0 ≤ sg (rv9 x).2.1))
def s_jRadius : FnSpec := sp1 SD okA (fun x i => re2 (rad (rv9 x).2) i) (fun _ _ => false)
def s_jSquare : FnSpec := sp2 SD (fun x y => okT x ∧ okT y) (fun x y i => re2 (sq2 (dv x) (dv y)) i) (fun _ _ _ => false)
def s_jBetween : FnSpec := sp2 SD (fun x y => okG x ∧ okG y) (fun x y i => re2 (dist2 (rv x) (rv y)) i) (fun _ _ _ => false)
def s_jHas : FnSpec := sp2 (.one .b) (fun x y => okA x ∧ okG y) (fun _ _ _ => 0) (fun x y _ => dhas (rv9 x) (rv y))
def s_jIn : FnSpec := sp2 (.one .b) (fun x y => okA x ∧ okA y) (fun _ _ _ => 0) (fun x y _ => din (rv9 x) (rv9 y))
def s_jApart : FnSpec := sp2 (.one .b) (fun x y => okA x ∧ okA y) (fun _ _ _ => 0) (fun x y _ => dapart (rv9 x) (rv9 y))
def s_jOf : FnSpec := sp1 DS okR (fun x i => re6 (ca (rv x), (0, 0)) i) (fun _ _ => false)
def s_jCounted : FnSpec := sp1 DS okA (fun x i => re6 (ca (rv9 x).1, rad (rv9 x).2) i) (fun _ _ => false)
def s_jAdd : FnSpec := sp2 DS (fun x y => okA x ∧ okA y) (fun x y i => re6 (dadd (rv9 x) (rv9 y)) i) (fun _ _ _ => false)
def s_jNeg : FnSpec := sp1 DS okA (fun x i => re6 (dneg (rv9 x)) i) (fun _ _ => false)
def s_cSame : FnSpec := sp2 (.one .b) (fun x y => okD x ∧ okD y ∧ dcn x ≤ 20000 ∧ dcn y ≤ 20000) (fun _ _ _ => 0) (fun x y _ => cmpY (dv x) (dv y) == 0)
def s_cOf : FnSpec := sp1 SD (fun x => isi .i64 x ∧ -9223372036854775808 ≤ dz x ∧ dz x ≤ 9223372036854775807) (fun x i => re2 (Dy.n (dz x, 0)) i) (fun _ _ => false)
theorem good_cSame : Good Tryz.prog (GWL [0, 1]) N0 122 s_cSame := by
 have e : s_cSame = s_dSame := by unfold s_cSame s_dSame cmpY; rfl
 rw [e]; exact good_dSame
theorem good_cOf : Good Tryz.prog (GWL [0, 1]) N0 115 s_cOf := by
 have e : s_cOf = s_dOf := by unfold s_cOf s_dOf re2; rfl
 rw [e]; exact good_dOf
def s_jSame : FnSpec := sp2 (.one .b) (fun x y => okA x ∧ okA y) (fun _ _ _ => 0) (fun x y _ => decide (ca (rv9 x).1 = ca (rv9 y).1) && (cmpY (rad (rv9 x).2) (rad (rv9 y).2) == 0))
def s_jGrow : FnSpec := sp2 DS (fun x y => okA x ∧ isi .i64 y ∧ -9223372036854775808 ≤ dz y ∧ dz y ≤ 9223372036854775807) (fun x y i => re6 (ca (rv9 x).1, (rad (rv9 x).2).mul (Dy.n (max (dz y) 0, 0))) i) (fun _ _ _ => false)
def midS (a : Dy) : Prop := a.n = a ∧ ∃ L H, sz a L H ∧ L ≤ 25000 ∧ H ≤ 25000
theorem midS.mid {a : Dy} (h : midS a) : mid a := by
 obtain ⟨hn, L, H, h, h1, h2⟩ := h
 exact ⟨hn, L, H, h, by omega, by omega⟩
def toldM (x : D) : Prop := ∃ a : Dy, x = rel3 a ∧ midS a
theorem toldM_arg {x : D} (h : toldM x) : ∃ (a : Dy) (s : Bool) (n : Nat) (cs : List D) (e : Int), x = .agg [.bool s, .sl n cs, .int .i64 e] ∧ N0.neg a.1 = s ∧ N0.ln a.1 = n ∧ N0.lm a.1 = cs ∧ a.2 = e ∧ midS a := by
 obtain ⟨a, rfl, h⟩ := h
 exact ⟨a, _, _, _, _, rfl, rfl, rfl, rfl, rfl, h⟩
theorem toldM_mk {a : Dy} (h : midS a) : toldM (rel3 a) := ⟨a, rfl, h⟩
theorem midS_fD {a : Dy} (h : midS a) : ∃ k, fD a k k ∧ k ≤ 50000 := by
 obtain ⟨hn, L, H, h, h1, h2⟩ := h
 exact ⟨_, sz_can hn h, by omega⟩
theorem midS_smD {a : Dy} (h : midS a) : smD (rel3 a) := by
 obtain ⟨k, g, hk⟩ := midS_fD h
 have g2 := g.2
 exact ⟨mid_okD h.mid, g.1.ln (by omega), by dsimp only [dx]; omega⟩
theorem midS_top {a : Dy} (h : midS a) : topI a.1 a.2 ≤ 4194304 := by
 obtain ⟨k, g, hk⟩ := midS_fD h
 have g2 := g.2
 have g3 : nb a.1.natAbs ≤ k := nb_le_of_lt g.1
 unfold topI; split <;> omega
def s_jShort : FnSpec := sp1 SD toldM (fun x i => re2 (dv x) i) (fun _ _ => false)
def dsqrt (a : Dy) (p md : Int) : Dy := (tmI (qr a.1 a.2 (rE a.1 a.2 p) md), teI (qr a.1 a.2 (rE a.1 a.2 p) md) (rE a.1 a.2 p))
def s_cSqrt : FnSpec := ⟨.tup [(true, [.I, .i .i64]), (false, [.i .i64])], fun ds => match ds with | [x, .int .i64 _, .int .i64 _] => smD x | _ => False,
 fun ds i => match ds with | [x, .int _ p, .int _ mode] => (match i with | 0 => (dsqrt (dv x) p mode).1 | 1 => (dsqrt (dv x) p mode).2 | _ => if (dv x).1 < 0 then 12 else 0) | _ => 0,
 fun _ _ => false, fun _ _ => 0, fun _ _ => []⟩
theorem good_cSqrt : Good Tryz.prog (GWL [0, 1]) N0 167 s_cSqrt := by
 have e : s_cSqrt = s_kSqrt := by unfold s_cSqrt s_kSqrt dsqrt; rfl
 rw [e]; exact good_kSqrt
def s_jRoot : FnSpec := sp2 SD (fun x y => toldM x ∧ isi .i64 y) (fun x y i => re2 (dsqrt (dv x) (dz y) 1) i) (fun _ _ _ => false)
def s_cTop : FnSpec := sp1 (.one (.i .i64)) okD (fun x _ => topI (dv x).1 (dv x).2) (fun _ _ => false)
theorem good_cTop : Good Tryz.prog (GWL [0, 1]) N0 149 s_cTop := good_dTop
def s_jLengths : FnSpec := ⟨.agg [.I, .i .i64, .I, .i .i64], fun ds => match ds with | [r, n, q, .int .i64 _] => toldM r ∧ toldM n ∧ toldM q | _ => False,
 fun ds i => match ds with | [r, n, q, .int _ p] => re4 (if 0 < sg (dv q).1 then dsqrt (dv n) p 1 else (0, 0), dv r) i | _ => 0, fun _ _ => false, fun _ _ => 0, fun _ _ => []⟩
theorem jLengths_arg {ds : List D} (h : s_jLengths.p ds) : ∃ r n q p, ds = [r, n, q, .int .i64 p] ∧ toldM r ∧ toldM n ∧ toldM q := by
 unfold s_jLengths at h
 dsimp only at h
 split at h
 ·exact ⟨_, _, _, _, rfl, h⟩
 ·exact h.elim
theorem good_jIs : Good Tryz.prog (GWL [0, 1]) N0 18 s_jIs := by
 refine goodM 0 (gc good_dSign gn) Tryz.f18 (by kernel_rfl) (by kernel_rfl) fun ds hp F A Q hF hA hQ => ?_
 obtain ⟨x, rfl, hx⟩ := sp1_arg hp
 obtain ⟨s1, n1, c1, e1, s2, n2, c2, e2, s3, n3, c3, e3, rfl, x1, x2, x3⟩ := okA_arg hx
 have o3 := okD_SM (s := s3) x3
 clear hp hx
 cbv
 repeat' (first | with_reducible refine And.intro ?_ ?_ | (with_reducible refine safe_lift hA ?_; kernel_rfl) | (intro hc_; cbv))
 all_goals (repeat (rw [safe_true hA, true_and]; rotate_left; kernel_rfl))
 all_goals subst hF hA
 all_goals simp only [fnOf, find, std, reduceIte, Nat.reduceEqDiff, sp1, sp2, a1, a2, FnSpec.out, Shape.build, leafs, leafCells, tups, oneOf, List.cons_append, List.nil_append, List.length_cons, List.length_nil, s_jIs, s_dSign, rv_raw, rv_N0, dv, dz, dx, dcn, dm_raw, dm_N0, vI_N0, raw6_is, Prod.eta, rv9_raw, re2, re4, re6, decide_eq_true_eq, decide_eq_false_iff_not] at *
 all_goals (repeat' (first
  | with_reducible exact hQ
  | with_reducible assumption
  | with_reducible exact isi_int _ _
  | with_reducible refine And.intro ?_ ?_
  | omega))
 all_goals first
  | exact hQ
  | trace_state
theorem good_jRadius : Good Tryz.prog (GWL [0, 1]) N0 95 s_jRadius := by
 refine goodM 0 (gl good_jIs rfl <| gl good_cScale rfl gn) Tryz.f95 (by kernel_rfl) (by kernel_rfl) fun ds hp F A Q hF hA hQ => ?_
 obtain ⟨x, rfl, hx⟩ := sp1_arg hp
 obtain ⟨s1, n1, c1, e1, s2, n2, c2, e2, s3, n3, c3, e3, rfl, x1, x2, x3⟩ := okA_arg hx
 have o3 := okD_SM (s := s3) x3
 have hx3 : okA (.agg [.bool s1, .sl n1 c1, .int .i64 e1, .bool s2, .sl n2 c2, .int .i64 e2, .bool s3, .sl n3 c3, .int .i64 e3]) := ⟨x1, x2, x3⟩
 have l3 := x3.2.1
 clear hp hx
 cbv
 repeat' (first | with_reducible refine And.intro ?_ ?_ | (with_reducible refine safe_lift hA ?_; kernel_rfl) | (intro hc_; cbv))
 all_goals (repeat (rw [safe_true hA, true_and]; rotate_left; kernel_rfl))
 all_goals subst hF hA
 all_goals simp only [fnOf, find, std, reduceIte, Nat.reduceEqDiff, sp1, sp2, a1, a2, FnSpec.out, Shape.build, leafs, leafCells, tups, oneOf, List.cons_append, List.nil_append, List.length_cons, List.length_nil, s_jRadius, s_jIs, s_cScale, rv_raw, rv_N0, dv, dz, dx, dcn, dm_raw, dm_N0, vI_N0, raw6_is, Prod.eta, rv9_raw, re2, re4, re6, decide_eq_true_eq, decide_eq_false_iff_not] at *
 all_goals (repeat' (first
  | with_reducible exact hQ
  | with_reducible assumption
  | with_reducible exact isi_int _ _
  | with_reducible refine And.intro ?_ ?_
  | omega))
 all_goals first
  | exact Post.j0 hQ (rad_lo hc_)
  | exact Post.j hQ (rad_hi hc_)
  | trace_state
theorem good_jSquare : Good Tryz.prog (GWL [0, 1, 2, 3]) N0 101 s_jSquare := by
 refine goodM 0 (gl good_cAdd rfl <| gl good_cMul rfl <| gl good_cScale rfl gn) Tryz.f101 (by kernel_rfl) (by kernel_rfl) fun ds hp F A Q hF hA hQ => ?_
 obtain ⟨x, y, rfl, hx, hy⟩ := sp2_arg hp
 obtain ⟨s, n, cs, e, rfl, hc, hn, he1, he2⟩ := okT_arg hx
 obtain ⟨t, m, es, f, rfl, hc2, hm, hf1, hf2⟩ := okT_arg hy
 have oX := okD_mk (s := s) hc (by omega) (by omega) (e := e)
 have oY := okD_mk (s := t) hc2 (by omega) (by omega) (e := f)
 have sX := sz_okT (s := s) hc hn he1 he2
 have sY := sz_okT (s := t) hc2 hm hf1 hf2
 have nXY : near 1500000 (.agg [.bool s, .sl n cs, .int .i64 e]) (.agg [.bool t, .sl m es, .int .i64 f]) := near_mk (by omega) (by omega)
 obtain ⟨X, hX⟩ : ∃ X : Dy, X = (vI s cs, e) := ⟨_, rfl⟩
 obtain ⟨Y, hY⟩ : ∃ Y : Dy, Y = (vI t es, f) := ⟨_, rfl⟩
 rw [← hX] at sX
 rw [← hY] at sY
 have zS := sz_add sX sY
 have mS := mid_mk (add_n _ _) zS (by omega) (by omega)
 have zA := sz_mul sX sX
 have zB := sz_mul sY sY
 have zC := sz_mul sX sY
 have mA := mid_mk (mul_n _ _) zA (by omega) (by omega)
 have mB := mid_mk (mul_n _ _) zB (by omega) (by omega)
 have mC := mid_mk (mul_n _ _) zC (by omega) (by omega)
 have zD := sz_add zA zB
 have zE := sz_dbl zC
 have mD := mid_mk (add_n _ _) zD (by omega) (by omega)
 have mE := mid_mk (scl_n _ _) zE (by omega) (by omega)
 have oS := mid_okD mS
 have oA := mid_okD mA
 have oB := mid_okD mB
 have oC := mid_okD mC
 have oD := mid_okD mD
 have oE := mid_okD mE
 have lS := mid_ln mS
 have lA := mid_ln mA
 have lB := mid_ln mB
 have lC := mid_ln mC
 have lD := mid_ln mD
 have lE := mid_ln mE
 have nAB := mid_near mA mB
 have nDE := mid_near mD mE
 clear hp hx hy sX sY zS zA zB zC zD zE mS mA mB mC mD mE
 cbv
 repeat' (first | with_reducible refine And.intro ?_ ?_ | (with_reducible refine safe_lift hA ?_; kernel_rfl) | (intro hc_; cbv))
 all_goals (repeat (rw [safe_true hA, true_and]; rotate_left; kernel_rfl))
 all_goals subst hF hA
 all_goals simp only [fnOf, find, std, reduceIte, Nat.reduceEqDiff, sp1, sp2, a1, a2, FnSpec.out, Shape.build, leafs, leafCells, tups, oneOf, List.cons_append, List.nil_append, List.length_cons, List.length_nil, s_jSquare, s_cAdd, s_cMul, s_cScale, rv_raw, rv_N0, dv, dz, dx, dcn, dm_raw, dm_N0, vI_N0, raw6_is, Prod.eta, rv9_raw, re2, re4, re6, decide_eq_true_eq, decide_eq_false_iff_not, ← hX, ← hY] at *
 all_goals (repeat' (first
  | with_reducible exact hQ
  | with_reducible assumption
  | with_reducible exact isi_int _ _
  | with_reducible refine And.intro ?_ ?_
  | omega))
 all_goals first
  | exact hQ
  | (refine Post.j hQ ?_; exact sq2_far _ _)
  | trace_state
theorem good_jBetween : Good Tryz.prog (GWL [0, 1, 2, 3]) N0 97 s_jBetween := by
 refine goodM 0 (gl good_cNeg rfl <| gl good_jSquare rfl <| gl good_cAdd rfl gn) Tryz.f97 (by kernel_rfl) (by kernel_rfl) fun ds hp F A Q hF hA hQ => ?_
 obtain ⟨x, y, rfl, hx, hy⟩ := sp2_arg hp
 obtain ⟨s, n, cs, e, t, m, es, f, rfl, gx1, gx2⟩ := okG_arg hx
 obtain ⟨u, p, gs, g, v, q, hs, h, rfl, gy1, gy2⟩ := okG_arg hy
 have oU := okD_SM (s := u) gy1
 have oV := okD_SM (s := v) gy2
 have lU := gy1.2.1
 have lV := gy2.2.1
 have tX := okT_SM (s := s) gx1
 have tY := okT_SM (s := t) gx2
 have w1 := sz_SM (s := s) gx1
 have w2 := sz_SM (s := t) gx2
 have w3 := sz_neg (sz_SM (s := u) gy1)
 have w4 := sz_neg (sz_SM (s := v) gy2)
 have tU := okT_f9 (fD_neg (fD_SM (s := u) gy1)) (by omega) (by omega)
 have tV := okT_f9 (fD_neg (fD_SM (s := v) gy2)) (by omega) (by omega)
 have mP := mid_mk (sq2_n _ _) (sz_sq2 w1 w3) (by omega) (by omega)
 have mR := mid_mk (sq2_n _ _) (sz_sq2 w2 w4) (by omega) (by omega)
 have oP := mid_okD mP
 have oR := mid_okD mR
 have lP := mid_ln mP
 have lR := mid_ln mR
 have nPR := mid_near mP mR
 clear hp hx hy w1 w2 w3 w4 mP mR
 cbv
 repeat' (first | with_reducible refine And.intro ?_ ?_ | (with_reducible refine safe_lift hA ?_; kernel_rfl) | (intro hc_; cbv))
 all_goals (repeat (rw [safe_true hA, true_and]; rotate_left; kernel_rfl))
 all_goals subst hF hA
 all_goals simp only [fnOf, find, std, reduceIte, Nat.reduceEqDiff, sp1, sp2, a1, a2, FnSpec.out, Shape.build, leafs, leafCells, tups, oneOf, List.cons_append, List.nil_append, List.length_cons, List.length_nil, s_jBetween, s_cNeg, s_jSquare, s_cAdd, rv_raw, rv_N0, dv, dz, dx, dcn, dm_raw, dm_N0, vI_N0, raw6_is, Prod.eta, rv9_raw, re2, re4, re6, decide_eq_true_eq, decide_eq_false_iff_not] at *
 all_goals (repeat' (first
  | with_reducible exact hQ
  | with_reducible assumption
  | with_reducible exact isi_int _ _
  | with_reducible refine And.intro ?_ ?_
  | omega))
 all_goals first
  | exact hQ
  | trace_state
theorem good_jHas : Good Tryz.prog (GWL [0, 1, 2, 3]) N0 21 s_jHas := by
 refine goodM 0 (gl good_jRadius rfl <| gl good_jBetween rfl <| gl good_cMul rfl <| gl good_cCmp rfl gn) Tryz.f21 (by kernel_rfl) (by kernel_rfl) fun ds hp F A Q hF hA hQ => ?_
 obtain ⟨x, y, rfl, hx, hy⟩ := sp2_arg hp
 obtain ⟨s1, n1, c1, e1, s2, n2, c2, e2, s3, n3, c3, e3, rfl, x1, x2, x3⟩ := okA_arg hx
 obtain ⟨u, p, gs, g, v, q, hs, h, rfl, gy1, gy2⟩ := okG_arg hy
 have hxA := okA_mk (s1 := s1) (s2 := s2) (s3 := s3) x1 x2 x3
 have hxG := okG_mk (s := s1) (t := s2) x1 x2
 have cX : cz ((vI s1 c1, e1), (vI s2 c2, e2)) 15000 24568 := ⟨sz_SM x1, sz_SM x2⟩
 have cY : cz ((vI u gs, g), (vI v hs, h)) 15000 24568 := ⟨sz_SM gy1, sz_SM gy2⟩
 have hyG := okG_mk (s := u) (t := v) gy1 gy2
 have mD := mid_mk (dist2_n _ _) (sz_dist cX cY) (by omega) (by omega)
 have oD := mid_okD mD
 have lD := mid_ln mD
 have zR := sz_rad (sz_SM (s := s3) x3)
 have mR := mid_mk (rad_n _) zR (by omega) (by omega)
 have oR := mid_okD mR
 have lR := mid_ln mR
 have mRR := mid_mk (mul_n _ _) (sz_mul zR zR) (by omega) (by omega)
 have oRR := mid_okD mRR
 have lRR := mid_ln mRR
 clear hp hx hy cX cY mD mR mRR zR
 cbv
 repeat' (first | with_reducible refine And.intro ?_ ?_ | (with_reducible refine safe_lift hA ?_; kernel_rfl) | (intro hc_; cbv))
 all_goals (repeat (rw [safe_true hA, true_and]; rotate_left; kernel_rfl))
 all_goals subst hF hA
 all_goals simp only [fnOf, find, std, reduceIte, Nat.reduceEqDiff, sp1, sp2, a1, a2, FnSpec.out, Shape.build, leafs, leafCells, tups, oneOf, List.cons_append, List.nil_append, List.length_cons, List.length_nil, s_jHas, s_jRadius, s_jBetween, s_cMul, s_cCmp, rv_raw, rv_N0, dv, dz, dx, dcn, dm_raw, dm_N0, vI_N0, raw6_is, Prod.eta, rv9_raw, re2, re4, re6, decide_eq_true_eq, decide_eq_false_iff_not] at *
 all_goals (repeat' (first
  | with_reducible exact hQ
  | with_reducible assumption
  | with_reducible exact isi_int _ _
  | with_reducible refine And.intro ?_ ?_
  | omega))
 all_goals first
  | exact hQ
  | trace_state
theorem good_jIn : Good Tryz.prog (GWL [0, 1, 2, 3]) N0 24 s_jIn := by
 refine goodM 0 (gl good_jRadius rfl <| gl good_cCmp rfl <| gl good_jBetween rfl <| gl good_cNeg rfl <| gl good_jSquare rfl gn) Tryz.f24 (by kernel_rfl) (by kernel_rfl) fun ds hp F A Q hF hA hQ => ?_
 obtain ⟨x, y, rfl, hx, hy⟩ := sp2_arg hp
 obtain ⟨s1, n1, c1, e1, s2, n2, c2, e2, s3, n3, c3, e3, rfl, x1, x2, x3⟩ := okA_arg hx
 obtain ⟨t1, m1, d1, f1, t2, m2, d2, f2, t3, m3, d3, f3, rfl, y1, y2, y3⟩ := okA_arg hy
 have hxA := okA_mk (s1 := s1) (s2 := s2) (s3 := s3) x1 x2 x3
 have hyA := okA_mk (s1 := t1) (s2 := t2) (s3 := t3) y1 y2 y3
 have hxG := okG_mk (s := s1) (t := s2) x1 x2
 have hyG := okG_mk (s := t1) (t := t2) y1 y2
 have cX : cz ((vI s1 c1, e1), (vI s2 c2, e2)) 15000 24568 := ⟨sz_SM x1, sz_SM x2⟩
 have cY : cz ((vI t1 d1, f1), (vI t2 d2, f2)) 15000 24568 := ⟨sz_SM y1, sz_SM y2⟩
 have mD := mid_mk (dist2_n _ _) (sz_dist cX cY) (by omega) (by omega)
 have oD := mid_okD mD
 have lD := mid_ln mD
 have zR := sz_rad (sz_SM (s := s3) x3)
 have mR := mid_mk (rad_n _) zR (by omega) (by omega)
 have oR := mid_okD mR
 have lR := mid_ln mR
 have zS := sz_rad (sz_SM (s := t3) y3)
 have mS := mid_mk (rad_n _) zS (by omega) (by omega)
 have oS := mid_okD mS
 have lS := mid_ln mS
 have tS := okT_f9 (fD_rad (fD_SM (s := t3) y3)) (by omega) (by omega)
 have tR := okT_f9 (fD_neg (fD_rad (fD_SM (s := s3) x3))) (by omega) (by omega)
 have mE := mid_mk (sq2_n _ _) (sz_sq2 zS (sz_neg zR)) (by omega) (by omega)
 have oE := mid_okD mE
 have lE := mid_ln mE
 clear hp hx hy cX cY mD mR mS mE zR zS
 cbv
 repeat' (first | with_reducible refine And.intro ?_ ?_ | (with_reducible refine safe_lift hA ?_; kernel_rfl) | (intro hc_; cbv))
 all_goals (repeat (rw [safe_true hA, true_and]; rotate_left; kernel_rfl))
 all_goals subst hF hA
 all_goals simp only [fnOf, find, std, reduceIte, Nat.reduceEqDiff, sp1, sp2, a1, a2, FnSpec.out, Shape.build, leafs, leafCells, tups, oneOf, List.cons_append, List.nil_append, List.length_cons, List.length_nil, s_jIn, s_jRadius, s_cCmp, s_jBetween, s_cNeg, s_jSquare, rv_raw, rv_N0, dv, dz, dx, dcn, dm_raw, dm_N0, vI_N0, raw6_is, Prod.eta, rv9_raw, re2, re4, re6, decide_eq_true_eq, decide_eq_false_iff_not] at *
 all_goals (repeat' (first
  | with_reducible exact hQ
  | with_reducible assumption
  | with_reducible exact isi_int _ _
  | with_reducible refine And.intro ?_ ?_
  | omega))
 all_goals first
  | exact hQ
  | exact Post.b hQ (din_lo (a := (((vI s1 c1, e1), (vI s2 c2, e2)), (vI s3 c3, e3))) (b := (((vI t1 d1, f1), (vI t2 d2, f2)), (vI t3 d3, f3))) hc_).symm
  | exact Post.b hQ (din_hi (a := (((vI s1 c1, e1), (vI s2 c2, e2)), (vI s3 c3, e3))) (b := (((vI t1 d1, f1), (vI t2 d2, f2)), (vI t3 d3, f3))) hc_).symm
  | trace_state
theorem good_jApart : Good Tryz.prog (GWL [0, 1, 2, 3]) N0 26 s_jApart := by
 refine goodM 0 (gl good_jBetween rfl <| gl good_jRadius rfl <| gl good_jSquare rfl <| gl good_cCmp rfl gn) Tryz.f26 (by kernel_rfl) (by kernel_rfl) fun ds hp F A Q hF hA hQ => ?_
 obtain ⟨x, y, rfl, hx, hy⟩ := sp2_arg hp
 obtain ⟨s1, n1, c1, e1, s2, n2, c2, e2, s3, n3, c3, e3, rfl, x1, x2, x3⟩ := okA_arg hx
 obtain ⟨t1, m1, d1, f1, t2, m2, d2, f2, t3, m3, d3, f3, rfl, y1, y2, y3⟩ := okA_arg hy
 have hxA := okA_mk (s1 := s1) (s2 := s2) (s3 := s3) x1 x2 x3
 have hyA := okA_mk (s1 := t1) (s2 := t2) (s3 := t3) y1 y2 y3
 have hxG := okG_mk (s := s1) (t := s2) x1 x2
 have hyG := okG_mk (s := t1) (t := t2) y1 y2
 have cX : cz ((vI s1 c1, e1), (vI s2 c2, e2)) 15000 24568 := ⟨sz_SM x1, sz_SM x2⟩
 have cY : cz ((vI t1 d1, f1), (vI t2 d2, f2)) 15000 24568 := ⟨sz_SM y1, sz_SM y2⟩
 have mD := mid_mk (dist2_n _ _) (sz_dist cX cY) (by omega) (by omega)
 have oD := mid_okD mD
 have lD := mid_ln mD
 have zR := sz_rad (sz_SM (s := s3) x3)
 have mR := mid_mk (rad_n _) zR (by omega) (by omega)
 have oR := mid_okD mR
 have lR := mid_ln mR
 have zS := sz_rad (sz_SM (s := t3) y3)
 have mS := mid_mk (rad_n _) zS (by omega) (by omega)
 have oS := mid_okD mS
 have lS := mid_ln mS
 have tS := okT_f9 (fD_rad (fD_SM (s := t3) y3)) (by omega) (by omega)
 have tR := okT_f9 (fD_rad (fD_SM (s := s3) x3)) (by omega) (by omega)
 have mE := mid_mk (sq2_n _ _) (sz_sq2 zR zS) (by omega) (by omega)
 have oE := mid_okD mE
 have lE := mid_ln mE
 clear hp hx hy cX cY mD mR mS mE zR zS
 cbv
 repeat' (first | with_reducible refine And.intro ?_ ?_ | (with_reducible refine safe_lift hA ?_; kernel_rfl) | (intro hc_; cbv))
 all_goals (repeat (rw [safe_true hA, true_and]; rotate_left; kernel_rfl))
 all_goals subst hF hA
 all_goals simp only [fnOf, find, std, reduceIte, Nat.reduceEqDiff, sp1, sp2, a1, a2, FnSpec.out, Shape.build, leafs, leafCells, tups, oneOf, List.cons_append, List.nil_append, List.length_cons, List.length_nil, s_jApart, s_jBetween, s_jRadius, s_jSquare, s_cCmp, rv_raw, rv_N0, dv, dz, dx, dcn, dm_raw, dm_N0, vI_N0, raw6_is, Prod.eta, rv9_raw, re2, re4, re6, decide_eq_true_eq, decide_eq_false_iff_not] at *
 all_goals (repeat' (first
  | with_reducible exact hQ
  | with_reducible assumption
  | with_reducible exact isi_int _ _
  | with_reducible refine And.intro ?_ ?_
  | omega))
 all_goals first
  | exact hQ
  | trace_state
theorem good_jOf : Good Tryz.prog (GWL [0, 1]) N0 42 s_jOf := by
 refine goodM 0 (gc good_uScale gn) Tryz.f42 (by kernel_rfl) (by kernel_rfl) fun ds hp F A Q hF hA hQ => ?_
 obtain ⟨x, rfl, hx⟩ := sp1_arg hp
 obtain ⟨s, n, cs, e, t, m, es, f, rfl, hc, hn, he1, he2, hc2, hm, hf1, hf2⟩ := okR_arg hx
 have hxR := okR_mk (s := s) (t := t) hc hn he1 he2 hc2 hm hf1 hf2
 clear hp hx
 cbv
 repeat' (first | with_reducible refine And.intro ?_ ?_ | (with_reducible refine safe_lift hA ?_; kernel_rfl) | (intro hc_; cbv))
 all_goals (repeat (rw [safe_true hA, true_and]; rotate_left; kernel_rfl))
 all_goals subst hF hA
 all_goals simp only [fnOf, find, std, reduceIte, Nat.reduceEqDiff, sp1, sp2, a1, a2, FnSpec.out, Shape.build, leafs, leafCells, tups, oneOf, List.cons_append, List.nil_append, List.length_cons, List.length_nil, s_jOf, s_uScale, rv_raw, rv_N0, dv, dz, dx, dcn, dm_raw, dm_N0, vI_N0, raw6_is, Prod.eta, rv9_raw, re2, re4, re6, decide_eq_true_eq, decide_eq_false_iff_not, cscl_0, N0_neg0, N0_ln0, N0_lm0] at *
 all_goals (repeat' (first
  | with_reducible exact hQ
  | with_reducible assumption
  | with_reducible exact isi_int _ _
  | with_reducible refine And.intro ?_ ?_
  | omega))
 all_goals first
  | exact hQ
  | trace_state
theorem good_jCounted : Good Tryz.prog (GWL [0, 1]) N0 109 s_jCounted := by
 refine goodM 0 (gc good_uScale <| gl good_jRadius rfl gn) Tryz.f109 (by kernel_rfl) (by kernel_rfl) fun ds hp F A Q hF hA hQ => ?_
 obtain ⟨x, rfl, hx⟩ := sp1_arg hp
 obtain ⟨s1, n1, c1, e1, s2, n2, c2, e2, s3, n3, c3, e3, rfl, x1, x2, x3⟩ := okA_arg hx
 have hxA := okA_mk (s1 := s1) (s2 := s2) (s3 := s3) x1 x2 x3
 have hxR := okR_S (s := s1) (t := s2) x1.1 x2.1
 clear hp hx
 cbv
 repeat' (first | with_reducible refine And.intro ?_ ?_ | (with_reducible refine safe_lift hA ?_; kernel_rfl) | (intro hc_; cbv))
 all_goals (repeat (rw [safe_true hA, true_and]; rotate_left; kernel_rfl))
 all_goals subst hF hA
 all_goals simp only [fnOf, find, std, reduceIte, Nat.reduceEqDiff, sp1, sp2, a1, a2, FnSpec.out, Shape.build, leafs, leafCells, tups, oneOf, List.cons_append, List.nil_append, List.length_cons, List.length_nil, s_jCounted, s_uScale, s_jRadius, rv_raw, rv_N0, dv, dz, dx, dcn, dm_raw, dm_N0, vI_N0, raw6_is, Prod.eta, rv9_raw, re2, re4, re6, decide_eq_true_eq, decide_eq_false_iff_not, cscl_0] at *
 all_goals (repeat' (first
  | with_reducible exact hQ
  | with_reducible assumption
  | with_reducible exact isi_int _ _
  | with_reducible refine And.intro ?_ ?_
  | omega))
 all_goals first
  | exact hQ
  | trace_state
theorem good_jAdd : Good Tryz.prog (GWL [0, 1, 2]) N0 29 s_jAdd := by
 refine goodM 0 (gl good_uAdd rfl <| gl good_jRadius rfl <| gl good_cAdd rfl gn) Tryz.f29 (by kernel_rfl) (by kernel_rfl) fun ds hp F A Q hF hA hQ => ?_
 obtain ⟨x, y, rfl, hx, hy⟩ := sp2_arg hp
 obtain ⟨s1, n1, c1, e1, s2, n2, c2, e2, s3, n3, c3, e3, rfl, x1, x2, x3⟩ := okA_arg hx
 obtain ⟨t1, m1, d1, f1, t2, m2, d2, f2, t3, m3, d3, f3, rfl, y1, y2, y3⟩ := okA_arg hy
 have hxA := okA_mk (s1 := s1) (s2 := s2) (s3 := s3) x1 x2 x3
 have hyA := okA_mk (s1 := t1) (s2 := t2) (s3 := t3) y1 y2 y3
 have hxR := okR_S (s := s1) (t := s2) x1.1 x2.1
 have hyR := okR_S (s := t1) (t := t2) y1.1 y2.1
 have zR := sz_rad (sz_SM (s := s3) x3)
 have mR := mid_mk (rad_n _) zR (by omega) (by omega)
 have oR := mid_okD mR
 have lR := mid_ln mR
 have zS := sz_rad (sz_SM (s := t3) y3)
 have mS := mid_mk (rad_n _) zS (by omega) (by omega)
 have oS := mid_okD mS
 have lS := mid_ln mS
 have nRS := mid_near mR mS
 clear hp hx hy mR mS zR zS
 cbv
 repeat' (first | with_reducible refine And.intro ?_ ?_ | (with_reducible refine safe_lift hA ?_; kernel_rfl) | (intro hc_; cbv))
 all_goals (repeat (rw [safe_true hA, true_and]; rotate_left; kernel_rfl))
 all_goals subst hF hA
 all_goals simp only [fnOf, find, std, reduceIte, Nat.reduceEqDiff, sp1, sp2, a1, a2, FnSpec.out, Shape.build, leafs, leafCells, tups, oneOf, List.cons_append, List.nil_append, List.length_cons, List.length_nil, s_jAdd, s_uAdd, s_jRadius, s_cAdd, rv_raw, rv_N0, dv, dz, dx, dcn, dm_raw, dm_N0, vI_N0, raw6_is, Prod.eta, rv9_raw, re2, re4, re6, decide_eq_true_eq, decide_eq_false_iff_not] at *
 all_goals (repeat' (first
  | with_reducible exact hQ
  | with_reducible assumption
  | with_reducible exact isi_int _ _
  | with_reducible refine And.intro ?_ ?_
  | omega))
 all_goals first
  | exact hQ
  | trace_state
theorem good_jNeg : Good Tryz.prog (GWL [0, 1]) N0 31 s_jNeg := by
 refine goodM 0 (gc good_uNeg <| gl good_jRadius rfl gn) Tryz.f31 (by kernel_rfl) (by kernel_rfl) fun ds hp F A Q hF hA hQ => ?_
 obtain ⟨x, rfl, hx⟩ := sp1_arg hp
 obtain ⟨s1, n1, c1, e1, s2, n2, c2, e2, s3, n3, c3, e3, rfl, x1, x2, x3⟩ := okA_arg hx
 have hxA := okA_mk (s1 := s1) (s2 := s2) (s3 := s3) x1 x2 x3
 have hxR := okR_S (s := s1) (t := s2) x1.1 x2.1
 clear hp hx
 cbv
 repeat' (first | with_reducible refine And.intro ?_ ?_ | (with_reducible refine safe_lift hA ?_; kernel_rfl) | (intro hc_; cbv))
 all_goals (repeat (rw [safe_true hA, true_and]; rotate_left; kernel_rfl))
 all_goals subst hF hA
 all_goals simp only [fnOf, find, std, reduceIte, Nat.reduceEqDiff, sp1, sp2, a1, a2, FnSpec.out, Shape.build, leafs, leafCells, tups, oneOf, List.cons_append, List.nil_append, List.length_cons, List.length_nil, s_jNeg, s_uNeg, s_jRadius, rv_raw, rv_N0, dv, dz, dx, dcn, dm_raw, dm_N0, vI_N0, raw6_is, Prod.eta, rv9_raw, re2, re4, re6, decide_eq_true_eq, decide_eq_false_iff_not] at *
 all_goals (repeat' (first
  | with_reducible exact hQ
  | with_reducible assumption
  | with_reducible exact isi_int _ _
  | with_reducible refine And.intro ?_ ?_
  | omega))
 all_goals first
  | exact hQ
  | trace_state
theorem good_jSame : Good Tryz.prog (GWL [0, 1]) N0 41 s_jSame := by
 refine goodM 0 (gc good_uSame <| gl good_jRadius rfl <| gl good_cSame rfl gn) Tryz.f41 (by kernel_rfl) (by kernel_rfl) fun ds hp F A Q hF hA hQ => ?_
 obtain ⟨x, y, rfl, hx, hy⟩ := sp2_arg hp
 obtain ⟨s1, n1, c1, e1, s2, n2, c2, e2, s3, n3, c3, e3, rfl, x1, x2, x3⟩ := okA_arg hx
 obtain ⟨t1, m1, d1, f1, t2, m2, d2, f2, t3, m3, d3, f3, rfl, y1, y2, y3⟩ := okA_arg hy
 have hxA := okA_mk (s1 := s1) (s2 := s2) (s3 := s3) x1 x2 x3
 have hyA := okA_mk (s1 := t1) (s2 := t2) (s3 := t3) y1 y2 y3
 have hxR := okR_S (s := s1) (t := s2) x1.1 x2.1
 have hyR := okR_S (s := t1) (t := t2) y1.1 y2.1
 have zR := sz_rad (sz_SM (s := s3) x3)
 have mR := mid_mk (rad_n _) zR (by omega) (by omega)
 have oR := mid_okD mR
 have lR := mid_ln mR
 have zS := sz_rad (sz_SM (s := t3) y3)
 have mS := mid_mk (rad_n _) zS (by omega) (by omega)
 have oS := mid_okD mS
 have lS := mid_ln mS
 clear hp hx hy mR mS zR zS
 cbv
 repeat' (first | with_reducible refine And.intro ?_ ?_ | (with_reducible refine safe_lift hA ?_; kernel_rfl) | (intro hc_; cbv))
 all_goals (repeat (rw [safe_true hA, true_and]; rotate_left; kernel_rfl))
 all_goals subst hF hA
 all_goals simp only [fnOf, find, std, reduceIte, Nat.reduceEqDiff, sp1, sp2, a1, a2, FnSpec.out, Shape.build, leafs, leafCells, tups, oneOf, List.cons_append, List.nil_append, List.length_cons, List.length_nil, s_jSame, s_uSame, s_jRadius, s_cSame, rv_raw, rv_N0, dv, dz, dx, dcn, dm_raw, dm_N0, vI_N0, raw6_is, Prod.eta, rv9_raw, re2, re4, re6, decide_eq_true_eq, decide_eq_false_iff_not] at *
 all_goals (repeat' (first
  | with_reducible exact hQ
  | with_reducible assumption
  | with_reducible exact isi_int _ _
  | with_reducible refine And.intro ?_ ?_
  | omega))
 all_goals first
  | exact hQ
  | exact Post.b hQ ((congrArg (fun b => b && _) hc_).trans (Bool.true_and _))
  | exact Post.b hQ ((congrArg (fun b => b && _) hc_).trans (Bool.false_and _))
  | trace_state
theorem good_jGrow : Good Tryz.prog (GWL [0, 1, 3]) N0 40 s_jGrow := by
 refine goodM 0 (gl good_jCounted rfl <| gl good_cOf rfl <| gl good_cMul rfl gn) Tryz.f40 (by kernel_rfl) (by kernel_rfl) fun ds hp F A Q hF hA hQ => ?_
 obtain ⟨x, y, rfl, hx, hy⟩ := sp2_arg hp
 obtain ⟨s1, n1, c1, e1, s2, n2, c2, e2, s3, n3, c3, e3, rfl, x1, x2, x3⟩ := okA_arg hx
 obtain ⟨k, rfl⟩ := isi_arg hy.1
 have hk : -9223372036854775808 ≤ k ∧ k ≤ 9223372036854775807 := hy.2
 have hMk : (if 0 > k then 0 else k) = max k 0 := by split <;> omega
 have mK := mid_mk (n_n _) (sz_n (sz_raw (m := max k 0) (e := 0) (k := 64) (L := 0) (B := 0) (by unfold Fit; omega) (by omega) (by omega))) (by omega) (by omega)
 have oK := mid_okD mK
 have lK := mid_ln mK
 have hxA := okA_mk (s1 := s1) (s2 := s2) (s3 := s3) x1 x2 x3
 have zR := sz_rad (sz_SM (s := s3) x3)
 have mR := mid_mk (rad_n _) zR (by omega) (by omega)
 have oR := mid_okD mR
 have lR := mid_ln mR
 clear hp hx hy mR zR mK
 cbv
 repeat' (first | with_reducible refine And.intro ?_ ?_ | (with_reducible refine safe_lift hA ?_; kernel_rfl) | (intro hc_; cbv))
 all_goals (repeat (rw [safe_true hA, true_and]; rotate_left; kernel_rfl))
 all_goals subst hF hA
 all_goals simp only [fnOf, find, std, reduceIte, Nat.reduceEqDiff, sp1, sp2, a1, a2, FnSpec.out, Shape.build, leafs, leafCells, tups, oneOf, List.cons_append, List.nil_append, List.length_cons, List.length_nil, s_jGrow, s_jCounted, s_cOf, s_cMul, rv_raw, rv_N0, dv, dz, dx, dcn, dm_raw, dm_N0, vI_N0, raw6_is, Prod.eta, rv9_raw, re2, re4, re6, decide_eq_true_eq, decide_eq_false_iff_not, hMk] at *
 all_goals (repeat' (first
  | with_reducible exact hQ
  | with_reducible assumption
  | with_reducible exact isi_int _ _
  | with_reducible refine And.intro ?_ ?_
  | omega))
 all_goals first
  | exact hQ
  | trace_state
theorem good_jShort : Good Tryz.prog (GWL [0, 1]) N0 116 s_jShort := by
 refine goodM 0 (gl good_cTop rfl gn) Tryz.f116 (by kernel_rfl) (by kernel_rfl) fun ds hp F A Q hF hA hQ => ?_
 obtain ⟨x, rfl, hx⟩ := sp1_arg hp
 obtain ⟨K, ba, na, la, ea, rfl, h1a, h2a, h3a, h4a, ma⟩ := toldM_arg hx
 have oA := mid_okD ma.mid
 have lT := midS_top ma
 have vA : vI (N0.neg K.1) (N0.lm K.1) = K.1 := vI_N0 _
 simp only [rel3, h1a, h2a, h3a, h4a] at oA
 rw [h1a, h3a] at vA
 clear hp hx
 cbv
 repeat' (first | with_reducible refine And.intro ?_ ?_ | (with_reducible refine safe_lift hA ?_; kernel_rfl) | (intro hc_; cbv))
 all_goals (repeat (rw [safe_true hA, true_and]; rotate_left; kernel_rfl))
 all_goals subst hF hA
 all_goals simp only [fnOf, find, std, reduceIte, Nat.reduceEqDiff, sp1, sp2, a1, a2, FnSpec.out, Shape.build, leafs, leafCells, tups, oneOf, List.cons_append, List.nil_append, List.length_cons, List.length_nil, s_jShort, s_cTop, rv_raw, rv_N0, dv, dz, dx, dcn, dm_raw, dm_N0, vI_N0, raw6_is, Prod.eta, rv9_raw, re2, re4, re6, decide_eq_true_eq, decide_eq_false_iff_not, vA] at *
 all_goals (repeat' (first
  | with_reducible exact hQ
  | with_reducible assumption
  | with_reducible exact isi_int _ _
  | with_reducible refine And.intro ?_ ?_
  | omega))
 all_goals subst h1a h2a h3a h4a
 all_goals try simp only [vI_N0] at *
 all_goals first
  | exact hQ
  | exact absurd lT hc_
  | trace_state
theorem good_jRoot : Good Tryz.prog (GWL [0, 1]) N0 118 s_jRoot := by
 refine goodM 0 (gl good_jShort rfl <| gl good_cSqrt rfl gn) Tryz.f118 (by kernel_rfl) (by kernel_rfl) fun ds hp F A Q hF hA hQ => ?_
 obtain ⟨x, y, rfl, hx, hy⟩ := sp2_arg hp
 obtain ⟨K, ba, na, la, ea, rfl, h1a, h2a, h3a, h4a, ma⟩ := toldM_arg hx
 obtain ⟨p, rfl⟩ := isi_arg hy
 have ta : toldM (.agg [.bool ba, .sl na la, .int .i64 ea]) := by rw [← h1a, ← h2a, ← h3a, ← h4a]; exact toldM_mk ma
 have oa : okD (.agg [.bool ba, .sl na la, .int .i64 ea]) := by rw [← h1a, ← h2a, ← h3a, ← h4a]; exact mid_okD ma.mid
 have va : vI ba la = K.1 := by rw [← h1a, ← h3a]; exact vI_N0 _
 have dA := midS_smD ma
 clear hp hx hy
 cbv
 repeat' (first | with_reducible refine And.intro ?_ ?_ | (with_reducible refine safe_lift hA ?_; kernel_rfl) | (intro hc_; cbv))
 all_goals (repeat (rw [safe_true hA, true_and]; rotate_left; kernel_rfl))
 all_goals subst hF hA
 all_goals simp only [fnOf, find, std, reduceIte, Nat.reduceEqDiff, sp1, sp2, a1, a2, FnSpec.out, Shape.build, leafs, leafCells, tups, oneOf, List.cons_append, List.nil_append, List.length_cons, List.length_nil, s_jRoot, s_jShort, s_cSqrt, rv_raw, rv_N0, dv, dz, dx, dcn, dm_raw, dm_N0, vI_N0, raw6_is, Prod.eta, rv9_raw, re2, re4, re6, decide_eq_true_eq, decide_eq_false_iff_not, va] at *
 all_goals (repeat' (first
  | with_reducible exact hQ
  | with_reducible assumption
  | with_reducible exact isi_int _ _
  | with_reducible refine And.intro ?_ ?_
  | omega))
 all_goals subst h1a h2a h3a h4a
 all_goals first
  | exact dA
  | exact hQ
  | trace_state
theorem good_jLengths : Good Tryz.prog (GWL [0, 1]) N0 110 s_jLengths := by
 refine goodM 0 (gc good_dSign <| gl good_jRoot rfl gn) Tryz.f110 (by kernel_rfl) (by kernel_rfl) fun ds hp F A Q hF hA hQ => ?_
 obtain ⟨x, y, z, p, rfl, hx, hy, hz⟩ := jLengths_arg hp
 obtain ⟨K, ba, na, la, ea, rfl, h1a, h2a, h3a, h4a, ma⟩ := toldM_arg hx
 obtain ⟨M, bb, nb, lb, eb, rfl, h1b, h2b, h3b, h4b, mb⟩ := toldM_arg hy
 obtain ⟨L, bq, nq, lq, eq, rfl, h1q, h2q, h3q, h4q, mq⟩ := toldM_arg hz
 have ta : toldM (.agg [.bool ba, .sl na la, .int .i64 ea]) := by rw [← h1a, ← h2a, ← h3a, ← h4a]; exact toldM_mk ma
 have oa : okD (.agg [.bool ba, .sl na la, .int .i64 ea]) := by rw [← h1a, ← h2a, ← h3a, ← h4a]; exact mid_okD ma.mid
 have va : vI ba la = K.1 := by rw [← h1a, ← h3a]; exact vI_N0 _
 have tb : toldM (.agg [.bool bb, .sl nb lb, .int .i64 eb]) := by rw [← h1b, ← h2b, ← h3b, ← h4b]; exact toldM_mk mb
 have ob : okD (.agg [.bool bb, .sl nb lb, .int .i64 eb]) := by rw [← h1b, ← h2b, ← h3b, ← h4b]; exact mid_okD mb.mid
 have vb : vI bb lb = M.1 := by rw [← h1b, ← h3b]; exact vI_N0 _
 have tq : toldM (.agg [.bool bq, .sl nq lq, .int .i64 eq]) := by rw [← h1q, ← h2q, ← h3q, ← h4q]; exact toldM_mk mq
 have oq : okD (.agg [.bool bq, .sl nq lq, .int .i64 eq]) := by rw [← h1q, ← h2q, ← h3q, ← h4q]; exact mid_okD mq.mid
 have vq : vI bq lq = L.1 := by rw [← h1q, ← h3q]; exact vI_N0 _
 clear hp hx hy hz
 cbv
 repeat' (first | with_reducible refine And.intro ?_ ?_ | (with_reducible refine safe_lift hA ?_; kernel_rfl) | (intro hc_; cbv))
 all_goals (repeat (rw [safe_true hA, true_and]; rotate_left; kernel_rfl))
 all_goals subst hF hA
 all_goals simp only [fnOf, find, std, reduceIte, Nat.reduceEqDiff, sp1, sp2, a1, a2, FnSpec.out, Shape.build, leafs, leafCells, tups, oneOf, List.cons_append, List.nil_append, List.length_cons, List.length_nil, s_jLengths, s_dSign, s_jRoot, rv_raw, rv_N0, dv, dz, dx, dcn, dm_raw, dm_N0, vI_N0, raw6_is, Prod.eta, rv9_raw, re2, re4, re6, decide_eq_true_eq, decide_eq_false_iff_not, va, vb, vq] at *
 all_goals (repeat' (first
  | with_reducible exact hQ
  | with_reducible assumption
  | with_reducible exact isi_int _ _
  | with_reducible refine And.intro ?_ ?_
  | omega))
 all_goals subst h1a h2a h3a h4a h1b h2b h3b h4b h1q h2q h3q h4q
 all_goals first
  | exact hQ
  | (rw [if_pos hc_] at hQ; exact hQ)
  | (rw [if_neg (by simpa using hc_)] at hQ; simp only [N0_neg0, N0_ln0, N0_lm0] at hQ; exact hQ)
  | trace_state
end Go.Proofs.YtnjjfakjnkhhjaaGreatDoor.Ev
