import Derived.Test.YtkfojbelnemhbaaGreatDoorHc
import Derived.Test.YtkfojbelnemhbaaGreatDoorEva
import Derived.Laws.FloatArith
import Derived.IntWalk
import Derived.Test.YtkfojbelnemhbaaGreatDoorXp
set_option maxHeartbeats 16000000
set_option maxRecDepth 100000
set_option linter.all false
namespace Go.Proofs.YtkfojbelnemhbaaGreatDoor.Ev
open Go Go.RowKit
def smP (x : D) : Prop := okPM x ∧ cz (rv8 x).1 1000 1320 ∧ cz (rv8 x).2 1000 1320
theorem smP_arg {x : D} (h : smP x) : ∃ s1 n1 c1 e1 s2 n2 c2 e2 s3 n3 c3 e3 s4 n4 c4 e4, x = .agg [.bool s1, .sl n1 c1, .int .i64 e1, .bool s2, .sl n2 c2, .int .i64 e2, .bool s3, .sl n3 c3, .int .i64 e3, .bool s4, .sl n4 c4, .int .i64 e4] ∧
  okSM n1 c1 e1 ∧ okSM n2 c2 e2 ∧ okSM n3 c3 e3 ∧ okSM n4 c4 e4 ∧ cz ((vI s1 c1, e1), (vI s2 c2, e2)) 1000 1320 ∧ cz ((vI s3 c3, e3), (vI s4 c4, e4)) 1000 1320 := by
 obtain ⟨s1, n1, c1, e1, s2, n2, c2, e2, s3, n3, c3, e3, s4, n4, c4, e4, rfl, h1, h2, h3, h4⟩ := okPM_arg h.1
 exact ⟨_, _, _, _, _, _, _, _, _, _, _, _, _, _, _, _, rfl, h1, h2, h3, h4, h.2⟩
def s_hIs : FnSpec := sp1 (.one .b) okP (fun _ _ => 0) (fun x _ => decide (cmpD (rv8 x).1.1.1 (rv8 x).1.1.2 (rv8 x).1.2.1 (rv8 x).1.2.2 ≤ 0) && decide (cmpD (rv8 x).2.1.1 (rv8 x).2.1.2 (rv8 x).2.2.1 (rv8 x).2.2.2 ≤ 0))
def s_hOf : FnSpec := sp1 PS okR (fun x i => re8 (ppt (ca (rv x))) i) (fun _ _ => false)
def s_hHas : FnSpec := sp2 (.one .b) (fun x y => okP x ∧ okR y) (fun _ _ _ => 0) (fun x y _ => hasB (rv8 x).1 (rv y).1 && hasB (rv8 x).2 (rv y).2)
def s_hIn : FnSpec := sp2 (.one .b) (fun x y => okP x ∧ okP y) (fun _ _ _ => 0) (fun x y _ => inB (rv8 x).1 (rv8 y).1 && inB (rv8 x).2 (rv8 y).2)
def s_hSame : FnSpec := sp2 (.one .b) (fun x y => okP x ∧ okP y) (fun _ _ _ => 0) (fun x y _ => decide (rn (rv8 x).1 = rn (rv8 y).1) && decide (rn (rv8 x).2 = rn (rv8 y).2))
def s_hHull : FnSpec := sp2 PS (fun x y => okP x ∧ okP y) (fun x y i => re8 (phull (rcn (rv8 x)) (rcn (rv8 y))) i) (fun _ _ _ => false)
def s_hAdd : FnSpec := sp2 PS (fun x y => okP x ∧ okP y) (fun x y i => re8 (padd (rcn (rv8 x)) (rcn (rv8 y))) i) (fun _ _ _ => false)
def s_hSub : FnSpec := sp2 PS (fun x y => okP x ∧ okP y) (fun x y i => re8 (psub (rcn (rv8 x)) (rcn (rv8 y))) i) (fun _ _ _ => false)
def s_hNeg : FnSpec := sp1 PS okP (fun x i => re8 (pneg (rcn (rv8 x))) i) (fun _ _ => false)
def s_hRound : FnSpec := sp2 PS (fun x y => okP x ∧ isi .i64 y) (fun x y i => re8 (pround (rcn (rv8 x)) (dz y)) i) (fun _ _ _ => false)
def s_hMid : FnSpec := sp1 (.agg [.I, .i .i64, .I, .i .i64]) smP (fun x i => re4 (pmid (rcn (rv8 x))) i) (fun _ _ => false)
def s_hMeet : FnSpec := sp2 (.tup [(true, [.I, .i .i64, .I, .i .i64, .I, .i .i64, .I, .i .i64]), (false, [.b])]) (fun x y => okP x ∧ okP y) (fun x y i => re8 (pmeetZ (rv8 x) (rv8 y)) i) (fun x y _ => pmeetB (rv8 x) (rv8 y))
abbrev row0 : D := .agg [.int .i64 0, .int .i64 0, .int .i64 1, .int .i64 1, .bool true]
abbrev row1 : D := .agg [.int .i64 0, .int .i64 1, .int .i64 1, .int .i64 0, .bool false]
def s_hReck : FnSpec := ⟨.agg [.I, .i .i64, .I, .i .i64], fun ds => match ds with | [s, x, y] => (s = row0 ∨ s = row1) ∧ okPM x ∧ okPM y | _ => False,
 fun ds i => match ds with | [.agg [_, _, _, _, .bool true], x, y] => re4 (pmul (rcn (rv8 x)) (rcn (rv8 y))).1 i | [_, x, y] => re4 (pmul (rcn (rv8 x)) (rcn (rv8 y))).2 i | _ => 0, fun _ _ => false, fun _ _ => 0, fun _ _ => []⟩
theorem hreck_arg {ds : List D} (h : s_hReck.p ds) : ∃ s x y, ds = [s, x, y] ∧ (s = row0 ∨ s = row1) ∧ okPM x ∧ okPM y := by
 match ds, h with
 | [s, x, y], h => exact ⟨s, x, y, rfl, h⟩
def s_hMul : FnSpec := sp2 PS (fun x y => okPM x ∧ okPM y) (fun x y i => re8 (pmul (rcn (rv8 x)) (rcn (rv8 y))) i) (fun _ _ _ => false)
def s_hSquare : FnSpec := sp1 PS smP (fun x i => re8 (psq (rcn (rv8 x))) i) (fun _ _ => false)
def s_hNorm : FnSpec := sp1 (.agg [.I, .i .i64, .I, .i .i64]) smP (fun x i => re4 (pnorm (rcn (rv8 x))) i) (fun _ _ => false)
def s_hPow : FnSpec := sp2 PS (fun x y => smP x ∧ isi .i64 y ∧ powN (dz y) ≤ 5) (fun x y i => re8 (ppw (rcn (rv8 x)) (powN (dz y))) i) (fun _ _ _ => false)
def s_hInv : FnSpec := sp2 (.tup [(true, [.I, .i .i64, .I, .i .i64, .I, .i .i64, .I, .i .i64]), (false, [.i .i64])]) (fun x y => smP x ∧ isi .i64 y ∧ dz y ≤ 200) (fun x y i => match i with | 8 => er0 (pnorm (rcn (rv8 x))) | i => re8 (pinvZ (rcn (rv8 x)) (dz y)) i) (fun _ _ _ => false)
def s_hDiv : FnSpec := ⟨.tup [(true, [.I, .i .i64, .I, .i .i64, .I, .i .i64, .I, .i .i64]), (false, [.i .i64])], fun ds => match ds with | [x, y, .int .i64 p] => smP x ∧ smP y ∧ p ≤ 200 | _ => False,
 fun ds i => match ds with | [x, y, .int _ p] => (match i with | 8 => er0 (pnorm (rcn (rv8 y))) | i => re8 (pdivZ (rcn (rv8 x)) (rcn (rv8 y)) p) i) | _ => 0, fun _ _ => false, fun _ _ => 0, fun _ _ => []⟩
theorem hdiv_arg {ds : List D} (h : s_hDiv.p ds) : ∃ x y p, ds = [x, y, .int .i64 p] ∧ smP x ∧ smP y ∧ p ≤ 200 := by
 unfold s_hDiv at h
 dsimp only at h
 split at h
 ·exact ⟨_, _, _, rfl, h⟩
 ·exact h.elim
theorem okS_M {n : Nat} {cs : List D} {e : Int} (h : okSM n cs e) : okS n cs e := h.1
theorem okR_rz {x : Re} {L H : Nat} (h : rz x L H) (hl : L + H ≤ 19200) : okR (.agg [.bool (N0.neg x.1.1), .sl (N0.ln x.1.1) (N0.lm x.1.1), .int .i64 x.1.2, .bool (N0.neg x.2.1), .sl (N0.ln x.2.1) (N0.lm x.2.1), .int .i64 x.2.2]) := okR_fR (h.fR.mono hl (by omega))
theorem okSM_sz {a : Dy} {L H : Nat} (hn : a.n = a) (h : sz a L H) (hl : L + H ≤ 9568) : okSM (N0.ln a.1) (N0.lm a.1) a.2 := okSM_fD ((sz_can hn h).mono hl (by omega))
theorem okPM_pz {x : Rc} {L H : Nat} (h : pz x L H) (hl : L + H ≤ 9568) : okPM (.agg [.bool (N0.neg x.1.1.1), .sl (N0.ln x.1.1.1) (N0.lm x.1.1.1), .int .i64 x.1.1.2, .bool (N0.neg x.1.2.1), .sl (N0.ln x.1.2.1) (N0.lm x.1.2.1), .int .i64 x.1.2.2,
  .bool (N0.neg x.2.1.1), .sl (N0.ln x.2.1.1) (N0.lm x.2.1.1), .int .i64 x.2.1.2, .bool (N0.neg x.2.2.1), .sl (N0.ln x.2.2.1) (N0.lm x.2.2.1), .int .i64 x.2.2.2]) :=
 okPM_S (okSM_sz h.1.1.2.1 h.1.2.1 hl) (okSM_sz h.1.1.2.2 h.1.2.2 hl) (okSM_sz h.2.1.2.1 h.2.2.1 hl) (okSM_sz h.2.1.2.2 h.2.2.2 hl)
theorem okP_pz {x : Rc} {L H : Nat} (h : pz x L H) (hl : L + H ≤ 19200) : okP (.agg [.bool (N0.neg x.1.1.1), .sl (N0.ln x.1.1.1) (N0.lm x.1.1.1), .int .i64 x.1.1.2, .bool (N0.neg x.1.2.1), .sl (N0.ln x.1.2.1) (N0.lm x.1.2.1), .int .i64 x.1.2.2,
  .bool (N0.neg x.2.1.1), .sl (N0.ln x.2.1.1) (N0.lm x.2.1.1), .int .i64 x.2.1.2, .bool (N0.neg x.2.2.1), .sl (N0.ln x.2.2.1) (N0.lm x.2.2.1), .int .i64 x.2.2.2]) :=
 okP_S (okS_fD (h.1.fR.1.mono hl (by omega))) (okS_fD (h.1.fR.2.mono hl (by omega))) (okS_fD (h.2.fR.1.mono hl (by omega))) (okS_fD (h.2.fR.2.mono hl (by omega)))
theorem rv8_N0 (x : Rc) : rv8 (.agg [.bool (N0.neg x.1.1.1), .sl (N0.ln x.1.1.1) (N0.lm x.1.1.1), .int .i64 x.1.1.2, .bool (N0.neg x.1.2.1), .sl (N0.ln x.1.2.1) (N0.lm x.1.2.1), .int .i64 x.1.2.2,
  .bool (N0.neg x.2.1.1), .sl (N0.ln x.2.1.1) (N0.lm x.2.1.1), .int .i64 x.2.1.2, .bool (N0.neg x.2.2.1), .sl (N0.ln x.2.2.1) (N0.lm x.2.2.1), .int .i64 x.2.2.2]) = x := by
 unfold rv8; simp only [rw12_is, vI_N0]
theorem mid_raw (x : Rc) : cscl (cadd (x.1.1, x.2.1) (x.1.2, x.2.2)) (-1) = pmid (rcn x) := by rw [pmid_rcn]; rfl
theorem rmul_rn_ok {x y : Re} (hx : fR x 9568 15000) (hy : fR y 9568 15000) : okR (.agg [.bool (N0.neg (rmul (rn x) (rn y)).1.1), .sl (N0.ln (rmul (rn x) (rn y)).1.1) (N0.lm (rmul (rn x) (rn y)).1.1), .int .i64 (rmul (rn x) (rn y)).1.2, .bool (N0.neg (rmul (rn x) (rn y)).2.1), .sl (N0.ln (rmul (rn x) (rn y)).2.1) (N0.lm (rmul (rn x) (rn y)).2.1), .int .i64 (rmul (rn x) (rn y)).2.2]) ∧
  rn (rmul (rn x) (rn y)) = rmul (rn x) (rn y) := by
 have hc := rcan_rmul (rn_ok x) (rn_ok y)
 refine ⟨okR_fR ?_, hc.id⟩
 have key : ∀ {a b a' b' : Dy}, fD a 9568 15000 → fD b 9568 15000 → a' = a.n → b' = b.n → fD (a'.mul b') 19200 50000 := fun ha hb h1 h2 => by
  rw [h1, h2, mul_nn]; exact (fD_mul ha hb).mono (by omega) (by omega)
 have pick : ∀ (x : Re), ((rn x).1 = x.1.n ∧ (rn x).2 = x.2.n) ∨ ((rn x).1 = x.2.n ∧ (rn x).2 = x.1.n) := fun x => by
  rcases rn_ends x with e | e
  ·exact .inl ⟨by rw [e], by rw [e]⟩
  ·exact .inr ⟨by rw [e], by rw [e]⟩
 have h4 : (fD ((rn x).1.mul (rn y).1) 19200 50000 ∧ fD ((rn x).1.mul (rn y).2) 19200 50000) ∧ fD ((rn x).2.mul (rn y).1) 19200 50000 ∧ fD ((rn x).2.mul (rn y).2) 19200 50000 := by
  rcases pick x with ⟨e1, e2⟩ | ⟨e1, e2⟩ <;> rcases pick y with ⟨g1, g2⟩ | ⟨g1, g2⟩
  ·exact ⟨⟨key hx.1 hy.1 e1 g1, key hx.1 hy.2 e1 g2⟩, key hx.2 hy.1 e2 g1, key hx.2 hy.2 e2 g2⟩
  ·exact ⟨⟨key hx.1 hy.2 e1 g1, key hx.1 hy.1 e1 g2⟩, key hx.2 hy.2 e2 g1, key hx.2 hy.1 e2 g2⟩
  ·exact ⟨⟨key hx.2 hy.1 e1 g1, key hx.2 hy.2 e1 g2⟩, key hx.1 hy.1 e2 g1, key hx.1 hy.2 e2 g2⟩
  ·exact ⟨⟨key hx.2 hy.2 e1 g1, key hx.2 hy.1 e1 g2⟩, key hx.1 hy.2 e2 g1, key hx.1 hy.1 e2 g2⟩
 exact ⟨fD_min (fD_min h4.1.1 h4.1.2) (fD_min h4.2.1 h4.2.2), fD_max (fD_max h4.1.1 h4.1.2) (fD_max h4.2.1 h4.2.2)⟩
theorem rhull_self (a : Re) : rhull a a = a := by unfold rhull; rw [dmin_self, dmax_self]
theorem okM_rz {x : Re} {L H : Nat} (h : rz x L H) (hl : L + H ≤ 9568) : s_eMul.okM (.agg [.bool (N0.neg x.1.1), .sl (N0.ln x.1.1) (N0.lm x.1.1), .int .i64 x.1.2, .bool (N0.neg x.2.1), .sl (N0.ln x.2.1) (N0.lm x.2.1), .int .i64 x.2.2]) := okM_fR (h.fR.mono hl (by omega))
theorem pz_inv {x : Rc} (h : pz x 1000 1320) {p : Int} (hp : p ≤ 200) : pz (pinvZ x p) 3841 3323 := by
 have hn := pz_norm h
 have key : ∀ {a : Re}, rz a 1000 1320 → rz (rdivZ a (pnorm x) p) 3841 3323 := fun ha => (rz_divZ (P := 200) ha hn (by omega) hp (by omega) (by omega) (by omega)).mono (by omega) (by omega)
 exact ⟨key h.1, key (rz_neg h.2)⟩
theorem pz_sm {x : D} (h : smP x) : pz (rcn (rv8 x)) 1000 1320 := pz_rcn h.2.1 h.2.2
theorem er_cases (r : Re) : er0 r = 0 ∨ (er0 r = 11 ∧ zeroY r = true) := by
 unfold er0; split
 ·exact .inr ⟨rfl, by assumption⟩
 ·exact .inl rfl
theorem divZ_0 {x y : Re} {p : Int} (h : zeroY y = true) : rdivZ x y p = ((0, 0), (0, 0)) := if_pos h
theorem okR_1 : okR (.agg [.bool (N0.neg 1), .sl (N0.ln 1) (N0.lm 1), .int .i64 0, .bool (N0.neg 0), .sl (N0.ln 0) (N0.lm 0), .int .i64 0]) := okR_fR (r := ((1, 0), (0, 0))) ⟨fD_one.mono (by omega) (by omega), fD_zero _ _⟩
abbrev G_hIs : Prop := Good Tryz.prog (GWL [0, 1, 2, 3, 4, 5, 6]) N0 89 s_hIs
abbrev G_hOf : Prop := Good Tryz.prog (GWL [0, 1, 2, 3, 4, 5, 6]) N0 40 s_hOf
abbrev G_hHas : Prop := Good Tryz.prog (GWL [0, 1, 2, 3, 4, 5, 6]) N0 15 s_hHas
abbrev G_hIn : Prop := Good Tryz.prog (GWL [0, 1, 2, 3, 4, 5, 6]) N0 18 s_hIn
abbrev G_hSame : Prop := Good Tryz.prog (GWL [0, 1, 2, 3, 4, 5, 6]) N0 39 s_hSame
abbrev G_hHull : Prop := Good Tryz.prog (GWL [0, 1, 2, 3, 4, 5, 6]) N0 34 s_hHull
abbrev G_hAdd : Prop := Good Tryz.prog (GWL [0, 1, 2, 3, 4, 5, 6]) N0 21 s_hAdd
abbrev G_hSub : Prop := Good Tryz.prog (GWL [0, 1, 2, 3, 4, 5, 6]) N0 23 s_hSub
theorem goods_hd1 : G_hIs ∧ G_hOf ∧ G_hHas ∧ G_hIn ∧ G_hSame ∧ G_hHull ∧ G_hAdd ∧ G_hSub := by
 refine ⟨?_, ?_, ?_, ?_, ?_, ?_, ?_, ?_⟩
 refine goodM 0 (gl good_eIs rfl gn) Tryz.f89 (by kernel_rfl) (by kernel_rfl) fun ds hp F A Q hF hA hQ => ?_
 obtain ⟨x, rfl, hx⟩ := sp1_arg hp
 obtain ⟨s1, n1, c1, e1, s2, n2, c2, e2, s3, n3, c3, e3, s4, n4, c4, e4, rfl, x1, x2, x3, x4⟩ := okP_arg hx
 clear hp
 rotate_left
 refine goodM 0 (gl good_eOf rfl gn) Tryz.f40 (by kernel_rfl) (by kernel_rfl) fun ds hp F A Q hF hA hQ => ?_
 obtain ⟨x, rfl, hx⟩ := sp1_arg hp
 obtain ⟨s, n, cs, e, t, m, es, f, rfl, hc, hn, he1, he2, hc2, hm, hf1, hf2⟩ := okR_arg hx
 have tS := okT_mk (s := s) hc hn he1 he2
 have tT := okT_mk (s := t) hc2 hm hf1 hf2
 clear hp
 rotate_left
 refine goodM 0 (gl good_eHas rfl gn) Tryz.f15 (by kernel_rfl) (by kernel_rfl) fun ds hp F A Q hF hA hQ => ?_
 obtain ⟨x, y, rfl, hx, hy⟩ := sp2_arg hp
 obtain ⟨s1, n1, c1, e1, s2, n2, c2, e2, s3, n3, c3, e3, s4, n4, c4, e4, rfl, x1, x2, x3, x4⟩ := okP_arg hx
 obtain ⟨s, n, cs, e, t, m, es, f, rfl, hc, hn, he1, he2, hc2, hm, hf1, hf2⟩ := okR_arg hy
 have tS := okT_mk (s := s) hc hn he1 he2
 have tT := okT_mk (s := t) hc2 hm hf1 hf2
 clear hp
 rotate_left
 refine goodM 0 (gc good_hBoth gn) Tryz.f18 (by kernel_rfl) (by kernel_rfl) fun ds hp F A Q hF hA hQ => ?_
 obtain ⟨x, y, rfl, hx, hy⟩ := sp2_arg hp
 obtain ⟨s1, n1, c1, e1, s2, n2, c2, e2, s3, n3, c3, e3, s4, n4, c4, e4, rfl, x1, x2, x3, x4⟩ := okP_arg hx
 obtain ⟨t1, m1, d1, f1, t2, m2, d2, f2, t3, m3, d3, f3, t4, m4, d4, f4, rfl, y1, y2, y3, y4⟩ := okP_arg hy
 have hIN := Or.inl (b := 102 = 120) (rfl : 102 = 102)
 clear hp
 rotate_left
 refine goodM 0 (gc good_hBoth gn) Tryz.f39 (by kernel_rfl) (by kernel_rfl) fun ds hp F A Q hF hA hQ => ?_
 obtain ⟨x, y, rfl, hx, hy⟩ := sp2_arg hp
 obtain ⟨s1, n1, c1, e1, s2, n2, c2, e2, s3, n3, c3, e3, s4, n4, c4, e4, rfl, x1, x2, x3, x4⟩ := okP_arg hx
 obtain ⟨t1, m1, d1, f1, t2, m2, d2, f2, t3, m3, d3, f3, t4, m4, d4, f4, rfl, y1, y2, y3, y4⟩ := okP_arg hy
 clear hp
 rotate_left
 refine goodM 0 (gc good_hPairs gn) Tryz.f34 (by kernel_rfl) (by kernel_rfl) fun ds hp F A Q hF hA hQ => ?_
 obtain ⟨x, y, rfl, hx, hy⟩ := sp2_arg hp
 obtain ⟨s1, n1, c1, e1, s2, n2, c2, e2, s3, n3, c3, e3, s4, n4, c4, e4, rfl, x1, x2, x3, x4⟩ := okP_arg hx
 obtain ⟨t1, m1, d1, f1, t2, m2, d2, f2, t3, m3, d3, f3, t4, m4, d4, f4, rfl, y1, y2, y3, y4⟩ := okP_arg hy
 clear hp
 rotate_left
 refine goodM 0 (gc good_hPairs gn) Tryz.f21 (by kernel_rfl) (by kernel_rfl) fun ds hp F A Q hF hA hQ => ?_
 obtain ⟨x, y, rfl, hx, hy⟩ := sp2_arg hp
 obtain ⟨s1, n1, c1, e1, s2, n2, c2, e2, s3, n3, c3, e3, s4, n4, c4, e4, rfl, x1, x2, x3, x4⟩ := okP_arg hx
 obtain ⟨t1, m1, d1, f1, t2, m2, d2, f2, t3, m3, d3, f3, t4, m4, d4, f4, rfl, y1, y2, y3, y4⟩ := okP_arg hy
 clear hp
 rotate_left
 refine goodM 0 (gc good_hPairs gn) Tryz.f23 (by kernel_rfl) (by kernel_rfl) fun ds hp F A Q hF hA hQ => ?_
 obtain ⟨x, y, rfl, hx, hy⟩ := sp2_arg hp
 obtain ⟨s1, n1, c1, e1, s2, n2, c2, e2, s3, n3, c3, e3, s4, n4, c4, e4, rfl, x1, x2, x3, x4⟩ := okP_arg hx
 obtain ⟨t1, m1, d1, f1, t2, m2, d2, f2, t3, m3, d3, f3, t4, m4, d4, f4, rfl, y1, y2, y3, y4⟩ := okP_arg hy
 clear hp
 rotate_left
 all_goals cbv
 all_goals (repeat' (first | with_reducible refine And.intro ?_ ?_ | (with_reducible refine safe_lift hA ?_; kernel_rfl) | (intro hc_; first | fail | cbv)))
 all_goals (repeat (rw [safe_true hA, true_and]; rotate_left; kernel_rfl))
 all_goals subst hF hA
 all_goals simp only [fnOf, find, std, reduceIte, Nat.reduceEqDiff, sp1, sp2, a1, a2, FnSpec.out, Shape.build, leafs, leafCells, tups, oneOf, List.cons_append, List.nil_append, List.length_cons, List.length_nil, s_hIs, s_eIs, re4, rv_raw, rv_N0, dv, dz, dx, dcn, dm_raw, dm_N0, vI_N0, raw6_is, raw3_is, pick2, decide_eq_true_eq, decide_eq_false_iff_not, gt_iff_lt, ge_iff_le, Dy.n, Dy.add, Dy.sub, Dy.mul, Dy.neg, Dy.abs, Dy.to, Dy.pow, sg_nonpos7, sg_nonneg7, rv8, rw12_is, re8, s_hRaw, rcn, padd, psub, pneg, phull, pround, pmul, psq, pnorm, lp3, lit3, s_hOf, s_eOf, ppt, ca, s_hHas, s_eHas, s_hIn, s_hBoth, s_hSame, s_hHull, s_hPairs, s_hAdd, s_hSub] at *
 all_goals (repeat' (first
  | with_reducible exact hQ
  | with_reducible assumption
  | with_reducible exact isi_int _ _
  | with_reducible exact okR_S (by with_reducible assumption) (by with_reducible assumption)
  | with_reducible exact okP_S (by with_reducible assumption) (by with_reducible assumption) (by with_reducible assumption) (by with_reducible assumption)
  | with_reducible exact okQ_mk
  | with_reducible exact okT_S (by with_reducible assumption)
  | with_reducible exact okM_S (by with_reducible assumption) (by with_reducible assumption)
  | with_reducible exact okPM_S (by with_reducible assumption) (by with_reducible assumption) (by with_reducible assumption) (by with_reducible assumption)
  | with_reducible exact few30_S (by with_reducible assumption) (by with_reducible assumption)
  | with_reducible refine And.intro ?_ ?_
  | rfl
  | omega))
 all_goals first
  | exact Post.b hQ (and_y hc_)
  | exact Post.b hQ (and_n hc_)
  | (simp only [decide_eq_true_eq, decide_eq_false_iff_not] at hc_; exact Post.b hQ (and_y (decide_eq_true hc_)))
  | (simp only [decide_eq_true_eq, decide_eq_false_iff_not] at hc_; exact Post.b hQ (and_n (decide_eq_false hc_)))
  | exact ⟨hx, hy, .inl rfl⟩
  | exact hQ
  | (simp; done)
  | exact ⟨hx, hy, .inr rfl⟩
  | exact ⟨hx, hy, .inr (.inr rfl)⟩
  | exact ⟨hx, hy, .inr (.inl rfl)⟩
  | fail
theorem good_hIs : G_hIs := goods_hd1.1
theorem good_hOf : G_hOf := goods_hd1.2.1
theorem good_hHas : G_hHas := goods_hd1.2.2.1
theorem good_hIn : G_hIn := goods_hd1.2.2.2.1
theorem good_hSame : G_hSame := goods_hd1.2.2.2.2.1
theorem good_hHull : G_hHull := goods_hd1.2.2.2.2.2.1
theorem good_hAdd : G_hAdd := goods_hd1.2.2.2.2.2.2.1
theorem good_hSub : G_hSub := goods_hd1.2.2.2.2.2.2.2
abbrev G_hNeg : Prop := Good Tryz.prog (GWL [0, 1, 2, 3, 4, 5, 6]) N0 52 s_hNeg
abbrev G_hRound : Prop := Good Tryz.prog (GWL [0, 1, 2, 3, 4, 5, 6]) N0 46 s_hRound
abbrev G_hMid : Prop := Good Tryz.prog (GWL [0, 1, 2, 3, 4, 5, 6]) N0 37 s_hMid
theorem goods_hd2 : G_hNeg ∧ G_hRound ∧ G_hMid := by
 refine ⟨?_, ?_, ?_⟩
 refine goodM 0 (gc good_hEach gn) Tryz.f52 (by kernel_rfl) (by kernel_rfl) fun ds hp F A Q hF hA hQ => ?_
 obtain ⟨x, rfl, hx⟩ := sp1_arg hp
 obtain ⟨s1, n1, c1, e1, s2, n2, c2, e2, s3, n3, c3, e3, s4, n4, c4, e4, rfl, x1, x2, x3, x4⟩ := okP_arg hx
 clear hp
 rotate_left
 refine goodM 0 (gc good_hEach gn) Tryz.f46 (by kernel_rfl) (by kernel_rfl) fun ds hp F A Q hF hA hQ => ?_
 obtain ⟨x, y, rfl, hx, hy⟩ := sp2_arg hp
 obtain ⟨s1, n1, c1, e1, s2, n2, c2, e2, s3, n3, c3, e3, s4, n4, c4, e4, rfl, x1, x2, x3, x4⟩ := okP_arg hx
 obtain ⟨k, rfl⟩ := isi_arg hy
 clear hp hy
 rotate_left
 refine goodM 0 (gl good_uAdd rfl <| gl good_uScale rfl gn) Tryz.f37 (by kernel_rfl) (by kernel_rfl) fun ds hp F A Q hF hA hQ => ?_
 obtain ⟨x, rfl, hx⟩ := sp1_arg hp
 obtain ⟨s1, n1, c1, e1, s2, n2, c2, e2, s3, n3, c3, e3, s4, n4, c4, e4, rfl, m1x, m2x, m3x, m4x, zx1, zx2⟩ := smP_arg hx
 have x1_ := okS_M m1x
 have x2_ := okS_M m2x
 have x3_ := okS_M m3x
 have x4_ := okS_M m4x
 have qM := mid_raw (((vI s1 c1, e1), (vI s2 c2, e2)), ((vI s3 c3, e3), (vI s4 c4, e4)))
 have cM := okR_fR ((cz_can ⟨add_n _ _, add_n _ _⟩ (cz_add (x := ((vI s1 c1, e1), (vI s3 c3, e3))) (y := ((vI s2 c2, e2), (vI s4 c4, e4))) ⟨zx1.1, zx2.1⟩ ⟨zx1.2, zx2.2⟩)).mono (show 1000 + (1320 + 1) ≤ 19200 by omega) (show 1000 + (1320 + 1) ≤ 50000 by omega))
 clear hp hx
 rotate_left
 all_goals cbv
 all_goals (repeat' (first | with_reducible refine And.intro ?_ ?_ | (with_reducible refine safe_lift hA ?_; kernel_rfl) | (intro hc_; first | fail | cbv)))
 all_goals (repeat (rw [safe_true hA, true_and]; rotate_left; kernel_rfl))
 all_goals subst hF hA
 all_goals simp only [fnOf, find, std, reduceIte, Nat.reduceEqDiff, sp1, sp2, a1, a2, FnSpec.out, Shape.build, leafs, leafCells, tups, oneOf, List.cons_append, List.nil_append, List.length_cons, List.length_nil, s_hNeg, s_hEach, re4, rv_raw, rv_N0, dv, dz, dx, dcn, dm_raw, dm_N0, vI_N0, raw6_is, raw3_is, pick2, decide_eq_true_eq, decide_eq_false_iff_not, gt_iff_lt, ge_iff_le, Dy.n, Dy.add, Dy.sub, Dy.mul, Dy.neg, Dy.abs, Dy.to, Dy.pow, sg_nonpos7, sg_nonneg7, rv8, rw12_is, re8, s_hRaw, rcn, padd, psub, pneg, phull, pround, pmul, psq, pnorm, lp3, lit3, s_hRound, s_hMid, s_uAdd, s_uScale, cscl, cadd, Dy.scl] at *
 all_goals (repeat' (first
  | with_reducible exact hQ
  | with_reducible assumption
  | with_reducible exact isi_int _ _
  | with_reducible exact okR_S (by with_reducible assumption) (by with_reducible assumption)
  | with_reducible exact okP_S (by with_reducible assumption) (by with_reducible assumption) (by with_reducible assumption) (by with_reducible assumption)
  | with_reducible exact okQ_mk
  | with_reducible exact okT_S (by with_reducible assumption)
  | with_reducible exact okM_S (by with_reducible assumption) (by with_reducible assumption)
  | with_reducible exact okPM_S (by with_reducible assumption) (by with_reducible assumption) (by with_reducible assumption) (by with_reducible assumption)
  | with_reducible exact few30_S (by with_reducible assumption) (by with_reducible assumption)
  | with_reducible refine And.intro ?_ ?_
  | rfl
  | omega))
 all_goals first
  | exact ⟨hx, .inl ⟨rfl, rfl⟩⟩
  | exact hQ
  | (simp; done)
  | exact ⟨hx, .inr ⟨rfl, _, rfl⟩⟩
  | exact Post.r hQ qM.symm
  | fail
theorem good_hNeg : G_hNeg := goods_hd2.1
theorem good_hRound : G_hRound := goods_hd2.2.1
theorem good_hMid : G_hMid := goods_hd2.2.2
theorem good_hMeet : Good Tryz.prog (GWL [0, 1, 2, 3, 4, 5, 6]) N0 13 s_hMeet := by
 refine goodM 0 (gc good_hParts <| gc good_hJoined <| gl good_eMeet rfl gn) Tryz.f13 (by kernel_rfl) (by kernel_rfl) fun ds hp F A Q hF hA hQ => ?_
 obtain ⟨x, y, rfl, hx, hy⟩ := sp2_arg hp
 obtain ⟨s1, n1, c1, e1, s2, n2, c2, e2, s3, n3, c3, e3, s4, n4, c4, e4, rfl, x1, x2, x3, x4⟩ := okP_arg hx
 obtain ⟨t1, m1, d1, f1, t2, m2, d2, f2, t3, m3, d3, f3, t4, m4, d4, f4, rfl, y1, y2, y3, y4⟩ := okP_arg hy
 clear hp
 have w01 : A.add .i64 0 1 = 1 := by rw [hA]; rfl
 have w12 : A.add .i64 1 1 = 2 := by rw [hA]; rfl
 have l02 : A.lt 0 2 = true := by rw [hA]; rfl
 have l12 : A.lt 1 2 = true := by rw [hA]; rfl
 have l22 : A.lt 2 2 = false := by rw [hA]; rfl
 rcases two_b (meetB ((vI s1 c1, e1), (vI s2 c2, e2)) ((vI t1 d1, f1), (vI t2 d2, f2))) (meetB ((vI s3 c3, e3), (vI s4 c4, e4)) ((vI t3 d3, f3), (vI t4 d4, f4))) with k1 | ⟨k1, k2⟩ | ⟨k1, k2⟩
 ·obtain ⟨Z1, hZ1⟩ : ∃ Z : Re, Z = rmeetZ (rn ((vI s1 c1, e1), (vI s2 c2, e2))) (rn ((vI t1 d1, f1), (vI t2 d2, f2))) := ⟨_, rfl⟩
  obtain ⟨Z2, hZ2⟩ : ∃ Z : Re, Z = rmeetZ (rn ((vI s3 c3, e3), (vI s4 c4, e4))) (rn ((vI t3 d3, f3), (vI t4 d4, f4))) := ⟨_, rfl⟩
  cbv
  repeat' (first | with_reducible refine And.intro ?_ ?_ | (with_reducible refine safe_lift hA ?_; kernel_rfl) | (with_reducible refine loop_by (fun i st => ((st.setT 15 (.int .i64 (lit3 i))).setC 3 (lp3 i [.bool s1, .sl n1 c1, .int .i64 e1, .bool s2, .sl n2 c2, .int .i64 e2, .bool s3, .sl n3 c3, .int .i64 e3, .bool s4, .sl n4 c4, .int .i64 e4] [.bool (F.neg Z1.1.1), .sl (F.ln Z1.1.1) (F.lm Z1.1.1), .int .i64 Z1.1.2, .bool (F.neg Z1.2.1), .sl (F.ln Z1.2.1) (F.lm Z1.2.1), .int .i64 Z1.2.2, .bool s3, .sl n3 c3, .int .i64 e3, .bool s4, .sl n4 c4, .int .i64 e4] [.bool (F.neg Z1.1.1), .sl (F.ln Z1.1.1) (F.lm Z1.1.1), .int .i64 Z1.1.2, .bool (F.neg Z1.2.1), .sl (F.ln Z1.2.1) (F.lm Z1.2.1), .int .i64 Z1.2.2, .bool (F.neg Z2.1.1), .sl (F.ln Z2.1.1) (F.lm Z2.1.1), .int .i64 Z2.1.2, .bool (F.neg Z2.2.1), .sl (F.ln Z2.2.1) (F.lm Z2.2.1), .int .i64 Z2.2.2]))) 0 ?_ ?_; cbv; rotate_left; intro i hi; obtain rfl := one_or hi <;> cbv) | (intro hc_; first | (first | exact Bool.noConfusion (hc_.symm.trans l02) | exact Bool.noConfusion (hc_.symm.trans l12) | exact Bool.noConfusion (hc_.symm.trans l22)) | cbv))
  all_goals (repeat (rw [safe_true hA, true_and]; rotate_left; kernel_rfl))
  all_goals subst hF hA hZ1 hZ2
  all_goals simp only [fnOf, find, std, reduceIte, Nat.reduceEqDiff, sp2, a1, a2, FnSpec.out, Shape.build, leafs, leafCells, tups, oneOf, List.cons_append, List.nil_append, List.length_cons, List.length_nil, s_hMeet, s_hParts, s_hJoined, s_eMeet, re4, rv_raw, decide_eq_true_eq, decide_eq_false_iff_not, gt_iff_lt, rv8, rw12_is, re8, s_hRaw] at *
  all_goals (repeat' (first
   | with_reducible exact hQ
   | with_reducible assumption
   | with_reducible exact isi_int _ _
   | with_reducible exact okR_S (by with_reducible assumption) (by with_reducible assumption)
   | with_reducible exact okP_S (by with_reducible assumption) (by with_reducible assumption) (by with_reducible assumption) (by with_reducible assumption)
   | with_reducible exact okQ_mk
   | with_reducible exact okT_S (by with_reducible assumption)
   | with_reducible exact okM_S (by with_reducible assumption) (by with_reducible assumption)
   | with_reducible exact okPM_S (by with_reducible assumption) (by with_reducible assumption) (by with_reducible assumption) (by with_reducible assumption)
   | with_reducible exact few30_S (by with_reducible assumption) (by with_reducible assumption)
   | with_reducible refine And.intro ?_ ?_
   | rfl
   | omega))
  all_goals first
   | (exfalso; simp [k1] at hc_; done)
   | (exfalso; simp [] at hc_; done)
   | (have hr : pmeetZ (((vI s1 c1, e1), (vI s2 c2, e2)), ((vI s3 c3, e3), (vI s4 c4, e4))) (((vI t1 d1, f1), (vI t2 d2, f2)), ((vI t3 d3, f3), (vI t4 d4, f4))) = pzero := if_neg (by unfold pmeetB; dsimp only; rw [k1]; simp)
      have hb : pmeetB (((vI s1 c1, e1), (vI s2 c2, e2)), ((vI s3 c3, e3), (vI s4 c4, e4))) (((vI t1 d1, f1), (vI t2 d2, f2)), ((vI t3 d3, f3), (vI t4 d4, f4))) = false := by unfold pmeetB; dsimp only; rw [k1]; simp
      simp only [hr, hb, pzero, N0_neg0, N0_ln0, N0_lm0] at hQ; exact hQ)
   | (have hr : pmeetZ (((vI s1 c1, e1), (vI s2 c2, e2)), ((vI s3 c3, e3), (vI s4 c4, e4))) (((vI t1 d1, f1), (vI t2 d2, f2)), ((vI t3 d3, f3), (vI t4 d4, f4))) = pzero := if_neg (by unfold pmeetB; dsimp only; rw [k1, k2]; simp)
      have hb : pmeetB (((vI s1 c1, e1), (vI s2 c2, e2)), ((vI s3 c3, e3), (vI s4 c4, e4))) (((vI t1 d1, f1), (vI t2 d2, f2)), ((vI t3 d3, f3), (vI t4 d4, f4))) = false := by unfold pmeetB; dsimp only; rw [k1, k2]; simp
      simp only [hr, hb, pzero, N0_neg0, N0_ln0, N0_lm0] at hQ; exact hQ)
   | (have hb : pmeetB (((vI s1 c1, e1), (vI s2 c2, e2)), ((vI s3 c3, e3), (vI s4 c4, e4))) (((vI t1 d1, f1), (vI t2 d2, f2)), ((vI t3 d3, f3), (vI t4 d4, f4))) = true := by unfold pmeetB; dsimp only; rw [k1, k2]; rfl
      have hr : pmeetZ (((vI s1 c1, e1), (vI s2 c2, e2)), ((vI s3 c3, e3), (vI s4 c4, e4))) (((vI t1 d1, f1), (vI t2 d2, f2)), ((vI t3 d3, f3), (vI t4 d4, f4))) = (rmeetZ (rn ((vI s1 c1, e1), (vI s2 c2, e2))) (rn ((vI t1 d1, f1), (vI t2 d2, f2))), rmeetZ (rn ((vI s3 c3, e3), (vI s4 c4, e4))) (rn ((vI t3 d3, f3), (vI t4 d4, f4)))) := if_pos hb
      simp only [hr, hb] at hQ; exact hQ)
   | trace_state
 ·obtain ⟨Z1, hZ1⟩ : ∃ Z : Re, Z = rmeetZ (rn ((vI s1 c1, e1), (vI s2 c2, e2))) (rn ((vI t1 d1, f1), (vI t2 d2, f2))) := ⟨_, rfl⟩
  obtain ⟨Z2, hZ2⟩ : ∃ Z : Re, Z = rmeetZ (rn ((vI s3 c3, e3), (vI s4 c4, e4))) (rn ((vI t3 d3, f3), (vI t4 d4, f4))) := ⟨_, rfl⟩
  cbv
  repeat' (first | with_reducible refine And.intro ?_ ?_ | (with_reducible refine safe_lift hA ?_; kernel_rfl) | (with_reducible refine loop_by (fun i st => ((st.setT 15 (.int .i64 (lit3 i))).setC 3 (lp3 i [.bool s1, .sl n1 c1, .int .i64 e1, .bool s2, .sl n2 c2, .int .i64 e2, .bool s3, .sl n3 c3, .int .i64 e3, .bool s4, .sl n4 c4, .int .i64 e4] [.bool (F.neg Z1.1.1), .sl (F.ln Z1.1.1) (F.lm Z1.1.1), .int .i64 Z1.1.2, .bool (F.neg Z1.2.1), .sl (F.ln Z1.2.1) (F.lm Z1.2.1), .int .i64 Z1.2.2, .bool s3, .sl n3 c3, .int .i64 e3, .bool s4, .sl n4 c4, .int .i64 e4] [.bool (F.neg Z1.1.1), .sl (F.ln Z1.1.1) (F.lm Z1.1.1), .int .i64 Z1.1.2, .bool (F.neg Z1.2.1), .sl (F.ln Z1.2.1) (F.lm Z1.2.1), .int .i64 Z1.2.2, .bool (F.neg Z2.1.1), .sl (F.ln Z2.1.1) (F.lm Z2.1.1), .int .i64 Z2.1.2, .bool (F.neg Z2.2.1), .sl (F.ln Z2.2.1) (F.lm Z2.2.1), .int .i64 Z2.2.2]))) 1 ?_ ?_; cbv; rotate_left; intro i hi; rcases two_or hi with rfl | rfl <;> cbv) | (intro hc_; first | (first | exact Bool.noConfusion (hc_.symm.trans l02) | exact Bool.noConfusion (hc_.symm.trans l12) | exact Bool.noConfusion (hc_.symm.trans l22)) | cbv))
  all_goals (repeat (rw [safe_true hA, true_and]; rotate_left; kernel_rfl))
  all_goals subst hF hA hZ1 hZ2
  all_goals simp only [fnOf, find, std, reduceIte, Nat.reduceEqDiff, sp2, a1, a2, FnSpec.out, Shape.build, leafs, leafCells, tups, oneOf, List.cons_append, List.nil_append, List.length_cons, List.length_nil, s_hMeet, s_hParts, s_hJoined, s_eMeet, re4, rv_raw, decide_eq_true_eq, decide_eq_false_iff_not, gt_iff_lt, rv8, rw12_is, re8, s_hRaw] at *
  all_goals (repeat' (first
   | with_reducible exact hQ
   | with_reducible assumption
   | with_reducible exact isi_int _ _
   | with_reducible exact okR_S (by with_reducible assumption) (by with_reducible assumption)
   | with_reducible exact okP_S (by with_reducible assumption) (by with_reducible assumption) (by with_reducible assumption) (by with_reducible assumption)
   | with_reducible exact okQ_mk
   | with_reducible exact okT_S (by with_reducible assumption)
   | with_reducible exact okM_S (by with_reducible assumption) (by with_reducible assumption)
   | with_reducible exact okPM_S (by with_reducible assumption) (by with_reducible assumption) (by with_reducible assumption) (by with_reducible assumption)
   | with_reducible exact few30_S (by with_reducible assumption) (by with_reducible assumption)
   | with_reducible refine And.intro ?_ ?_
   | rfl
   | omega))
  all_goals first
   | (exfalso; simp [k1] at hc_; done)
   | (exfalso; simp [k2] at hc_; done)
   | (have hr : pmeetZ (((vI s1 c1, e1), (vI s2 c2, e2)), ((vI s3 c3, e3), (vI s4 c4, e4))) (((vI t1 d1, f1), (vI t2 d2, f2)), ((vI t3 d3, f3), (vI t4 d4, f4))) = pzero := if_neg (by unfold pmeetB; dsimp only; rw [k1]; simp)
      have hb : pmeetB (((vI s1 c1, e1), (vI s2 c2, e2)), ((vI s3 c3, e3), (vI s4 c4, e4))) (((vI t1 d1, f1), (vI t2 d2, f2)), ((vI t3 d3, f3), (vI t4 d4, f4))) = false := by unfold pmeetB; dsimp only; rw [k1]; simp
      simp only [hr, hb, pzero, N0_neg0, N0_ln0, N0_lm0] at hQ; exact hQ)
   | (have hr : pmeetZ (((vI s1 c1, e1), (vI s2 c2, e2)), ((vI s3 c3, e3), (vI s4 c4, e4))) (((vI t1 d1, f1), (vI t2 d2, f2)), ((vI t3 d3, f3), (vI t4 d4, f4))) = pzero := if_neg (by unfold pmeetB; dsimp only; rw [k1, k2]; simp)
      have hb : pmeetB (((vI s1 c1, e1), (vI s2 c2, e2)), ((vI s3 c3, e3), (vI s4 c4, e4))) (((vI t1 d1, f1), (vI t2 d2, f2)), ((vI t3 d3, f3), (vI t4 d4, f4))) = false := by unfold pmeetB; dsimp only; rw [k1, k2]; simp
      simp only [hr, hb, pzero, N0_neg0, N0_ln0, N0_lm0] at hQ; exact hQ)
   | (have hb : pmeetB (((vI s1 c1, e1), (vI s2 c2, e2)), ((vI s3 c3, e3), (vI s4 c4, e4))) (((vI t1 d1, f1), (vI t2 d2, f2)), ((vI t3 d3, f3), (vI t4 d4, f4))) = true := by unfold pmeetB; dsimp only; rw [k1, k2]; rfl
      have hr : pmeetZ (((vI s1 c1, e1), (vI s2 c2, e2)), ((vI s3 c3, e3), (vI s4 c4, e4))) (((vI t1 d1, f1), (vI t2 d2, f2)), ((vI t3 d3, f3), (vI t4 d4, f4))) = (rmeetZ (rn ((vI s1 c1, e1), (vI s2 c2, e2))) (rn ((vI t1 d1, f1), (vI t2 d2, f2))), rmeetZ (rn ((vI s3 c3, e3), (vI s4 c4, e4))) (rn ((vI t3 d3, f3), (vI t4 d4, f4)))) := if_pos hb
      simp only [hr, hb] at hQ; exact hQ)
   | trace_state
 ·obtain ⟨Z1, hZ1⟩ : ∃ Z : Re, Z = rmeetZ (rn ((vI s1 c1, e1), (vI s2 c2, e2))) (rn ((vI t1 d1, f1), (vI t2 d2, f2))) := ⟨_, rfl⟩
  obtain ⟨Z2, hZ2⟩ : ∃ Z : Re, Z = rmeetZ (rn ((vI s3 c3, e3), (vI s4 c4, e4))) (rn ((vI t3 d3, f3), (vI t4 d4, f4))) := ⟨_, rfl⟩
  cbv
  repeat' (first | with_reducible refine And.intro ?_ ?_ | (with_reducible refine safe_lift hA ?_; kernel_rfl) | (with_reducible refine loop_by (fun i st => ((st.setT 15 (.int .i64 (lit3 i))).setC 3 (lp3 i [.bool s1, .sl n1 c1, .int .i64 e1, .bool s2, .sl n2 c2, .int .i64 e2, .bool s3, .sl n3 c3, .int .i64 e3, .bool s4, .sl n4 c4, .int .i64 e4] [.bool (F.neg Z1.1.1), .sl (F.ln Z1.1.1) (F.lm Z1.1.1), .int .i64 Z1.1.2, .bool (F.neg Z1.2.1), .sl (F.ln Z1.2.1) (F.lm Z1.2.1), .int .i64 Z1.2.2, .bool s3, .sl n3 c3, .int .i64 e3, .bool s4, .sl n4 c4, .int .i64 e4] [.bool (F.neg Z1.1.1), .sl (F.ln Z1.1.1) (F.lm Z1.1.1), .int .i64 Z1.1.2, .bool (F.neg Z1.2.1), .sl (F.ln Z1.2.1) (F.lm Z1.2.1), .int .i64 Z1.2.2, .bool (F.neg Z2.1.1), .sl (F.ln Z2.1.1) (F.lm Z2.1.1), .int .i64 Z2.1.2, .bool (F.neg Z2.2.1), .sl (F.ln Z2.2.1) (F.lm Z2.2.1), .int .i64 Z2.2.2]))) 2 ?_ ?_; cbv; rotate_left; intro i hi; rcases three_or hi with rfl | rfl | rfl <;> cbv) | (intro hc_; first | (first | exact Bool.noConfusion (hc_.symm.trans l02) | exact Bool.noConfusion (hc_.symm.trans l12) | exact Bool.noConfusion (hc_.symm.trans l22)) | cbv))
  all_goals (repeat (rw [safe_true hA, true_and]; rotate_left; kernel_rfl))
  all_goals subst hF hA hZ1 hZ2
  all_goals simp only [fnOf, find, std, reduceIte, Nat.reduceEqDiff, sp2, a1, a2, FnSpec.out, Shape.build, leafs, leafCells, tups, oneOf, List.cons_append, List.nil_append, List.length_cons, List.length_nil, s_hMeet, s_hParts, s_hJoined, s_eMeet, re4, rv_raw, decide_eq_true_eq, decide_eq_false_iff_not, gt_iff_lt, rv8, rw12_is, re8, s_hRaw] at *
  all_goals (repeat' (first
   | with_reducible exact hQ
   | with_reducible assumption
   | with_reducible exact isi_int _ _
   | with_reducible exact okR_S (by with_reducible assumption) (by with_reducible assumption)
   | with_reducible exact okP_S (by with_reducible assumption) (by with_reducible assumption) (by with_reducible assumption) (by with_reducible assumption)
   | with_reducible exact okQ_mk
   | with_reducible exact okT_S (by with_reducible assumption)
   | with_reducible exact okM_S (by with_reducible assumption) (by with_reducible assumption)
   | with_reducible exact okPM_S (by with_reducible assumption) (by with_reducible assumption) (by with_reducible assumption) (by with_reducible assumption)
   | with_reducible exact few30_S (by with_reducible assumption) (by with_reducible assumption)
   | with_reducible refine And.intro ?_ ?_
   | rfl
   | omega))
  all_goals first
   | (exfalso; simp [k1] at hc_; done)
   | (exfalso; simp [k2] at hc_; done)
   | (have hr : pmeetZ (((vI s1 c1, e1), (vI s2 c2, e2)), ((vI s3 c3, e3), (vI s4 c4, e4))) (((vI t1 d1, f1), (vI t2 d2, f2)), ((vI t3 d3, f3), (vI t4 d4, f4))) = pzero := if_neg (by unfold pmeetB; dsimp only; rw [k1]; simp)
      have hb : pmeetB (((vI s1 c1, e1), (vI s2 c2, e2)), ((vI s3 c3, e3), (vI s4 c4, e4))) (((vI t1 d1, f1), (vI t2 d2, f2)), ((vI t3 d3, f3), (vI t4 d4, f4))) = false := by unfold pmeetB; dsimp only; rw [k1]; simp
      simp only [hr, hb, pzero, N0_neg0, N0_ln0, N0_lm0] at hQ; exact hQ)
   | (have hr : pmeetZ (((vI s1 c1, e1), (vI s2 c2, e2)), ((vI s3 c3, e3), (vI s4 c4, e4))) (((vI t1 d1, f1), (vI t2 d2, f2)), ((vI t3 d3, f3), (vI t4 d4, f4))) = pzero := if_neg (by unfold pmeetB; dsimp only; rw [k1, k2]; simp)
      have hb : pmeetB (((vI s1 c1, e1), (vI s2 c2, e2)), ((vI s3 c3, e3), (vI s4 c4, e4))) (((vI t1 d1, f1), (vI t2 d2, f2)), ((vI t3 d3, f3), (vI t4 d4, f4))) = false := by unfold pmeetB; dsimp only; rw [k1, k2]; simp
      simp only [hr, hb, pzero, N0_neg0, N0_ln0, N0_lm0] at hQ; exact hQ)
   | (have hb : pmeetB (((vI s1 c1, e1), (vI s2 c2, e2)), ((vI s3 c3, e3), (vI s4 c4, e4))) (((vI t1 d1, f1), (vI t2 d2, f2)), ((vI t3 d3, f3), (vI t4 d4, f4))) = true := by unfold pmeetB; dsimp only; rw [k1, k2]; rfl
      have hr : pmeetZ (((vI s1 c1, e1), (vI s2 c2, e2)), ((vI s3 c3, e3), (vI s4 c4, e4))) (((vI t1 d1, f1), (vI t2 d2, f2)), ((vI t3 d3, f3), (vI t4 d4, f4))) = (rmeetZ (rn ((vI s1 c1, e1), (vI s2 c2, e2))) (rn ((vI t1 d1, f1), (vI t2 d2, f2))), rmeetZ (rn ((vI s3 c3, e3), (vI s4 c4, e4))) (rn ((vI t3 d3, f3), (vI t4 d4, f4)))) := if_pos hb
      simp only [hr, hb] at hQ; exact hQ)
   | trace_state
theorem good_hReck : Good Tryz.prog (GWL [0, 1, 2, 3, 4, 5, 6]) N0 108 s_hReck := by
 refine goodM 0 (gl good_eMul rfl <| gl good_eSub rfl <| gl good_eAdd rfl gn) Tryz.f108 (by kernel_rfl) (by kernel_rfl) fun ds hp F A Q hF hA hQ => ?_
 obtain ⟨s, x, y, rfl, hs, hx, hy⟩ := hreck_arg hp
 obtain ⟨s1, n1, c1, e1, s2, n2, c2, e2, s3, n3, c3, e3, s4, n4, c4, e4, rfl, m1x, m2x, m3x, m4x⟩ := okPM_arg hx
 obtain ⟨t1, m1, d1, f1, t2, m2, d2, f2, t3, m3, d3, f3, t4, m4, d4, f4, rfl, m1y, m2y, m3y, m4y⟩ := okPM_arg hy
 have p11 := rmul_rn_ok (fR_SM (s := s1) (t := s2) m1x m2x) (fR_SM (s := t1) (t := t2) m1y m2y)
 have p22 := rmul_rn_ok (fR_SM (s := s3) (t := s4) m3x m4x) (fR_SM (s := t3) (t := t4) m3y m4y)
 have p12 := rmul_rn_ok (fR_SM (s := s1) (t := s2) m1x m2x) (fR_SM (s := t3) (t := t4) m3y m4y)
 have p21 := rmul_rn_ok (fR_SM (s := s3) (t := s4) m3x m4x) (fR_SM (s := t1) (t := t2) m1y m2y)
 obtain ⟨p11a, p11b⟩ := p11
 obtain ⟨p22a, p22b⟩ := p22
 obtain ⟨p12a, p12b⟩ := p12
 obtain ⟨p21a, p21b⟩ := p21
 have x1_ := okS_M m1x
 have x2_ := okS_M m2x
 have x3_ := okS_M m3x
 have x4_ := okS_M m4x
 have y1_ := okS_M m1y
 have y2_ := okS_M m2y
 have y3_ := okS_M m3y
 have y4_ := okS_M m4y
 clear hp
 rcases hs with rfl | rfl
 rotate_left
 rotate_left
 all_goals (cbv)
 all_goals (repeat' (first | with_reducible refine And.intro ?_ ?_ | (with_reducible refine safe_lift hA ?_; kernel_rfl) | (intro hc_; first | (cases hc_; done) | cbv)))
 all_goals (repeat (rw [safe_true hA, true_and]; rotate_left; kernel_rfl))
 all_goals subst hF hA
 all_goals simp only [fnOf, find, reduceIte, Nat.reduceEqDiff, sp2, a2, FnSpec.out, Shape.build, leafs, leafCells, List.cons_append, List.nil_append, s_hReck, s_eMul, s_eSub, s_eAdd, re4, rv_raw, vI_N0, rv8, rw12_is, rcn, pmul, p11b, p22b, p12b, p21b] at *
 all_goals (repeat' (first
  | with_reducible exact hQ
  | with_reducible assumption
  | with_reducible exact isi_int _ _
  | with_reducible exact okR_S (by with_reducible assumption) (by with_reducible assumption)
  | with_reducible exact okP_S (by with_reducible assumption) (by with_reducible assumption) (by with_reducible assumption) (by with_reducible assumption)
  | with_reducible exact okQ_mk
  | with_reducible exact okT_S (by with_reducible assumption)
  | with_reducible exact okM_S (by with_reducible assumption) (by with_reducible assumption)
  | with_reducible exact okPM_S (by with_reducible assumption) (by with_reducible assumption) (by with_reducible assumption) (by with_reducible assumption)
  | with_reducible exact few30_S (by with_reducible assumption) (by with_reducible assumption)
  | with_reducible refine And.intro ?_ ?_
  | rfl
  | omega))
 all_goals first
  | exact hQ
  | (exfalso; revert hc_; decide)
  | trace_state
theorem good_hMul : Good Tryz.prog (GWL [0, 1, 2, 3, 4, 5, 6]) N0 25 s_hMul := by
 refine goodM 0 (gc good_hParts <| gc good_hJoined <| gc good_hReck gn) Tryz.f25 (by kernel_rfl) (by kernel_rfl) fun ds hp F A Q hF hA hQ => ?_
 obtain ⟨x, y, rfl, hx, hy⟩ := sp2_arg hp
 obtain ⟨s1, n1, c1, e1, s2, n2, c2, e2, s3, n3, c3, e3, s4, n4, c4, e4, rfl, m1x, m2x, m3x, m4x⟩ := okPM_arg hx
 obtain ⟨t1, m1, d1, f1, t2, m2, d2, f2, t3, m3, d3, f3, t4, m4, d4, f4, rfl, m1y, m2y, m3y, m4y⟩ := okPM_arg hy
 have x1_ := okS_M m1x
 have x2_ := okS_M m2x
 have x3_ := okS_M m3x
 have x4_ := okS_M m4x
 have y1_ := okS_M m1y
 have y2_ := okS_M m2y
 have y3_ := okS_M m3y
 have y4_ := okS_M m4y
 clear hp
 have w01 : A.add .i64 0 1 = 1 := by rw [hA]; rfl
 have w12 : A.add .i64 1 1 = 2 := by rw [hA]; rfl
 have l02 : A.lt 0 2 = true := by rw [hA]; rfl
 have l12 : A.lt 1 2 = true := by rw [hA]; rfl
 have l22 : A.lt 2 2 = false := by rw [hA]; rfl
 have ix0 : A.idx 0 0 5 = 0 := by rw [hA]; rfl
 have ix1 : A.idx 0 1 5 = 5 := by rw [hA]; rfl
 obtain ⟨Z1, hZ1⟩ : ∃ Z : Re, Z = (pmul (rcn (((vI s1 c1, e1), (vI s2 c2, e2)), ((vI s3 c3, e3), (vI s4 c4, e4)))) (rcn (((vI t1 d1, f1), (vI t2 d2, f2)), ((vI t3 d3, f3), (vI t4 d4, f4))))).1 := ⟨_, rfl⟩
 obtain ⟨Z2, hZ2⟩ : ∃ Z : Re, Z = (pmul (rcn (((vI s1 c1, e1), (vI s2 c2, e2)), ((vI s3 c3, e3), (vI s4 c4, e4)))) (rcn (((vI t1 d1, f1), (vI t2 d2, f2)), ((vI t3 d3, f3), (vI t4 d4, f4))))).2 := ⟨_, rfl⟩
 cbv
 repeat' (first | with_reducible refine And.intro ?_ ?_ | (with_reducible refine safe_lift hA ?_; kernel_rfl) | (with_reducible refine loop_by (fun i st => ((st.setT 13 (.int .i64 (lit3 i))).setC 5 (lp3 i [.kb false, .sl 0 [], .int .i64 0, .kb false, .sl 0 [], .int .i64 0, .kb false, .sl 0 [], .int .i64 0, .kb false, .sl 0 [], .int .i64 0] [.bool (F.neg Z1.1.1), .sl (F.ln Z1.1.1) (F.lm Z1.1.1), .int .i64 Z1.1.2, .bool (F.neg Z1.2.1), .sl (F.ln Z1.2.1) (F.lm Z1.2.1), .int .i64 Z1.2.2, .kb false, .sl 0 [], .int .i64 0, .kb false, .sl 0 [], .int .i64 0] [.bool (F.neg Z1.1.1), .sl (F.ln Z1.1.1) (F.lm Z1.1.1), .int .i64 Z1.1.2, .bool (F.neg Z1.2.1), .sl (F.ln Z1.2.1) (F.lm Z1.2.1), .int .i64 Z1.2.2, .bool (F.neg Z2.1.1), .sl (F.ln Z2.1.1) (F.lm Z2.1.1), .int .i64 Z2.1.2, .bool (F.neg Z2.2.1), .sl (F.ln Z2.2.1) (F.lm Z2.2.1), .int .i64 Z2.2.2]))) 2 ?_ ?_; cbv; rotate_left; intro i hi; rcases three_or hi with rfl | rfl | rfl <;> cbv) | (intro hc_; first | (first | exact Bool.noConfusion (hc_.symm.trans l02) | exact Bool.noConfusion (hc_.symm.trans l12) | exact Bool.noConfusion (hc_.symm.trans l22)) | cbv) | ((first | simp only [ix0] | simp only [ix1]); cbv))
 all_goals (repeat (rw [safe_true hA, true_and]; rotate_left; kernel_rfl))
 all_goals subst hF hA hZ1 hZ2
 all_goals simp only [fnOf, find, std, reduceIte, Nat.reduceEqDiff, sp2, a1, a2, FnSpec.out, Shape.build, leafs, leafCells, List.cons_append, List.nil_append, s_hMul, s_hParts, s_hJoined, s_hReck, re4, decide_eq_true_eq, decide_eq_false_iff_not, gt_iff_lt, rv8, rw12_is, re8, s_hRaw, rcn, pmul] at *
 all_goals (repeat' (first
  | with_reducible exact hQ
  | with_reducible assumption
  | with_reducible exact isi_int _ _
  | with_reducible exact okR_S (by with_reducible assumption) (by with_reducible assumption)
  | with_reducible exact okP_S (by with_reducible assumption) (by with_reducible assumption) (by with_reducible assumption) (by with_reducible assumption)
  | with_reducible exact okQ_mk
  | with_reducible exact okT_S (by with_reducible assumption)
  | with_reducible exact okM_S (by with_reducible assumption) (by with_reducible assumption)
  | with_reducible exact okPM_S (by with_reducible assumption) (by with_reducible assumption) (by with_reducible assumption) (by with_reducible assumption)
  | with_reducible exact few30_S (by with_reducible assumption) (by with_reducible assumption)
  | with_reducible refine And.intro ?_ ?_
  | rfl
  | omega))
 all_goals first
  | exact .inl rfl
  | exact .inr rfl
  | exact .inl trivial
  | exact .inr trivial
  | exact hx
  | exact hy
  | trace_state
abbrev G_hSquare : Prop := Good Tryz.prog (GWL [0, 1, 2, 3, 4, 5, 6]) N0 27 s_hSquare
abbrev G_hNorm : Prop := Good Tryz.prog (GWL [0, 1, 2, 3, 4, 5, 6]) N0 32 s_hNorm
theorem goods_hd3 : G_hSquare ∧ G_hNorm := by
 refine ⟨?_, ?_⟩
 refine goodM 0 (gl good_eMul rfl <| gl good_eSquare rfl <| gl good_eSub rfl <| gl good_eAdd rfl gn) Tryz.f27 (by kernel_rfl) (by kernel_rfl) fun ds hp F A Q hF hA hQ => ?_
 obtain ⟨x, rfl, hx⟩ := sp1_arg hp
 obtain ⟨s1, n1, c1, e1, s2, n2, c2, e2, s3, n3, c3, e3, s4, n4, c4, e4, rfl, m1x, m2x, m3x, m4x, zx1, zx2⟩ := smP_arg hx
 have x1_ := okS_M m1x
 have x2_ := okS_M m2x
 have x3_ := okS_M m3x
 have x4_ := okS_M m4x
 have r1 : rz (rn ((vI s1 c1, e1), (vI s2 c2, e2))) 1000 1320 := ⟨rcan_rn _, cz_rn zx1⟩
 have r2 : rz (rn ((vI s3 c3, e3), (vI s4 c4, e4))) 1000 1320 := ⟨rcan_rn _, cz_rn zx2⟩
 have q1 := rz_sq r1
 have q2 := rz_sq r2
 have q3 := rz_mul r1 r2
 have o1 := okR_rz q1 (by omega)
 have o2 := okR_rz q2 (by omega)
 have o3 := okR_rz q3 (by omega)
 have i1 := q1.1.id
 have i2 := q2.1.id
 have i3 := q3.1.id
 clear hp q1 q2 q3 r1 r2
 rotate_left
 refine goodM 0 (gl good_eSquare rfl <| gl good_eAdd rfl gn) Tryz.f32 (by kernel_rfl) (by kernel_rfl) fun ds hp F A Q hF hA hQ => ?_
 obtain ⟨x, rfl, hx⟩ := sp1_arg hp
 obtain ⟨s1, n1, c1, e1, s2, n2, c2, e2, s3, n3, c3, e3, s4, n4, c4, e4, rfl, m1x, m2x, m3x, m4x, zx1, zx2⟩ := smP_arg hx
 have x1_ := okS_M m1x
 have x2_ := okS_M m2x
 have x3_ := okS_M m3x
 have x4_ := okS_M m4x
 have r1 : rz (rn ((vI s1 c1, e1), (vI s2 c2, e2))) 1000 1320 := ⟨rcan_rn _, cz_rn zx1⟩
 have r2 : rz (rn ((vI s3 c3, e3), (vI s4 c4, e4))) 1000 1320 := ⟨rcan_rn _, cz_rn zx2⟩
 have q1 := rz_sq r1
 have q2 := rz_sq r2
 have q3 := rz_mul r1 r2
 have o1 := okR_rz q1 (by omega)
 have o2 := okR_rz q2 (by omega)
 have o3 := okR_rz q3 (by omega)
 have i1 := q1.1.id
 have i2 := q2.1.id
 have i3 := q3.1.id
 clear hp q1 q2 q3 r1 r2 o3 i3
 have i3 := trivial
 rotate_left
 all_goals cbv
 all_goals (repeat' (first | with_reducible refine And.intro ?_ ?_ | (with_reducible refine safe_lift hA ?_; kernel_rfl) | (intro hc_; first | fail | cbv)))
 all_goals (repeat (rw [safe_true hA, true_and]; rotate_left; kernel_rfl))
 all_goals subst hF hA
 all_goals simp only [fnOf, find, std, reduceIte, Nat.reduceEqDiff, sp1, sp2, a1, a2, FnSpec.out, Shape.build, leafs, leafCells, tups, oneOf, List.cons_append, List.nil_append, List.length_cons, List.length_nil, s_hSquare, s_eMul, s_eSquare, s_eSub, s_eAdd, re4, rv_raw, rv_N0, dv, dz, dx, dcn, dm_raw, dm_N0, vI_N0, raw6_is, raw3_is, pick2, decide_eq_true_eq, decide_eq_false_iff_not, gt_iff_lt, ge_iff_le, Dy.n, Dy.add, Dy.sub, Dy.mul, Dy.neg, Dy.abs, Dy.to, Dy.pow, sg_nonpos7, sg_nonneg7, rv8, rw12_is, re8, s_hRaw, rcn, padd, psub, pneg, phull, pround, pmul, psq, pnorm, lp3, lit3, i1, i2, i3, s_hNorm] at *
 all_goals (repeat' (first
  | with_reducible exact hQ
  | with_reducible assumption
  | with_reducible exact isi_int _ _
  | with_reducible exact okR_S (by with_reducible assumption) (by with_reducible assumption)
  | with_reducible exact okP_S (by with_reducible assumption) (by with_reducible assumption) (by with_reducible assumption) (by with_reducible assumption)
  | with_reducible exact okQ_mk
  | with_reducible exact okT_S (by with_reducible assumption)
  | with_reducible exact okM_S (by with_reducible assumption) (by with_reducible assumption)
  | with_reducible exact okPM_S (by with_reducible assumption) (by with_reducible assumption) (by with_reducible assumption) (by with_reducible assumption)
  | with_reducible exact few30_S (by with_reducible assumption) (by with_reducible assumption)
  | with_reducible refine And.intro ?_ ?_
  | rfl
  | omega))
theorem good_hSquare : G_hSquare := goods_hd3.1
theorem good_hNorm : G_hNorm := goods_hd3.2
theorem good_hPow : Good Tryz.prog (GWL [0, 1, 2, 3, 4, 5, 6]) N0 29 s_hPow := by
 refine goodM 0 (gc good_hHull <| gl good_uOf rfl <| gc good_hOf <| gc good_hMul gn) Tryz.f29 (by kernel_rfl) (by kernel_rfl) fun ds hp F A Q hF hA hQ => ?_
 obtain ⟨x, y, rfl, hx, hy, hk⟩ := sp2_arg hp
 obtain ⟨s1, n1, c1, e1, s2, n2, c2, e2, s3, n3, c3, e3, s4, n4, c4, e4, rfl, m1x, m2x, m3x, m4x, zx1, zx2⟩ := smP_arg hx
 obtain ⟨k, rfl⟩ := isi_arg hy
 have hk : powN k ≤ 5 := hk
 have x1_ := okS_M m1x
 have x2_ := okS_M m2x
 have x3_ := okS_M m3x
 have x4_ := okS_M m4x
 have r1 : rz (rn ((vI s1 c1, e1), (vI s2 c2, e2))) 1000 1320 := ⟨rcan_rn _, cz_rn zx1⟩
 have r2 : rz (rn ((vI s3 c3, e3), (vI s4 c4, e4))) 1000 1320 := ⟨rcan_rn _, cz_rn zx2⟩
 obtain ⟨C, hC⟩ : ∃ C : Nat → Rc, ∀ i : Nat, C i = ppw (rcn (((vI s1 c1, e1), (vI s2 c2, e2)), ((vI s3 c3, e3), (vI s4 c4, e4)))) i := ⟨_, fun _ => rfl⟩
 obtain ⟨J, hJ⟩ : ∃ J : Nat → Int, ∀ i : Nat, J i = Int.ofNat i := ⟨_, fun _ => rfl⟩
 obtain ⟨M, hM⟩ : ∃ M, M = powN k := ⟨_, rfl⟩
 have hP := okP_S x1_ x2_ x3_ x4_ (s1 := s1) (s2 := s2) (s3 := s3) (s4 := s4)
 clear hp hx hy
 cbv
 repeat' (first | with_reducible refine And.intro ?_ ?_ | (with_reducible refine safe_lift hA ?_; kernel_rfl) | (with_reducible refine loop_by (fun i st => (st.setT 14 (.int .i64 (J i))).setC 2 [.bool (F.neg (C i).1.1.1), .sl (F.ln (C i).1.1.1) (F.lm (C i).1.1.1), .int .i64 (C i).1.1.2, .bool (F.neg (C i).1.2.1), .sl (F.ln (C i).1.2.1) (F.lm (C i).1.2.1), .int .i64 (C i).1.2.2, .bool (F.neg (C i).2.1.1), .sl (F.ln (C i).2.1.1) (F.lm (C i).2.1.1), .int .i64 (C i).2.1.2, .bool (F.neg (C i).2.2.1), .sl (F.ln (C i).2.2.1) (F.lm (C i).2.2.1), .int .i64 (C i).2.2.2]) M ?_ ?_; cbv; rotate_left; intro i hi; cbv) | (intro hc_; first | (first | exact Bool.noConfusion (hc_.symm.trans l02) | exact Bool.noConfusion (hc_.symm.trans l12) | exact Bool.noConfusion (hc_.symm.trans l22)) | cbv))
 all_goals (repeat (rw [safe_true hA, true_and]; rotate_left; kernel_rfl))
 all_goals subst hF hA
 all_goals simp only [fnOf, find, std, reduceIte, Nat.reduceEqDiff, sp1, sp2, a1, a2, FnSpec.out, Shape.build, leafs, leafCells, List.cons_append, List.nil_append, s_hPow, s_hHull, s_uOf, s_hOf, s_hMul, re4, rv_raw, dz, vI_N0, decide_eq_true_eq, decide_eq_false_iff_not, gt_iff_lt, Dy.n, rv8, rw12_is, re8, rcn, phull, pmul, rhull_self, rn_rn, ppt, ca, Dy.n, k1, k1e, tmI_zero, teI_zero, powN_ifs, Prod.eta] at *
 all_goals
  have hI0 : C 0 = (((1, 0), (1, 0)), ((0, 0), (0, 0))) := by rw [hC]; rfl
 all_goals first
  | exact hP
  | exact ⟨hP, hP⟩
  | exact ⟨⟨rfl, by decide, by decide⟩, rfl, by decide, by decide⟩
  | (rw [hJ]; rfl)
  | (rw [hI0]; done)
  | (exact okR_1)
  | skip
 all_goals
  have hJi : J i = (i : Int) := hJ i
  rw [hJi] at hc_
  have hJ1 : J (i + 1) = J i + 1 := by rw [hJ, hJ]; rfl
  have zC : pz (C i) (1000 * i) ((1320 + 1) * i + 1) := by rw [hC]; exact pz_pw (x := (rn ((vI s1 c1, e1), (vI s2 c2, e2)), rn ((vI s3 c3, e3), (vI s4 c4, e4)))) (L := 1000) (H := 1320) ⟨r1, r2⟩ i
  have g1 : rn (C i).1 = (C i).1 := zC.can.1.id
  have g2 : rn (C i).2 = (C i).2 := zC.can.2.id
  have hS : C (i + 1) = (rsub (rmul (C i).1 (rn ((vI s1 c1, e1), (vI s2 c2, e2)))) (rmul (C i).2 (rn ((vI s3 c3, e3), (vI s4 c4, e4)))), radd (rmul (C i).1 (rn ((vI s3 c3, e3), (vI s4 c4, e4)))) (rmul (C i).2 (rn ((vI s1 c1, e1), (vI s2 c2, e2))))) := by rw [hC, hC]; rfl
  (try simp only [g1, g2] at *)
 all_goals first
  | exact ⟨okPM_pz (zC.mono (show 1000 * i ≤ 4000 by omega) (show (1320 + 1) * i + 1 ≤ 5285 by omega)) (by omega), okPM_pz (x := (rcn (((vI s1 c1, e1), (vI s2 c2, e2)), ((vI s3 c3, e3), (vI s4 c4, e4))))) ⟨r1, r2⟩ (by omega)⟩
  | exact (show i + 1 ≤ M by omega)
  | rw [hJ1, hJi, wrap_in (by omega) (by omega)]
  | (rw [hS]; done)
  | (have hi2 : i = powN k := by omega
     rw [hC, hi2]; exact hQ)
  | trace_state
theorem good_hInv : Good Tryz.prog (GWL [0, 1, 2, 3, 4, 5, 6]) N0 42 s_hInv := by
 refine goodM 0 (gc good_hNorm <| gl good_eNeg rfl <| gl good_eDivB rfl <| gc good_hJoined gn) Tryz.f42 (by kernel_rfl) (by kernel_rfl) fun ds hp F A Q hF hA hQ => ?_
 obtain ⟨x, y, rfl, hx, hy, hk⟩ := sp2_arg hp
 obtain ⟨s1, n1, c1, e1, s2, n2, c2, e2, s3, n3, c3, e3, s4, n4, c4, e4, rfl, m1x, m2x, m3x, m4x, zx1, zx2⟩ := smP_arg hx
 obtain ⟨p, rfl⟩ := isi_arg hy
 have hk : p ≤ 200 := hk
 have x1_ := okS_M m1x
 have x2_ := okS_M m2x
 have x3_ := okS_M m3x
 have x4_ := okS_M m4x
 have r1 : rz (rn ((vI s1 c1, e1), (vI s2 c2, e2))) 1000 1320 := ⟨rcan_rn _, cz_rn zx1⟩
 have r2 : rz (rn ((vI s3 c3, e3), (vI s4 c4, e4))) 1000 1320 := ⟨rcan_rn _, cz_rn zx2⟩
 obtain ⟨W, hW⟩ : ∃ W : Re, W = pnorm (rcn (((vI s1 c1, e1), (vI s2 c2, e2)), ((vI s3 c3, e3), (vI s4 c4, e4)))) := ⟨_, rfl⟩
 have zW : rz W 2000 2641 := by rw [hW]; exact (pz_norm (x := (rcn (((vI s1 c1, e1), (vI s2 c2, e2)), ((vI s3 c3, e3), (vI s4 c4, e4))))) (L := 1000) (H := 1320) ⟨r1, r2⟩).mono (by omega) (by omega)
 obtain ⟨V, hV⟩ : ∃ V : Re, V = rneg (rn ((vI s3 c3, e3), (vI s4 c4, e4))) := ⟨_, rfl⟩
 have zV : rz V 1000 1320 := by rw [hV]; exact rz_neg r2
 have iW := zW.1.id
 have iV := zV.1.id
 have oW := okR_rz zW (by omega)
 have cW := zW.2
 have mV := okM_rz zV (by omega)
 have cV := zV.2
 clear hp r1 r2 zW zV
 have w01 : A.add .i64 0 1 = 1 := by rw [hA]; rfl
 have w12 : A.add .i64 1 1 = 2 := by rw [hA]; rfl
 have l02 : A.lt 0 2 = true := by rw [hA]; rfl
 have l12 : A.lt 1 2 = true := by rw [hA]; rfl
 have l22 : A.lt 2 2 = false := by rw [hA]; rfl
 rcases er_cases W with k1 | ⟨k1, k2⟩
 rotate_left
 ·obtain ⟨Z1, hZ1⟩ : ∃ Z : Re, Z = rdivZ (rn ((vI s1 c1, e1), (vI s2 c2, e2))) W p := ⟨_, rfl⟩
  obtain ⟨Z2, hZ2⟩ : ∃ Z : Re, Z = rdivZ V W p := ⟨_, rfl⟩
  cbv
  repeat' (first | with_reducible refine And.intro ?_ ?_ | (with_reducible refine safe_lift hA ?_; kernel_rfl) | (with_reducible refine loop_by (fun i st => ((st.setT 19 (.int .i64 (lit3 i))).setC 3 (lp3 i [.bool s1, .sl n1 c1, .int .i64 e1, .bool s2, .sl n2 c2, .int .i64 e2, .bool (F.neg V.1.1), .sl (F.ln V.1.1) (F.lm V.1.1), .int .i64 V.1.2, .bool (F.neg V.2.1), .sl (F.ln V.2.1) (F.lm V.2.1), .int .i64 V.2.2] [.bool (F.neg Z1.1.1), .sl (F.ln Z1.1.1) (F.lm Z1.1.1), .int .i64 Z1.1.2, .bool (F.neg Z1.2.1), .sl (F.ln Z1.2.1) (F.lm Z1.2.1), .int .i64 Z1.2.2, .bool (F.neg V.1.1), .sl (F.ln V.1.1) (F.lm V.1.1), .int .i64 V.1.2, .bool (F.neg V.2.1), .sl (F.ln V.2.1) (F.lm V.2.1), .int .i64 V.2.2] [.bool (F.neg Z1.1.1), .sl (F.ln Z1.1.1) (F.lm Z1.1.1), .int .i64 Z1.1.2, .bool (F.neg Z1.2.1), .sl (F.ln Z1.2.1) (F.lm Z1.2.1), .int .i64 Z1.2.2, .bool (F.neg Z2.1.1), .sl (F.ln Z2.1.1) (F.lm Z2.1.1), .int .i64 Z2.1.2, .bool (F.neg Z2.2.1), .sl (F.ln Z2.2.1) (F.lm Z2.2.1), .int .i64 Z2.2.2]))) 0 ?_ ?_; cbv; rotate_left; intro i hi; obtain rfl := one_or hi <;> cbv) | (intro hc_; first | (first | exact Bool.noConfusion (hc_.symm.trans l02) | exact Bool.noConfusion (hc_.symm.trans l12) | exact Bool.noConfusion (hc_.symm.trans l22)) | cbv))
  all_goals (repeat (rw [safe_true hA, true_and]; rotate_left; kernel_rfl))
  all_goals subst hF hA hZ1 hZ2 hV hW
  all_goals simp only [fnOf, find, std, reduceIte, Nat.reduceEqDiff, sp1, sp2, a1, a2, FnSpec.out, Shape.build, leafs, leafCells, tups, oneOf, List.cons_append, List.nil_append, List.length_cons, List.length_nil, s_hInv, s_hNorm, s_eNeg, s_eDivB, s_hJoined, re4, rv_raw, dz, vI_N0, decide_eq_true_eq, decide_eq_false_iff_not, gt_iff_lt, rv8, rw12_is, re8, s_hRaw, rcn, pnorm, pinvZ, Prod.eta] at *
  all_goals (try simp only [iW] at *)
  all_goals (try simp only [iV] at *)
  all_goals (repeat' (first
   | with_reducible exact hQ
   | with_reducible assumption
   | with_reducible exact isi_int _ _
   | with_reducible exact okR_S (by with_reducible assumption) (by with_reducible assumption)
   | with_reducible exact okP_S (by with_reducible assumption) (by with_reducible assumption) (by with_reducible assumption) (by with_reducible assumption)
   | with_reducible exact okQ_mk
   | with_reducible exact okT_S (by with_reducible assumption)
   | with_reducible exact okM_S (by with_reducible assumption) (by with_reducible assumption)
   | with_reducible exact okPM_S (by with_reducible assumption) (by with_reducible assumption) (by with_reducible assumption) (by with_reducible assumption)
   | with_reducible exact few30_S (by with_reducible assumption) (by with_reducible assumption)
   | with_reducible exact oW
   | with_reducible exact mV
   | with_reducible exact zx1
   | with_reducible refine And.intro ?_ ?_
   | rfl
   | omega))
  all_goals first
   | (exfalso; simp [k1] at hc_; done)
   | (simp only [k1, divZ_0 k2, N0_neg0, N0_ln0, N0_lm0] at hQ; simp only [k1]; exact hQ)
   | (simp only [k1] at hQ; exact hQ)
   | trace_state
 ·obtain ⟨Z1, hZ1⟩ : ∃ Z : Re, Z = rdivZ (rn ((vI s1 c1, e1), (vI s2 c2, e2))) W p := ⟨_, rfl⟩
  obtain ⟨Z2, hZ2⟩ : ∃ Z : Re, Z = rdivZ V W p := ⟨_, rfl⟩
  cbv
  repeat' (first | with_reducible refine And.intro ?_ ?_ | (with_reducible refine safe_lift hA ?_; kernel_rfl) | (with_reducible refine loop_by (fun i st => ((st.setT 19 (.int .i64 (lit3 i))).setC 3 (lp3 i [.bool s1, .sl n1 c1, .int .i64 e1, .bool s2, .sl n2 c2, .int .i64 e2, .bool (F.neg V.1.1), .sl (F.ln V.1.1) (F.lm V.1.1), .int .i64 V.1.2, .bool (F.neg V.2.1), .sl (F.ln V.2.1) (F.lm V.2.1), .int .i64 V.2.2] [.bool (F.neg Z1.1.1), .sl (F.ln Z1.1.1) (F.lm Z1.1.1), .int .i64 Z1.1.2, .bool (F.neg Z1.2.1), .sl (F.ln Z1.2.1) (F.lm Z1.2.1), .int .i64 Z1.2.2, .bool (F.neg V.1.1), .sl (F.ln V.1.1) (F.lm V.1.1), .int .i64 V.1.2, .bool (F.neg V.2.1), .sl (F.ln V.2.1) (F.lm V.2.1), .int .i64 V.2.2] [.bool (F.neg Z1.1.1), .sl (F.ln Z1.1.1) (F.lm Z1.1.1), .int .i64 Z1.1.2, .bool (F.neg Z1.2.1), .sl (F.ln Z1.2.1) (F.lm Z1.2.1), .int .i64 Z1.2.2, .bool (F.neg Z2.1.1), .sl (F.ln Z2.1.1) (F.lm Z2.1.1), .int .i64 Z2.1.2, .bool (F.neg Z2.2.1), .sl (F.ln Z2.2.1) (F.lm Z2.2.1), .int .i64 Z2.2.2]))) 2 ?_ ?_; cbv; rotate_left; intro i hi; rcases three_or hi with rfl | rfl | rfl <;> cbv) | (intro hc_; first | (first | exact Bool.noConfusion (hc_.symm.trans l02) | exact Bool.noConfusion (hc_.symm.trans l12) | exact Bool.noConfusion (hc_.symm.trans l22)) | cbv))
  all_goals (repeat (rw [safe_true hA, true_and]; rotate_left; kernel_rfl))
  all_goals subst hF hA hZ1 hZ2 hV hW
  all_goals simp only [fnOf, find, std, reduceIte, Nat.reduceEqDiff, sp1, sp2, a1, a2, FnSpec.out, Shape.build, leafs, leafCells, tups, oneOf, List.cons_append, List.nil_append, List.length_cons, List.length_nil, s_hInv, s_hNorm, s_eNeg, s_eDivB, s_hJoined, re4, rv_raw, dz, vI_N0, decide_eq_true_eq, decide_eq_false_iff_not, gt_iff_lt, rv8, rw12_is, re8, s_hRaw, rcn, pnorm, pinvZ, Prod.eta] at *
  all_goals (try simp only [iW] at *)
  all_goals (try simp only [iV] at *)
  all_goals (repeat' (first
   | with_reducible exact hQ
   | with_reducible assumption
   | with_reducible exact isi_int _ _
   | with_reducible exact okR_S (by with_reducible assumption) (by with_reducible assumption)
   | with_reducible exact okP_S (by with_reducible assumption) (by with_reducible assumption) (by with_reducible assumption) (by with_reducible assumption)
   | with_reducible exact okQ_mk
   | with_reducible exact okT_S (by with_reducible assumption)
   | with_reducible exact okM_S (by with_reducible assumption) (by with_reducible assumption)
   | with_reducible exact okPM_S (by with_reducible assumption) (by with_reducible assumption) (by with_reducible assumption) (by with_reducible assumption)
   | with_reducible exact few30_S (by with_reducible assumption) (by with_reducible assumption)
   | with_reducible exact oW
   | with_reducible exact mV
   | with_reducible exact zx1
   | with_reducible refine And.intro ?_ ?_
   | rfl
   | omega))
  all_goals first
   | (exfalso; simp [k1] at hc_; done)
   | (simp only [k1, divZ_0 k2, N0_neg0, N0_ln0, N0_lm0] at hQ; simp only [k1]; exact hQ)
   | (simp only [k1] at hQ; exact hQ)
   | trace_state
theorem good_hDiv : Good Tryz.prog (GWL [0, 1, 2, 3, 4, 5, 6]) N0 44 s_hDiv := by
 refine goodM 0 (gc good_hInv <| gc good_hMul <| gc good_hRound gn) Tryz.f44 (by kernel_rfl) (by kernel_rfl) fun ds hp F A Q hF hA hQ => ?_
 obtain ⟨x, y, p, rfl, hx, hy, hk⟩ := hdiv_arg hp
 obtain ⟨s1, n1, c1, e1, s2, n2, c2, e2, s3, n3, c3, e3, s4, n4, c4, e4, rfl, m1x, m2x, m3x, m4x, zx1, zx2⟩ := smP_arg hx
 obtain ⟨t1, m1, d1, f1, t2, m2, d2, f2, t3, m3, d3, f3, t4, m4, d4, f4, rfl, m1y, m2y, m3y, m4y, zy1, zy2⟩ := smP_arg hy
 have zX := pz_sm hx
 have zY := pz_sm hy
 have zI := pz_inv zY hk
 have iI := zI.can.id
 have oI := okPM_pz zI (by omega)
 have zM := pz_mul zX zI
 have iM := zM.can.id
 have oM := okP_pz zM (by omega)
 have oX := hx.1
 clear hp zX zY zI zM zx1 zx2 zy1 zy2
 rcases er_cases (pnorm (rcn (rv8 (.agg [.bool t1, .sl m1 d1, .int .i64 f1, .bool t2, .sl m2 d2, .int .i64 f2, .bool t3, .sl m3 d3, .int .i64 f3, .bool t4, .sl m4 d4, .int .i64 f4])))) with k1 | ⟨k1, k2⟩
 have eD : pdivZ (rcn (rv8 (.agg [.bool s1, .sl n1 c1, .int .i64 e1, .bool s2, .sl n2 c2, .int .i64 e2, .bool s3, .sl n3 c3, .int .i64 e3, .bool s4, .sl n4 c4, .int .i64 e4]))) (rcn (rv8 (.agg [.bool t1, .sl m1 d1, .int .i64 f1, .bool t2, .sl m2 d2, .int .i64 f2, .bool t3, .sl m3 d3, .int .i64 f3, .bool t4, .sl m4 d4, .int .i64 f4]))) p = pround (pmul (rcn (rv8 (.agg [.bool s1, .sl n1 c1, .int .i64 e1, .bool s2, .sl n2 c2, .int .i64 e2, .bool s3, .sl n3 c3, .int .i64 e3, .bool s4, .sl n4 c4, .int .i64 e4]))) (pinvZ (rcn (rv8 (.agg [.bool t1, .sl m1 d1, .int .i64 f1, .bool t2, .sl m2 d2, .int .i64 f2, .bool t3, .sl m3 d3, .int .i64 f3, .bool t4, .sl m4 d4, .int .i64 f4]))) p)) p := if_pos k1
 rotate_left
 have eD : pdivZ (rcn (rv8 (.agg [.bool s1, .sl n1 c1, .int .i64 e1, .bool s2, .sl n2 c2, .int .i64 e2, .bool s3, .sl n3 c3, .int .i64 e3, .bool s4, .sl n4 c4, .int .i64 e4]))) (rcn (rv8 (.agg [.bool t1, .sl m1 d1, .int .i64 f1, .bool t2, .sl m2 d2, .int .i64 f2, .bool t3, .sl m3 d3, .int .i64 f3, .bool t4, .sl m4 d4, .int .i64 f4]))) p = pzero := if_neg (by rw [k1]; decide)
 rotate_left
 all_goals (cbv)
 all_goals (repeat' (first | with_reducible refine And.intro ?_ ?_ | (with_reducible refine safe_lift hA ?_; kernel_rfl) | (intro hc_; first | fail | cbv)))
 all_goals (repeat (rw [safe_true hA, true_and]; rotate_left; kernel_rfl))
 all_goals subst hF hA
 all_goals simp only [fnOf, find, std, reduceIte, Nat.reduceEqDiff, sp2, a2, FnSpec.out, Shape.build, leafs, leafCells, tups, oneOf, List.cons_append, List.nil_append, List.length_cons, List.length_nil, s_hDiv, s_hInv, s_hMul, s_hRound, dz, gt_iff_lt, re8, rv8_N0, iI, iM, eD, k1, pzero, N0_neg0, N0_ln0, N0_lm0] at *
 all_goals first
  | exact ⟨hy, rfl, hk⟩
  | exact ⟨oX, oI⟩
  | exact ⟨oM, rfl⟩
  | exact oM
  | exact hQ
  | (exfalso; simp at hc_; done)
  | (simp only [N0_neg0, N0_ln0, N0_lm0] at hQ; exact hQ)
  | trace_state
end Go.Proofs.YtkfojbelnemhbaaGreatDoor.Ev
namespace Go.Proofs.YtkfojbelnemhbaaGreatDoor.Ev
open Go Go.RowKit Ieee
def fpl (r : Nat) : Int := if r < 4503599627370496 then -1074 else -1074 + ((r / 4503599627370496 - 1 : Nat) : Int)
def infR : Nat := 9218868437227405312
def wd (s : Bool) (r : Nat) : Nat := if s then 9223372036854775808 + r else r
def rgo (u : Nat) : Nat := u % 9223372036854775808
def normal (r : Nat) : Prop := 4503599627370496 ≤ r ∧ r < infR
def xe (u : Nat) : Int := fpl (rgo u)
end Go.Proofs.YtkfojbelnemhbaaGreatDoor.Ev
namespace Go.Proofs.YtkfojbelnemhbaaGreatDoor.Ev
open Go Go.RowKit
def isF : D → Prop | .flt .f64 u => u < 18446744073709551616 | _ => False
def df : D → Nat | .flt _ u => u | _ => 0
theorem Post.f {Q : Post} {k : FloatKind} {a b : Nat} (h : Q.R (.flt k a)) (hab : a = b) : Q.R (.flt k b) := hab ▸ h
def fin (x : D) : Prop := isF x ∧ rgo (df x) < infR
end Go.Proofs.YtkfojbelnemhbaaGreatDoor.Ev
