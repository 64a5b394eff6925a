import Derived.Test.YtnjjfakjnkhhjaaGreatDoorJa
set_option maxHeartbeats 4000000
set_option maxRecDepth 100000
set_option linter.all false
namespace Go.Proofs.YtnjjfakjnkhhjaaGreatDoor.Ev
open Go Go.RowKit
def rw12 {α : Type} (d : α) (g : Bool → Nat → List D → Int → Bool → Nat → List D → Int → Bool → Nat → List D → Int → Bool → Nat → List D → Int → α) : D → α
 | .agg [.bool s1, .sl n1 c1, .int _ e1, .bool s2, .sl n2 c2, .int _ e2, .bool s3, .sl n3 c3, .int _ e3, .bool s4, .sl n4 c4, .int _ e4] => g s1 n1 c1 e1 s2 n2 c2 e2 s3 n3 c3 e3 s4 n4 c4 e4
 | _ => d
theorem rw12_is {α : Type} (d : α) (g : Bool → Nat → List D → Int → Bool → Nat → List D → Int → Bool → Nat → List D → Int → Bool → Nat → List D → Int → α) (s1 s2 s3 s4 : Bool) (n1 n2 n3 n4 : Nat) (c1 c2 c3 c4 : List D) (e1 e2 e3 e4 : Int) (k1 k2 k3 k4 : IntKind) :
  rw12 d g (.agg [.bool s1, .sl n1 c1, .int k1 e1, .bool s2, .sl n2 c2, .int k2 e2, .bool s3, .sl n3 c3, .int k3 e3, .bool s4, .sl n4 c4, .int k4 e4]) = g s1 n1 c1 e1 s2 n2 c2 e2 s3 n3 c3 e3 s4 n4 c4 e4 := rfl
def rv8 (x : D) : Rc := rw12 pzero (fun s1 n1 c1 e1 s2 n2 c2 e2 s3 n3 c3 e3 s4 n4 c4 e4 => (((vI s1 c1, e1), (vI s2 c2, e2)), ((vI s3 c3, e3), (vI s4 c4, e4)))) x
def re8 (x : Rc) (i : Nat) : Int := match i with | 0 => x.1.1.1 | 1 => x.1.1.2 | 2 => x.1.2.1 | 3 => x.1.2.2 | 4 => x.2.1.1 | 5 => x.2.1.2 | 6 => x.2.2.1 | _ => x.2.2.2
def okP (x : D) : Prop := match x with
 | .agg [.bool _, .sl n1 c1, .int .i64 e1, .bool _, .sl n2 c2, .int .i64 e2, .bool _, .sl n3 c3, .int .i64 e3, .bool _, .sl n4 c4, .int .i64 e4] => okS n1 c1 e1 ∧ okS n2 c2 e2 ∧ okS n3 c3 e3 ∧ okS n4 c4 e4
 | _ => False
theorem okP_arg {x : D} (h : okP x) : ∃ s1 n1 c1 e1 s2 n2 c2 e2 s3 n3 c3 e3 s4 n4 c4 e4, x = .agg [.bool s1, .sl n1 c1, .int .i64 e1, .bool s2, .sl n2 c2, .int .i64 e2, .bool s3, .sl n3 c3, .int .i64 e3, .bool s4, .sl n4 c4, .int .i64 e4] ∧ okS n1 c1 e1 ∧ okS n2 c2 e2 ∧ okS n3 c3 e3 ∧ okS n4 c4 e4 := by
 unfold okP at h
 split at h
 ·exact ⟨_, _, _, _, _, _, _, _, _, _, _, _, _, _, _, _, rfl, h⟩
 ·exact h.elim
theorem okR_S {s t : Bool} {n m : Nat} {cs es : List D} {e f : Int} (h : okS n cs e) (k : okS m es f) : okR (.agg [.bool s, .sl n cs, .int .i64 e, .bool t, .sl m es, .int .i64 f]) := ⟨h, k⟩
theorem okT_S {s : Bool} {n : Nat} {cs : List D} {e : Int} (h : okS n cs e) : okT (.agg [.bool s, .sl n cs, .int .i64 e]) := h
theorem okP_S {s1 s2 s3 s4 : Bool} {n1 n2 n3 n4 : Nat} {c1 c2 c3 c4 : List D} {e1 e2 e3 e4 : Int} (h1 : okS n1 c1 e1) (h2 : okS n2 c2 e2) (h3 : okS n3 c3 e3) (h4 : okS n4 c4 e4) :
  okP (.agg [.bool s1, .sl n1 c1, .int .i64 e1, .bool s2, .sl n2 c2, .int .i64 e2, .bool s3, .sl n3 c3, .int .i64 e3, .bool s4, .sl n4 c4, .int .i64 e4]) := ⟨h1, h2, h3, h4⟩
theorem okS_fD {a : Dy} (h : fD a 19200 50000) : okS (N0.ln a.1) (N0.lm a.1) a.2 := ⟨okC_fitN h.1 (by omega), ln_fit h.1, h.2.1, h.2.2⟩
def okSM (n : Nat) (cs : List D) (e : Int) : Prop := okS n cs e ∧ n ≤ 299 ∧ -15000 ≤ e ∧ e ≤ 15000
def okPM (x : D) : Prop := okP x ∧ rw12 False (fun _ n1 _ e1 _ n2 _ e2 _ n3 _ e3 _ n4 _ e4 => ((n1 ≤ 299 ∧ -15000 ≤ e1 ∧ e1 ≤ 15000) ∧ n2 ≤ 299 ∧ -15000 ≤ e2 ∧ e2 ≤ 15000) ∧ (n3 ≤ 299 ∧ -15000 ≤ e3 ∧ e3 ≤ 15000) ∧ n4 ≤ 299 ∧ -15000 ≤ e4 ∧ e4 ≤ 15000) x
theorem okPM_arg {x : D} (h : okPM x) : ∃ s1 n1 c1 e1 s2 n2 c2 e2 s3 n3 c3 e3 s4 n4 c4 e4, x = .agg [.bool s1, .sl n1 c1, .int .i64 e1, .bool s2, .sl n2 c2, .int .i64 e2, .bool s3, .sl n3 c3, .int .i64 e3, .bool s4, .sl n4 c4, .int .i64 e4] ∧ okSM n1 c1 e1 ∧ okSM n2 c2 e2 ∧ okSM n3 c3 e3 ∧ okSM n4 c4 e4 := by
 obtain ⟨s1, n1, c1, e1, s2, n2, c2, e2, s3, n3, c3, e3, s4, n4, c4, e4, rfl, h1, h2, h3, h4⟩ := okP_arg h.1
 obtain ⟨⟨k1, k2⟩, k3, k4⟩ := h.2
 exact ⟨_, _, _, _, _, _, _, _, _, _, _, _, _, _, _, _, rfl, ⟨h1, k1⟩, ⟨h2, k2⟩, ⟨h3, k3⟩, h4, k4⟩
theorem okPM_S {s1 s2 s3 s4 : Bool} {n1 n2 n3 n4 : Nat} {c1 c2 c3 c4 : List D} {e1 e2 e3 e4 : Int} (h1 : okSM n1 c1 e1) (h2 : okSM n2 c2 e2) (h3 : okSM n3 c3 e3) (h4 : okSM n4 c4 e4) :
  okPM (.agg [.bool s1, .sl n1 c1, .int .i64 e1, .bool s2, .sl n2 c2, .int .i64 e2, .bool s3, .sl n3 c3, .int .i64 e3, .bool s4, .sl n4 c4, .int .i64 e4]) := ⟨⟨h1.1, h2.1, h3.1, h4.1⟩, ⟨h1.2, h2.2⟩, h3.2, h4.2⟩
theorem okM_S {s t : Bool} {n m : Nat} {cs es : List D} {e f : Int} (h : okSM n cs e) (k : okSM m es f) : s_eMul.okM (.agg [.bool s, .sl n cs, .int .i64 e, .bool t, .sl m es, .int .i64 f]) := ⟨⟨h.1, k.1⟩, ⟨h.2.1, k.2.1⟩, h.2.2, k.2.2⟩
theorem few30_S {s t : Bool} {n m : Nat} {cs es : List D} {e f : Int} (h : okSM n cs e) (k : okSM m es f) : few30 (.agg [.bool s, .sl n cs, .int .i64 e, .bool t, .sl m es, .int .i64 f]) := by
 have := h.2.2; have := k.2.2
 exact ⟨⟨by omega, by omega⟩, by omega, by omega⟩
abbrev PS : Shape := .agg [.I, .i .i64, .I, .i .i64, .I, .i .i64, .I, .i .i64]
def okQ (x : D) : Prop := match x with
 | .agg [.bool _, .sl _ _, .int .i64 _, .bool _, .sl _ _, .int .i64 _, .bool _, .sl _ _, .int .i64 _, .bool _, .sl _ _, .int .i64 _] => True
 | _ => False
theorem okQ_arg {x : D} (h : okQ x) : ∃ s1 n1 c1 e1 s2 n2 c2 e2 s3 n3 c3 e3 s4 n4 c4 e4, x = .agg [.bool s1, .sl n1 c1, .int .i64 e1, .bool s2, .sl n2 c2, .int .i64 e2, .bool s3, .sl n3 c3, .int .i64 e3, .bool s4, .sl n4 c4, .int .i64 e4] := by
 unfold okQ at h
 split at h
 ·exact ⟨_, _, _, _, _, _, _, _, _, _, _, _, _, _, _, _, rfl⟩
 ·exact h.elim
theorem okQ_mk {s1 s2 s3 s4 : Bool} {n1 n2 n3 n4 : Nat} {c1 c2 c3 c4 : List D} {e1 e2 e3 e4 : Int} :
  okQ (.agg [.bool s1, .sl n1 c1, .int .i64 e1, .bool s2, .sl n2 c2, .int .i64 e2, .bool s3, .sl n3 c3, .int .i64 e3, .bool s4, .sl n4 c4, .int .i64 e4]) := trivial
def s_hRaw : FnSpec := ⟨.agg [.R, .i .i64, .R, .i .i64, .R, .i .i64, .R, .i .i64], fun ds => match ds with | [x] => okQ x | _ => False,
 a1 0 fun x i => rw12 0 (fun s1 n1 c1 e1 s2 n2 c2 e2 s3 n3 c3 e3 s4 n4 c4 e4 => match i with | 1 => e1 | 3 => e2 | 5 => e3 | _ => e4) x,
 a1 false fun x i => rw12 false (fun s1 n1 c1 e1 s2 n2 c2 e2 s3 n3 c3 e3 s4 n4 c4 e4 => match i with | 0 => s1 | 2 => s2 | 4 => s3 | _ => s4) x,
 a1 0 fun x i => rw12 0 (fun s1 n1 c1 e1 s2 n2 c2 e2 s3 n3 c3 e3 s4 n4 c4 e4 => match i with | 0 => n1 | 2 => n2 | 4 => n3 | _ => n4) x,
 a1 [] fun x i => rw12 [] (fun s1 n1 c1 e1 s2 n2 c2 e2 s3 n3 c3 e3 s4 n4 c4 e4 => match i with | 0 => c1 | 2 => c2 | 4 => c3 | _ => c4) x⟩
def s_hParts : FnSpec := s_hRaw
def s_hJoined : FnSpec := s_hRaw
theorem hraw_arg {ds : List D} (h : s_hRaw.p ds) : ∃ x, ds = [x] ∧ okQ x := by
 match ds, h with
 | [x], h => exact ⟨x, rfl, h⟩
def lit3 : Nat → Int | 0 => 0 | 1 => 1 | _ => 2
def lp3 {α : Type} : Nat → α → α → α → α | 0, a, _, _ => a | 1, _, b, _ => b | _, _, _, c => c
theorem three_or {i : Nat} (hi : i ≤ 2) : i = 0 ∨ i = 1 ∨ i = 2 := by omega
abbrev G_hParts : Prop := Good Tryz.prog (GWL [0, 1, 2]) N0 204 s_hParts
abbrev G_hJoined : Prop := Good Tryz.prog (GWL [0, 1, 2]) N0 205 s_hJoined
theorem goods_hc1 : G_hParts ∧ G_hJoined := by
 refine ⟨?_, ?_⟩
 refine goodM 0 gn Tryz.f204 (by kernel_rfl) (by kernel_rfl) fun ds hp F A Q hF hA hQ => ?_
 obtain ⟨x, rfl, hx⟩ := hraw_arg hp
 obtain ⟨s1, n1, c1, e1, s2, n2, c2, e2, s3, n3, c3, e3, s4, n4, c4, e4, rfl⟩ := okQ_arg hx
 clear hp hx
 rotate_left
 refine goodM 0 gn Tryz.f205 (by kernel_rfl) (by kernel_rfl) fun ds hp F A Q hF hA hQ => ?_
 obtain ⟨x, rfl, hx⟩ := hraw_arg hp
 obtain ⟨s1, n1, c1, e1, s2, n2, c2, e2, s3, n3, c3, e3, s4, n4, c4, e4, rfl⟩ := okQ_arg hx
 clear hp hx
 rotate_left
 all_goals cbv
 all_goals (repeat' (first | with_reducible refine And.intro ?_ ?_ | (with_reducible refine safe_lift hA ?_; kernel_rfl) | (intro hc_; first | fail | cbv)))
 all_goals (repeat (rw [safe_true hA, true_and]; rotate_left; kernel_rfl))
 all_goals subst hF hA
 all_goals simp only [fnOf, find, std, reduceIte, Nat.reduceEqDiff, sp1, sp2, a1, a2, FnSpec.out, Shape.build, leafs, leafCells, tups, oneOf, List.cons_append, List.nil_append, List.length_cons, List.length_nil, s_hParts, re4, rv_raw, rv_N0, dv, dz, dx, dcn, dm_raw, dm_N0, vI_N0, raw6_is, raw3_is, pick2, decide_eq_true_eq, decide_eq_false_iff_not, gt_iff_lt, ge_iff_le, Dy.n, Dy.add, Dy.sub, Dy.mul, Dy.neg, Dy.abs, Dy.to, Dy.pow, sg_nonpos7, sg_nonneg7, rv8, rw12_is, re8, s_hRaw, rcn, padd, psub, pneg, phull, pround, pmul, psq, pnorm, lp3, lit3, s_hJoined] at *
 all_goals (repeat' (first
  | with_reducible exact hQ
  | with_reducible assumption
  | with_reducible exact isi_int _ _
  | with_reducible exact okR_S (by with_reducible assumption) (by with_reducible assumption)
  | with_reducible exact okP_S (by with_reducible assumption) (by with_reducible assumption) (by with_reducible assumption) (by with_reducible assumption)
  | with_reducible exact okQ_mk
  | with_reducible exact okT_S (by with_reducible assumption)
  | with_reducible exact okM_S (by with_reducible assumption) (by with_reducible assumption)
  | with_reducible exact okPM_S (by with_reducible assumption) (by with_reducible assumption) (by with_reducible assumption) (by with_reducible assumption)
  | with_reducible exact few30_S (by with_reducible assumption) (by with_reducible assumption)
  | with_reducible refine And.intro ?_ ?_
  | rfl
  | omega))
theorem good_hParts : G_hParts := goods_hc1.1
theorem good_hJoined : G_hJoined := goods_hc1.2
end Go.Proofs.YtnjjfakjnkhhjaaGreatDoor.Ev
namespace Go.Proofs.YtnjjfakjnkhhjaaGreatDoor.Ev
open Go Go.RowKit
def smP (x : D) : Prop := okPM x ∧ cz (rv8 x).1 1000 1320 ∧ cz (rv8 x).2 1000 1320
theorem smP_arg {x : D} (h : smP x) : ∃ s1 n1 c1 e1 s2 n2 c2 e2 s3 n3 c3 e3 s4 n4 c4 e4, x = .agg [.bool s1, .sl n1 c1, .int .i64 e1, .bool s2, .sl n2 c2, .int .i64 e2, .bool s3, .sl n3 c3, .int .i64 e3, .bool s4, .sl n4 c4, .int .i64 e4] ∧
  okSM n1 c1 e1 ∧ okSM n2 c2 e2 ∧ okSM n3 c3 e3 ∧ okSM n4 c4 e4 ∧ cz ((vI s1 c1, e1), (vI s2 c2, e2)) 1000 1320 ∧ cz ((vI s3 c3, e3), (vI s4 c4, e4)) 1000 1320 := by
 obtain ⟨s1, n1, c1, e1, s2, n2, c2, e2, s3, n3, c3, e3, s4, n4, c4, e4, rfl, h1, h2, h3, h4⟩ := okPM_arg h.1
 exact ⟨_, _, _, _, _, _, _, _, _, _, _, _, _, _, _, _, rfl, h1, h2, h3, h4, h.2⟩
def s_hOf : FnSpec := sp1 PS okR (fun x i => re8 (ppt (ca (rv x))) i) (fun _ _ => false)
def s_hMid : FnSpec := sp1 (.agg [.I, .i .i64, .I, .i .i64]) smP (fun x i => re4 (pmid (rcn (rv8 x))) i) (fun _ _ => false)
theorem okS_M {n : Nat} {cs : List D} {e : Int} (h : okSM n cs e) : okS n cs e := h.1
theorem rv8_N0 (x : Rc) : rv8 (.agg [.bool (N0.neg x.1.1.1), .sl (N0.ln x.1.1.1) (N0.lm x.1.1.1), .int .i64 x.1.1.2, .bool (N0.neg x.1.2.1), .sl (N0.ln x.1.2.1) (N0.lm x.1.2.1), .int .i64 x.1.2.2,
  .bool (N0.neg x.2.1.1), .sl (N0.ln x.2.1.1) (N0.lm x.2.1.1), .int .i64 x.2.1.2, .bool (N0.neg x.2.2.1), .sl (N0.ln x.2.2.1) (N0.lm x.2.2.1), .int .i64 x.2.2.2]) = x := by
 unfold rv8; simp only [rw12_is, vI_N0]
theorem mid_raw (x : Rc) : cscl (cadd (x.1.1, x.2.1) (x.1.2, x.2.2)) (-1) = pmid (rcn x) := by rw [pmid_rcn]; rfl
abbrev G_hOf : Prop := Good Tryz.prog (GWL [0, 1, 2]) N0 130 s_hOf
abbrev G_hMid : Prop := Good Tryz.prog (GWL [0, 1, 2]) N0 126 s_hMid
theorem goods_hd1 : G_hOf ∧ G_hMid := by
 refine ⟨?_, ?_⟩
 refine goodM 0 (gl good_eOf rfl gn) Tryz.f130 (by kernel_rfl) (by kernel_rfl) fun ds hp F A Q hF hA hQ => ?_
 obtain ⟨x, rfl, hx⟩ := sp1_arg hp
 obtain ⟨s, n, cs, e, t, m, es, f, rfl, hc, hn, he1, he2, hc2, hm, hf1, hf2⟩ := okR_arg hx
 have tS := okT_mk (s := s) hc hn he1 he2
 have tT := okT_mk (s := t) hc2 hm hf1 hf2
 clear hp
 rotate_left
 refine goodM 0 (gl good_uAdd rfl <| gl good_uScale rfl gn) Tryz.f126 (by kernel_rfl) (by kernel_rfl) fun ds hp F A Q hF hA hQ => ?_
 obtain ⟨x, rfl, hx⟩ := sp1_arg hp
 obtain ⟨s1, n1, c1, e1, s2, n2, c2, e2, s3, n3, c3, e3, s4, n4, c4, e4, rfl, m1x, m2x, m3x, m4x, zx1, zx2⟩ := smP_arg hx
 have x1_ := okS_M m1x
 have x2_ := okS_M m2x
 have x3_ := okS_M m3x
 have x4_ := okS_M m4x
 have qM := mid_raw (((vI s1 c1, e1), (vI s2 c2, e2)), ((vI s3 c3, e3), (vI s4 c4, e4)))
 have cM := okR_fR ((cz_can ⟨add_n _ _, add_n _ _⟩ (cz_add (x := ((vI s1 c1, e1), (vI s3 c3, e3))) (y := ((vI s2 c2, e2), (vI s4 c4, e4))) ⟨zx1.1, zx2.1⟩ ⟨zx1.2, zx2.2⟩)).mono (show 1000 + (1320 + 1) ≤ 19200 by omega) (show 1000 + (1320 + 1) ≤ 50000 by omega))
 clear hp hx
 rotate_left
 all_goals cbv
 all_goals (repeat' (first | with_reducible refine And.intro ?_ ?_ | (with_reducible refine safe_lift hA ?_; kernel_rfl) | (intro hc_; first | fail | cbv)))
 all_goals (repeat (rw [safe_true hA, true_and]; rotate_left; kernel_rfl))
 all_goals subst hF hA
 all_goals simp only [fnOf, find, std, reduceIte, Nat.reduceEqDiff, sp1, sp2, a1, a2, FnSpec.out, Shape.build, leafs, leafCells, tups, oneOf, List.cons_append, List.nil_append, List.length_cons, List.length_nil, s_hOf, s_eOf, re4, rv_raw, rv_N0, dv, dz, dx, dcn, dm_raw, dm_N0, vI_N0, raw6_is, raw3_is, pick2, decide_eq_true_eq, decide_eq_false_iff_not, gt_iff_lt, ge_iff_le, Dy.n, Dy.add, Dy.sub, Dy.mul, Dy.neg, Dy.abs, Dy.to, Dy.pow, sg_nonpos7, sg_nonneg7, rv8, rw12_is, re8, s_hRaw, rcn, padd, psub, pneg, phull, pround, pmul, psq, pnorm, lp3, lit3, ppt, ca, s_hMid, s_uAdd, s_uScale, cscl, cadd, Dy.scl] at *
 all_goals (repeat' (first
  | with_reducible exact hQ
  | with_reducible assumption
  | with_reducible exact isi_int _ _
  | with_reducible exact okR_S (by with_reducible assumption) (by with_reducible assumption)
  | with_reducible exact okP_S (by with_reducible assumption) (by with_reducible assumption) (by with_reducible assumption) (by with_reducible assumption)
  | with_reducible exact okQ_mk
  | with_reducible exact okT_S (by with_reducible assumption)
  | with_reducible exact okM_S (by with_reducible assumption) (by with_reducible assumption)
  | with_reducible exact okPM_S (by with_reducible assumption) (by with_reducible assumption) (by with_reducible assumption) (by with_reducible assumption)
  | with_reducible exact few30_S (by with_reducible assumption) (by with_reducible assumption)
  | with_reducible refine And.intro ?_ ?_
  | rfl
  | omega))
 all_goals first
  | exact Post.r hQ qM.symm
  | fail
theorem good_hOf : G_hOf := goods_hd1.1
theorem good_hMid : G_hMid := goods_hd1.2
end Go.Proofs.YtnjjfakjnkhhjaaGreatDoor.Ev
