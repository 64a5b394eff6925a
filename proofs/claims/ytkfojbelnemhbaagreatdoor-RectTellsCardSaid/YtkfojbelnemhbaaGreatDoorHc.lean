import Derived.Test.YtkfojbelnemhbaaGreatDoorHb
set_option maxHeartbeats 6000000
set_option maxRecDepth 100000
set_option linter.all false
namespace Go.Proofs.YtkfojbelnemhbaaGreatDoor.Ev
open Go Go.RowKit
def rw12 {α : Type} (d : α) (g : Bool → Nat → List D → Int → Bool → Nat → List D → Int → Bool → Nat → List D → Int → Bool → Nat → List D → Int → α) : D → α
 | .agg [.bool s1, .sl n1 c1, .int _ e1, .bool s2, .sl n2 c2, .int _ e2, .bool s3, .sl n3 c3, .int _ e3, .bool s4, .sl n4 c4, .int _ e4] => g s1 n1 c1 e1 s2 n2 c2 e2 s3 n3 c3 e3 s4 n4 c4 e4
 | _ => d
theorem rw12_is {α : Type} (d : α) (g : Bool → Nat → List D → Int → Bool → Nat → List D → Int → Bool → Nat → List D → Int → Bool → Nat → List D → Int → α) (s1 s2 s3 s4 : Bool) (n1 n2 n3 n4 : Nat) (c1 c2 c3 c4 : List D) (e1 e2 e3 e4 : Int) (k1 k2 k3 k4 : IntKind) :
  rw12 d g (.agg [.bool s1, .sl n1 c1, .int k1 e1, .bool s2, .sl n2 c2, .int k2 e2, .bool s3, .sl n3 c3, .int k3 e3, .bool s4, .sl n4 c4, .int k4 e4]) = g s1 n1 c1 e1 s2 n2 c2 e2 s3 n3 c3 e3 s4 n4 c4 e4 := rfl
def rv8 (x : D) : Rc := rw12 pzero (fun s1 n1 c1 e1 s2 n2 c2 e2 s3 n3 c3 e3 s4 n4 c4 e4 => (((vI s1 c1, e1), (vI s2 c2, e2)), ((vI s3 c3, e3), (vI s4 c4, e4)))) x
def re8 (x : Rc) (i : Nat) : Int := match i with | 0 => x.1.1.1 | 1 => x.1.1.2 | 2 => x.1.2.1 | 3 => x.1.2.2 | 4 => x.2.1.1 | 5 => x.2.1.2 | 6 => x.2.2.1 | _ => x.2.2.2
def okP (x : D) : Prop := match x with
 | .agg [.bool _, .sl n1 c1, .int .i64 e1, .bool _, .sl n2 c2, .int .i64 e2, .bool _, .sl n3 c3, .int .i64 e3, .bool _, .sl n4 c4, .int .i64 e4] => okS n1 c1 e1 ∧ okS n2 c2 e2 ∧ okS n3 c3 e3 ∧ okS n4 c4 e4
 | _ => False
theorem okP_arg {x : D} (h : okP x) : ∃ s1 n1 c1 e1 s2 n2 c2 e2 s3 n3 c3 e3 s4 n4 c4 e4, x = .agg [.bool s1, .sl n1 c1, .int .i64 e1, .bool s2, .sl n2 c2, .int .i64 e2, .bool s3, .sl n3 c3, .int .i64 e3, .bool s4, .sl n4 c4, .int .i64 e4] ∧ okS n1 c1 e1 ∧ okS n2 c2 e2 ∧ okS n3 c3 e3 ∧ okS n4 c4 e4 := by
 unfold okP at h
 split at h
 ·exact ⟨_, _, _, _, _, _, _, _, _, _, _, _, _, _, _, _, rfl, h⟩
 ·exact h.elim
theorem okR_S {s t : Bool} {n m : Nat} {cs es : List D} {e f : Int} (h : okS n cs e) (k : okS m es f) : okR (.agg [.bool s, .sl n cs, .int .i64 e, .bool t, .sl m es, .int .i64 f]) := ⟨h, k⟩
theorem okT_S {s : Bool} {n : Nat} {cs : List D} {e : Int} (h : okS n cs e) : okT (.agg [.bool s, .sl n cs, .int .i64 e]) := h
theorem okP_S {s1 s2 s3 s4 : Bool} {n1 n2 n3 n4 : Nat} {c1 c2 c3 c4 : List D} {e1 e2 e3 e4 : Int} (h1 : okS n1 c1 e1) (h2 : okS n2 c2 e2) (h3 : okS n3 c3 e3) (h4 : okS n4 c4 e4) :
  okP (.agg [.bool s1, .sl n1 c1, .int .i64 e1, .bool s2, .sl n2 c2, .int .i64 e2, .bool s3, .sl n3 c3, .int .i64 e3, .bool s4, .sl n4 c4, .int .i64 e4]) := ⟨h1, h2, h3, h4⟩
theorem okS_fD {a : Dy} (h : fD a 19200 50000) : okS (N0.ln a.1) (N0.lm a.1) a.2 := ⟨okC_fitN h.1 (by omega), ln_fit h.1, h.2.1, h.2.2⟩
def okSM (n : Nat) (cs : List D) (e : Int) : Prop := okS n cs e ∧ n ≤ 299 ∧ -15000 ≤ e ∧ e ≤ 15000
theorem okSM_fD {a : Dy} (h : fD a 9568 15000) : okSM (N0.ln a.1) (N0.lm a.1) a.2 := ⟨okS_fD (h.mono (by omega) (by omega)), ln_fit h.1, h.2.1, h.2.2⟩
def okPM (x : D) : Prop := okP x ∧ rw12 False (fun _ n1 _ e1 _ n2 _ e2 _ n3 _ e3 _ n4 _ e4 => ((n1 ≤ 299 ∧ -15000 ≤ e1 ∧ e1 ≤ 15000) ∧ n2 ≤ 299 ∧ -15000 ≤ e2 ∧ e2 ≤ 15000) ∧ (n3 ≤ 299 ∧ -15000 ≤ e3 ∧ e3 ≤ 15000) ∧ n4 ≤ 299 ∧ -15000 ≤ e4 ∧ e4 ≤ 15000) x
theorem okPM_arg {x : D} (h : okPM x) : ∃ s1 n1 c1 e1 s2 n2 c2 e2 s3 n3 c3 e3 s4 n4 c4 e4, x = .agg [.bool s1, .sl n1 c1, .int .i64 e1, .bool s2, .sl n2 c2, .int .i64 e2, .bool s3, .sl n3 c3, .int .i64 e3, .bool s4, .sl n4 c4, .int .i64 e4] ∧ okSM n1 c1 e1 ∧ okSM n2 c2 e2 ∧ okSM n3 c3 e3 ∧ okSM n4 c4 e4 := by
 obtain ⟨s1, n1, c1, e1, s2, n2, c2, e2, s3, n3, c3, e3, s4, n4, c4, e4, rfl, h1, h2, h3, h4⟩ := okP_arg h.1
 obtain ⟨⟨k1, k2⟩, k3, k4⟩ := h.2
 exact ⟨_, _, _, _, _, _, _, _, _, _, _, _, _, _, _, _, rfl, ⟨h1, k1⟩, ⟨h2, k2⟩, ⟨h3, k3⟩, h4, k4⟩
theorem okPM_S {s1 s2 s3 s4 : Bool} {n1 n2 n3 n4 : Nat} {c1 c2 c3 c4 : List D} {e1 e2 e3 e4 : Int} (h1 : okSM n1 c1 e1) (h2 : okSM n2 c2 e2) (h3 : okSM n3 c3 e3) (h4 : okSM n4 c4 e4) :
  okPM (.agg [.bool s1, .sl n1 c1, .int .i64 e1, .bool s2, .sl n2 c2, .int .i64 e2, .bool s3, .sl n3 c3, .int .i64 e3, .bool s4, .sl n4 c4, .int .i64 e4]) := ⟨⟨h1.1, h2.1, h3.1, h4.1⟩, ⟨h1.2, h2.2⟩, h3.2, h4.2⟩
theorem okM_S {s t : Bool} {n m : Nat} {cs es : List D} {e f : Int} (h : okSM n cs e) (k : okSM m es f) : s_eMul.okM (.agg [.bool s, .sl n cs, .int .i64 e, .bool t, .sl m es, .int .i64 f]) := ⟨⟨h.1, k.1⟩, ⟨h.2.1, k.2.1⟩, h.2.2, k.2.2⟩
theorem few30_S {s t : Bool} {n m : Nat} {cs es : List D} {e f : Int} (h : okSM n cs e) (k : okSM m es f) : few30 (.agg [.bool s, .sl n cs, .int .i64 e, .bool t, .sl m es, .int .i64 f]) := by
 have := h.2.2; have := k.2.2
 exact ⟨⟨by omega, by omega⟩, by omega, by omega⟩
theorem fR_SM {s t : Bool} {n m : Nat} {cs es : List D} {e f : Int} (h : okSM n cs e) (k : okSM m es f) : fR ((vI s cs, e), (vI t es, f)) 9568 15000 := by
 have h1 := h.2; have k1 := k.2
 exact ⟨fD_raw h.1.1 (by omega) (by omega) (by omega), fD_raw k.1.1 (by omega) (by omega) (by omega)⟩
abbrev PS : Shape := .agg [.I, .i .i64, .I, .i .i64, .I, .i .i64, .I, .i .i64]
def okQ (x : D) : Prop := match x with
 | .agg [.bool _, .sl _ _, .int .i64 _, .bool _, .sl _ _, .int .i64 _, .bool _, .sl _ _, .int .i64 _, .bool _, .sl _ _, .int .i64 _] => True
 | _ => False
theorem okQ_arg {x : D} (h : okQ x) : ∃ s1 n1 c1 e1 s2 n2 c2 e2 s3 n3 c3 e3 s4 n4 c4 e4, x = .agg [.bool s1, .sl n1 c1, .int .i64 e1, .bool s2, .sl n2 c2, .int .i64 e2, .bool s3, .sl n3 c3, .int .i64 e3, .bool s4, .sl n4 c4, .int .i64 e4] := by
 unfold okQ at h
 split at h
 ·exact ⟨_, _, _, _, _, _, _, _, _, _, _, _, _, _, _, _, rfl⟩
 ·exact h.elim
theorem okQ_mk {s1 s2 s3 s4 : Bool} {n1 n2 n3 n4 : Nat} {c1 c2 c3 c4 : List D} {e1 e2 e3 e4 : Int} :
  okQ (.agg [.bool s1, .sl n1 c1, .int .i64 e1, .bool s2, .sl n2 c2, .int .i64 e2, .bool s3, .sl n3 c3, .int .i64 e3, .bool s4, .sl n4 c4, .int .i64 e4]) := trivial
def s_hRaw : FnSpec := ⟨.agg [.R, .i .i64, .R, .i .i64, .R, .i .i64, .R, .i .i64], fun ds => match ds with | [x] => okQ x | _ => False,
 a1 0 fun x i => rw12 0 (fun s1 n1 c1 e1 s2 n2 c2 e2 s3 n3 c3 e3 s4 n4 c4 e4 => match i with | 1 => e1 | 3 => e2 | 5 => e3 | _ => e4) x,
 a1 false fun x i => rw12 false (fun s1 n1 c1 e1 s2 n2 c2 e2 s3 n3 c3 e3 s4 n4 c4 e4 => match i with | 0 => s1 | 2 => s2 | 4 => s3 | _ => s4) x,
 a1 0 fun x i => rw12 0 (fun s1 n1 c1 e1 s2 n2 c2 e2 s3 n3 c3 e3 s4 n4 c4 e4 => match i with | 0 => n1 | 2 => n2 | 4 => n3 | _ => n4) x,
 a1 [] fun x i => rw12 [] (fun s1 n1 c1 e1 s2 n2 c2 e2 s3 n3 c3 e3 s4 n4 c4 e4 => match i with | 0 => c1 | 2 => c2 | 4 => c3 | _ => c4) x⟩
def s_hParts : FnSpec := s_hRaw
def s_hJoined : FnSpec := s_hRaw
theorem hraw_arg {ds : List D} (h : s_hRaw.p ds) : ∃ x, ds = [x] ∧ okQ x := by
 match ds, h with
 | [x], h => exact ⟨x, rfl, h⟩
def s_hRnd1 : FnSpec := ⟨.agg [.I, .i .i64, .I, .i .i64], fun ds => match ds with | [x, .eptr [.int .i64 _] 0] => okR x | _ => False,
 fun ds i => match ds with | [x, .eptr [.int .i64 p] _] => re4 (rround (rn (rv x)) p) i | _ => 0, fun _ _ => false, fun _ _ => 0, fun _ _ => []⟩
theorem hrnd1_arg {ds : List D} (h : s_hRnd1.p ds) : ∃ x p, ds = [x, .eptr [.int .i64 p] 0] ∧ okR x := by
 unfold s_hRnd1 at h
 dsimp only at h
 split at h
 ·exact ⟨_, _, rfl, h⟩
 ·exact h.elim
def s_hEach : FnSpec := ⟨PS, fun ds => match ds with | [x, .fn f cs] => okP x ∧ ((f = 122 ∧ cs = []) ∨ (f = 126 ∧ ∃ p, cs = [.eptr [.int .i64 p] 0])) | _ => False,
 fun ds i => match ds with | [x, .fn _ [.eptr [.int _ p] _]] => re8 (pround (rcn (rv8 x)) p) i | [x, _] => re8 (pneg (rcn (rv8 x))) i | _ => 0, fun _ _ => false, fun _ _ => 0, fun _ _ => []⟩
theorem heach_arg {ds : List D} (h : s_hEach.p ds) : ∃ x, okP x ∧ (ds = [x, .fn 122 []] ∨ ∃ p, ds = [x, .fn 126 [.eptr [.int .i64 p] 0]]) := by
 unfold s_hEach at h
 dsimp only at h
 split at h
 ·rcases h with ⟨h, ⟨rfl, rfl⟩ | ⟨rfl, p, rfl⟩⟩
  ·exact ⟨_, h, .inl rfl⟩
  ·exact ⟨_, h, .inr ⟨p, rfl⟩⟩
 ·exact h.elim
def s_hPairs : FnSpec := ⟨PS, fun ds => match ds with | [x, y, .fn f []] => okP x ∧ okP y ∧ (f = 105 ∨ f = 107 ∨ f = 115) | _ => False,
 fun ds i => match ds with | [x, y, .fn f _] => (if f = 105 then re8 (padd (rcn (rv8 x)) (rcn (rv8 y))) i else if f = 107 then re8 (psub (rcn (rv8 x)) (rcn (rv8 y))) i else re8 (phull (rcn (rv8 x)) (rcn (rv8 y))) i) | _ => 0, fun _ _ => false, fun _ _ => 0, fun _ _ => []⟩
theorem hpairs_arg {ds : List D} (h : s_hPairs.p ds) : ∃ x y, okP x ∧ okP y ∧ (ds = [x, y, .fn 105 []] ∨ ds = [x, y, .fn 107 []] ∨ ds = [x, y, .fn 115 []]) := by
 unfold s_hPairs at h
 dsimp only at h
 split at h
 ·rcases h with ⟨h, k, rfl | rfl | rfl⟩
  ·exact ⟨_, _, h, k, .inl rfl⟩
  ·exact ⟨_, _, h, k, .inr (.inl rfl)⟩
  ·exact ⟨_, _, h, k, .inr (.inr rfl)⟩
 ·exact h.elim
def s_hBoth : FnSpec := ⟨.one .b, fun ds => match ds with | [x, y, .fn f []] => okP x ∧ okP y ∧ (f = 102 ∨ f = 120) | _ => False,
 fun _ _ => 0, fun ds _ => match ds with | [x, y, .fn f _] => (if f = 102 then inB (rv8 x).1 (rv8 y).1 && inB (rv8 x).2 (rv8 y).2 else decide (rn (rv8 x).1 = rn (rv8 y).1) && decide (rn (rv8 x).2 = rn (rv8 y).2)) | _ => false, fun _ _ => 0, fun _ _ => []⟩
theorem hboth_arg {ds : List D} (h : s_hBoth.p ds) : ∃ x y, okP x ∧ okP y ∧ (ds = [x, y, .fn 102 []] ∨ ds = [x, y, .fn 120 []]) := by
 unfold s_hBoth at h
 dsimp only at h
 split at h
 ·rcases h with ⟨h, k, rfl | rfl⟩
  ·exact ⟨_, _, h, k, .inl rfl⟩
  ·exact ⟨_, _, h, k, .inr rfl⟩
 ·exact h.elim
def lit3 : Nat → Int | 0 => 0 | 1 => 1 | _ => 2
def lp3 {α : Type} : Nat → α → α → α → α | 0, a, _, _ => a | 1, _, b, _ => b | _, _, _, c => c
theorem three_or {i : Nat} (hi : i ≤ 2) : i = 0 ∨ i = 1 ∨ i = 2 := by omega
theorem two_or {i : Nat} (hi : i ≤ 1) : i = 0 ∨ i = 1 := by omega
theorem one_or {i : Nat} (hi : i ≤ 0) : i = 0 := by omega
theorem two_b (a b : Bool) : a = false ∨ (a = true ∧ b = false) ∨ (a = true ∧ b = true) := by cases a <;> cases b <;> decide
abbrev G_hParts : Prop := Good Tryz.prog (GWL [0, 1, 2, 3, 4, 5, 6]) N0 93 s_hParts
abbrev G_hJoined : Prop := Good Tryz.prog (GWL [0, 1, 2, 3, 4, 5, 6]) N0 95 s_hJoined
abbrev G_hRnd1 : Prop := Good Tryz.prog (GWL [0, 1, 2, 3, 4, 5, 6]) N0 126 s_hRnd1
theorem goods_hc1 : G_hParts ∧ G_hJoined ∧ G_hRnd1 := by
 refine ⟨?_, ?_, ?_⟩
 refine goodM 0 gn Tryz.f93 (by kernel_rfl) (by kernel_rfl) fun ds hp F A Q hF hA hQ => ?_
 obtain ⟨x, rfl, hx⟩ := hraw_arg hp
 obtain ⟨s1, n1, c1, e1, s2, n2, c2, e2, s3, n3, c3, e3, s4, n4, c4, e4, rfl⟩ := okQ_arg hx
 clear hp hx
 rotate_left
 refine goodM 0 gn Tryz.f95 (by kernel_rfl) (by kernel_rfl) fun ds hp F A Q hF hA hQ => ?_
 obtain ⟨x, rfl, hx⟩ := hraw_arg hp
 obtain ⟨s1, n1, c1, e1, s2, n2, c2, e2, s3, n3, c3, e3, s4, n4, c4, e4, rfl⟩ := okQ_arg hx
 clear hp hx
 rotate_left
 refine goodM 0 (gl good_eRound rfl gn) Tryz.f126 (by kernel_rfl) (by kernel_rfl) fun ds hp F A Q hF hA hQ => ?_
 obtain ⟨x, p, rfl, hx⟩ := hrnd1_arg hp
 obtain ⟨s, n, cs, e, t, m, es, f, rfl, hc, hn, he1, he2, hc2, hm, hf1, hf2⟩ := okR_arg hx
 clear hp
 rotate_left
 all_goals cbv
 all_goals (repeat' (first | with_reducible refine And.intro ?_ ?_ | (with_reducible refine safe_lift hA ?_; kernel_rfl) | (intro hc_; first | fail | cbv)))
 all_goals (repeat (rw [safe_true hA, true_and]; rotate_left; kernel_rfl))
 all_goals subst hF hA
 all_goals simp only [fnOf, find, std, reduceIte, Nat.reduceEqDiff, sp1, sp2, a1, a2, FnSpec.out, Shape.build, leafs, leafCells, tups, oneOf, List.cons_append, List.nil_append, List.length_cons, List.length_nil, s_hParts, re4, rv_raw, rv_N0, dv, dz, dx, dcn, dm_raw, dm_N0, vI_N0, raw6_is, raw3_is, pick2, decide_eq_true_eq, decide_eq_false_iff_not, gt_iff_lt, ge_iff_le, Dy.n, Dy.add, Dy.sub, Dy.mul, Dy.neg, Dy.abs, Dy.to, Dy.pow, sg_nonpos7, sg_nonneg7, rv8, rw12_is, re8, s_hRaw, rcn, padd, psub, pneg, phull, pround, pmul, psq, pnorm, lp3, lit3, s_hJoined, s_hRnd1, s_eRound] at *
 all_goals (repeat' (first
  | with_reducible exact hQ
  | with_reducible assumption
  | with_reducible exact isi_int _ _
  | with_reducible exact okR_S (by with_reducible assumption) (by with_reducible assumption)
  | with_reducible exact okP_S (by with_reducible assumption) (by with_reducible assumption) (by with_reducible assumption) (by with_reducible assumption)
  | with_reducible exact okQ_mk
  | with_reducible exact okT_S (by with_reducible assumption)
  | with_reducible exact okM_S (by with_reducible assumption) (by with_reducible assumption)
  | with_reducible exact okPM_S (by with_reducible assumption) (by with_reducible assumption) (by with_reducible assumption) (by with_reducible assumption)
  | with_reducible exact few30_S (by with_reducible assumption) (by with_reducible assumption)
  | with_reducible refine And.intro ?_ ?_
  | rfl
  | omega))
 all_goals first
  | exact ⟨_, rfl⟩
  | exact hQ
  | fail
theorem good_hParts : G_hParts := goods_hc1.1
theorem good_hJoined : G_hJoined := goods_hc1.2.1
theorem good_hRnd1 : G_hRnd1 := goods_hc1.2.2
theorem good_hEach : Good Tryz.prog (GWL [0, 1, 2, 3, 4, 5, 6]) N0 125 s_hEach := by
 refine goodM 0 (gc good_hParts <| gc good_hJoined <| gl good_eNeg rfl <| gc good_hRnd1 gn) Tryz.f125 (by kernel_rfl) (by kernel_rfl) fun ds hp F A Q hF hA hQ => ?_
 obtain ⟨x, hx, hc⟩ := heach_arg hp
 obtain ⟨s1, n1, c1, e1, s2, n2, c2, e2, s3, n3, c3, e3, s4, n4, c4, e4, rfl, x1, x2, x3, x4⟩ := okP_arg hx
 clear hp
 have w01 : A.add .i64 0 1 = 1 := by rw [hA]; rfl
 have w12 : A.add .i64 1 1 = 2 := by rw [hA]; rfl
 have l02 : A.lt 0 2 = true := by rw [hA]; rfl
 have l12 : A.lt 1 2 = true := by rw [hA]; rfl
 have l22 : A.lt 2 2 = false := by rw [hA]; rfl
 rcases hc with rfl | ⟨p, rfl⟩
 obtain ⟨Z1, hZ1⟩ : ∃ Z : Re, Z = rneg (rn ((vI s1 c1, e1), (vI s2 c2, e2))) := ⟨_, rfl⟩
 obtain ⟨Z2, hZ2⟩ : ∃ Z : Re, Z = rneg (rn ((vI s3 c3, e3), (vI s4 c4, e4))) := ⟨_, rfl⟩
 rotate_left
 obtain ⟨Z1, hZ1⟩ : ∃ Z : Re, Z = rround (rn ((vI s1 c1, e1), (vI s2 c2, e2))) p := ⟨_, rfl⟩
 obtain ⟨Z2, hZ2⟩ : ∃ Z : Re, Z = rround (rn ((vI s3 c3, e3), (vI s4 c4, e4))) p := ⟨_, rfl⟩
 rotate_left
 all_goals (cbv)
 all_goals (repeat' (first | with_reducible refine And.intro ?_ ?_ | (with_reducible refine safe_lift hA ?_; kernel_rfl) | (with_reducible refine loop_by (fun i st => ((st.setT 9 (.int .i64 (lit3 i))).setC 2 (lp3 i [.bool s1, .sl n1 c1, .int .i64 e1, .bool s2, .sl n2 c2, .int .i64 e2, .bool s3, .sl n3 c3, .int .i64 e3, .bool s4, .sl n4 c4, .int .i64 e4] [.bool (F.neg Z1.1.1), .sl (F.ln Z1.1.1) (F.lm Z1.1.1), .int .i64 Z1.1.2, .bool (F.neg Z1.2.1), .sl (F.ln Z1.2.1) (F.lm Z1.2.1), .int .i64 Z1.2.2, .bool s3, .sl n3 c3, .int .i64 e3, .bool s4, .sl n4 c4, .int .i64 e4] [.bool (F.neg Z1.1.1), .sl (F.ln Z1.1.1) (F.lm Z1.1.1), .int .i64 Z1.1.2, .bool (F.neg Z1.2.1), .sl (F.ln Z1.2.1) (F.lm Z1.2.1), .int .i64 Z1.2.2, .bool (F.neg Z2.1.1), .sl (F.ln Z2.1.1) (F.lm Z2.1.1), .int .i64 Z2.1.2, .bool (F.neg Z2.2.1), .sl (F.ln Z2.2.1) (F.lm Z2.2.1), .int .i64 Z2.2.2]))) 2 ?_ ?_; cbv; rotate_left; intro i hi; rcases three_or hi with rfl | rfl | rfl <;> cbv) | (intro hc_; first | (first | exact Bool.noConfusion (hc_.symm.trans l02) | exact Bool.noConfusion (hc_.symm.trans l12) | exact Bool.noConfusion (hc_.symm.trans l22)) | cbv)))
 all_goals (repeat (rw [safe_true hA, true_and]; rotate_left; kernel_rfl))
 all_goals subst hF hA hZ1 hZ2
 all_goals simp only [fnOf, find, std, reduceIte, Nat.reduceEqDiff, sp1, a1, FnSpec.out, Shape.build, leafs, leafCells, List.cons_append, List.nil_append, s_hEach, s_hParts, s_hJoined, s_eNeg, s_hRnd1, re4, rv_raw, decide_eq_true_eq, decide_eq_false_iff_not, gt_iff_lt, rv8, rw12_is, re8, s_hRaw, rcn, pneg, pround] at *
 all_goals (repeat' (first
  | with_reducible exact hQ
  | with_reducible assumption
  | with_reducible exact isi_int _ _
  | with_reducible exact okR_S (by with_reducible assumption) (by with_reducible assumption)
  | with_reducible exact okP_S (by with_reducible assumption) (by with_reducible assumption) (by with_reducible assumption) (by with_reducible assumption)
  | with_reducible exact okQ_mk
  | with_reducible exact okT_S (by with_reducible assumption)
  | with_reducible exact okM_S (by with_reducible assumption) (by with_reducible assumption)
  | with_reducible exact okPM_S (by with_reducible assumption) (by with_reducible assumption) (by with_reducible assumption) (by with_reducible assumption)
  | with_reducible exact few30_S (by with_reducible assumption) (by with_reducible assumption)
  | with_reducible refine And.intro ?_ ?_
  | rfl
  | omega))
theorem good_hPairs : Good Tryz.prog (GWL [0, 1, 2, 3, 4, 5, 6]) N0 104 s_hPairs := by
 refine goodM 0 (gc good_hParts <| gc good_hJoined <| gl good_eAdd rfl <| gl good_eSub rfl <| gl good_eHull rfl gn) Tryz.f104 (by kernel_rfl) (by kernel_rfl) fun ds hp F A Q hF hA hQ => ?_
 obtain ⟨x, y, hx, hy, hc⟩ := hpairs_arg hp
 obtain ⟨s1, n1, c1, e1, s2, n2, c2, e2, s3, n3, c3, e3, s4, n4, c4, e4, rfl, x1, x2, x3, x4⟩ := okP_arg hx
 obtain ⟨t1, m1, d1, f1, t2, m2, d2, f2, t3, m3, d3, f3, t4, m4, d4, f4, rfl, y1, y2, y3, y4⟩ := okP_arg hy
 clear hp
 have w01 : A.add .i64 0 1 = 1 := by rw [hA]; rfl
 have w12 : A.add .i64 1 1 = 2 := by rw [hA]; rfl
 have l02 : A.lt 0 2 = true := by rw [hA]; rfl
 have l12 : A.lt 1 2 = true := by rw [hA]; rfl
 have l22 : A.lt 2 2 = false := by rw [hA]; rfl
 rcases hc with rfl | rfl | rfl
 obtain ⟨Z1, hZ1⟩ : ∃ Z : Re, Z = radd (rn ((vI s1 c1, e1), (vI s2 c2, e2))) (rn ((vI t1 d1, f1), (vI t2 d2, f2))) := ⟨_, rfl⟩
 obtain ⟨Z2, hZ2⟩ : ∃ Z : Re, Z = radd (rn ((vI s3 c3, e3), (vI s4 c4, e4))) (rn ((vI t3 d3, f3), (vI t4 d4, f4))) := ⟨_, rfl⟩
 rotate_left
 obtain ⟨Z1, hZ1⟩ : ∃ Z : Re, Z = rsub (rn ((vI s1 c1, e1), (vI s2 c2, e2))) (rn ((vI t1 d1, f1), (vI t2 d2, f2))) := ⟨_, rfl⟩
 obtain ⟨Z2, hZ2⟩ : ∃ Z : Re, Z = rsub (rn ((vI s3 c3, e3), (vI s4 c4, e4))) (rn ((vI t3 d3, f3), (vI t4 d4, f4))) := ⟨_, rfl⟩
 rotate_left
 obtain ⟨Z1, hZ1⟩ : ∃ Z : Re, Z = rhull (rn ((vI s1 c1, e1), (vI s2 c2, e2))) (rn ((vI t1 d1, f1), (vI t2 d2, f2))) := ⟨_, rfl⟩
 obtain ⟨Z2, hZ2⟩ : ∃ Z : Re, Z = rhull (rn ((vI s3 c3, e3), (vI s4 c4, e4))) (rn ((vI t3 d3, f3), (vI t4 d4, f4))) := ⟨_, rfl⟩
 rotate_left
 all_goals (cbv)
 all_goals (repeat' (first | with_reducible refine And.intro ?_ ?_ | (with_reducible refine safe_lift hA ?_; kernel_rfl) | (with_reducible refine loop_by (fun i st => ((st.setT 14 (.int .i64 (lit3 i))).setC 3 (lp3 i [.bool s1, .sl n1 c1, .int .i64 e1, .bool s2, .sl n2 c2, .int .i64 e2, .bool s3, .sl n3 c3, .int .i64 e3, .bool s4, .sl n4 c4, .int .i64 e4] [.bool (F.neg Z1.1.1), .sl (F.ln Z1.1.1) (F.lm Z1.1.1), .int .i64 Z1.1.2, .bool (F.neg Z1.2.1), .sl (F.ln Z1.2.1) (F.lm Z1.2.1), .int .i64 Z1.2.2, .bool s3, .sl n3 c3, .int .i64 e3, .bool s4, .sl n4 c4, .int .i64 e4] [.bool (F.neg Z1.1.1), .sl (F.ln Z1.1.1) (F.lm Z1.1.1), .int .i64 Z1.1.2, .bool (F.neg Z1.2.1), .sl (F.ln Z1.2.1) (F.lm Z1.2.1), .int .i64 Z1.2.2, .bool (F.neg Z2.1.1), .sl (F.ln Z2.1.1) (F.lm Z2.1.1), .int .i64 Z2.1.2, .bool (F.neg Z2.2.1), .sl (F.ln Z2.2.1) (F.lm Z2.2.1), .int .i64 Z2.2.2]))) 2 ?_ ?_; cbv; rotate_left; intro i hi; rcases three_or hi with rfl | rfl | rfl <;> cbv) | (intro hc_; first | (first | exact Bool.noConfusion (hc_.symm.trans l02) | exact Bool.noConfusion (hc_.symm.trans l12) | exact Bool.noConfusion (hc_.symm.trans l22)) | cbv)))
 all_goals (repeat (rw [safe_true hA, true_and]; rotate_left; kernel_rfl))
 all_goals subst hF hA hZ1 hZ2
 all_goals simp only [fnOf, find, std, reduceIte, Nat.reduceEqDiff, sp2, a1, a2, FnSpec.out, Shape.build, leafs, leafCells, List.cons_append, List.nil_append, s_hPairs, s_hParts, s_hJoined, s_eAdd, s_eSub, s_eHull, re4, rv_raw, decide_eq_true_eq, decide_eq_false_iff_not, gt_iff_lt, rv8, rw12_is, re8, s_hRaw, rcn, padd, psub, phull] at *
 all_goals (repeat' (first
  | with_reducible exact hQ
  | with_reducible assumption
  | with_reducible exact isi_int _ _
  | with_reducible exact okR_S (by with_reducible assumption) (by with_reducible assumption)
  | with_reducible exact okP_S (by with_reducible assumption) (by with_reducible assumption) (by with_reducible assumption) (by with_reducible assumption)
  | with_reducible exact okQ_mk
  | with_reducible exact okT_S (by with_reducible assumption)
  | with_reducible exact okM_S (by with_reducible assumption) (by with_reducible assumption)
  | with_reducible exact okPM_S (by with_reducible assumption) (by with_reducible assumption) (by with_reducible assumption) (by with_reducible assumption)
  | with_reducible exact few30_S (by with_reducible assumption) (by with_reducible assumption)
  | with_reducible refine And.intro ?_ ?_
  | rfl
  | omega))
theorem good_hBoth : Good Tryz.prog (GWL [0, 1, 2, 3, 4, 5, 6]) N0 101 s_hBoth := by
 refine goodM 0 (gc good_hParts <| gl good_eIn rfl <| gl good_eSame rfl gn) Tryz.f101 (by kernel_rfl) (by kernel_rfl) fun ds hp F A Q hF hA hQ => ?_
 obtain ⟨x, y, hx, hy, hc⟩ := hboth_arg hp
 obtain ⟨s1, n1, c1, e1, s2, n2, c2, e2, s3, n3, c3, e3, s4, n4, c4, e4, rfl, x1, x2, x3, x4⟩ := okP_arg hx
 obtain ⟨t1, m1, d1, f1, t2, m2, d2, f2, t3, m3, d3, f3, t4, m4, d4, f4, rfl, y1, y2, y3, y4⟩ := okP_arg hy
 clear hp
 have w01 : A.add .i64 0 1 = 1 := by rw [hA]; rfl
 have w12 : A.add .i64 1 1 = 2 := by rw [hA]; rfl
 have l02 : A.lt 0 2 = true := by rw [hA]; rfl
 have l12 : A.lt 1 2 = true := by rw [hA]; rfl
 have l22 : A.lt 2 2 = false := by rw [hA]; rfl
 rcases hc with rfl | rfl
 ·rcases two_b (inB ((vI s1 c1, e1), (vI s2 c2, e2)) ((vI t1 d1, f1), (vI t2 d2, f2))) (inB ((vI s3 c3, e3), (vI s4 c4, e4)) ((vI t3 d3, f3), (vI t4 d4, f4))) with k1 | ⟨k1, k2⟩ | ⟨k1, k2⟩
  ·cbv
   repeat' (first | with_reducible refine And.intro ?_ ?_ | (with_reducible refine safe_lift hA ?_; kernel_rfl) | (with_reducible refine loop_by (fun i st => (st.setT 14 (.int .i64 (lit3 i)))) 0 ?_ ?_; cbv; rotate_left; intro i hi; obtain rfl := one_or hi <;> cbv) | (intro hc_; first | (first | exact Bool.noConfusion (hc_.symm.trans l02) | exact Bool.noConfusion (hc_.symm.trans l12) | exact Bool.noConfusion (hc_.symm.trans l22)) | cbv))
   all_goals (repeat (rw [safe_true hA, true_and]; rotate_left; kernel_rfl))
   all_goals subst hF hA
   all_goals simp only [fnOf, find, std, reduceIte, Nat.reduceEqDiff, sp2, a1, a2, FnSpec.out, Shape.build, leafCells, oneOf, s_hBoth, s_hParts, s_eIn, s_eSame, rv_raw, decide_eq_true_eq, decide_eq_false_iff_not, gt_iff_lt, rv8, rw12_is, s_hRaw] at *
   all_goals (repeat' (first
    | with_reducible exact hQ
    | with_reducible assumption
    | with_reducible exact isi_int _ _
    | with_reducible exact okR_S (by with_reducible assumption) (by with_reducible assumption)
    | with_reducible exact okP_S (by with_reducible assumption) (by with_reducible assumption) (by with_reducible assumption) (by with_reducible assumption)
    | with_reducible exact okQ_mk
    | with_reducible exact okT_S (by with_reducible assumption)
    | with_reducible exact okM_S (by with_reducible assumption) (by with_reducible assumption)
    | with_reducible exact okPM_S (by with_reducible assumption) (by with_reducible assumption) (by with_reducible assumption) (by with_reducible assumption)
    | with_reducible exact few30_S (by with_reducible assumption) (by with_reducible assumption)
    | with_reducible refine And.intro ?_ ?_
    | rfl
    | omega))
   all_goals first
    | (exfalso; simp [k1] at hc_; done)
    | (exfalso; simp [] at hc_; done)
    | exact Post.b hQ (by simp [k1])
    | exact Post.b hQ (by simp [k1])
    | trace_state
  ·cbv
   repeat' (first | with_reducible refine And.intro ?_ ?_ | (with_reducible refine safe_lift hA ?_; kernel_rfl) | (with_reducible refine loop_by (fun i st => (st.setT 14 (.int .i64 (lit3 i)))) 1 ?_ ?_; cbv; rotate_left; intro i hi; rcases two_or hi with rfl | rfl <;> cbv) | (intro hc_; first | (first | exact Bool.noConfusion (hc_.symm.trans l02) | exact Bool.noConfusion (hc_.symm.trans l12) | exact Bool.noConfusion (hc_.symm.trans l22)) | cbv))
   all_goals (repeat (rw [safe_true hA, true_and]; rotate_left; kernel_rfl))
   all_goals subst hF hA
   all_goals simp only [fnOf, find, std, reduceIte, Nat.reduceEqDiff, sp2, a1, a2, FnSpec.out, Shape.build, leafCells, oneOf, s_hBoth, s_hParts, s_eIn, s_eSame, rv_raw, decide_eq_true_eq, decide_eq_false_iff_not, gt_iff_lt, rv8, rw12_is, s_hRaw] at *
   all_goals (repeat' (first
    | with_reducible exact hQ
    | with_reducible assumption
    | with_reducible exact isi_int _ _
    | with_reducible exact okR_S (by with_reducible assumption) (by with_reducible assumption)
    | with_reducible exact okP_S (by with_reducible assumption) (by with_reducible assumption) (by with_reducible assumption) (by with_reducible assumption)
    | with_reducible exact okQ_mk
    | with_reducible exact okT_S (by with_reducible assumption)
    | with_reducible exact okM_S (by with_reducible assumption) (by with_reducible assumption)
    | with_reducible exact okPM_S (by with_reducible assumption) (by with_reducible assumption) (by with_reducible assumption) (by with_reducible assumption)
    | with_reducible exact few30_S (by with_reducible assumption) (by with_reducible assumption)
    | with_reducible refine And.intro ?_ ?_
    | rfl
    | omega))
   all_goals first
    | (exfalso; simp [k1] at hc_; done)
    | (exfalso; simp [k2] at hc_; done)
    | exact Post.b hQ (by simp [k1, k2])
    | exact Post.b hQ (by simp [k1])
    | trace_state
  ·cbv
   repeat' (first | with_reducible refine And.intro ?_ ?_ | (with_reducible refine safe_lift hA ?_; kernel_rfl) | (with_reducible refine loop_by (fun i st => (st.setT 14 (.int .i64 (lit3 i)))) 2 ?_ ?_; cbv; rotate_left; intro i hi; rcases three_or hi with rfl | rfl | rfl <;> cbv) | (intro hc_; first | (first | exact Bool.noConfusion (hc_.symm.trans l02) | exact Bool.noConfusion (hc_.symm.trans l12) | exact Bool.noConfusion (hc_.symm.trans l22)) | cbv))
   all_goals (repeat (rw [safe_true hA, true_and]; rotate_left; kernel_rfl))
   all_goals subst hF hA
   all_goals simp only [fnOf, find, std, reduceIte, Nat.reduceEqDiff, sp2, a1, a2, FnSpec.out, Shape.build, leafCells, oneOf, s_hBoth, s_hParts, s_eIn, s_eSame, rv_raw, decide_eq_true_eq, decide_eq_false_iff_not, gt_iff_lt, rv8, rw12_is, s_hRaw] at *
   all_goals (repeat' (first
    | with_reducible exact hQ
    | with_reducible assumption
    | with_reducible exact isi_int _ _
    | with_reducible exact okR_S (by with_reducible assumption) (by with_reducible assumption)
    | with_reducible exact okP_S (by with_reducible assumption) (by with_reducible assumption) (by with_reducible assumption) (by with_reducible assumption)
    | with_reducible exact okQ_mk
    | with_reducible exact okT_S (by with_reducible assumption)
    | with_reducible exact okM_S (by with_reducible assumption) (by with_reducible assumption)
    | with_reducible exact okPM_S (by with_reducible assumption) (by with_reducible assumption) (by with_reducible assumption) (by with_reducible assumption)
    | with_reducible exact few30_S (by with_reducible assumption) (by with_reducible assumption)
    | with_reducible refine And.intro ?_ ?_
    | rfl
    | omega))
   all_goals first
    | (exfalso; simp [k1] at hc_; done)
    | (exfalso; simp [k2] at hc_; done)
    | exact Post.b hQ (by simp [k1, k2])
    | exact Post.b hQ (by simp [k1])
    | trace_state
 ·rcases two_b (decide (rn ((vI s1 c1, e1), (vI s2 c2, e2)) = rn ((vI t1 d1, f1), (vI t2 d2, f2)))) (decide (rn ((vI s3 c3, e3), (vI s4 c4, e4)) = rn ((vI t3 d3, f3), (vI t4 d4, f4)))) with k1 | ⟨k1, k2⟩ | ⟨k1, k2⟩
  ·cbv
   repeat' (first | with_reducible refine And.intro ?_ ?_ | (with_reducible refine safe_lift hA ?_; kernel_rfl) | (with_reducible refine loop_by (fun i st => (st.setT 14 (.int .i64 (lit3 i)))) 0 ?_ ?_; cbv; rotate_left; intro i hi; obtain rfl := one_or hi <;> cbv) | (intro hc_; first | (first | exact Bool.noConfusion (hc_.symm.trans l02) | exact Bool.noConfusion (hc_.symm.trans l12) | exact Bool.noConfusion (hc_.symm.trans l22)) | cbv))
   all_goals (repeat (rw [safe_true hA, true_and]; rotate_left; kernel_rfl))
   all_goals subst hF hA
   all_goals simp only [fnOf, find, std, reduceIte, Nat.reduceEqDiff, sp2, a1, a2, FnSpec.out, Shape.build, leafCells, oneOf, s_hBoth, s_hParts, s_eIn, s_eSame, rv_raw, decide_eq_true_eq, decide_eq_false_iff_not, gt_iff_lt, rv8, rw12_is, s_hRaw] at *
   all_goals (repeat' (first
    | with_reducible exact hQ
    | with_reducible assumption
    | with_reducible exact isi_int _ _
    | with_reducible exact okR_S (by with_reducible assumption) (by with_reducible assumption)
    | with_reducible exact okP_S (by with_reducible assumption) (by with_reducible assumption) (by with_reducible assumption) (by with_reducible assumption)
    | with_reducible exact okQ_mk
    | with_reducible exact okT_S (by with_reducible assumption)
    | with_reducible exact okM_S (by with_reducible assumption) (by with_reducible assumption)
    | with_reducible exact okPM_S (by with_reducible assumption) (by with_reducible assumption) (by with_reducible assumption) (by with_reducible assumption)
    | with_reducible exact few30_S (by with_reducible assumption) (by with_reducible assumption)
    | with_reducible refine And.intro ?_ ?_
    | rfl
    | omega))
   all_goals first
    | (exfalso; simp [k1] at hc_; done)
    | (exfalso; simp [] at hc_; done)
    | exact Post.b hQ (by simp [k1])
    | exact Post.b hQ (by simp [k1])
    | trace_state
  ·cbv
   repeat' (first | with_reducible refine And.intro ?_ ?_ | (with_reducible refine safe_lift hA ?_; kernel_rfl) | (with_reducible refine loop_by (fun i st => (st.setT 14 (.int .i64 (lit3 i)))) 1 ?_ ?_; cbv; rotate_left; intro i hi; rcases two_or hi with rfl | rfl <;> cbv) | (intro hc_; first | (first | exact Bool.noConfusion (hc_.symm.trans l02) | exact Bool.noConfusion (hc_.symm.trans l12) | exact Bool.noConfusion (hc_.symm.trans l22)) | cbv))
   all_goals (repeat (rw [safe_true hA, true_and]; rotate_left; kernel_rfl))
   all_goals subst hF hA
   all_goals simp only [fnOf, find, std, reduceIte, Nat.reduceEqDiff, sp2, a1, a2, FnSpec.out, Shape.build, leafCells, oneOf, s_hBoth, s_hParts, s_eIn, s_eSame, rv_raw, decide_eq_true_eq, decide_eq_false_iff_not, gt_iff_lt, rv8, rw12_is, s_hRaw] at *
   all_goals (repeat' (first
    | with_reducible exact hQ
    | with_reducible assumption
    | with_reducible exact isi_int _ _
    | with_reducible exact okR_S (by with_reducible assumption) (by with_reducible assumption)
    | with_reducible exact okP_S (by with_reducible assumption) (by with_reducible assumption) (by with_reducible assumption) (by with_reducible assumption)
    | with_reducible exact okQ_mk
    | with_reducible exact okT_S (by with_reducible assumption)
    | with_reducible exact okM_S (by with_reducible assumption) (by with_reducible assumption)
    | with_reducible exact okPM_S (by with_reducible assumption) (by with_reducible assumption) (by with_reducible assumption) (by with_reducible assumption)
    | with_reducible exact few30_S (by with_reducible assumption) (by with_reducible assumption)
    | with_reducible refine And.intro ?_ ?_
    | rfl
    | omega))
   all_goals first
    | (exfalso; simp [k1] at hc_; done)
    | (exfalso; simp [k2] at hc_; done)
    | exact Post.b hQ (by simp [k1, k2])
    | exact Post.b hQ (by simp [k1])
    | trace_state
  ·cbv
   repeat' (first | with_reducible refine And.intro ?_ ?_ | (with_reducible refine safe_lift hA ?_; kernel_rfl) | (with_reducible refine loop_by (fun i st => (st.setT 14 (.int .i64 (lit3 i)))) 2 ?_ ?_; cbv; rotate_left; intro i hi; rcases three_or hi with rfl | rfl | rfl <;> cbv) | (intro hc_; first | (first | exact Bool.noConfusion (hc_.symm.trans l02) | exact Bool.noConfusion (hc_.symm.trans l12) | exact Bool.noConfusion (hc_.symm.trans l22)) | cbv))
   all_goals (repeat (rw [safe_true hA, true_and]; rotate_left; kernel_rfl))
   all_goals subst hF hA
   all_goals simp only [fnOf, find, std, reduceIte, Nat.reduceEqDiff, sp2, a1, a2, FnSpec.out, Shape.build, leafCells, oneOf, s_hBoth, s_hParts, s_eIn, s_eSame, rv_raw, decide_eq_true_eq, decide_eq_false_iff_not, gt_iff_lt, rv8, rw12_is, s_hRaw] at *
   all_goals (repeat' (first
    | with_reducible exact hQ
    | with_reducible assumption
    | with_reducible exact isi_int _ _
    | with_reducible exact okR_S (by with_reducible assumption) (by with_reducible assumption)
    | with_reducible exact okP_S (by with_reducible assumption) (by with_reducible assumption) (by with_reducible assumption) (by with_reducible assumption)
    | with_reducible exact okQ_mk
    | with_reducible exact okT_S (by with_reducible assumption)
    | with_reducible exact okM_S (by with_reducible assumption) (by with_reducible assumption)
    | with_reducible exact okPM_S (by with_reducible assumption) (by with_reducible assumption) (by with_reducible assumption) (by with_reducible assumption)
    | with_reducible exact few30_S (by with_reducible assumption) (by with_reducible assumption)
    | with_reducible refine And.intro ?_ ?_
    | rfl
    | omega))
   all_goals first
    | (exfalso; simp [k1] at hc_; done)
    | (exfalso; simp [k2] at hc_; done)
    | exact Post.b hQ (by simp [k1, k2])
    | exact Post.b hQ (by simp [k1])
    | trace_state
end Go.Proofs.YtkfojbelnemhbaaGreatDoor.Ev
