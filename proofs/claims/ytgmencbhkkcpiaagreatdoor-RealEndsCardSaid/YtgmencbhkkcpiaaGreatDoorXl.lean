/- The laws of intervals: what they lean on. -/
import Derived.Test.YtgmencbhkkcpiaaGreatDoorEw1
namespace Go.Proofs.YtgmencbhkkcpiaaGreatDoor.Ev
open Go Go.RowKit
set_option linter.unusedSimpArgs false
set_option linter.unusedVariables false
def okX (x : D) : Prop := match x with
  | .agg [.bool _, .sl n cs, .int .i64 e, .bool _, .sl m es, .int .i64 f] => ((n ≤ 100000 → okC n cs) ∧ -9223372036854775808 ≤ e ∧ e ≤ 9223372036854775807) ∧ (m ≤ 100000 → okC m es) ∧ -9223372036854775808 ≤ f ∧ f ≤ 9223372036854775807
  | _ => False
theorem okX_arg {x : D} (h : okX x) : ∃ s n cs e t m es f, x = .agg [.bool s, .sl n cs, .int .i64 e, .bool t, .sl m es, .int .i64 f] ∧ (n ≤ 100000 → okC n cs) ∧ (-9223372036854775808 ≤ e ∧ e ≤ 9223372036854775807) ∧ (m ≤ 100000 → okC m es) ∧ -9223372036854775808 ≤ f ∧ f ≤ 9223372036854775807 := by
  unfold okX at h
  split at h
  · exact ⟨_, _, _, _, _, _, _, _, rfl, h.1.1, h.1.2, h.2⟩
  · exact h.elim
theorem okX_mk {s t : Bool} {n m : Nat} {cs es : List D} {e f : Int} (h1 : n ≤ 100000 → okC n cs) (h2 : -9223372036854775808 ≤ e ∧ e ≤ 9223372036854775807) (h3 : m ≤ 100000 → okC m es) (h4 : -9223372036854775808 ≤ f ∧ f ≤ 9223372036854775807) :
    okX (.agg [.bool s, .sl n cs, .int .i64 e, .bool t, .sl m es, .int .i64 f]) := ⟨⟨h1, h2⟩, h3, h4⟩
theorem dec_eq {p q : Prop} {i : Decidable p} {j : Decidable q} (h : p ↔ q) : @decide p i = @decide q j := by
  rw [Bool.eq_iff_iff, decide_eq_true_iff, decide_eq_true_iff]; exact h
theorem dec_no {p : Prop} {i : Decidable p} (h : ¬p) : @decide p i = false := decide_eq_false h
def s_few7 : FnSpec := sp1 (.one .b) okW (fun _ _ => 0) (fun x _ => decide (dcn x ≤ 10 ∧ -1000 ≤ dx x ∧ dx x ≤ 1000))
def s_fewR : FnSpec := sp1 (.one .b) okX (fun _ _ => 0) (fun x _ => raw6 false (fun _ n _ e _ m _ f => decide ((n ≤ 10 ∧ -1000 ≤ e ∧ e ≤ 1000) ∧ m ≤ 10 ∧ -1000 ≤ f ∧ f ≤ 1000)) x)
def s_of7 : FnSpec := sp2 (.agg [.I, .i .i64, .I, .i .i64]) (fun x y => (isi .i64 x ∧ -9223372036854775808 ≤ dz x ∧ dz x ≤ 9223372036854775807) ∧ isi .i64 y ∧ -9223372036854775808 ≤ dz y ∧ dz y ≤ 9223372036854775807) (fun x y i => re4 (Dy.n (dz x, 0), Dy.n (dz y, 0)) i) (fun _ _ _ => false)
def s_known7 : FnSpec := ⟨.one .b, fun ds => ds = [], fun _ _ => 0, fun _ _ => true, fun _ _ => 0, fun _ _ => []⟩
/-- told, of few bits. -/
def rC (r : Re) : Prop := r.1.n = r.1 ∧ r.2.n = r.2 ∧ fR r 19200 20000
theorem canR_c {r : Re} (h : rC r) : canR (.agg [.bool (N0.neg r.1.1), .sl (N0.ln r.1.1) (N0.lm r.1.1), .int .i64 r.1.2, .bool (N0.neg r.2.1), .sl (N0.ln r.2.1) (N0.lm r.2.1), .int .i64 r.2.2]) := canR_mk h.1 h.2.1 h.2.2
theorem okR_c {r : Re} (h : rC r) : okR (.agg [.bool (N0.neg r.1.1), .sl (N0.ln r.1.1) (N0.lm r.1.1), .int .i64 r.1.2, .bool (N0.neg r.2.1), .sl (N0.ln r.2.1) (N0.lm r.2.1), .int .i64 r.2.2]) := okR_fR (h.2.2.mono (Nat.le_refl _) (by omega))
theorem rC_of {r : Re} {k B : Nat} (h : rcan r) (hf : fR r k B) (hk : k ≤ 19200) (hB : B ≤ 20000) : rC r := ⟨h.2.1, h.2.2, hf.mono hk hB⟩
def dC (a : Dy) : Prop := a.n = a ∧ fD a 19200 20000
theorem canD_c {a : Dy} (h : dC a) : canD (.agg [.bool (N0.neg a.1), .sl (N0.ln a.1) (N0.lm a.1), .int .i64 a.2]) := canD_fD h.1 (h.2.mono (by omega) (by omega))
theorem okT_c {a : Dy} (h : dC a) : okT (.agg [.bool (N0.neg a.1), .sl (N0.ln a.1) (N0.lm a.1), .int .i64 a.2]) := okT_fD (h.2.mono (Nat.le_refl _) (by omega))
theorem okD_c {a : Dy} (h : dC a) : okD (.agg [.bool (N0.neg a.1), .sl (N0.ln a.1) (N0.lm a.1), .int .i64 a.2]) := okD_fD (h.2.mono (Nat.le_refl _) (by omega)) (by omega)
theorem near_c {a b : Dy} (h : dC a) (g : dC b) {s t : Bool} {n m : Nat} {cs es : List D} : near 60000 (.agg [.bool s, .sl n cs, .int .i64 a.2]) (.agg [.bool t, .sl m es, .int .i64 b.2]) := near_fD (h.2.mono (Nat.le_refl _) (by omega)) (g.2.mono (Nat.le_refl _) (by omega))
theorem dC_1 {r : Re} (h : rC r) : dC r.1 := ⟨h.1, h.2.2.1⟩
theorem dC_2 {r : Re} (h : rC r) : dC r.2 := ⟨h.2.1, h.2.2.2⟩
section
variable {s t : Bool} {n m : Nat} {cs es : List D} {e f : Int}
/-- what few limbs give. -/
theorem few_facts (hw : n ≤ 100000 → okC n cs) (hw2 : m ≤ 100000 → okC m es) (h : (n ≤ 10 ∧ -1000 ≤ e ∧ e ≤ 1000) ∧ m ≤ 10 ∧ -1000 ≤ f ∧ f ≤ 1000) :
    okR (.agg [.bool s, .sl n cs, .int .i64 e, .bool t, .sl m es, .int .i64 f]) ∧ few100 (.agg [.bool s, .sl n cs, .int .i64 e, .bool t, .sl m es, .int .i64 f]) ∧ s_eMul.okM (.agg [.bool s, .sl n cs, .int .i64 e, .bool t, .sl m es, .int .i64 f]) ∧
    few40 (.agg [.bool s, .sl n cs, .int .i64 e, .bool t, .sl m es, .int .i64 f]) ∧ few20 (.agg [.bool s, .sl n cs, .int .i64 e, .bool t, .sl m es, .int .i64 f]) ∧ fR ((vI s cs, e), (vI t es, f)) 320 1000 ∧
    okT (.agg [.bool s, .sl n cs, .int .i64 e]) ∧ okT (.agg [.bool t, .sl m es, .int .i64 f]) ∧ few30 (.agg [.bool s, .sl n cs, .int .i64 e, .bool t, .sl m es, .int .i64 f]) := by
  have c1 := hw (by omega)
  have c2 := hw2 (by omega)
  have hr : okR (.agg [.bool s, .sl n cs, .int .i64 e, .bool t, .sl m es, .int .i64 f]) := okR_mk c1 (by omega) (by omega) (by omega) c2 (by omega) (by omega) (by omega)
  exact ⟨hr, ⟨⟨by omega, by omega⟩, by omega, by omega⟩, ⟨hr, ⟨by omega, by omega⟩, ⟨by omega, by omega⟩, by omega, by omega⟩, ⟨⟨by omega, by omega⟩, ⟨by omega, by omega⟩, by omega, by omega⟩, ⟨⟨by omega, by omega⟩, ⟨by omega, by omega⟩, by omega, by omega⟩,
    ⟨fD_raw c1 (by omega) (by omega) (by omega), fD_raw c2 (by omega) (by omega) (by omega)⟩, ⟨c1, by omega, by omega, by omega⟩, ⟨c2, by omega, by omega, by omega⟩, ⟨by omega, by omega⟩, by omega, by omega⟩
end
/-- what the document asks of numbers is what the program does. -/
theorem hasY_n (X : Re) (m e : Int) : hasY (rn X) (tmI m, teI m e) = hasB X (m, e) := by
  unfold hasY hasB cmpY
  simp only [cmpD_nrmL, cmpD_nrmR]
theorem inY_rn (X Y : Re) : inY (rn X) (rn Y) = inB X Y := rfl
theorem powN_2 : powN 2 = 2 := by decide
theorem wrap_er (r : Re) : IntKind.i64.wrap (er0 r) = er0 r := by unfold er0; split <;> exact wrap_in (by decide) (by decide)
section
variable {X Y : Re} (fX : fR X 320 1000) (fY : fR Y 320 1000)
include fX
theorem rn_few : fR (rn X) 320 1320 := fR_rn fX
theorem c_rn : rC (rn X) := rC_of (rcan_rn X) (rn_few fX) (by omega) (by omega)
end
/-- told, of very few bits. -/
def fC (r : Re) : Prop := rcan r ∧ fR r 320 1320
theorem fC_rn {X : Re} (fX : fR X 320 1000) : fC (rn X) := ⟨rcan_rn X, fR_rn fX⟩
section
variable {A B : Re} (hA : fC A) (hB : fC B)
include hA
theorem c_id : rC A := rC_of hA.1 hA.2 (by omega) (by omega)
include hB
theorem c_sub : rC (rsub A B) := rC_of (rcan_rsub hA.1.1 hB.1.1) (fR_rsub hA.2 hB.2 rfl) (by omega) (by omega)
theorem c_mul : rC (rmul A B) := rC_of (rcan_rmul hA.1.1 hB.1.1) (fR_rmul hA.2 hB.2) (by omega) (by omega)
theorem f_hull : fC (rhull A B) := ⟨rcan_rhull hA.1 hB.1, fR_rhull hA.2 hB.2⟩
end
section
variable {X Y : Re} (fX : fR X 320 1000) (fY : fR Y 320 1000)
include fX fY
omit fY in
end
theorem few40_fR {r : Re} (h : fR r 1280 15000) : few40 (.agg [.bool (N0.neg r.1.1), .sl (N0.ln r.1.1) (N0.lm r.1.1), .int .i64 r.1.2, .bool (N0.neg r.2.1), .sl (N0.ln r.2.1) (N0.lm r.2.1), .int .i64 r.2.2]) :=
  ⟨⟨ln_fit h.1.1, ln_fit h.2.1⟩, ⟨h.1.2.1, h.1.2.2⟩, h.2.2.1, h.2.2.2⟩
theorem okE_fit {z e : Int} {k : Nat} (h : Fit z k) (hk : k ≤ 3200000) : okE (.agg [.bool (N0.neg z), .sl (N0.ln z) (N0.lm z), .int .i64 e]) := okC_fitN h hk
/-- one number alone, as it is told. -/
theorem rn_pair {a : Dy} (h : a.n = a) : rn (a, a) = (a, a) := rn_id Rat.le_refl h h
theorem rn_lit {x : Re} (h : cmpD x.1.1 x.1.2 x.2.1 x.2.2 ≤ 0) (h1 : x.1.n = x.1) (h2 : x.2.n = x.2) : rn x = x := rn_id ((cmp_le _ _).1 h) h1 h2
theorem dC_1_0 : dC (1, 0) := ⟨by unfold Dy.n; rw [k1, k1e], (show Fit 1 1 by unfold Fit; decide).mono (by omega), by decide, by decide⟩
theorem odd_n {m e : Int} (h : m.natAbs % 2 = 1) : Dy.n (m, e) = (m, e) := by
  have h0 : m ≠ 0 := fun h2 => by rw [h2] at h; cases h
  unfold Dy.n
  rw [tmI_is (c := m) (k := 0) (by simp) h h0, teI_is (c := m) (k := 0) (by simp) h h0]
  simp
theorem kx_rn : rn ((-1, 0), (1, 1)) = ((-1, 0), (1, 1)) := rn_lit (by decide) (odd_n (by decide)) (odd_n (by decide))
theorem kx_rn1 : rn ((1, 1), (1, 2)) = ((1, 1), (1, 2)) := rn_lit (by decide) (odd_n (by decide)) (odd_n (by decide))
theorem kx_rn2 : rn ((1, 0), (5, 0)) = ((1, 0), (5, 0)) := rn_lit (by decide) (odd_n (by decide)) (odd_n (by decide))
theorem kx_rn3 : rn ((3, 0), (5, 0)) = ((3, 0), (5, 0)) := rn_lit (by decide) (odd_n (by decide)) (odd_n (by decide))
theorem kx_rn4 : rn ((0, 0), (1, 0)) = ((0, 0), (1, 0)) := rn_lit (by decide) zero_n (odd_n (by decide))
theorem kx_abs : rabs ((-1, 0), (1, 1)) = ((0, 0), (1, 1)) := by
  have h1 : Dy.abs (-1, 0) = (1, 0) := odd_n (by decide)
  have h2 : Dy.abs (1, 1) = (1, 1) := odd_n (by decide)
  have h3 : dmax (1, 0) (1, 1) = (1, 1) := if_neg (by decide)
  unfold rabs
  rw [if_pos (by decide)]
  dsimp only
  rw [h1, h2, h3]
theorem kx_pow : rpow ((-1, 0), (1, 1)) 2 = ((0, 0), (1, 2)) := by
  unfold rpow
  rw [if_pos rfl, kx_abs]
  dsimp only
  rw [pow_two, pow_two]
  have h1 : Dy.mul (0, 0) (0, 0) = (0, 0) := zero_n
  have h2 : Dy.mul (1, 1) (1, 1) = (1, 2) := odd_n (by decide)
  rw [h1, h2]
theorem kx_zero : er0 ((-1, 0), (1, 1)) = 11 := by decide
theorem kx_er : er0 ((1, 1), (1, 2)) = 0 := by decide
theorem kx_inv : (rinvZ ((1, 1), (1, 2)) 10).1 = (1, -2) := by
  have h0 : ¬zeroY ((1, 1), (1, 2)) = true := by decide
  unfold rinvZ
  rw [if_neg h0]
  show Dy.n (qm 1 0 1 2 (qE 1 0 1 2 10) 0, qE 1 0 1 2 10) = (1, -2)
  have h1 : qE 1 0 1 2 10 = -11 := by decide
  have h2 : qm 1 0 1 2 (-11) 0 = 512 := by decide
  rw [h1, h2]
  unfold Dy.n
  rw [tmI_is (c := 1) (k := 9) (by decide) (by decide) (by decide), teI_is (c := 1) (k := 9) (by decide) (by decide) (by decide)]
  rfl
theorem kx_meet : rmeetZ ((-1, 0), (1, 1)) ((1, 0), (5, 0)) = ((1, 0), (1, 1)) := by
  have h1 : dmax (-1, 0) (1, 0) = (1, 0) := if_neg (by decide)
  have h2 : dmin (1, 1) (5, 0) = (1, 1) := if_pos (by decide)
  have h3 : meetY ((-1, 0), (1, 1)) ((1, 0), (5, 0)) = true := by
    unfold meetY rmeet
    dsimp only
    rw [h1, h2]
    decide
  unfold rmeetZ
  rw [if_pos h3]
  unfold rmeet
  dsimp only
  rw [h1, h2]
theorem kx_ok : meetB ((-1, 0), (1, 1)) ((1, 0), (5, 0)) = true := by
  have h1 : dmax (-1, 0) (1, 0) = (1, 0) := if_neg (by decide)
  have h2 : dmin (1, 1) (5, 0) = (1, 1) := if_pos (by decide)
  unfold meetB
  rw [kx_rn, kx_rn2]
  unfold rmeet
  dsimp only
  rw [h1, h2]
  decide
theorem kx_no : meetB ((-1, 0), (1, 1)) ((3, 0), (5, 0)) = false := by
  have h1 : dmax (-1, 0) (3, 0) = (3, 0) := if_neg (by decide)
  have h2 : dmin (1, 1) (5, 0) = (1, 1) := if_pos (by decide)
  unfold meetB
  rw [kx_rn, kx_rn3]
  unfold rmeet
  dsimp only
  rw [h1, h2]
  decide
theorem kx_has : hasB ((-1, 0), (1, 1)) (1, 1) = true := by unfold hasB; rw [kx_rn]; decide
theorem kx_in : inB ((0, 0), (1, 0)) ((-1, 0), (1, 1)) = true := by unfold inB; rw [kx_rn, kx_rn4]; decide
section
variable {X Y : Re} {s t : Dy}
end
set_option maxRecDepth 100000 in
set_option maxHeartbeats 2000000 in
theorem good_few7 : Good Tryz.prog (GWL [0, 1]) N0 24 s_few7 := by
  refine goodL (l := [0, 1]) (tab := []) (shs := []) rfl trivial Tryz.f24 (by kernel_rfl) (by kernel_rfl) (by kernel_rfl) (fun ds hp F A Q hF hA hQ => ⟨0, ?_⟩)
  obtain ⟨x, rfl, hx⟩ := sp1_arg hp
  obtain ⟨s, n, cs, e, rfl, hw, hr1, hr2⟩ := okW_arg hx
  clear hp hx
  cbv
  repeat' (first | with_reducible refine And.intro ?_ ?_ | (with_reducible refine safe_lift hA ?_; kernel_rfl) | (intro hc_; cbv))
  all_goals (repeat (rw [safe_true hA, true_and]; rotate_left; kernel_rfl))
  all_goals subst hF hA
  all_goals simp only [fnOf, find, std, reduceIte, Nat.reduceEqDiff, sp1, sp2, a1, a2, FnSpec.out, Shape.build, leafs, leafCells, tups, oneOf, List.cons_append, List.nil_append, List.length_cons, List.length_nil, s_few7, dx, dcn, decide_eq_true_eq, decide_eq_false_iff_not, gt_iff_lt, ge_iff_le] at *
  all_goals first
    | exact Post.b hQ (dec_eq (by omega))
    | exact Post.b hQ (dec_no (by have hk := of_decide_eq_false hc_; omega))
    | trace_state
set_option maxRecDepth 100000 in
set_option maxHeartbeats 2000000 in
theorem good_fewR : Good Tryz.prog (GWL [0, 1]) N0 5 s_fewR := by
  refine goodL (l := [0, 1]) (tab := [(24, s_few7)]) (shs := [(24, .one .b)]) rfl ⟨good_few7, trivial⟩ Tryz.f5 (by kernel_rfl) (by kernel_rfl) (by kernel_rfl) (fun ds hp F A Q hF hA hQ => ⟨0, ?_⟩)
  obtain ⟨x, rfl, hx⟩ := sp1_arg hp
  obtain ⟨s, n, cs, e, t, m, es, f, rfl, hw, hr, hw2, hr2⟩ := okX_arg hx
  clear hp hx
  cbv
  repeat' (first | with_reducible refine And.intro ?_ ?_ | (with_reducible refine safe_lift hA ?_; kernel_rfl) | (intro hc_; cbv))
  all_goals (repeat (rw [safe_true hA, true_and]; rotate_left; kernel_rfl))
  all_goals subst hF hA
  all_goals simp only [fnOf, find, std, reduceIte, Nat.reduceEqDiff, sp1, sp2, a1, a2, FnSpec.out, Shape.build, leafs, leafCells, tups, oneOf, List.cons_append, List.nil_append, List.length_cons, List.length_nil, s_fewR, s_few7, dx, dcn, raw6_is, decide_eq_true_eq, decide_eq_false_iff_not] at *
  all_goals first
    | exact okW_mk hw hr.1 hr.2
    | exact okW_mk hw2 hr2.1 hr2.2
    | exact Post.b hQ (dec_eq ⟨fun k => k.2, fun k => ⟨of_decide_eq_true hc_, k⟩⟩)
    | exact Post.b hQ (dec_no (fun k => of_decide_eq_false hc_ k.1))
    | trace_state
set_option maxRecDepth 100000 in
set_option maxHeartbeats 2000000 in
theorem good_of7 : Good Tryz.prog (GWL [0, 1]) N0 14 s_of7 := by
  refine goodL (l := [0, 1]) (tab := [(21, s_qOf)]) (shs := [(21, .agg [.I, .i .i64])]) rfl ⟨good_qOf, trivial⟩ Tryz.f14 (by kernel_rfl) (by kernel_rfl) (by kernel_rfl) (fun ds hp F A Q hF hA hQ => ⟨0, ?_⟩)
  obtain ⟨x, y, rfl, ⟨hx, ha1, ha2⟩, hy, hb1, hb2⟩ := sp2_arg hp
  obtain ⟨a, rfl⟩ := isi_arg hx
  obtain ⟨b, rfl⟩ := isi_arg hy
  clear hp hx hy
  cbv
  repeat' (first | with_reducible refine And.intro ?_ ?_ | (with_reducible refine safe_lift hA ?_; kernel_rfl) | (intro hc_; cbv))
  all_goals (repeat (rw [safe_true hA, true_and]; rotate_left; kernel_rfl))
  all_goals subst hF hA
  all_goals simp only [fnOf, find, std, reduceIte, Nat.reduceEqDiff, sp1, sp2, a1, a2, FnSpec.out, Shape.build, leafs, leafCells, tups, oneOf, List.cons_append, List.nil_append, List.length_cons, List.length_nil, s_of7, s_qOf, dz, re4, Dy.n] at *
  all_goals (repeat' (first
    | with_reducible exact hQ
    | with_reducible assumption
    | with_reducible exact isi_int _ _
    | with_reducible exact okR_mk hc hn he1 he2 hc2 hm hf1 hf2
    | with_reducible refine okD_mk ?_ ?_ ?_
    | with_reducible refine okT_mk ?_ ?_ ?_ ?_
    | with_reducible refine okR_mk ?_ ?_ ?_ ?_ ?_ ?_ ?_ ?_
    | (with_reducible refine near_mk ?_ ?_; (focus omega); (focus omega))
    | (with_reducible refine isC_mk ?_ ?_)
    | omega
    | with_reducible refine And.intro ?_ ?_))
  all_goals trace_state
end Go.Proofs.YtgmencbhkkcpiaaGreatDoor.Ev
/- What is known of intervals. -/
namespace Go.Proofs.YtgmencbhkkcpiaaGreatDoor.Ev
open Go Go.RowKit
set_option linter.unusedSimpArgs false
set_option linter.unusedVariables false
theorem rC_lit {x : Re} (h1 : x.1.n = x.1) (h2 : x.2.n = x.2) (f : (x.1.1.natAbs < 2 ^ 8 ∧ x.2.1.natAbs < 2 ^ 8) ∧ (-1000 ≤ x.1.2 ∧ x.1.2 ≤ 1000) ∧ -1000 ≤ x.2.2 ∧ x.2.2 ≤ 1000) : rC x ∧ fR x 640 1360 := by
  have g : fR x 8 1000 := ⟨⟨f.1.1, f.2.1.1, f.2.1.2⟩, f.1.2, f.2.2.1, f.2.2.2⟩
  exact ⟨⟨h1, h2, g.mono (by omega) (by omega)⟩, g.mono (by omega) (by omega)⟩
theorem few20_fR {r : Re} (h : fR r 640 1360) : few20 (.agg [.bool (N0.neg r.1.1), .sl (N0.ln r.1.1) (N0.lm r.1.1), .int .i64 r.1.2, .bool (N0.neg r.2.1), .sl (N0.ln r.2.1) (N0.lm r.2.1), .int .i64 r.2.2]) :=
  ⟨⟨ln_fit h.1.1, ln_fit h.2.1⟩, ⟨h.1.2.1, h.1.2.2⟩, h.2.2.1, h.2.2.2⟩
theorem few30_fR {r : Re} (h : fR r 640 1360) : few30 (.agg [.bool (N0.neg r.1.1), .sl (N0.ln r.1.1) (N0.lm r.1.1), .int .i64 r.1.2, .bool (N0.neg r.2.1), .sl (N0.ln r.2.1) (N0.lm r.2.1), .int .i64 r.2.2]) :=
  ⟨⟨by have := h.1.2.1; omega, by have := h.1.2.2; omega⟩, by have := h.2.2.1; omega, by have := h.2.2.2; omega⟩
theorem km_2 : min (max (-2 : Int) (-20000)) 20000 = -2 := by decide
theorem kc_1 : (cmpD (-1) 0 1 1 ≤ 0) = True := eq_true (by decide)
theorem kc_2 : (cmpD 1 0 0 0 ≤ 0) = False := eq_false (by decide)
theorem fit_1K : Fit 1 10000 := fit_1k _ (by omega)
set_option maxRecDepth 100000 in
set_option maxHeartbeats 16000000 in
theorem good_known7 : Good Tryz.prog (GWL [0, 1, 3]) N0 4 s_known7 := by
  refine goodL (l := [0, 1, 3]) (tab := [(14, s_of7), (15, s_eInv), (16, s_eMeet), (17, s_eIs), (19, s_eSquare), (18, s_yEqual), (9, s_qEqual), (21, s_qOf), (20, s_qScale), (22, s_eHas), (8, s_eIn), (23, s_eAbs), (12, s_eSame)]) (shs := [(14, .agg [.I, .i .i64, .I, .i .i64]), (15, .tup [(true, [.I, .i .i64, .I, .i .i64]), (false, [.i .i64])]), (16, .tup [(true, [.I, .i .i64, .I, .i .i64]), (false, [.b])]), (17, .one .b), (19, .agg [.I, .i .i64, .I, .i .i64]), (18, .one .b), (9, .one .b), (21, .agg [.I, .i .i64]), (20, .agg [.I, .i .i64]), (22, .one .b), (8, .one .b), (23, .agg [.I, .i .i64, .I, .i .i64]), (12, .one .b)]) rfl ⟨(good_of7.lift (by decide)), (good_eInv.lift (by decide)), (good_eMeet.lift (by decide)), (good_eIs.lift (by decide)), good_eSquare, (good_yEqual.lift (by decide)), (good_qEqual.lift (by decide)), (good_qOf.lift (by decide)), (good_qScale.lift (by decide)), (good_eHas.lift (by decide)), (good_eIn.lift (by decide)), (good_eAbs.lift (by decide)), (good_eSame.lift (by decide)), trivial⟩ Tryz.f4 (by kernel_rfl) (by kernel_rfl) (by kernel_rfl) (fun ds hp F A Q hF hA hQ => ⟨0, ?_⟩)
  have hp : ds = [] := hp
  subst hp
  · obtain ⟨u0, v0⟩ := rC_lit (x := ((-1, 0), (1, 1))) (odd_n (by decide)) (odd_n (by decide)) (by decide)
    obtain ⟨u1, v1⟩ := rC_lit (x := ((1, 1), (1, 2))) (odd_n (by decide)) (odd_n (by decide)) (by decide)
    obtain ⟨u2, v2⟩ := rC_lit (x := ((1, 0), (5, 0))) (odd_n (by decide)) (odd_n (by decide)) (by decide)
    obtain ⟨u3, v3⟩ := rC_lit (x := ((3, 0), (5, 0))) (odd_n (by decide)) (odd_n (by decide)) (by decide)
    obtain ⟨u4, v4⟩ := rC_lit (x := ((1, 0), (0, 0))) (odd_n (by decide)) zero_n (by decide)
    obtain ⟨u5, v5⟩ := rC_lit (x := ((0, 0), (1, 2))) zero_n (odd_n (by decide)) (by decide)
    obtain ⟨u6, v6⟩ := rC_lit (x := ((1, 0), (1, 1))) (odd_n (by decide)) (odd_n (by decide)) (by decide)
    obtain ⟨u7, v7⟩ := rC_lit (x := ((0, 0), (1, 0))) zero_n (odd_n (by decide)) (by decide)
    obtain ⟨u8, v8⟩ := rC_lit (x := ((0, 0), (1, 1))) zero_n (odd_n (by decide)) (by decide)
    have f1 := fit_1K
    have d1 := dC_1_0
    have d2 : dC (1, 1) := dC_2 u0
    have z4 := okR_c u4
    simp only [N0_neg0, N0_ln0, N0_lm0] at z4
    have z5 := canR_c u5
    simp only [N0_neg0, N0_ln0, N0_lm0] at z5
    have z7 := okR_c u7
    simp only [N0_neg0, N0_ln0, N0_lm0] at z7
    have z8 := canR_c u8
    simp only [N0_neg0, N0_ln0, N0_lm0] at z8
    cbv
    repeat' (first | with_reducible refine And.intro ?_ ?_ | (with_reducible refine safe_lift hA ?_; kernel_rfl) | (intro hc_; (first | (with_reducible exfalso; clear hQ; subst hF hA; simp only [fnOf, find, std, reduceIte, Nat.reduceEqDiff, sp1, sp2, a1, a2, FnSpec.out, Shape.build, leafs, leafCells, tups, oneOf, List.cons_append, List.nil_append, List.length_cons, List.length_nil, s_known7, s_of7, s_eInv, s_eMeet, s_eIs, s_eSquare, s_yEqual, s_qEqual, s_qOf, s_qScale, s_eHas, s_eIn, s_eAbs, s_eSame, re4, rv_raw, rv_N0, dv, dz, dx, dcn, dm_raw, dm_N0, vI_N0, raw6_is, Prod.eta, vI_nil, N0_neg0, N0_ln0, N0_lm0, tmI_idem, teI_idem, cmpD_nrm, cmpD_nrmL, cmpD_nrmR, hasY_n, inY_rn, meetY_rn, zeroY_rn, powN_2, min_if, hasB_zero, wrap_er, rn_rn, Int.reduceNeg, Int.reduceEq, Int.reduceLT, Int.reduceLE, Int.reduceBEq, beq_dec, Int.reduceAdd, Int.zero_add, Int.add_zero, eq_self, Bool.not_eq_eq_eq_not, decide_eq_true_eq, decide_eq_false_iff_not, not_true_eq_false, not_false_eq_true, decide_true, decide_false, Bool.true_and, Bool.and_true, Bool.not_true, Bool.not_false, beq_self_eq_true, Bool.true_eq_false, Bool.false_eq_true, reduceCtorEq, gt_iff_lt, ge_iff_le, true_and, and_true, and_self, Bool.false_eq, Bool.and_self, kx_rn, kx_rn1, kx_rn2, kx_rn3, kx_rn4, kx_abs, kx_pow, kx_zero, kx_er, kx_inv, kx_meet, kx_ok, kx_no, kx_has, kx_in, km_2, kc_1, kc_2, Dy.n, tmI_zero, teI_zero, k1, k1e, k2, k2e, k3, k3e, k4, k4e, k5, k5e, k1n, k1ne, sameI_N0, reduceIte] at hc_; done) | (clear hc_; cbv))))
    all_goals subst hF hA
    all_goals (try simp only [fnOf, find, std, reduceIte, Nat.reduceEqDiff, sp1, sp2, a1, a2, FnSpec.out, Shape.build, leafs, leafCells, tups, oneOf, List.cons_append, List.nil_append, List.length_cons, List.length_nil, s_known7, s_of7, s_eInv, s_eMeet, s_eIs, s_eSquare, s_yEqual, s_qEqual, s_qOf, s_qScale, s_eHas, s_eIn, s_eAbs, s_eSame, re4, rv_raw, rv_N0, dv, dz, dx, dcn, dm_raw, dm_N0, vI_N0, raw6_is, Prod.eta, vI_nil, N0_neg0, N0_ln0, N0_lm0, tmI_idem, teI_idem, cmpD_nrm, cmpD_nrmL, cmpD_nrmR, hasY_n, inY_rn, meetY_rn, zeroY_rn, powN_2, min_if, hasB_zero, wrap_er, rn_rn, Int.reduceNeg, Int.reduceEq, Int.reduceLT, Int.reduceLE, Int.reduceBEq, beq_dec, Int.reduceAdd, Int.zero_add, Int.add_zero, eq_self, Bool.not_eq_eq_eq_not, decide_eq_true_eq, decide_eq_false_iff_not, not_true_eq_false, not_false_eq_true, decide_true, decide_false, Bool.true_and, Bool.and_true, Bool.not_true, Bool.not_false, beq_self_eq_true, Bool.true_eq_false, Bool.false_eq_true, reduceCtorEq, gt_iff_lt, ge_iff_le, true_and, and_true, and_self, Bool.false_eq, Bool.and_self, kx_rn, kx_rn1, kx_rn2, kx_rn3, kx_rn4, kx_abs, kx_pow, kx_zero, kx_er, kx_inv, kx_meet, kx_ok, kx_no, kx_has, kx_in, km_2, kc_1, kc_2, Dy.n, tmI_zero, teI_zero, k1, k1e, k2, k2e, k3, k3e, k4, k4e, k5, k5e, k1n, k1ne, sameI_N0, reduceIte] at hQ ⊢)
    all_goals (repeat' (first
      | with_reducible exact hQ
      | with_reducible assumption
      | with_reducible exact isi_int _ _
      | (with_reducible refine canR_c (r := ((_, _), (_, _))) ?_; with_reducible assumption)
      | (with_reducible refine okR_c (r := ((_, _), (_, _))) ?_; with_reducible assumption)
      | (with_reducible refine okM_fR (r := ((_, _), (_, _))) ?_; with_reducible assumption)
      | (with_reducible refine few20_fR (r := ((_, _), (_, _))) ?_; with_reducible assumption)
      | (with_reducible refine few30_fR (r := ((_, _), (_, _))) ?_; with_reducible assumption)
      | with_reducible exact True.intro
      | (with_reducible refine few40_fR (r := ((_, _), (_, _))) ?_; with_reducible assumption)
      | (with_reducible refine canD_c (a := (_, _)) ?_; with_reducible assumption)
      | (with_reducible refine okT_c (a := (_, _)) ?_; with_reducible assumption)
      | (with_reducible refine okD_c (a := (_, _)) ?_; with_reducible assumption)
      | (with_reducible refine near_c (a := (_, _)) (b := (_, _)) ?_ ?_ <;> with_reducible assumption)
      | (with_reducible refine okE_fit ?_ (k := 10000) (by omega); with_reducible assumption)
      | with_reducible refine okX_mk ?_ ?_ ?_ ?_
      | with_reducible refine okW_mk ?_ ?_ ?_
      | with_reducible refine okE_mk ?_
      | with_reducible refine okI_mk ?_
      | with_reducible refine okD_mk ?_ ?_ ?_
      | (with_reducible refine near_mk ?_ ?_; (focus omega); (focus omega))
      | omega
      | with_reducible refine And.intro ?_ ?_))
end Go.Proofs.YtgmencbhkkcpiaaGreatDoor.Ev
