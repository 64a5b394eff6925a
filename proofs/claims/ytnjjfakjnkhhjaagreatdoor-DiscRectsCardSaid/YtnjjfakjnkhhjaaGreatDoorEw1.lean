import Derived.Test.YtnjjfakjnkhhjaaGreatDoorGu
set_option maxHeartbeats 8000000
set_option maxRecDepth 100000
set_option linter.all false
namespace Go.Proofs.YtnjjfakjnkhhjaaGreatDoor.Ev
open Go Go.RowKit
def oif {α : Type} (X : Re) (a b : α) : α := if cmpD X.1.1 X.1.2 X.2.1 X.2.2 ≤ 0 then a else b
theorem ord_pick {s t : Bool} {n m : Nat} {cs es : List D} {e f : Int} (h : okS n cs e) (k : okS m es f) :
  ∃ s1 n1 c1 e1 t1 m1 d1 f1, oif ((vI s cs, e), (vI t es, f)) s t = s1 ∧ oif ((vI s cs, e), (vI t es, f)) n m = n1 ∧ oif ((vI s cs, e), (vI t es, f)) cs es = c1 ∧ oif ((vI s cs, e), (vI t es, f)) e f = e1 ∧
   oif ((vI s cs, e), (vI t es, f)) t s = t1 ∧ oif ((vI s cs, e), (vI t es, f)) m n = m1 ∧ oif ((vI s cs, e), (vI t es, f)) es cs = d1 ∧ oif ((vI s cs, e), (vI t es, f)) f e = f1 ∧
   ro ((vI s cs, e), (vI t es, f)) = ((vI s1 c1, e1), (vI t1 d1, f1)) ∧ okC n1 c1 ∧ n1 ≤ 600 ∧ -50000 ≤ e1 ∧ e1 ≤ 50000 ∧ okC m1 d1 ∧ m1 ≤ 600 ∧ -50000 ≤ f1 ∧ f1 ≤ 50000 ∧
   rn ((vI s1 c1, e1), (vI t1 d1, f1)) = rn ((vI s cs, e), (vI t es, f)) ∧ ro ((vI s1 c1, e1), (vI t1 d1, f1)) = ((vI s1 c1, e1), (vI t1 d1, f1)) ∧ (∀ K, n ≤ K → m ≤ K → n1 ≤ K ∧ m1 ≤ K) ∧ (∀ K : Int, -K ≤ e → e ≤ K → -K ≤ f → f ≤ K → (-K ≤ e1 ∧ e1 ≤ K) ∧ -K ≤ f1 ∧ f1 ≤ K) := by
 refine ⟨_, _, _, _, _, _, _, _, rfl, rfl, rfl, rfl, rfl, rfl, rfl, rfl, ?_⟩
 have hro := ro_ok ((vI s cs, e), (vI t es, f))
 have hid := ro_id hro
 have hrn : rn (ro ((vI s cs, e), (vI t es, f))) = rn ((vI s cs, e), (vI t es, f)) := by rw [rn_ro, hid, ← rn_ro]
 unfold oif
 have e0 : ro ((vI s cs, e), (vI t es, f)) = if cmpD (vI s cs) e (vI t es) f ≤ 0 then ((vI s cs, e), (vI t es, f)) else ((vI t es, f), (vI s cs, e)) := rfl
 rw [e0] at hid hrn ⊢
 by_cases hc : cmpD (vI s cs) e (vI t es) f ≤ 0
 ·simp only [if_pos hc] at hid hrn ⊢
  exact ⟨trivial, h.1, h.2.1, h.2.2.1, h.2.2.2, k.1, k.2.1, k.2.2.1, k.2.2.2, trivial, hid, fun K a b => ⟨a, b⟩, fun K a b c d => ⟨⟨a, b⟩, c, d⟩⟩
 ·simp only [if_neg hc] at hid hrn ⊢
  exact ⟨trivial, k.1, k.2.1, k.2.2.1, k.2.2.2, h.1, h.2.1, h.2.2.1, h.2.2.2, hrn, hid, fun K a b => ⟨b, a⟩, fun K a b c d => ⟨⟨c, d⟩, a, b⟩⟩
def s_eOrd : FnSpec := ⟨.agg [.R, .i .i64, .R, .i .i64], fun ds => match ds with | [x] => okR x | _ => False,
 a1 0 fun x i => raw6 0 (fun s n cs e t m es f => match i with | 1 => oif ((vI s cs, e), (vI t es, f)) e f | _ => oif ((vI s cs, e), (vI t es, f)) f e) x,
 a1 false fun x i => raw6 false (fun s n cs e t m es f => match i with | 0 => oif ((vI s cs, e), (vI t es, f)) s t | _ => oif ((vI s cs, e), (vI t es, f)) t s) x,
 a1 0 fun x i => raw6 0 (fun s n cs e t m es f => match i with | 0 => oif ((vI s cs, e), (vI t es, f)) n m | _ => oif ((vI s cs, e), (vI t es, f)) m n) x,
 a1 [] fun x i => raw6 [] (fun s n cs e t m es f => match i with | 0 => oif ((vI s cs, e), (vI t es, f)) cs es | _ => oif ((vI s cs, e), (vI t es, f)) es cs) x⟩
theorem ord_arg {ds : List D} (h : s_eOrd.p ds) : ∃ x, ds = [x] ∧ okR x := by
 match ds, h with
 | [x], h => exact ⟨x, rfl, h⟩
def s_eTold : FnSpec := sp2 (.agg [.I, .i .i64, .I, .i .i64]) (fun x y => okT x ∧ okT y) (fun x y i => re4 ((dv x).n, (dv y).n) i) (fun _ _ _ => false)
def s_eIs : FnSpec := sp1 (.one .b) okR (fun _ _ => 0) (fun x _ => decide (cmpD (rv x).1.1 (rv x).1.2 (rv x).2.1 (rv x).2.2 ≤ 0))
def s_eOf : FnSpec := sp1 (.agg [.I, .i .i64, .I, .i .i64]) okT (fun x i => re4 ((dv x).n, (dv x).n) i) (fun _ _ => false)
def s_eAdd : FnSpec := sp2 (.agg [.I, .i .i64, .I, .i .i64]) (fun x y => okR x ∧ okR y) (fun x y i => re4 (radd (rn (rv x)) (rn (rv y))) i) (fun _ _ _ => false)
abbrev G_eIs : Prop := Good Tryz.prog (GWL [0, 1]) N0 231 s_eIs
abbrev G_eOrd : Prop := Good Tryz.prog (GWL [0, 1]) N0 206 s_eOrd
abbrev G_eTold : Prop := Good Tryz.prog (GWL [0, 1]) N0 207 s_eTold
abbrev G_eOf : Prop := Good Tryz.prog (GWL [0, 1]) N0 178 s_eOf
theorem goods_ew11 : G_eIs ∧ (G_eIs → G_eOrd) ∧ G_eTold ∧ (G_eTold → G_eOf) := by
 refine ⟨?_, ?_, ?_, ?_⟩
 refine goodM 0 (gc good_dCmp gn) Tryz.f231 (by kernel_rfl) (by kernel_rfl) fun ds hp F A Q hF hA hQ => ?_
 obtain ⟨x, rfl, hx⟩ := sp1_arg hp
 obtain ⟨s, n, cs, e, t, m, es, f, rfl, hc, hn, he1, he2, hc2, hm, hf1, hf2⟩ := okR_arg hx
 clear hp hx
 rotate_left
 intro good_eIs
 refine goodM 0 (gc good_eIs gn) Tryz.f206 (by kernel_rfl) (by kernel_rfl) fun ds hp F A Q hF hA hQ => ?_
 clear good_eIs
 obtain ⟨x, rfl, hx⟩ := ord_arg hp
 obtain ⟨s, n, cs, e, t, m, es, f, rfl, hc, hn, he1, he2, hc2, hm, hf1, hf2⟩ := okR_arg hx
 clear hp hx
 rotate_left
 refine goodM 0 (gc good_dScale gn) Tryz.f207 (by kernel_rfl) (by kernel_rfl) fun ds hp F A Q hF hA hQ => ?_
 obtain ⟨x, y, rfl, hx, hy⟩ := sp2_arg hp
 obtain ⟨s, n, cs, e, rfl, hc, hn, he1, he2⟩ := okT_arg hx
 obtain ⟨t, m, es, f, rfl, hc2, hm, hf1, hf2⟩ := okT_arg hy
 clear hp hx hy
 rotate_left
 intro good_eTold
 refine goodM 0 (gc good_eTold gn) Tryz.f178 (by kernel_rfl) (by kernel_rfl) fun ds hp F A Q hF hA hQ => ?_
 clear good_eTold
 obtain ⟨x, rfl, hx⟩ := sp1_arg hp
 obtain ⟨s, n, cs, e, rfl, hc, hn, he1, he2⟩ := okT_arg hx
 clear hp hx
 rotate_left
 all_goals cbv
 all_goals (repeat' (first | with_reducible refine And.intro ?_ ?_ | (with_reducible refine safe_lift hA ?_; kernel_rfl) | (intro hc_; cbv)))
 all_goals (repeat (rw [safe_true hA, true_and]; rotate_left; kernel_rfl))
 all_goals subst hF hA
 all_goals simp only [fnOf, find, std, reduceIte, Nat.reduceEqDiff, sp1, sp2, a1, a2, FnSpec.out, Shape.build, leafs, leafCells, tups, oneOf, List.cons_append, List.nil_append, List.length_cons, List.length_nil, s_eIs, s_dCmp, re4, rv_raw, rv_N0, dv, dz, dx, dcn, dm_raw, dm_N0, vI_N0, raw6_is, raw3_is, pick2, decide_eq_true_eq, decide_eq_false_iff_not, gt_iff_lt, ge_iff_le, Dy.n, Dy.add, Dy.sub, Dy.mul, Dy.neg, Dy.abs, Dy.to, Dy.pow, sg_nonpos7, sg_nonneg7, s_eOrd, s_eTold, s_dScale, min_z, Int.add_zero, s_eOf] at *
 all_goals (repeat' (first
  | with_reducible exact hQ
  | with_reducible assumption
  | with_reducible exact isi_int _ _
  | with_reducible exact okR_mk hc hn he1 he2 hc2 hm hf1 hf2
  | with_reducible refine okD_mk ?_ ?_ ?_
  | with_reducible refine okT_mk ?_ ?_ ?_ ?_
  | with_reducible refine okR_mk ?_ ?_ ?_ ?_ ?_ ?_ ?_ ?_
  | (with_reducible refine near_mk ?_ ?_; (focus omega); (focus omega))
  | (with_reducible refine isC_mk ?_ ?_)
  | with_reducible refine And.intro ?_ ?_
  | omega))
 all_goals first
  | exact hQ
  | (have hk := of_decide_eq_true hc_
     simp only [oif, if_pos hk] at hQ; exact hQ)
  | (have hk := of_decide_eq_false hc_
     simp only [oif, if_neg hk] at hQ; exact hQ)
  | fail
theorem good_eIs : G_eIs := goods_ew11.1
theorem good_eOrd : G_eOrd := goods_ew11.2.1 good_eIs
theorem good_eTold : G_eTold := goods_ew11.2.2.1
theorem good_eOf : G_eOf := goods_ew11.2.2.2 good_eTold
theorem good_eAdd : Good Tryz.prog (GWL [0, 1, 2]) N0 177 s_eAdd := by
 refine goodM 0 (gl good_eOrd rfl <| gc good_dAdd gn) Tryz.f177 (by kernel_rfl) (by kernel_rfl) fun ds hp F A Q hF hA hQ => ?_
 obtain ⟨x, y, rfl, hx, hy⟩ := sp2_arg hp
 obtain ⟨s, n, cs, e, t, m, es, f, rfl, hc, hn, he1, he2, hc2, hm, hf1, hf2⟩ := okR_arg hx
 obtain ⟨u, p, gs, g, v, q, hs, h, rfl, hc3, hp3, hg1, hg2, hc4, hq4, hh1, hh2⟩ := okR_arg hy
 obtain ⟨s1, n1, c1, e1, t1, m1, d1, f1, o1, o2, o3, o4, o5, o6, o7, o8, oR, oa1, oa2, oa3, oa4, oa5, oa6, oa7, oa8, oN, oO, aK, aE⟩ := ord_pick (s := s) (t := t) (n := n) (m := m) (cs := cs) (es := es) (e := e) (f := f) ⟨hc, hn, he1, he2⟩ ⟨hc2, hm, hf1, hf2⟩
 obtain ⟨u1, p1, g1, i1, v1, q1, h1, j1, r1, r2, r3, r4, r5, r6, r7, r8, rR, ob1, ob2, ob3, ob4, ob5, ob6, ob7, ob8, rN, rO, bK, bE⟩ := ord_pick (s := u) (t := v) (n := p) (m := q) (cs := gs) (es := hs) (e := g) (f := h) ⟨hc3, hp3, hg1, hg2⟩ ⟨hc4, hq4, hh1, hh2⟩
 clear hp hx hy
 cbv
 repeat' (first | with_reducible refine And.intro ?_ ?_ | (with_reducible refine safe_lift hA ?_; kernel_rfl) | (intro hc_; cbv))
 all_goals (repeat (rw [safe_true hA, true_and]; rotate_left; kernel_rfl))
 all_goals subst hF hA
 all_goals simp only [fnOf, find, reduceIte, Nat.reduceEqDiff, sp2, a1, a2, FnSpec.out, Shape.build, leafs, leafCells, List.cons_append, List.nil_append, s_eAdd, s_eOrd, s_dAdd, re4, rv_raw, dx, dcn, dm_raw, raw6_is, Dy.n, Dy.add, o1, o2, o3, o4, o5, o6, o7, o8, r1, r2, r3, r4, r5, r6, r7, r8, oR, rR, e_add] at *
 all_goals (repeat' (first
  | with_reducible exact hQ
  | with_reducible assumption
  | with_reducible exact isi_int _ _
  | with_reducible exact okR_mk hc hn he1 he2 hc2 hm hf1 hf2
  | with_reducible refine okD_mk ?_ ?_ ?_
  | with_reducible refine okT_mk ?_ ?_ ?_ ?_
  | with_reducible refine okR_mk ?_ ?_ ?_ ?_ ?_ ?_ ?_ ?_
  | (with_reducible refine near_mk ?_ ?_; (focus omega); (focus omega))
  | (with_reducible refine isC_mk ?_ ?_)
  | omega
  | with_reducible refine And.intro ?_ ?_))
 all_goals first
  | exact hQ
  | trace_state
end Go.Proofs.YtnjjfakjnkhhjaaGreatDoor.Ev
namespace Go.Proofs.YtnjjfakjnkhhjaaGreatDoor.Ev
open Go Go.RowKit
theorem rC_of {r : Re} {k B : Nat} (h : rcan r) (hf : fR r k B) (hk : k ≤ 19200) (hB : B ≤ 20000) : rC r := ⟨h.2.1, h.2.2, hf.mono hk hB⟩
section
variable {s t : Bool} {n m : Nat} {cs es : List D} {e f : Int}
end
section
variable {X Y : Re} (fX : fR X 320 1000) (fY : fR Y 320 1000)
include fX
end
section
variable {A B : Re} (hA : fC A) (hB : fC B)
include hA
include hB
end
section
variable {X Y : Re} (fX : fR X 320 1000) (fY : fR Y 320 1000)
include fX fY
omit fY in
end
theorem rn_pair {a : Dy} (h : a.n = a) : rn (a, a) = (a, a) := rn_id Rat.le_refl h h
section
variable {X Y : Re} {s t : Dy}
end
end Go.Proofs.YtnjjfakjnkhhjaaGreatDoor.Ev
namespace Go.Proofs.YtnjjfakjnkhhjaaGreatDoor.Ev
open Go Go.RowKit
end Go.Proofs.YtnjjfakjnkhhjaaGreatDoor.Ev
