import Derived.Test.YtnjjfakjnkhhjaaGreatDoorJf
set_option maxHeartbeats 2000000
set_option maxRecDepth 100000
set_option linter.all false
namespace Go.Proofs.YtnjjfakjnkhhjaaGreatDoor.Ev
open Go Go.RowKit
def s_cTo : FnSpec := ⟨SD, s_oTo.p, fun ds i => match ds with | [x, .int _ p, .int _ md] => re2 ((dv x).to p md) i | _ => 0, fun _ _ => false, fun _ _ => 0, fun _ _ => []⟩
theorem good_cTo : Good Tryz.prog (GWL [0, 1, 2, 4]) N0 162 s_cTo := by
 have e : s_cTo = s_oTo := by unfold s_cTo s_oTo re2 Dy.to; rfl
 rw [e]; exact good_oTo
def toldU (x : D) : Prop := ∃ a : Re, x = rl4 a ∧ ccan a ∧ cz a 4808 6140
theorem toldU_mk {a : Re} (hc : ccan a) (h : cz a 4808 6140) : toldU (rl4 a) := ⟨a, rfl, hc, h⟩
theorem toldU_arg {x : D} (h : toldU x) : ∃ (a : Re) (s1 : Bool) (n1 : Nat) (c1 : List D) (e1 : Int) (s2 : Bool) (n2 : Nat) (c2 : List D) (e2 : Int), x = .agg [.bool s1, .sl n1 c1, .int .i64 e1, .bool s2, .sl n2 c2, .int .i64 e2] ∧
  N0.neg a.1.1 = s1 ∧ N0.ln a.1.1 = n1 ∧ N0.lm a.1.1 = c1 ∧ a.1.2 = e1 ∧ N0.neg a.2.1 = s2 ∧ N0.ln a.2.1 = n2 ∧ N0.lm a.2.1 = c2 ∧ a.2.2 = e2 ∧ ccan a ∧ cz a 4808 6140 := by
 obtain ⟨a, rfl, h⟩ := h
 exact ⟨a, _, _, _, _, _, _, _, _, rfl, rfl, rfl, rfl, rfl, rfl, rfl, rfl, rfl, h⟩
def tsum (u v : Re) : Dy := ((Dy.add (0, 0) (u.1.mul v.2)).add (u.2.mul v.1)).add (u.2.mul v.2)
def s_jTimes : FnSpec := ⟨DS, fun ds => match ds with | [x, y, u, v, .int .i64 _] => toldB x ∧ toldQ y ∧ toldU u ∧ toldU v | _ => False, fun ds i => match ds with | [x, y, u, v, .int _ p] => re6 (cmul (rv9 x).1 (rv9 y).1, (tsum (rv u) (rv v)).to p 1) i | _ => 0, fun _ _ => false, fun _ _ => 0, fun _ _ => []⟩
theorem jTimes_arg {ds : List D} (h : s_jTimes.p ds) : ∃ x y u v p, ds = [x, y, u, v, .int .i64 p] ∧ toldB x ∧ toldQ y ∧ toldU u ∧ toldU v := by
 unfold s_jTimes at h
 dsimp only at h
 split at h
 ·exact ⟨_, _, _, _, _, rfl, h⟩
 ·exact h.elim
def lit4n : Nat → Int | 0 => 0 | 1 => 1 | 2 => 2 | _ => 3
def lp4 {α : Type} : Nat → α → α → α → α → α | 0, a, _, _, _ => a | 1, _, b, _, _ => b | 2, _, _, c, _ => c | _, _, _, _, d => d
theorem four_or {i : Nat} (hi : i ≤ 3) : i = 0 ∨ i = 1 ∨ i = 2 ∨ i = 3 := by omega
theorem N0_zero : N0.neg 0 = false ∧ N0.ln 0 = 0 ∧ N0.lm 0 = [] := by decide +kernel
theorem okD_nil : okD (.agg [.bool false, .sl 0 [], .int .i64 0]) := by
 have h := mid_okD (mid_mk (a := (0, 0)) zero_n (sz_zero 0 0) (by omega) (by omega))
 rwa [show rel3 (0, 0) = .agg [.bool false, .sl 0 [], .int .i64 0] by unfold rel3; rw [N0_zero.1, N0_zero.2.1, N0_zero.2.2]] at h
theorem mid_exp {a : Dy} (h : mid a) : -90000000 ≤ a.2 ∧ a.2 ≤ 90000000 := by
 obtain ⟨k, hk, hl⟩ := mid_fD h
 have h1 := hk.2.1
 have h2 := hk.2.2
 omega
theorem near_nil {x : D} : near 1500000 (.agg [.bool false, .sl 0 [], .int .i64 0]) x := fun h => absurd (show dm (.agg [.bool false, .sl 0 [], .int .i64 0]) = 0 from rfl) h
def okF (x : D) : Prop := match x with
 | .agg [.bool _, .sl n1 c1, .int .i64 e1, .bool _, .sl n2 c2, .int .i64 e2, .bool _, .sl n3 c3, .int .i64 e3] => (okSM n1 c1 e1 ∧ n1 ≤ 10 ∧ -1000 ≤ e1 ∧ e1 ≤ 1000) ∧ (okSM n2 c2 e2 ∧ n2 ≤ 10 ∧ -1000 ≤ e2 ∧ e2 ≤ 1000) ∧ okSM n3 c3 e3 ∧ n3 ≤ 10 ∧ -1000 ≤ e3 ∧ e3 ≤ 1000
 | _ => False
theorem okF_A {x : D} (h : okF x) : okA x := by
 unfold okF at h
 split at h
 ·exact ⟨h.1.1, h.2.1.1, h.2.2.1⟩
 ·exact h.elim
theorem fD_few {s : Bool} {n : Nat} {cs : List D} {e : Int} (h : okSM n cs e ∧ n ≤ 10 ∧ -1000 ≤ e ∧ e ≤ 1000) : fD (vI s cs, e) 320 1000 := fD_raw h.1.1.1 (by omega) (by omega) (by omega)
theorem okF_qd {x : D} (h : okF x) : qd (dct (rv9 x)) := by
 unfold okF at h
 split at h
 ·exact ⟨⟨ccan_ca _, rad_n _⟩, cz_ca ⟨sz_fD (fD_few h.1), sz_fD (fD_few h.2.1)⟩, sz_rad (sz_fD (fD_few h.2.2))⟩
 ·exact h.elim
theorem okR_q {a : Re} (h : fR a 19200 50000) : okR (rl4 a) := okR_S (okS_fD h.1) (okS_fD h.2)
theorem okR_z {a : Re} {L H : Nat} (hc : ccan a) (h : cz a L H) (hb : L + H ≤ 19200) : okR (rl4 a) := okR_q ⟨(sz_can hc.1 h.1).mono (by omega) (by omega), (sz_can hc.2 h.2).mono (by omega) (by omega)⟩
theorem midS_mk {a : Dy} {L H : Nat} (hn : a.n = a) (h : sz a L H) (h1 : L ≤ 25000) (h2 : H ≤ 25000) : midS a := ⟨hn, L, H, h, h1, h2⟩
theorem qd_b {a : Dc} (h : qd a) : qb a := ⟨h.1, cz_mono h.2.1 (by omega) (by omega), sz_mono h.2.2 (by omega) (by omega)⟩
theorem len_n (c : Re) (r : Dy) (p : Int) : (lenF c r p).n = lenF c r p := by
 unfold lenF; split
 ·exact dsqrt_n _ _ _
 ·exact zero_n
theorem len_sz {c : Re} {r : Dy} {p : Int} {L H : Nat} (h : cz c L H) (hb : L ≤ 19000 ∧ H ≤ 19000) (hp : p ≤ 200) : sz (lenF c r p) (L + 202) (H + 204) := by
 unfold lenF; split
 ·exact far_sz h hb hp
 ·exact sz_zero _ _
theorem tsum_is {a b : Dc} {p : Int} (ha : 0 ≤ a.2.1) (hb : 0 ≤ b.2.1) : tsum (lenF a.1 b.2 p, a.2) (lenF b.1 a.2 p, b.2) = zrad a b p := times_eq ha hb
theorem good_jTimes : Good Tryz.prog (GWL [0, 1, 2, 3, 4, 7]) N0 112 s_jTimes := by
 refine goodM 0 (gl good_uMul rfl <| gl good_cMul rfl <| gl good_cAdd rfl <| gl good_cTo rfl gn) Tryz.f112 (by kernel_rfl) (by kernel_rfl) fun ds hp F A Q hF hA hQ => ?_
 obtain ⟨x, y, u, v, p, rfl, hx, hy, hu, hv⟩ := jTimes_arg hp
 obtain ⟨K, s1, n1, c1, e1, s2, n2, c2, e2, s3, n3, c3, e3, rfl, u1, u2, u3, u4, u5, u6, u7, u8, u9, u10, u11, u12, qK⟩ := toldB_arg hx
 obtain ⟨M, t1, m1, d1, f1, t2, m2, d2, f2, t3, m3, d3, f3, rfl, w1, w2, w3, w4, w5, w6, w7, w8, w9, w10, w11, w12, qM⟩ := toldQ_arg hy
 obtain ⟨S, us1, un1, uc1, ue1, us2, un2, uc2, ue2, rfl, ua1, ua2, ua3, ua4, ua5, ua6, ua7, ua8, cS, zS⟩ := toldU_arg hu
 obtain ⟨T, vs1, vn1, vc1, ve1, vs2, vn2, vc2, ve2, rfl, va1, va2, va3, va4, va5, va6, va7, va8, cT, zT⟩ := toldU_arg hv
 have mS1 := mid_mk cS.1 zS.1 (by omega) (by omega)
 have mS2 := mid_mk cS.2 zS.2 (by omega) (by omega)
 have oS1 := mid_okD mS1
 have lS1 := Nat.le_trans (mid_ln mS1) (show 20000 ≤ 40000 by omega)
 have oS2 := mid_okD mS2
 have lS2 := Nat.le_trans (mid_ln mS2) (show 20000 ≤ 40000 by omega)
 have mT1 := mid_mk cT.1 zT.1 (by omega) (by omega)
 have mT2 := mid_mk cT.2 zT.2 (by omega) (by omega)
 have oT1 := mid_okD mT1
 have lT1 := Nat.le_trans (mid_ln mT1) (show 20000 ≤ 40000 by omega)
 have oT2 := mid_okD mT2
 have lT2 := Nat.le_trans (mid_ln mT2) (show 20000 ≤ 40000 by omega)
 have rK := okR_z qK.1.1 qK.2.1 (by omega)
 have rM := okR_z qM.1.1 qM.2.1 (by omega)
 obtain ⟨P1, hP1⟩ : ∃ P : Dy, Dy.mul S.1 T.2 = P := ⟨_, rfl⟩
 have zP1 : sz P1 9616 12280 := hP1 ▸ sz_mul zS.1 zT.2
 have mP1 := mid_mk (hP1 ▸ mul_n _ _) zP1 (by omega) (by omega)
 have oP1 := mid_okD mP1
 have lP1 := mid_ln mP1
 obtain ⟨P2, hP2⟩ : ∃ P : Dy, Dy.mul S.2 T.1 = P := ⟨_, rfl⟩
 have zP2 : sz P2 9616 12280 := hP2 ▸ sz_mul zS.2 zT.1
 have mP2 := mid_mk (hP2 ▸ mul_n _ _) zP2 (by omega) (by omega)
 have oP2 := mid_okD mP2
 have lP2 := mid_ln mP2
 obtain ⟨P3, hP3⟩ : ∃ P : Dy, Dy.mul S.2 T.2 = P := ⟨_, rfl⟩
 have zP3 : sz P3 9616 12280 := hP3 ▸ sz_mul zS.2 zT.2
 have mP3 := mid_mk (hP3 ▸ mul_n _ _) zP3 (by omega) (by omega)
 have oP3 := mid_okD mP3
 have lP3 := mid_ln mP3
 obtain ⟨R1, hR1⟩ : ∃ R : Dy, Dy.add (0, 0) P1 = R := ⟨_, rfl⟩
 have zR1 : sz R1 9616 12281 := hR1 ▸ sz_add (sz_zero _ _) (sz_mono zP1 (by omega) (by omega))
 have mR1 := mid_mk (hR1 ▸ add_n _ _) zR1 (by omega) (by omega)
 have oR1 := mid_okD mR1
 have lR1 := mid_ln mR1
 obtain ⟨R2, hR2⟩ : ∃ R : Dy, Dy.add R1 P2 = R := ⟨_, rfl⟩
 have zR2 : sz R2 9616 12282 := hR2 ▸ sz_add (zR1) (sz_mono zP2 (by omega) (by omega))
 have mR2 := mid_mk (hR2 ▸ add_n _ _) zR2 (by omega) (by omega)
 have oR2 := mid_okD mR2
 have lR2 := mid_ln mR2
 obtain ⟨R3, hR3⟩ : ∃ R : Dy, Dy.add R2 P3 = R := ⟨_, rfl⟩
 have zR3 : sz R3 9616 12283 := hR3 ▸ sz_add (zR2) (sz_mono zP3 (by omega) (by omega))
 have mR3 := mid_mk (hR3 ▸ add_n _ _) zR3 (by omega) (by omega)
 have oR3 := mid_okD mR3
 have lR3 := mid_ln mR3
 have n2 := mid_near mR1 mP2
 have n3 := mid_near mR2 mP3
 have lR3_ := Nat.le_trans lR3 (show 20000 ≤ 80000 by omega)
 have xR3 := (mid_exp mR3)
 have hT : tsum S T = R3 := by unfold tsum; rw [hP1, hR1, hP2, hR2, hP3, hR3]
 have i01_ : A.add .i64 0 1 = 1 := by rw [hA]; rfl
 have i12_ : A.add .i64 1 1 = 2 := by rw [hA]; rfl
 have i23_ : A.add .i64 2 1 = 3 := by rw [hA]; rfl
 have l03 : A.lt 0 3 = true := by rw [hA]; rfl
 have l13 : A.lt 1 3 = true := by rw [hA]; rfl
 have l23 : A.lt 2 3 = true := by rw [hA]; rfl
 have l33 : A.lt 3 3 = false := by rw [hA]; rfl
 clear hp hx hy hu hv
 cbv
 repeat' (first | with_reducible refine And.intro ?_ ?_ | (with_reducible refine safe_lift hA ?_; kernel_rfl) | (with_reducible refine loop_by (fun i st => (st.setT 15 (.int .i64 (lit4n i))).setC 5 (lp4 i [.kb false, .sl 0 [], .int .i64 0] [.bool (F.neg R1.1), .sl (F.ln R1.1) (F.lm R1.1), .int .i64 R1.2] [.bool (F.neg R2.1), .sl (F.ln R2.1) (F.lm R2.1), .int .i64 R2.2] [.bool (F.neg R3.1), .sl (F.ln R3.1) (F.lm R3.1), .int .i64 R3.2])) 3 ?_ ?_; cbv; rotate_left; intro i hi; rcases four_or hi with rfl | rfl | rfl | rfl <;> cbv) | (intro hc_; first | (first | exact Bool.noConfusion (hc_.symm.trans l03) | exact Bool.noConfusion (hc_.symm.trans l13) | exact Bool.noConfusion (hc_.symm.trans l23) | exact Bool.noConfusion (hc_.symm.trans l33)) | cbv))
 all_goals (repeat (rw [safe_true hA, true_and]; rotate_left; kernel_rfl))
 all_goals subst hF hA
 all_goals subst u1 u2 u3 u4 u5 u6 u7 u8 u9 u10 u11 u12
 all_goals subst w1 w2 w3 w4 w5 w6 w7 w8 w9 w10 w11 w12
 all_goals subst ua1 ua2 ua3 ua4 ua5 ua6 ua7 ua8
 all_goals subst va1 va2 va3 va4 va5 va6 va7 va8
 all_goals simp only [fnOf, find, std, reduceIte, Nat.reduceEqDiff, sp1, sp2, a1, a2, FnSpec.out, Shape.build, leafs, leafCells, tups, oneOf, List.cons_append, List.nil_append, List.length_cons, List.length_nil, s_jTimes, s_uMul, s_cMul, s_cAdd, s_cTo, rv_raw, rv_N0, dv, dz, dx, dcn, dm_raw, dm_N0, vI_N0, raw6_is, Prod.eta, rv9_raw, re2, re4, re6, decide_eq_true_eq, decide_eq_false_iff_not, hP1, hP2, hP3, hR1, hR2, hR3, hT, vI_nil, lp4, lit4n] at *
 all_goals (repeat' (first
  | with_reducible exact hQ
  | with_reducible assumption
  | with_reducible exact isi_int _ _
  | with_reducible refine And.intro ?_ ?_
  | omega))
 all_goals first
  | exact hQ
  | rfl
  | exact ⟨oR3, lR3_, xR3.1, xR3.2⟩
  | exact okD_nil
  | exact near_nil
  | exact .inl rfl
  | exact .inr rfl
  | exact .inl trivial
  | exact .inr trivial
  | trace_state
def s_jMul : FnSpec := ⟨DS, fun ds => match ds with | [x, y, .int .i64 p] => okF x ∧ okF y ∧ p ≤ 200 | _ => False, fun ds i => match ds with | [x, y, .int _ p] => re6 (zmul (dct (rv9 x)) (dct (rv9 y)) p) i | _ => 0, fun _ _ => false, fun _ _ => 0, fun _ _ => []⟩
theorem jMul_arg {ds : List D} (h : s_jMul.p ds) : ∃ x y p, ds = [x, y, .int .i64 p] ∧ okF x ∧ okF y ∧ p ≤ 200 := by
 unfold s_jMul at h
 dsimp only at h
 split at h
 ·exact ⟨_, _, _, rfl, h⟩
 ·exact h.elim
theorem okF_arg {x : D} (h : okF x) : ∃ s1 n1 c1 e1 s2 n2 c2 e2 s3 n3 c3 e3, x = .agg [.bool s1, .sl n1 c1, .int .i64 e1, .bool s2, .sl n2 c2, .int .i64 e2, .bool s3, .sl n3 c3, .int .i64 e3] := by
 unfold okF at h
 split at h
 ·exact ⟨_, _, _, _, _, _, _, _, _, _, _, _, rfl⟩
 ·exact h.elim
theorem lenF_is (c : Re) (r : Dy) (p : Int) : (if 0 < sg r.1 then dsqrt (cnorm c) p 1 else (0, 0)) = lenF c r p := rfl
theorem toldU_len {a b : Dc} (ha : qd a) {p : Int} (hp : p ≤ 200) : toldU (rl4 (lenF a.1 b.2 p, a.2)) := toldU_mk ⟨len_n _ _ _, ha.1.2⟩ ⟨sz_mono (len_sz ha.2.1 (by omega) hp) (by omega) (by omega), sz_mono ha.2.2 (by omega) (by omega)⟩
def s_jFar : FnSpec := sp2 SD (fun x y => okF x ∧ isi .i64 y) (fun x y i => re2 (dsqrt (cnorm (dct (rv9 x)).1) (dz y) 1) i) (fun _ _ _ => false)
def s_jPow : FnSpec := ⟨DS, fun ds => match ds with | [x, .int .i64 n, .int .i64 p] => okF x ∧ powN n ≤ 5 ∧ p ≤ 200 | _ => False, fun ds i => match ds with | [x, .int _ n, .int _ p] => re6 (zpw (dct (rv9 x)) p (powN n)) i | _ => 0, fun _ _ => false, fun _ _ => 0, fun _ _ => []⟩
theorem jPow_arg {ds : List D} (h : s_jPow.p ds) : ∃ x n p, ds = [x, .int .i64 n, .int .i64 p] ∧ okF x ∧ powN n ≤ 5 ∧ p ≤ 200 := by
 match ds, h with
 | [x, .int .i64 e, .int .i64 k], h => exact ⟨x, e, k, rfl, h⟩
theorem ca_one : ca ((1, 0), (0, 0)) = ((1, 0), (0, 0)) := by unfold ca; rw [one_n, zero_n]
theorem cnorm_is (a : Re) : (a.1.mul a.1).add (a.2.mul a.2) = cnorm a := rfl
theorem to_zero (p md : Int) : Dy.to (0, 0) p md = (0, 0) := by
 have h := @gm_lies 0 0 (stepI 0 0 p) md (.inl rfl)
 exact Prod.ext (h.1.trans tmI_zero) (h.2.trans (teI_zero _))
theorem zpw_r0 {a : Dc} (h : qv a.2 = 0) (p : Int) : ∀ i : Nat, qv (zpw a p i).2 = 0
 | 0 => qv_c0 0
 | i + 1 => by
  have h1 := zpw_r0 h p i
  have h2 : qv (zrad (zpw a p i) a p) = 0 := by unfold zrad; rw [qv_add, qv_add, qv_mul, qv_mul, qv_mul, h, h1]; grind
  have h3 : zrad (zpw a p i) a p = (0, 0) := nn_eq (zrad_n _ _ _) zero_n (by rw [h2, qv_c0])
  show qv ((zrad (zpw a p i) a p).to p 1) = 0
  rw [h3, to_zero, qv_c0]
theorem tsum_pw {a : Dc} {p : Int} (ha : 0 ≤ a.2.1) (i : Nat) : tsum (lenF (zpw a p i).1 a.2 p, (zpw a p i).2) (lenF a.1 a.2 p, a.2) = zrad (zpw a p i) a p :=
 nn_eq (add_n _ _) (add_n _ _) (by
  unfold zrad tsum
  have h1 := len_mul (c := (zpw a p i).1) (p := p) ha
  have h2 : qv (zpw a p i).2 * qv (lenF a.1 a.2 p) = qv (dsqrt (cnorm a.1) p 1) * qv (zpw a p i).2 := by
   by_cases g : 0 < sg a.2.1
   ·rw [show lenF a.1 a.2 p = dsqrt (cnorm a.1) p 1 from if_pos g, Rat.mul_comm]
   ·rw [sg_pos] at g
    rw [zpw_r0 (by rw [show a.2 = (0, a.2.2) from Prod.ext (by show a.2.1 = 0; omega) rfl, qv_c0]) p i]; grind
  dsimp only
  rw [qv_add, qv_add, qv_add, qv_mul, qv_mul, qv_mul, qv_add, qv_add, qv_mul, qv_mul, qv_mul, h1, qv_c0, h2]
  grind)
theorem pw_lt (i : Nat) (k : Int) : ((i : Int) < if 64 < (if 0 > k then 0 else k) then 64 else if 0 > k then 0 else k) ↔ i < powN k := by
 unfold powN; split <;> split at * <;> omega
theorem good_jMul : Good Tryz.prog (GWL [0, 1, 2, 3, 4, 7]) N0 33 s_jMul := by
 refine goodM 0 (gl good_jCounted rfl <| gl good_uNorm rfl <| gl good_jLengths rfl <| gl good_jTimes rfl gn) Tryz.f33 (by kernel_rfl) (by kernel_rfl) fun ds hp F A Q hF hA hQ => ?_
 obtain ⟨x, y, p, rfl, hx, hy, hp2⟩ := jMul_arg hp
 have qK := okF_qd hx
 have hxA := okF_A hx
 obtain ⟨s1, n1, c1, e1, s2, n2, c2, e2, s3, n3, c3, e3, rfl⟩ := okF_arg hx
 obtain ⟨K, hK⟩ : ∃ K : Dc, dct (((vI s1 c1, e1), (vI s2 c2, e2)), (vI s3 c3, e3)) = K := ⟨_, rfl⟩
 have hK1 : ca ((vI s1 c1, e1), (vI s2 c2, e2)) = K.1 := congrArg Prod.fst hK
 have hK2 : rad (vI s3 c3, e3) = K.2 := congrArg Prod.snd hK
 have posK : 0 ≤ K.2.1 := hK ▸ dct_rn _
 rw [rv9_raw, hK] at qK
 have rK := okR_z qK.1.1 qK.2.1 (by omega)
 have tnK := toldM_mk (midS_mk (norm_n _) (cz_norm qK.2.1) (by omega) (by omega))
 have trK := toldM_mk (midS_mk qK.1.2 qK.2.2 (by omega) (by omega))
 have tbK := toldB_mk (qd_b qK)
 have tqK := toldQ_mk qK
 have qM := okF_qd hy
 have hyA := okF_A hy
 obtain ⟨t1, m1, d1, f1, t2, m2, d2, f2, t3, m3, d3, f3, rfl⟩ := okF_arg hy
 obtain ⟨M, hM⟩ : ∃ M : Dc, dct (((vI t1 d1, f1), (vI t2 d2, f2)), (vI t3 d3, f3)) = M := ⟨_, rfl⟩
 have hM1 : ca ((vI t1 d1, f1), (vI t2 d2, f2)) = M.1 := congrArg Prod.fst hM
 have hM2 : rad (vI t3 d3, f3) = M.2 := congrArg Prod.snd hM
 have posM : 0 ≤ M.2.1 := hM ▸ dct_rn _
 rw [rv9_raw, hM] at qM
 have rM := okR_z qM.1.1 qM.2.1 (by omega)
 have tnM := toldM_mk (midS_mk (norm_n _) (cz_norm qM.2.1) (by omega) (by omega))
 have trM := toldM_mk (midS_mk qM.1.2 qM.2.2 (by omega) (by omega))
 have tbM := toldB_mk (qd_b qM)
 have tqM := toldQ_mk qM
 have uK := toldU_len (b := M) qK hp2
 have uM := toldU_len (b := K) qM hp2
 have hT := tsum_is (p := p) posK posM
 clear hp hx hy
 cbv
 repeat' (first | with_reducible refine And.intro ?_ ?_ | (with_reducible refine safe_lift hA ?_; kernel_rfl) | (intro hc_; cbv))
 all_goals (repeat (rw [safe_true hA, true_and]; rotate_left; kernel_rfl))
 all_goals subst hF hA
 all_goals simp only [fnOf, find, std, reduceIte, Nat.reduceEqDiff, sp1, sp2, a1, a2, FnSpec.out, Shape.build, leafs, leafCells, tups, oneOf, List.cons_append, List.nil_append, List.length_cons, List.length_nil, s_jMul, s_jCounted, s_uNorm, s_jLengths, s_jTimes, rv_raw, rv_N0, dv, dz, dx, dcn, dm_raw, dm_N0, vI_N0, raw6_is, Prod.eta, rv9_raw, re2, re4, re6, decide_eq_true_eq, decide_eq_false_iff_not, hK, hK1, hK2, hM, hM1, hM2, lenF_is, zmul, hT] at *
 all_goals (repeat' (first
  | with_reducible exact hQ
  | with_reducible assumption
  | with_reducible exact isi_int _ _
  | with_reducible refine And.intro ?_ ?_
  | omega))
 all_goals first
  | exact hQ
  | trace_state
theorem good_jFar : Good Tryz.prog (GWL [0, 1, 2, 3]) N0 38 s_jFar := by
 refine goodM 0 (gl good_uScale rfl <| gl good_uNorm rfl <| gl good_jRoot rfl gn) Tryz.f38 (by kernel_rfl) (by kernel_rfl) fun ds hp F A Q hF hA hQ => ?_
 obtain ⟨x, y, rfl, hx, hy⟩ := sp2_arg hp
 have qK := okF_qd hx
 have hxA := okF_A hx
 obtain ⟨s1, n1, c1, e1, s2, n2, c2, e2, s3, n3, c3, e3, rfl⟩ := okF_arg hx
 obtain ⟨K, hK⟩ : ∃ K : Dc, dct (((vI s1 c1, e1), (vI s2 c2, e2)), (vI s3 c3, e3)) = K := ⟨_, rfl⟩
 have hK1 : ca ((vI s1 c1, e1), (vI s2 c2, e2)) = K.1 := congrArg Prod.fst hK
 have hK2 : rad (vI s3 c3, e3) = K.2 := congrArg Prod.snd hK
 have posK : 0 ≤ K.2.1 := hK ▸ dct_rn _
 rw [rv9_raw, hK] at qK
 have rK := okR_z qK.1.1 qK.2.1 (by omega)
 have tnK := toldM_mk (midS_mk (norm_n _) (cz_norm qK.2.1) (by omega) (by omega))
 have trK := toldM_mk (midS_mk qK.1.2 qK.2.2 (by omega) (by omega))
 have tbK := toldB_mk (qd_b qK)
 have tqK := toldQ_mk qK
 obtain ⟨k, rfl⟩ := isi_arg hy
 have gK : okR (.agg [.bool s1, .sl n1 c1, .int .i64 e1, .bool s2, .sl n2 c2, .int .i64 e2]) := okR_S hxA.1.1 hxA.2.1.1
 clear hp hx hy
 cbv
 repeat' (first | with_reducible refine And.intro ?_ ?_ | (with_reducible refine safe_lift hA ?_; kernel_rfl) | (intro hc_; cbv))
 all_goals (repeat (rw [safe_true hA, true_and]; rotate_left; kernel_rfl))
 all_goals subst hF hA
 all_goals simp only [fnOf, find, std, reduceIte, Nat.reduceEqDiff, sp1, sp2, a1, a2, FnSpec.out, Shape.build, leafs, leafCells, tups, oneOf, List.cons_append, List.nil_append, List.length_cons, List.length_nil, s_jFar, s_uScale, s_uNorm, s_jRoot, rv_raw, rv_N0, dv, dz, dx, dcn, dm_raw, dm_N0, vI_N0, raw6_is, Prod.eta, rv9_raw, re2, re4, re6, decide_eq_true_eq, decide_eq_false_iff_not, hK, hK1, hK2, cscl_0] at *
 all_goals (repeat' (first
  | with_reducible exact hQ
  | with_reducible assumption
  | with_reducible exact isi_int _ _
  | with_reducible refine And.intro ?_ ?_
  | omega))
 all_goals first
  | exact hQ
  | trace_state
theorem good_jPow : Good Tryz.prog (GWL [0, 1, 2, 3, 4, 7]) N0 35 s_jPow := by
 refine goodM 0 (gl good_jCounted rfl <| gl good_cMul rfl <| gl good_cAdd rfl <| gl good_jLengths rfl <| gl good_uOf rfl <| gl good_jOf rfl <| gl good_cOf rfl <| gl good_jShort rfl <| gl good_jTimes rfl gn) Tryz.f35 (by kernel_rfl) (by kernel_rfl) fun ds hp F A Q hF hA hQ => ?_
 obtain ⟨x, k, p, rfl, hx, hk, hp2⟩ := jPow_arg hp
 have qK := okF_qd hx
 have hxA := okF_A hx
 obtain ⟨s1, n1, c1, e1, s2, n2, c2, e2, s3, n3, c3, e3, rfl⟩ := okF_arg hx
 obtain ⟨K, hK⟩ : ∃ K : Dc, dct (((vI s1 c1, e1), (vI s2 c2, e2)), (vI s3 c3, e3)) = K := ⟨_, rfl⟩
 have hK1 : ca ((vI s1 c1, e1), (vI s2 c2, e2)) = K.1 := congrArg Prod.fst hK
 have hK2 : rad (vI s3 c3, e3) = K.2 := congrArg Prod.snd hK
 have posK : 0 ≤ K.2.1 := hK ▸ dct_rn _
 rw [rv9_raw, hK] at qK
 have rK := okR_z qK.1.1 qK.2.1 (by omega)
 have tnK := toldM_mk (midS_mk (norm_n _) (cz_norm qK.2.1) (by omega) (by omega))
 have trK := toldM_mk (midS_mk qK.1.2 qK.2.2 (by omega) (by omega))
 have tbK := toldB_mk (qd_b qK)
 have tqK := toldQ_mk qK
 obtain ⟨C, hC⟩ : ∃ C : Nat → Dc, ∀ i : Nat, C i = zpw K p i := ⟨_, fun _ => rfl⟩
 obtain ⟨G, hG⟩ : ∃ G : Nat → Dy, ∀ i : Nat, G i = cnorm (C i).1 := ⟨_, fun _ => rfl⟩
 obtain ⟨J, hJ⟩ : ∃ J : Nat → Int, ∀ i : Nat, J i = Int.ofNat i := ⟨_, fun _ => rfl⟩
 obtain ⟨N, hN⟩ : ∃ N, N = powN k := ⟨_, rfl⟩
 have m1 := mid_mk qK.1.1.1 qK.2.1.1 (by omega) (by omega)
 have m2 := mid_mk qK.1.1.2 qK.2.1.2 (by omega) (by omega)
 have mA := mid_mk (mul_n K.1.1 K.1.1) (sz_mul qK.2.1.1 qK.2.1.1) (by omega) (by omega)
 have mB := mid_mk (mul_n K.1.2 K.1.2) (sz_mul qK.2.1.2 qK.2.1.2) (by omega) (by omega)
 have o1 := mid_okD m1
 have l1 := mid_ln m1
 have l1_ := Nat.le_trans l1 (show 20000 ≤ 40000 by omega)
 have o2 := mid_okD m2
 have l2 := mid_ln m2
 have l2_ := Nat.le_trans l2 (show 20000 ≤ 40000 by omega)
 have oA := mid_okD mA
 have lA := mid_ln mA
 have lA_ := Nat.le_trans lA (show 20000 ≤ 40000 by omega)
 have oB := mid_okD mB
 have lB := mid_ln mB
 have lB_ := Nat.le_trans lB (show 20000 ≤ 40000 by omega)
 have nAB := mid_near mA mB
 have tV := toldU_len (b := K) qK hp2
 have t1_ := isi_int .i64 (1 : Int)
 clear hp hx
 cbv
 repeat' (first | with_reducible refine And.intro ?_ ?_ | (with_reducible refine safe_lift hA ?_; kernel_rfl) | (with_reducible refine loop_by (fun i st => ((st.setT 43 (.int .i64 (J i))).setC 5 [.bool (F.neg (C i).1.1.1), .sl (F.ln (C i).1.1.1) (F.lm (C i).1.1.1), .int .i64 (C i).1.1.2, .bool (F.neg (C i).1.2.1), .sl (F.ln (C i).1.2.1) (F.lm (C i).1.2.1), .int .i64 (C i).1.2.2, .bool (F.neg (C i).2.1), .sl (F.ln (C i).2.1) (F.lm (C i).2.1), .int .i64 (C i).2.2]).setC 6 [.bool (F.neg (G i).1), .sl (F.ln (G i).1) (F.lm (G i).1), .int .i64 (G i).2]) N ?_ ?_; cbv; rotate_left; intro i hi; cbv) | (intro hc_; cbv))
 all_goals (repeat (rw [safe_true hA, true_and]; rotate_left; kernel_rfl))
 all_goals subst hF hA
 all_goals simp only [fnOf, find, std, reduceIte, Nat.reduceEqDiff, sp1, sp2, a1, a2, FnSpec.out, Shape.build, leafs, leafCells, tups, oneOf, List.cons_append, List.nil_append, List.length_cons, List.length_nil, s_jPow, s_jCounted, s_cMul, s_cAdd, s_jLengths, s_uOf, s_jOf, s_cOf, s_jShort, s_jTimes, rv_raw, rv_N0, dv, dz, dx, dcn, dm_raw, dm_N0, vI_N0, raw6_is, Prod.eta, rv9_raw, re2, re4, re6, decide_eq_true_eq, decide_eq_false_iff_not, hK, hK1, hK2, lenF_is, cnorm_is, ca_one, one_n] at *
 all_goals (repeat' (first
  | with_reducible exact hQ
  | with_reducible assumption
  | with_reducible exact isi_int _ _
  | with_reducible refine And.intro ?_ ?_
  | omega))
 all_goals
  have hI0 : C 0 = (((1, 0), (0, 0)), (0, 0)) := by rw [hC]; rfl
 all_goals first
  | exact ⟨⟨rfl, by decide, by decide⟩, rfl, by decide, by decide⟩
  | (rw [hJ]; rfl)
  | (rw [hI0]; done)
  | exact okR_z (a := ((1, 0), (0, 0))) ⟨one_n, zero_n⟩ cz_one (by omega)
  | (have hG0 : G 0 = (1, 0) := by rw [hG, hI0]; exact norm_one
     rw [hG0]; done)
  | skip
 all_goals
  have hJi : J i = (i : Int) := hJ i
  rw [hJi, pw_lt] at hc_
  have hJ1 : J (i + 1) = J i + 1 := by rw [hJ, hJ]; rfl
  have hS : C (i + 1) = zmul (C i) K p := by rw [hC, hC]; rfl
  have hGS : G (i + 1) = Dy.add (Dy.mul (G i) (Dy.mul K.1.1 K.1.1)) (Dy.mul (G i) (Dy.mul K.1.2 K.1.2)) := by rw [hG, hG, hS]; exact (norm_step _ _).symm
  have zC := zpw_sz qK hp2 i (by omega)
  rw [← hC] at zC
  obtain ⟨⟨cc, nn⟩, zc, zr⟩ := zC
  have hL : (if 0 < sg K.2.1 then dsqrt (G i) p 1 else (0, 0)) = lenF (C i).1 K.2 p := by rw [hG]; rfl
  have hT : tsum (lenF (C i).1 K.2 p, (C i).2) (lenF K.1 K.2 p, K.2) = zrad (C i) K p := by rw [hC]; exact tsum_pw posK i
  have zG : sz (G i) (1000 * i + 1000 * i) ((1320 + 1) * i + 1 + ((1320 + 1) * i + 1) + 1) := by rw [hG]; exact cz_norm zc
  have nG : Dy.n (G i) = G i := by rw [hG]; exact norm_n _
  have mG := mid_mk nG zG (by omega) (by omega)
  have mGA := mid_mk (mul_n (G i) (Dy.mul K.1.1 K.1.1)) (sz_mul zG (sz_mul qK.2.1.1 qK.2.1.1)) (by omega) (by omega)
  have mGB := mid_mk (mul_n (G i) (Dy.mul K.1.2 K.1.2)) (sz_mul zG (sz_mul qK.2.1.2 qK.2.1.2)) (by omega) (by omega)
 all_goals first
  | exact toldM_mk (midS_mk nn zr (by omega) (by omega))
  | exact toldM_mk (midS_mk nG zG (by omega) (by omega))
  | exact toldB_mk (a := C i) (by rw [hC]; exact zpw_qb qK hp2 i (by omega))
  | (rw [hL]; exact toldU_mk (a := (lenF (C i).1 K.2 p, (C i).2)) ⟨len_n _ _ _, nn⟩ ⟨sz_mono (len_sz zc (by omega) hp2) (by omega) (by omega), sz_mono zr (by omega) (by omega)⟩)
  | exact mid_okD mG
  | exact Nat.le_trans (mid_ln mG) (by omega)
  | exact mid_okD mGA
  | exact mid_okD mGB
  | exact mid_ln mGA
  | exact mid_ln mGB
  | exact mid_near mGA mGB
  | exact (show i + 1 ≤ N by omega)
  | (rw [hJ1, hJi, wrap_in (by omega) (by omega)]; done)
  | (rw [hGS]; done)
  | (rw [hS]; rfl)
  | (rw [hL, hT, hS]; rfl)
  | (have hi2 : i = powN k := by omega
     rw [hC, hi2]; exact hQ)
  | trace_state
end Go.Proofs.YtnjjfakjnkhhjaaGreatDoor.Ev
