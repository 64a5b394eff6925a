import Derived.Test.YtnjjfakjnkhhjaaGreatDoorJl
set_option maxHeartbeats 16000000
set_option maxRecDepth 100000
set_option linter.all false
namespace Go.Proofs.YtnjjfakjnkhhjaaGreatDoor.Ev
open Go Go.RowKit
def s_DiscBorders : FnSpec := ⟨.one .b, fun ds => match ds with | [.int .i16 a, .int .i16 b, .int .u8 n, .int .u8 m] => (-32768 ≤ a ∧ a ≤ 32767) ∧ (-32768 ≤ b ∧ b ≤ 32767) ∧ (0 ≤ n ∧ n ≤ 255) ∧ 0 ≤ m ∧ m ≤ 255 | _ => False, fun _ _ => 0, fun _ _ => true, fun _ _ => 0, fun _ _ => []⟩
theorem DiscBorders_arg {ds : List D} (h : s_DiscBorders.p ds) : ∃ a b n m, ds = [.int .i16 a, .int .i16 b, .int .u8 n, .int .u8 m] ∧ (-32768 ≤ a ∧ a ≤ 32767) ∧ (-32768 ≤ b ∧ b ≤ 32767) ∧ (0 ≤ n ∧ n ≤ 255) ∧ 0 ≤ m ∧ m ≤ 255 := by
 unfold s_DiscBorders at h
 dsimp only at h
 split at h
 ·exact ⟨_, _, _, _, rfl, h⟩
 ·exact h.elim
theorem sz_i {z : Int} (h1 : -100000 ≤ z) (h2 : z ≤ 100000) : sz (z, 0) 0 20 := sz_fD (k := 20) (B := 0) ⟨by unfold Fit; omega, by dsimp only; omega, by dsimp only; omega⟩
theorem qv_hair {m : Int} (h : 0 ≤ m) : (0 : Rat) < qv (1, -m) := by
 unfold qv; dsimp only
 have h1 : (0 : Rat) < (2 : Rat) ^ (-m) := Rat.zpow_pos (by decide)
 have e : ((1 : Int) : Rat) = 1 := by decide +kernel
 rw [e, Rat.one_mul]; exact h1
def bpt (x y : Int) : Re := ca ((x, 0), (y, 0))
theorem bpt_ca (x y : Int) : ca (bpt x y) = bpt x y := Prod.ext (n_n _) (n_n _)
theorem one_te {z : Int} : teI 1 (0 + z) = z := by
 have h : teI 1 z = z + ((0 : Nat) : Int) := teI_is (c := 1) (k := 0) rfl rfl (by decide)
 rw [Int.zero_add]; omega
theorem bpt_z {x y : Int} (h : (-100000 ≤ x ∧ x ≤ 100000) ∧ -100000 ≤ y ∧ y ≤ 100000) : cz (bpt x y) 0 20 := cz_ca ⟨sz_i h.1.1 h.1.2, sz_i h.2.1 h.2.2⟩
theorem bpt_c (x y : Int) : ccan (bpt x y) := ccan_ca _
theorem hair_n (m : Int) : Dy.n (1, -m) = (1, -m) := Prod.ext (show tmI 1 = 1 by decide +kernel) (by have h := one_te (z := -m); rw [Int.zero_add] at h; exact h)
theorem hair_z {m : Int} (h : 0 ≤ m ∧ m ≤ 255) : cz ((1, -m), (0, 0)) 255 256 := ⟨sz_fD (k := 1) (B := 255) ⟨show (1 : Int).natAbs < 2 ^ 1 by decide, by dsimp only; omega, by dsimp only; omega⟩, sz_zero _ _⟩
theorem hair_R {m : Int} (h : 0 ≤ m ∧ m ≤ 255) : canR (.agg [.bool (N0.neg 1), .sl (N0.ln 1) (N0.lm 1), .int .i64 (-m), .bool false, .sl 0 [], .int .i64 0]) := by
 have h1 := canR_sj (a := ((1, -m), (0, 0))) ⟨hair_n m, zero_n⟩ (hair_z h) (by omega)
 unfold rl4 at h1
 dsimp only at h1
 rwa [N0_zero.1, N0_zero.2.1, N0_zero.2.2] at h1
theorem okA_z0 {a : Re} (h1 : ccan a) {L H : Nat} (h2 : cz a L H) (hb : L + H ≤ 9500) : okA (.agg [.bool (N0.neg a.1.1), .sl (N0.ln a.1.1) (N0.lm a.1.1), .int .i64 a.1.2, .bool (N0.neg a.2.1), .sl (N0.ln a.2.1) (N0.lm a.2.1), .int .i64 a.2.2, .bool false, .sl 0 [], .int .i64 0]) := by
 have h := okA_z (a := (a, (0, 0))) ⟨h1, zero_n⟩ h2 (sz_zero 0 0) hb (by omega)
 unfold rel9 at h
 dsimp only at h
 rwa [N0_zero.1, N0_zero.2.1, N0_zero.2.2] at h
theorem q_bpt (x y : Int) : qv (bpt x y).1 = x ∧ qv (bpt x y).2 = y := ⟨by unfold bpt; rw [ca_n1, qv_int], by unfold bpt; rw [ca_n2, qv_int]⟩
theorem b_rad {r : Int} (h : 0 ≤ r) : qv (rad (Dy.n (r, 0))) = r := by
 have hr : (0 : Rat) ≤ (r : Rat) := by exact_mod_cast h
 rw [rad_id (by rw [qv_n, qv_int]; exact hr), qv_n, qv_int]
theorem b_zero : qv (rad (0, 0)) = 0 := by decide +kernel
theorem b_lev {a b k : Int} (h : 1 ≤ k) : lev (qv (bpt (a + 3 * k) (b - 4 * k)).1 - qv (bpt a b).1) (qv (bpt (a + 3 * k) (b - 4 * k)).2 - qv (bpt a b).2) ((5 * k : Int) : Rat) := by
 have hk : (0 : Rat) ≤ (k : Rat) := by exact_mod_cast (show (0 : Int) ≤ k by omega)
 rw [(q_bpt _ _).1, (q_bpt _ _).1, (q_bpt _ _).2, (q_bpt _ _).2]
 have e1 : ((a + 3 * k : Int) : Rat) = a + 3 * k := by push_cast; rfl
 have e2 : ((b - 4 * k : Int) : Rat) = b - 4 * k := by push_cast; rfl
 have e3 : ((5 * k : Int) : Rat) = 5 * k := by push_cast; rfl
 rw [e1, e2, e3]
 exact ⟨by grind, by grind⟩
theorem b_has {a b k : Int} (h : 1 ≤ k) : dhas (bpt a b, Dy.n (5 * k, 0)) (bpt (a + 3 * k) (b - 4 * k)) = true := dhas_iff.2 (by
 unfold dat
 dsimp only
 rw [b_rad (by omega)]
 exact b_lev h)
theorem b_far {a b k m : Int} (h : 1 ≤ k) (hm : 0 ≤ m) : ¬lev (qv (cadd (bpt (a + 3 * k) (b - 4 * k)) ((1, -m), (0, 0))).1 - qv (bpt a b).1) (qv (cadd (bpt (a + 3 * k) (b - 4 * k)) ((1, -m), (0, 0))).2 - qv (bpt a b).2) ((5 * k : Int) : Rat) := by
 have hk : (1 : Rat) ≤ (k : Rat) := by exact_mod_cast h
 have hh := qv_hair hm
 rw [q1_add, q2_add, (q_bpt _ _).1, (q_bpt _ _).1, (q_bpt _ _).2, (q_bpt _ _).2, qv_c0]
 have e1 : ((a + 3 * k : Int) : Rat) = a + 3 * k := by push_cast; rfl
 have e2 : ((b - 4 * k : Int) : Rat) = b - 4 * k := by push_cast; rfl
 have e3 : ((5 * k : Int) : Rat) = 5 * k := by push_cast; rfl
 rw [e1, e2, e3]
 obtain ⟨x, hx⟩ : ∃ x, qv (1, -m) = x := ⟨_, rfl⟩
 rw [hx] at hh ⊢
 intro ⟨_, h2⟩
 have h3 : 0 < x * x := Rat.mul_pos hh hh
 have h4 : 0 < (k : Rat) * x := Rat.mul_pos (by grind) hh
 grind
theorem b_off {a b k m : Int} (h : 1 ≤ k) (hm : 0 ≤ m) : dhas (bpt a b, Dy.n (5 * k, 0)) (cadd (bpt (a + 3 * k) (b - 4 * k)) ((1, -m), (0, 0))) = false := by
 rw [Bool.eq_false_iff]
 intro hh
 have h1 := dhas_iff.1 hh
 unfold dat at h1
 dsimp only at h1
 rw [b_rad (by omega)] at h1
 exact b_far h hm h1
theorem b_in {a b k : Int} (h : 1 ≤ k) : din (bpt (a + 3 * k) (b - 4 * k), (0, 0)) (bpt a b, Dy.n (5 * k, 0)) = true := din_iff.2 (by
 dsimp only
 rw [b_rad (by omega), b_zero]
 have h1 := b_lev (a := a) (b := b) h
 refine ⟨h1.1, ?_⟩
 rwa [show ((5 * k : Int) : Rat) - 0 = ((5 * k : Int) : Rat) by grind])
theorem b_ap {a b k m : Int} (h : 1 ≤ k) (hm : 0 ≤ m) : dapart (bpt a b, Dy.n (5 * k, 0)) (cadd (bpt (a + 3 * k) (b - 4 * k)) ((1, -m), (0, 0)), (0, 0)) = true := by
 cases hh : dapart (bpt a b, Dy.n (5 * k, 0)) (cadd (bpt (a + 3 * k) (b - 4 * k)) ((1, -m), (0, 0)), (0, 0)) with
 | true => rfl
 | false =>
  exfalso
  have h1 := lev_neg (dapart_iff.1 hh)
  dsimp only at h1
  rw [b_rad (by omega), b_zero] at h1
  refine b_far (a := a) (b := b) h hm ?_
  have e : ∀ x y : Rat, -(x - y) = y - x := fun x y => by grind
  rw [e, e, show ((5 * k : Int) : Rat) + 0 = ((5 * k : Int) : Rat) by grind] at h1
  exact h1
theorem b_na {a b k : Int} (h : 1 ≤ k) : dapart (bpt a b, Dy.n (5 * k, 0)) (bpt (a + 3 * k) (b - 4 * k), (0, 0)) = false := by
 rw [dapart_swap]; exact dapart_of_in (b_in h)
theorem good_DiscBorders : Good Tryz.prog (GWL [0, 1, 2, 3, 4, 7]) N0 7 s_DiscBorders := by
 refine goodM 0 (gc good_known10 <| gl good_vOf rfl <| gl good_qOf rfl <| gl good_qScale rfl <| gl good_vAdd rfl <| gl good_jHas rfl <| gl good_jOf rfl <| gl good_jIn rfl <| gl good_jApart rfl gn) Tryz.f7 (by kernel_rfl) (by kernel_rfl) fun ds hp F A Q hF hA hQ => ?_
 obtain ⟨a, b, n, m, rfl, ⟨ha1, ha2⟩, ⟨hb1, hb2⟩, ⟨hn1, hn2⟩, hm1, hm2⟩ := DiscBorders_arg hp
 clear hp
 ·have w1_ : IntKind.i64.wrap (a) = a := wrap_in (by omega) (by omega)
  have w2_ : IntKind.i64.wrap (b) = b := wrap_in (by omega) (by omega)
  have w3_ : IntKind.i64.wrap (n) = n := wrap_in (by omega) (by omega)
  have w4_ : IntKind.i64.wrap (m) = m := wrap_in (by omega) (by omega)
  have w5_ : IntKind.i64.wrap (n + 1) = n + 1 := wrap_in (by omega) (by omega)
  have wb_ : IntKind.i64.wrap (0 - m) = -m := by rw [show 0 - m = -m by omega]; exact wrap_in (by omega) (by omega)
  have mm_ : min (max (-m) (-20000)) 20000 = -m := by omega
  obtain ⟨k, hk⟩ : ∃ k : Int, n + 1 = k := ⟨_, rfl⟩
  have hk1 : 1 ≤ k := by omega
  have hk2 : k ≤ 256 := by omega
  have w6_ : IntKind.i64.wrap (5 * k) = 5 * k := wrap_in (by omega) (by omega)
  have w7_ : IntKind.i64.wrap (3 * k) = 3 * k := wrap_in (by omega) (by omega)
  have w8_ : IntKind.i64.wrap (4 * k) = 4 * k := wrap_in (by omega) (by omega)
  have w9_ : IntKind.i64.wrap (a + 3 * k) = a + 3 * k := wrap_in (by omega) (by omega)
  have wa_ : IntKind.i64.wrap (b - 4 * k) = b - 4 * k := wrap_in (by omega) (by omega)
  have hC : ca ((a, 0), (b, 0)) = bpt a b := rfl
  have hO : ca ((a + 3 * k, 0), (b - 4 * k, 0)) = bpt (a + 3 * k) (b - 4 * k) := rfl
  have t1_ : tmI 1 = 1 := by decide +kernel
  have t0_ : teI 1 0 = 0 := by decide +kernel
  have tm_ : teI 1 (0 + -m) = -m := one_te
  have hZ := vI_nil
  have zC := bpt_z (x := a) (y := b) (by omega)
  have zO := bpt_z (x := a + 3 * k) (y := b - 4 * k) (by omega)
  have zR : sz (Dy.n (5 * k, 0)) 0 20 := sz_n (sz_i (by omega) (by omega))
  have zF := cz_add (cz_mono zO (show 0 ≤ 255 by omega) (show 20 ≤ 256 by omega)) (hair_z ⟨hm1, hm2⟩)
  have x1_ : dhas (bpt a b, (tmI (5 * k), teI (5 * k) 0)) (bpt (a + 3 * k) (b - 4 * k)) = true := b_has hk1
  have x2_ : dhas (bpt a b, (tmI (5 * k), teI (5 * k) 0)) (cadd (bpt (a + 3 * k) (b - 4 * k)) ((1, -m), (0, 0))) = false := b_off hk1 hm1
  have x3_ : din (bpt (a + 3 * k) (b - 4 * k), (0, 0)) (bpt a b, (tmI (5 * k), teI (5 * k) 0)) = true := b_in hk1
  have x4_ : dapart (bpt a b, (tmI (5 * k), teI (5 * k) 0)) (cadd (bpt (a + 3 * k) (b - 4 * k)) ((1, -m), (0, 0)), (0, 0)) = true := b_ap hk1 hm1
  have x5_ : dapart (bpt a b, (tmI (5 * k), teI (5 * k) 0)) (bpt (a + 3 * k) (b - 4 * k), (0, 0)) = false := b_na hk1
  cbv
  repeat' (first | with_reducible refine And.intro ?_ ?_ | (with_reducible refine safe_lift hA ?_; kernel_rfl) | (intro hc_; (first | (with_reducible exfalso; clear hQ; subst hF hA; simp only [fnOf, find, std, reduceIte, Nat.reduceEqDiff, sp1, sp2, a1, a2, FnSpec.out, Shape.build, leafs, leafCells, tups, oneOf, List.cons_append, List.nil_append, List.length_cons, List.length_nil, s_DiscBorders, s_known10, s_vOf, s_qOf, s_qScale, s_vAdd, s_jHas, s_jOf, s_jIn, s_jApart, rv_raw, rv_N0, dv, dz, dx, dcn, dm_raw, dm_N0, vI_N0, raw6_is, rw9_is, Prod.eta, rv9_raw, re2, re4, re6, Bool.not_eq_eq_eq_not, decide_eq_true_eq, decide_eq_false_iff_not, not_true_eq_false, not_false_eq_true, decide_true, decide_false, Bool.true_and, Bool.and_true, Bool.not_true, Bool.not_false, beq_self_eq_true, Bool.true_eq_false, Bool.false_eq_true, reduceCtorEq, gt_iff_lt, ge_iff_le, true_and, and_true, and_self, Bool.false_eq, Bool.and_self, eq_self, Int.reduceLE, Int.reduceNeg, Int.reduceLT, Int.reduceBEq, s_uOf, w1_, w2_, w3_, w4_, w5_, wb_, w6_, w7_, w8_, w9_, wa_, mm_, hk, hC, hO, t1_, t0_, tm_, hZ, bpt_ca, x1_, x2_, x3_, x4_, x5_] at hc_; done) | (clear hc_; cbv))))
  all_goals subst hF hA
  all_goals (try simp only [fnOf, find, std, reduceIte, Nat.reduceEqDiff, sp1, sp2, a1, a2, FnSpec.out, Shape.build, leafs, leafCells, tups, oneOf, List.cons_append, List.nil_append, List.length_cons, List.length_nil, s_DiscBorders, s_known10, s_vOf, s_qOf, s_qScale, s_vAdd, s_jHas, s_jOf, s_jIn, s_jApart, rv_raw, rv_N0, dv, dz, dx, dcn, dm_raw, dm_N0, vI_N0, raw6_is, rw9_is, Prod.eta, rv9_raw, re2, re4, re6, Bool.not_eq_eq_eq_not, decide_eq_true_eq, decide_eq_false_iff_not, not_true_eq_false, not_false_eq_true, decide_true, decide_false, Bool.true_and, Bool.and_true, Bool.not_true, Bool.not_false, beq_self_eq_true, Bool.true_eq_false, Bool.false_eq_true, reduceCtorEq, gt_iff_lt, ge_iff_le, true_and, and_true, and_self, Bool.false_eq, Bool.and_self, eq_self, Int.reduceLE, Int.reduceNeg, Int.reduceLT, Int.reduceBEq, s_uOf, w1_, w2_, w3_, w4_, w5_, wb_, w6_, w7_, w8_, w9_, wa_, mm_, hk, hC, hO, t1_, t0_, tm_, hZ, bpt_ca, x1_, x2_, x3_, x4_, x5_] at hQ ⊢)
  all_goals (repeat' (first
   | with_reducible exact hQ
   | with_reducible assumption
   | with_reducible exact isi_int _ _
   | with_reducible exact True.intro
   | omega
   | with_reducible refine And.intro ?_ ?_))
  all_goals first
   | exact hQ
   | exact canD_c (a := (1, 0)) (dC_sj one_n (sz_fD (k := 1) (B := 0) ⟨by unfold Fit; decide, by decide, by decide⟩) (by omega))
   | exact canR_sj (bpt_c _ _) zO (by omega)
   | exact hair_R ⟨hm1, hm2⟩
   | exact okA_z (a := (bpt a b, Dy.n (5 * k, 0))) ⟨bpt_c _ _, n_n _⟩ zC zR (by omega) (by omega)
   | exact okG_z (bpt_c _ _) zO (by omega)
   | exact okG_z (a := cadd (bpt (a + 3 * k) (b - 4 * k)) ((1, -m), (0, 0))) ⟨add_n _ _, add_n _ _⟩ zF (by omega)
   | exact okR_z (bpt_c _ _) zO (by omega)
   | exact okA_z (a := (bpt (a + 3 * k) (b - 4 * k), (0, 0))) ⟨bpt_c _ _, zero_n⟩ zO (sz_zero 0 0) (by omega) (by omega)
   | exact okA_z0 (a := cadd (bpt (a + 3 * k) (b - 4 * k)) ((1, -m), (0, 0))) ⟨add_n _ _, add_n _ _⟩ zF (by omega)
   | trace_state
end Go.Proofs.YtnjjfakjnkhhjaaGreatDoor.Ev
