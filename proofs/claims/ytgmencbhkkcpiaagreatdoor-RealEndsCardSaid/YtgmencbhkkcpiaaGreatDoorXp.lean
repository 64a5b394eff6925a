/- Powers of dyads. -/
import Derived.Test.YtgmencbhkkcpiaaGreatDoorEvq
namespace Go.Proofs.YtgmencbhkkcpiaaGreatDoor.Ev
open Go Go.RowKit
set_option linter.unusedSimpArgs false
set_option linter.unusedVariables false
def powN (k : Int) : Nat := (min (max k 0) 64).toNat
def s_dPow : FnSpec := sp2 (.agg [.I, .i .i64]) (fun x y => okD x ∧ isi .i64 y ∧ dcn x ≤ 40) (fun x y i => match i with | 0 => tmI (tmI (dm x) ^ powN (dz y)) | _ => teI (tmI (dm x) ^ powN (dz y)) (powN (dz y) * teI (dm x) (dx x))) (fun _ _ _ => false)
theorem mul_bound {p t B : Int} (h0 : 0 ≤ p) (h1 : p ≤ 64) (h2 : -B ≤ t) (h3 : t ≤ B) (hB : 0 ≤ B) : -(64 * B) ≤ p * t ∧ p * t ≤ 64 * B := by
  have a := Int.mul_le_mul_of_nonneg_left h3 h0
  have b := Int.mul_le_mul_of_nonneg_left h2 h0
  have c := Int.mul_le_mul_of_nonneg_right h1 hB
  rw [Int.mul_neg] at b
  omega
theorem fit_powI {x : Int} {k : Nat} (h : Fit x k) : ∀ i : Nat, Fit (x ^ i) (k * i + 1)
  | 0 => by rw [Int.pow_zero]; unfold Fit; rw [Nat.mul_zero]; decide
  | i + 1 => by
    rw [Int.pow_succ]
    exact (fit_powI h i).mul h (by rw [Nat.mul_succ]; omega)
theorem pow_fit {x : Int} (h : Fit x 1280) {i : Nat} (hi : i ≤ 64) : Fit (x ^ i) 81921 := (fit_powI h i).mono (by omega)
theorem powN_le (k : Int) : powN k ≤ 64 := by unfold powN; omega
theorem powN_min (k : Int) : min (if 0 > k then 0 else k) 64 = (powN k : Int) := by
  unfold powN
  split <;> omega
set_option maxRecDepth 100000 in
set_option maxHeartbeats 2000000 in
theorem good_dPow : Good Tryz.prog (GWL [0, 1, 3]) N0 33 s_dPow := by
  refine goodL (l := [0, 1, 3]) (tab := [(49, s_dWritten), (50, s_wOf), (51, s_wMul), (52, s_dTold)]) (shs := [(49, .agg [.I, .i .i64]), (50, .agg [.I]), (51, .agg [.I]), (52, .agg [.I, .i .i64])]) rfl ⟨(good_dWritten.lift (by decide)), good_wOf, (good_wMul fun _ h => products_at h (by decide)), (good_dTold.lift (by decide)), trivial⟩ Tryz.f33 (by kernel_rfl) (by kernel_rfl) (by kernel_rfl) (fun ds hp F A Q hF hA hQ => ⟨0, ?_⟩)
  obtain ⟨x, y, rfl, hx, hy, hb⟩ := sp2_arg hp
  obtain ⟨s, n, cs, e, rfl, hc, he1, he2⟩ := okD_arg hx
  obtain ⟨k, rfl⟩ := isi_arg hy
  clear hp hx hy
  cbv
  obtain ⟨Z, hZ⟩ : ∃ Z : Nat → Int, ∀ i : Nat, Z i = tmI (vI s cs) ^ i := ⟨_, fun _ => rfl⟩
  obtain ⟨J, hJ⟩ : ∃ J : Nat → Int, ∀ i : Nat, J i = Int.ofNat i := ⟨_, fun _ => rfl⟩
  obtain ⟨M, hM⟩ : ∃ M, M = powN k := ⟨_, rfl⟩
  refine And.intro ?_ (And.intro ?_ (loop_by (fun i st => (st.setT 13 (.int .i64 (J i))).setC 2 [.bool (F.neg (Z i)), .sl (F.ln (Z i)) (F.lm (Z i))]) (M) ?_ (fun i hi => ?_)))
  all_goals try cbv
  repeat' (first | with_reducible refine And.intro ?_ ?_ | (with_reducible refine safe_lift hA ?_; kernel_rfl) | (intro hc_; cbv))
  all_goals (repeat (rw [safe_true hA, true_and]; rotate_left; kernel_rfl))
  all_goals subst hF hA
  all_goals simp only [fnOf, find, std, reduceIte, Nat.reduceEqDiff, sp1, sp2, a1, a2, FnSpec.out, Shape.build, leafs, leafCells, tups, oneOf, List.cons_append, List.nil_append, List.length_cons, List.length_nil, s_dPow, s_dWritten, s_wOf, s_wMul, s_dTold, dm_raw, dm_N0, dz, dx, dcn, min_if, powN_min] at *
  all_goals
    have hZ0 : Z 0 = 1 := by rw [hZ, Int.pow_zero]
    have hn3 := powN_le k
    have hf : Fit (tmI (vI s cs)) 1280 := ((okC_fit hc s).le (tmI_le _)).mono (by omega)
  case refine_1 => exact ⟨⟨hc, he1, he2⟩, by omega⟩
  case refine_2 => exact ⟨rfl, by decide, by decide⟩
  case refine_3.refine_1.refine_1 => rw [hJ]; rfl
  case refine_3.refine_2.refine_1.refine_1 => rw [hZ0]
  case refine_3.refine_2.refine_1.refine_2.refine_1 => rw [hZ0]
  all_goals
    have hJi : J i = (i : Int) := hJ i
    rw [hJi] at hc_
    have hFi : Fit (Z i) 81921 := by rw [hZ]; exact pow_fit hf (by omega)
    have hS : Z (i + 1) = Z i * tmI (vI s cs) := by rw [hZ, hZ, Int.pow_succ]
    have hJ1 : J (i + 1) = J i + 1 := by rw [hJ, hJ]; rfl
    try simp only [vI_N0] at *
  case refine_4.refine_1.refine_1 => exact ⟨okC_fitN hFi (by omega), okC_fitN hf (by omega)⟩
  case refine_4.refine_1.refine_2.refine_1 =>
    have := of_decide_eq_true hc_
    exact (show i + 1 ≤ M by omega)
  case refine_4.refine_1.refine_2.refine_2.refine_1.refine_1 => rw [hJ1, wrap_in (by omega) (by omega)]
  case refine_4.refine_1.refine_2.refine_2.refine_2.refine_1.refine_1 => rw [hS]
  case refine_4.refine_1.refine_2.refine_2.refine_2.refine_1.refine_2.refine_1 => rw [hS]
  all_goals
    have hi2 : i = powN k := by have := of_decide_eq_false hc_; omega
    have hte := teI_bound (e := e) (okC_fit hc s)
    have hmb := mul_bound (p := (powN k : Int)) (t := teI (vI s cs) e) (B := 100002000) (by omega) (by omega) (by omega) (by omega) (by omega)
    have hw : IntKind.i64.wrap ((powN k : Int) * teI (vI s cs) e) = (powN k : Int) * teI (vI s cs) e := wrap_in (by omega) (by omega)
    rw [hw]
  case refine_4.refine_2.refine_1 => exact ⟨canI_N0 hFi (by omega), rfl, by omega, by omega⟩
  case refine_4.refine_2.refine_2 => rw [hZ, hi2]; exact hQ
end Go.Proofs.YtgmencbhkkcpiaaGreatDoor.Ev
/- The laws of dyads. -/
namespace Go.Proofs.YtgmencbhkkcpiaaGreatDoor.Ev
open Go Go.RowKit
set_option linter.unusedSimpArgs false
set_option linter.unusedVariables false
/-- a dyad as an argument: what lies in its slice is told only of few limbs. -/
def okW : D → Prop | .agg [.bool _, .sl n cs, .int .i64 e] => (n ≤ 100000 → okC n cs) ∧ -9223372036854775808 ≤ e ∧ e ≤ 9223372036854775807 | _ => False
theorem okW_arg {x : D} (h : okW x) : ∃ s n cs e, x = .agg [.bool s, .sl n cs, .int .i64 e] ∧ (n ≤ 100000 → okC n cs) ∧ -9223372036854775808 ≤ e ∧ e ≤ 9223372036854775807 := by
  match x, h with
  | .agg [.bool s, .sl n cs, .int .i64 e], h => exact ⟨s, n, cs, e, rfl, h⟩
theorem okW_mk {s : Bool} {n : Nat} {cs : List D} {e : Int} (h : n ≤ 100000 → okC n cs) (h1 : -9223372036854775808 ≤ e) (h2 : e ≤ 9223372036854775807) : okW (.agg [.bool s, .sl n cs, .int .i64 e]) := ⟨h, h1, h2⟩
theorem tz_is {m c : Int} {k : Nat} (h : m = c * 2 ^ k) (hc : c.natAbs % 2 = 1) : tz m.natAbs = k := by
  have h1 : m.natAbs = c.natAbs * 2 ^ k := by rw [h, Int.natAbs_mul, Int.natAbs_pow]; rfl
  have h2 := tz_mul_pow (n := c.natAbs) (by omega) k
  rw [h1, h2, tz_odd hc, Nat.zero_add]
theorem tmI_is {m c : Int} {k : Nat} (h : m = c * 2 ^ k) (hc : c.natAbs % 2 = 1) (hm : m ≠ 0) : tmI m = c := by
  have h1 := tmI_mul m
  rw [tz_is h hc] at h1
  refine Int.eq_of_mul_eq_mul_right (Int.ne_of_gt (pow_pos' k)) ?_
  rw [h1, h]
theorem teI_is {m c e : Int} {k : Nat} (h : m = c * 2 ^ k) (hc : c.natAbs % 2 = 1) (hm : m ≠ 0) : teI m e = e + k := by
  rw [teI_ne hm, tz_is h hc]
theorem vI_nil : vI false [] = 0 := rfl
theorem k1n : tmI (-1) = -1 := tmI_is (k := 0) (by decide) (by decide) (by decide)
theorem k1ne (e : Int) : teI (-1) e = e := (teI_is (c := -1) (k := 0) (by decide) (by decide) (by decide)).trans (Int.add_zero e)
theorem k3 : tmI 3 = 3 := tmI_is (k := 0) (by decide) (by decide) (by decide)
theorem k1 : tmI 1 = 1 := tmI_is (k := 0) (by decide) (by decide) (by decide)
theorem k1e (e : Int) : teI 1 e = e := (teI_is (c := 1) (k := 0) (by decide) (by decide) (by decide)).trans (Int.add_zero e)
end Go.Proofs.YtgmencbhkkcpiaaGreatDoor.Ev
/- The laws of dyads: what they lean on. -/
namespace Go.Proofs.YtgmencbhkkcpiaaGreatDoor.Ev
open Go Go.RowKit
set_option linter.unusedSimpArgs false
set_option linter.unusedVariables false
/-- a dyad's value, in units of two to the power of -k. -/
def V (k : Nat) (m e : Int) : Int := m * 2 ^ (e + k).toNat
theorem V_neg (k : Nat) (m e : Int) : V k (-m) e = -V k m e := Int.neg_mul _ _
theorem V_nrm {k : Nat} {m e : Int} (h : -(k : Int) ≤ e) : V k (tmI m) (teI m e) = V k m e := by
  by_cases h0 : m = 0
  · rw [h0, tmI_zero]; unfold V; rw [Int.zero_mul, Int.zero_mul]
  · have := tm_val (m := m) (e := e) (k := -(k : Int)) h h0
    unfold V
    rwa [Int.sub_neg, Int.sub_neg] at this
theorem V_add {k : Nat} {mx ex my ey : Int} (h1 : -(k : Int) ≤ ex) (h2 : -(k : Int) ≤ ey) : V k (addM mx ex my ey) (min ex ey) = V k mx ex + V k my ey := by
  have := addM_low (mx := mx) (my := my) h1 h2
  unfold V
  rwa [Int.sub_neg, Int.sub_neg, Int.sub_neg] at this
theorem sg_V (k : Nat) (m e : Int) : sg (V k m e) = sg m := sg_pow _ _
theorem V_inj {k : Nat} {m e n f : Int} (h1 : -(k : Int) ≤ e) (h2 : -(k : Int) ≤ f) (h : V k m e = V k n f) : tmI m = tmI n ∧ teI m e = teI n f := by
  refine nrm_eq (k := -(k : Int)) h1 h2 ?_
  unfold V at h
  rwa [Int.sub_neg, Int.sub_neg]
theorem cmp_V {k : Nat} {mx ex my ey : Int} (h1 : -(k : Int) ≤ ex) (h2 : -(k : Int) ≤ ey) : cmpD mx ex my ey = sg (V k mx ex - V k my ey) := by
  rw [cmpD_sub, ← sg_V k _ (min ex ey), V_add h1 h2, V_neg, Int.sub_eq_add_neg]
theorem V_iff {k : Nat} {m e n f : Int} (h1 : -(k : Int) ≤ e) (h2 : -(k : Int) ≤ f) : (tmI m = tmI n ∧ teI m e = teI n f) ↔ V k m e = V k n f :=
  ⟨fun h => by rw [← V_nrm h1, ← V_nrm h2, h.1, h.2], V_inj h1 h2⟩
theorem cmp0 (m e n f : Int) : (cmpD m e n f == 0) = (decide (teI m e = teI n f) && decide (tmI m = tmI n)) := by
  have h1 : -((e.natAbs + f.natAbs : Nat) : Int) ≤ e := by omega
  have h2 : -((e.natAbs + f.natAbs : Nat) : Int) ≤ f := by omega
  rw [cmp_V h1 h2, sg_beq, Bool.eq_iff_iff, decide_eq_true_eq, Bool.and_eq_true, decide_eq_true_eq, decide_eq_true_eq, And.comm, V_iff h1 h2]
  omega
theorem tmI_addL (a e b f : Int) : tmI (addM (tmI a) (teI a e) b f) = tmI (addM a e b f) := (addM_norm2 a e b f).1
theorem tmI_addR (a e b f : Int) : tmI (addM a e (tmI b) (teI b f)) = tmI (addM a e b f) := (addM_norm a e b f).1
theorem tmI_addN (a e b f : Int) : tmI (addM a e (-tmI b) (teI b f)) = tmI (addM a e (-b) f) := by rw [← tmI_neg, ← teI_neg]; exact tmI_addR _ _ _ _
theorem cmpD_nrm (a e b f : Int) : cmpD (tmI a) (teI a e) (tmI b) (teI b f) = cmpD a e b f := by
  rw [cmpD_sub, cmpD_sub, ← sg_tmI, tmI_addN, tmI_addL, sg_tmI]
theorem three {a b : Prop} [Decidable a] [Decidable b] : ¬a ∨ (a ∧ ¬b) ∨ (a ∧ b) := by
  by_cases h : a
  · by_cases h2 : b
    · exact .inr (.inr ⟨h, h2⟩)
    · exact .inr (.inl ⟨h, h2⟩)
  · exact .inl h
theorem cmp0d (m e n f : Int) : decide (cmpD m e n f = 0) = (decide (teI m e = teI n f) && decide (tmI m = tmI n)) := cmp0 m e n f
theorem fit_abs {X : Int} {k : Nat} (h : Fit X k) : Fit (X.natAbs : Int) k := h.le (by omega)
theorem fit_tm {X : Int} {k : Nat} (h : Fit X k) : Fit (tmI X) k := h.le (tmI_le _)
theorem isi_int (k : IntKind) (z : Int) : isi k (.int k z) := rfl
theorem okI_mk {s : Bool} {n : Nat} {cs : List D} (h : okC n cs) : okI (.agg [.bool s, .sl n cs]) := h
theorem okE_mk {s : Bool} {n : Nat} {cs : List D} {e : Int} (h : okC n cs) : okE (.agg [.bool s, .sl n cs, .int .i64 e]) := h
theorem okD_mk {s : Bool} {n : Nat} {cs : List D} {e : Int} (h : okC n cs) (h1 : -100000000 ≤ e) (h2 : e ≤ 100000000) : okD (.agg [.bool s, .sl n cs, .int .i64 e]) := ⟨h, h1, h2⟩
theorem near_mk {b : Int} {a1 a2 b1 b2 : D} {e f : Int} (h1 : e - min e f ≤ b) (h2 : f - min f e ≤ b) : near b (.agg [a1, a2, .int .i64 e]) (.agg [b1, b2, .int .i64 f]) := fun _ _ => ⟨h1, h2⟩
theorem cmpD_nrmL (a e b f : Int) : cmpD (tmI a) (teI a e) b f = cmpD a e b f := by
  rw [cmpD_sub, cmpD_sub, ← sg_tmI, tmI_addL, sg_tmI]
theorem cmpD_nrmR (a e b f : Int) : cmpD a e (tmI b) (teI b f) = cmpD a e b f := by
  rw [cmpD_sub, cmpD_sub, ← sg_tmI, tmI_addN, sg_tmI]
theorem sg_mulW (X Y : Int) : IntKind.i64.wrap (sg X * sg Y) = sg (X * Y) := by
  have key : sg X * sg Y = sg (X * Y) := by
    rcases sg_cases X with ⟨h1, h2⟩ | ⟨h1, h2⟩ | ⟨h1, h2⟩ <;> rcases sg_cases Y with ⟨h3, h4⟩ | ⟨h3, h4⟩ | ⟨h3, h4⟩ <;> rw [h2, h4]
    · exact (sg_pos (Int.mul_pos_of_neg_of_neg h1 h3)).symm
    · exact (sg_zero (by rw [h3, Int.mul_zero])).symm
    · exact (sg_neg (Int.mul_neg_of_neg_of_pos h1 h3)).symm
    · exact (sg_zero (by rw [h1, Int.zero_mul])).symm
    · exact (sg_zero (by rw [h1, Int.zero_mul])).symm
    · exact (sg_zero (by rw [h1, Int.zero_mul])).symm
    · exact (sg_neg (Int.mul_neg_of_pos_of_neg h1 h3)).symm
    · exact (sg_zero (by rw [h3, Int.mul_zero])).symm
    · exact (sg_pos (Int.mul_pos h1 h3)).symm
  rw [key]
  have := sg_range (X * Y)
  exact wrap_in (by omega) (by omega)
theorem four {a b c : Prop} [Decidable a] [Decidable b] [Decidable c] : ¬a ∨ (a ∧ ¬b) ∨ (a ∧ b ∧ ¬c) ∨ (a ∧ b ∧ c) := by
  by_cases h : a
  · by_cases h2 : b
    · by_cases h3 : c
      · exact .inr (.inr (.inr ⟨h, h2, h3⟩))
      · exact .inr (.inr (.inl ⟨h, h2, h3⟩))
    · exact .inr (.inl ⟨h, h2⟩)
  · exact .inl h
end Go.Proofs.YtgmencbhkkcpiaaGreatDoor.Ev
