import Derived.Test.YtkfojbelnemhbaaGreatDoorEvq
set_option maxHeartbeats 2000000
set_option maxRecDepth 100000
set_option linter.all false
namespace Go.Proofs.YtkfojbelnemhbaaGreatDoor.Ev
open Go Go.RowKit
def powN (k : Int) : Nat := (min (max k 0) 64).toNat
def s_qPow : FnSpec := sp2 (.agg [.I, .i .i64]) (fun x y => canD x ∧ isi .i64 y ∧ dcn x ≤ 40 ∧ -1000000 ≤ dx x ∧ dx x ≤ 1000000) (fun x y i => match i with | 0 => tmI (tmI (dm x) ^ powN (dz y)) | _ => teI (tmI (dm x) ^ powN (dz y)) (powN (dz y) * teI (dm x) (dx x))) (fun _ _ _ => false)
theorem mul_bound {p t B : Int} (h0 : 0 ≤ p) (h1 : p ≤ 64) (h2 : -B ≤ t) (h3 : t ≤ B) (hB : 0 ≤ B) : -(64 * B) ≤ p * t ∧ p * t ≤ 64 * B := by
 have a := Int.mul_le_mul_of_nonneg_left h3 h0
 have b := Int.mul_le_mul_of_nonneg_left h2 h0
 have c := Int.mul_le_mul_of_nonneg_right h1 hB
 rw [Int.mul_neg] at b
 omega
theorem fit_powI {x : Int} {k : Nat} (h : Fit x k) : ∀ i : Nat, Fit (x ^ i) (k * i + 1)
 | 0 => by rw [Int.pow_zero]; unfold Fit; rw [Nat.mul_zero]; decide
 | i + 1 => by
  rw [Int.pow_succ]
  exact (fit_powI h i).mul h (by rw [Nat.mul_succ]; omega)
theorem pow_fit {x : Int} (h : Fit x 1280) {i : Nat} (hi : i ≤ 64) : Fit (x ^ i) 81921 := (fit_powI h i).mono (by omega)
theorem powN_le (k : Int) : powN k ≤ 64 := by unfold powN; omega
theorem tmI_mulL (a b : Int) : tmI (tmI a * b) = tmI (a * b) := by
 rw [← tmI_shift (tmI a * b) (tz a.natAbs), Int.mul_assoc, Int.mul_comm b, ← Int.mul_assoc, tmI_mul]
theorem teI_mulL (a b x e : Int) : teI (tmI a * b) (teI a x + e) = teI (a * b) (x + e) := by
 by_cases h : a = 0
 ·rw [h, tmI_zero, Int.zero_mul, teI_zero, teI_zero]
 ·rw [teI_ne h]
  have := teI_shift (tmI a * b) (x + e) (tz a.natAbs)
  rw [Int.mul_assoc, Int.mul_comm b, ← Int.mul_assoc, tmI_mul] at this
  rw [this]
  congr 1
  omega
theorem good_qPow : Good Tryz.prog (GWL [0, 1]) N0 172 s_qPow := by
 refine goodM 0 (gc good_qOf <| gc good_qMul gn) Tryz.f172 (by kernel_rfl) (by kernel_rfl) fun ds hp F A Q hF hA hQ => ?_
 obtain ⟨x, y, rfl, hx, hy, hb, hg1, hg2⟩ := sp2_arg hp
 obtain ⟨z, e, s, n, cs, rfl, hs, hn, hcs, hz, he, hfz, he1, he2⟩ := canD_arg hx
 obtain ⟨k, rfl⟩ := isi_arg hy
 clear hp hx hy
 cbv
 obtain ⟨Z, hZ⟩ : ∃ Z : Nat → Int, ∀ i : Nat, Z i = tmI (z ^ i) := ⟨_, fun _ => rfl⟩
 obtain ⟨E, hE⟩ : ∃ E : Nat → Int, ∀ i : Nat, E i = teI (z ^ i) (Int.ofNat i * e) := ⟨_, fun _ => rfl⟩
 obtain ⟨J, hJ⟩ : ∃ J : Nat → Int, ∀ i : Nat, J i = Int.ofNat i := ⟨_, fun _ => rfl⟩
 obtain ⟨M, hM⟩ : ∃ M, M = powN k := ⟨_, rfl⟩
 refine And.intro ?_ (loop_by (fun i st => (st.setT 6 (.int .i64 (J i))).setC 2 [.bool (F.neg (Z i)), .sl (F.ln (Z i)) (F.lm (Z i)), .int .i64 (E i)]) (M) ?_ (fun i hi => ?_))
 all_goals try cbv
 repeat' (first | with_reducible refine And.intro ?_ ?_ | (with_reducible refine safe_lift hA ?_; kernel_rfl) | (intro hc_; cbv))
 all_goals (repeat (rw [safe_true hA, true_and]; rotate_left; kernel_rfl))
 all_goals subst hF hA
 all_goals simp only [fnOf, find, std, reduceIte, Nat.reduceEqDiff, sp1, sp2, a1, a2, FnSpec.out, Shape.build, leafs, leafCells, List.cons_append, List.nil_append, s_qPow, s_qOf, s_qMul, dm_raw, dz, dx, dcn, min_if] at *
 all_goals subst hs hn hcs
 all_goals try simp only [vI_N0, hz, he] at *
 all_goals
  have hZ0 : Z 0 = tmI 1 := by rw [hZ, Int.pow_zero]
  have hE0 : E 0 = teI 1 0 := by rw [hE, Int.pow_zero]; congr 1; exact Int.zero_mul e
  have hf : Fit z 1280 := fit_ln (n := 40) hb
  have hn3 := powN_le k
  have hp : (powN k : Int) = min (max k 0) 64 := by unfold powN; omega
 case refine_1 => exact ⟨rfl, by decide, by decide⟩
 case refine_2.refine_1.refine_1 => rw [hJ]; rfl
 case refine_2.refine_2.refine_1.refine_1 => rw [hZ0]
 case refine_2.refine_2.refine_1.refine_2.refine_1 => rw [hZ0]
 case refine_2.refine_2.refine_1.refine_2.refine_2.refine_1 => rw [hE0]
 all_goals
  have hJi : J i = (i : Int) := hJ i
  rw [hJi] at hc_
  have hJ1 : J (i + 1) = J i + 1 := by rw [hJ, hJ]; rfl
  have hFp : Fit (z ^ i) 81921 := pow_fit hf (by omega)
  have hFi : Fit (Z i) 81921 := by rw [hZ]; exact hFp.le (tmI_le _)
  have hZ1 : Z (i + 1) = tmI (Z i * z) := by rw [hZ, hZ, tmI_mulL, Int.pow_succ]
  have hE1 : E (i + 1) = teI (Z i * z) (E i + e) := by
   rw [hE, hE, hZ, teI_mulL, Int.pow_succ]
   congr 1
   rw [show Int.ofNat (i + 1) = Int.ofNat i + 1 from rfl, Int.add_mul, Int.one_mul]
  have hmb := mul_bound (p := (i : Int)) (t := e) (B := 1000000) (by omega) (by omega) (by omega) (by omega) (by omega)
  have hEb : E i = 0 ∨ (z ^ i ≠ 0 ∧ (i : Int) * e ≤ E i ∧ E i ≤ (i : Int) * e + (81921 : Nat)) := by rw [hE]; exact teI_bound hFp
 case refine_3.refine_1.refine_1 => exact ⟨⟨okC_fitN hFi (by omega), by omega, by omega⟩, ⟨okC_fitN hf (by omega), by omega, by omega⟩, Nat.le_trans (hFi.ln (n := 2600) (by omega)) (by omega), by omega, (hFi.mul hf (Nat.le_refl _)).mono (by omega)⟩
 case refine_3.refine_1.refine_2.refine_1 =>
  have := of_decide_eq_true hc_
  exact (show i + 1 ≤ M by omega)
 case refine_3.refine_1.refine_2.refine_2.refine_1.refine_1 => rw [hJ1, wrap_in (by omega) (by omega)]
 case refine_3.refine_1.refine_2.refine_2.refine_2.refine_1.refine_1 => rw [hZ1]
 case refine_3.refine_1.refine_2.refine_2.refine_2.refine_1.refine_2.refine_1 => rw [hZ1]
 case refine_3.refine_1.refine_2.refine_2.refine_2.refine_1.refine_2.refine_2.refine_1 => rw [hE1]
 case refine_3.refine_2 =>
  have hi2 : i = powN k := by have := of_decide_eq_false hc_; omega
  rw [hZ, hE, hi2]
  exact hQ
end Go.Proofs.YtkfojbelnemhbaaGreatDoor.Ev
namespace Go.Proofs.YtkfojbelnemhbaaGreatDoor.Ev
open Go Go.RowKit
def okW : D → Prop | .agg [.bool _, .sl n cs, .int .i64 e] => (n ≤ 100000 → okC n cs) ∧ -9223372036854775808 ≤ e ∧ e ≤ 9223372036854775807 | _ => False
theorem okW_arg {x : D} (h : okW x) : ∃ s n cs e, x = .agg [.bool s, .sl n cs, .int .i64 e] ∧ (n ≤ 100000 → okC n cs) ∧ -9223372036854775808 ≤ e ∧ e ≤ 9223372036854775807 := by
 match x, h with
 | .agg [.bool s, .sl n cs, .int .i64 e], h => exact ⟨s, n, cs, e, rfl, h⟩
theorem okW_mk {s : Bool} {n : Nat} {cs : List D} {e : Int} (h : n ≤ 100000 → okC n cs) (h1 : -9223372036854775808 ≤ e) (h2 : e ≤ 9223372036854775807) : okW (.agg [.bool s, .sl n cs, .int .i64 e]) := ⟨h, h1, h2⟩
theorem tz_is {m c : Int} {k : Nat} (h : m = c * 2 ^ k) (hc : c.natAbs % 2 = 1) : tz m.natAbs = k := by
 have h1 : m.natAbs = c.natAbs * 2 ^ k := by rw [h, Int.natAbs_mul, Int.natAbs_pow]; rfl
 have h2 := tz_mul_pow (n := c.natAbs) (by omega) k
 rw [h1, h2, tz_odd hc, Nat.zero_add]
theorem tmI_is {m c : Int} {k : Nat} (h : m = c * 2 ^ k) (hc : c.natAbs % 2 = 1) (hm : m ≠ 0) : tmI m = c := by
 have h1 := tmI_mul m
 rw [tz_is h hc] at h1
 refine Int.eq_of_mul_eq_mul_right (Int.ne_of_gt (pow_pos' k)) ?_
 rw [h1, h]
theorem teI_is {m c e : Int} {k : Nat} (h : m = c * 2 ^ k) (hc : c.natAbs % 2 = 1) (hm : m ≠ 0) : teI m e = e + k := by
 rw [teI_ne hm, tz_is h hc]
theorem vI_nil : vI false [] = 0 := rfl
theorem okC_nil : okC 0 [] := by
 have h := okC_N0 (z := 0) (by rw [show (0 : Int).natAbs = 0 from rfl, ln_zero]; decide)
 rwa [N0_ln0, N0_lm0] at h
theorem k3 : tmI 3 = 3 := tmI_is (k := 0) (by decide) (by decide) (by decide)
theorem k1 : tmI 1 = 1 := tmI_is (k := 0) (by decide) (by decide) (by decide)
theorem k1e (e : Int) : teI 1 e = e := (teI_is (c := 1) (k := 0) (by decide) (by decide) (by decide)).trans (Int.add_zero e)
end Go.Proofs.YtkfojbelnemhbaaGreatDoor.Ev
namespace Go.Proofs.YtkfojbelnemhbaaGreatDoor.Ev
open Go Go.RowKit
def V (k : Nat) (m e : Int) : Int := m * 2 ^ (e + k).toNat
theorem V_zero (k : Nat) (e : Int) : V k 0 e = 0 := Int.zero_mul _
theorem V_neg (k : Nat) (m e : Int) : V k (-m) e = -V k m e := Int.neg_mul _ _
theorem V_nrm {k : Nat} {m e : Int} (h : -(k : Int) ≤ e) : V k (tmI m) (teI m e) = V k m e := by
 by_cases h0 : m = 0
 ·rw [h0, tmI_zero]; unfold V; rw [Int.zero_mul, Int.zero_mul]
 ·have := tm_val (m := m) (e := e) (k := -(k : Int)) h h0
  unfold V
  rwa [Int.sub_neg, Int.sub_neg] at this
theorem V_add {k : Nat} {mx ex my ey : Int} (h1 : -(k : Int) ≤ ex) (h2 : -(k : Int) ≤ ey) : V k (addM mx ex my ey) (min ex ey) = V k mx ex + V k my ey := by
 have := addM_low (mx := mx) (my := my) h1 h2
 unfold V
 rwa [Int.sub_neg, Int.sub_neg, Int.sub_neg] at this
theorem sg_V (k : Nat) (m e : Int) : sg (V k m e) = sg m := sg_pow _ _
theorem V_inj {k : Nat} {m e n f : Int} (h1 : -(k : Int) ≤ e) (h2 : -(k : Int) ≤ f) (h : V k m e = V k n f) : tmI m = tmI n ∧ teI m e = teI n f := by
 refine nrm_eq (k := -(k : Int)) h1 h2 ?_
 unfold V at h
 rwa [Int.sub_neg, Int.sub_neg]
theorem cmp_V {k : Nat} {mx ex my ey : Int} (h1 : -(k : Int) ≤ ex) (h2 : -(k : Int) ≤ ey) : cmpD mx ex my ey = sg (V k mx ex - V k my ey) := by
 rw [cmpD_sub, ← sg_V k _ (min ex ey), V_add h1 h2, V_neg, Int.sub_eq_add_neg]
theorem V_mul {k l : Nat} {m e n f : Int} (h1 : -(k : Int) ≤ e) (h2 : -(l : Int) ≤ f) : V (k + l) (m * n) (e + f) = V k m e * V l n f := by
 unfold V
 rw [show e + f + ((k + l : Nat) : Int) = (e + k) + (f + l) by omega, pow_sum (by omega) (by omega), Int.mul_assoc, Int.mul_assoc]
 congr 1
 rw [← Int.mul_assoc, ← Int.mul_assoc, Int.mul_comm n]
theorem tmI_addL (a e b f : Int) : tmI (addM (tmI a) (teI a e) b f) = tmI (addM a e b f) := (addM_norm2 a e b f).1
theorem tmI_addR (a e b f : Int) : tmI (addM a e (tmI b) (teI b f)) = tmI (addM a e b f) := (addM_norm a e b f).1
theorem teI_addR (a e b f : Int) : teI (addM a e (tmI b) (teI b f)) (min e (teI b f)) = teI (addM a e b f) (min e f) := (addM_norm a e b f).2
theorem tmI_addN (a e b f : Int) : tmI (addM a e (-tmI b) (teI b f)) = tmI (addM a e (-b) f) := by rw [← tmI_neg, ← teI_neg]; exact tmI_addR _ _ _ _
theorem topI_nrm (a e : Int) : topI (tmI a) (teI a e) = topI a e := by
 by_cases h : a = 0
 ·rw [h, tmI_zero, teI_zero]; rfl
 ·unfold topI
  rw [if_neg h, if_neg (tmI_ne h), teI_ne h]
  have h1 := congrArg Int.natAbs (tmI_mul a)
  rw [natAbs_pow2] at h1
  have h2 := nb_mul_pow (n := (tmI a).natAbs) (by have := tmI_ne h; omega) (tz a.natAbs)
  rw [h1] at h2
  omega
theorem cmpD_nrm (a e b f : Int) : cmpD (tmI a) (teI a e) (tmI b) (teI b f) = cmpD a e b f := by
 rw [cmpD_sub, cmpD_sub, ← sg_tmI, tmI_addN, tmI_addL, sg_tmI]
theorem three {a b : Prop} [Decidable a] [Decidable b] : ¬a ∨ (a ∧ ¬b) ∨ (a ∧ b) := by
 by_cases h : a
 ·by_cases h2 : b
  ·exact .inr (.inr ⟨h, h2⟩)
  ·exact .inr (.inl ⟨h, h2⟩)
 ·exact .inl h
theorem fit_abs {X : Int} {k : Nat} (h : Fit X k) : Fit (X.natAbs : Int) k := h.le (by omega)
theorem fit_tm {X : Int} {k : Nat} (h : Fit X k) : Fit (tmI X) k := h.le (tmI_le _)
theorem isi_int (k : IntKind) (z : Int) : isi k (.int k z) := rfl
theorem okI_mk {s : Bool} {n : Nat} {cs : List D} (h : okC n cs) : okI (.agg [.bool s, .sl n cs]) := h
theorem okE_mk {s : Bool} {n : Nat} {cs : List D} {e : Int} (h : okC n cs) : okE (.agg [.bool s, .sl n cs, .int .i64 e]) := h
theorem okD_mk {s : Bool} {n : Nat} {cs : List D} {e : Int} (h : okC n cs) (h1 : -100000000 ≤ e) (h2 : e ≤ 100000000) : okD (.agg [.bool s, .sl n cs, .int .i64 e]) := ⟨h, h1, h2⟩
theorem near_mk {b : Int} {a1 a2 b1 b2 : D} {e f : Int} (h1 : e - min e f ≤ b) (h2 : f - min f e ≤ b) : near b (.agg [a1, a2, .int .i64 e]) (.agg [b1, b2, .int .i64 f]) := fun _ _ => ⟨h1, h2⟩
theorem te_in {m e a b c : Int} {k : Nat} (h : Fit m k) (h1 : a ≤ e) (h2 : e ≤ b) (ha : a ≤ 0) (hb : 0 ≤ b) (hc : b + (k : Int) = c) : a ≤ teI m e ∧ teI m e ≤ c := by
 rcases teI_bound (e := e) h with h3 | ⟨_, h3, h4⟩ <;> omega
theorem cmpD_nrmL (a e b f : Int) : cmpD (tmI a) (teI a e) b f = cmpD a e b f := by
 rw [cmpD_sub, cmpD_sub, ← sg_tmI, tmI_addL, sg_tmI]
theorem cmpD_nrmR (a e b f : Int) : cmpD a e (tmI b) (teI b f) = cmpD a e b f := by
 rw [cmpD_sub, cmpD_sub, ← sg_tmI, tmI_addN, sg_tmI]
theorem sg_mulW (X Y : Int) : IntKind.i64.wrap (sg X * sg Y) = sg (X * Y) := by
 have key : sg X * sg Y = sg (X * Y) := by
  rcases sg_cases X with ⟨h1, h2⟩ | ⟨h1, h2⟩ | ⟨h1, h2⟩ <;> rcases sg_cases Y with ⟨h3, h4⟩ | ⟨h3, h4⟩ | ⟨h3, h4⟩ <;> rw [h2, h4]
  ·exact (sg_pos (Int.mul_pos_of_neg_of_neg h1 h3)).symm
  ·exact (sg_zero (by rw [h3, Int.mul_zero])).symm
  ·exact (sg_neg (Int.mul_neg_of_neg_of_pos h1 h3)).symm
  ·exact (sg_zero (by rw [h1, Int.zero_mul])).symm
  ·exact (sg_zero (by rw [h1, Int.zero_mul])).symm
  ·exact (sg_zero (by rw [h1, Int.zero_mul])).symm
  ·exact (sg_neg (Int.mul_neg_of_pos_of_neg h1 h3)).symm
  ·exact (sg_zero (by rw [h3, Int.mul_zero])).symm
  ·exact (sg_pos (Int.mul_pos h1 h3)).symm
 rw [key]
 have := sg_range (X * Y)
 exact wrap_in (by omega) (by omega)
theorem fit_1 : Fit 1 32000 := (fit_pow 0).mono (by omega)
theorem four {a b c : Prop} [Decidable a] [Decidable b] [Decidable c] : ¬a ∨ (a ∧ ¬b) ∨ (a ∧ b ∧ ¬c) ∨ (a ∧ b ∧ c) := by
 by_cases h : a
 ·by_cases h2 : b
  ·by_cases h3 : c
   ·exact .inr (.inr (.inr ⟨h, h2, h3⟩))
   ·exact .inr (.inr (.inl ⟨h, h2, h3⟩))
  ·exact .inr (.inl ⟨h, h2⟩)
 ·exact .inl h
end Go.Proofs.YtkfojbelnemhbaaGreatDoor.Ev
