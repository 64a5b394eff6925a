import Derived.Test.YtnjjfakjnkhhjaaGreatDoorEvq
set_option linter.all false
namespace Go.Proofs.YtnjjfakjnkhhjaaGreatDoor.Ev
open Go Go.RowKit
def powN (k : Int) : Nat := (min (max k 0) 64).toNat
end Go.Proofs.YtnjjfakjnkhhjaaGreatDoor.Ev
namespace Go.Proofs.YtnjjfakjnkhhjaaGreatDoor.Ev
open Go Go.RowKit
def okW : D → Prop | .agg [.bool _, .sl n cs, .int .i64 e] => (n ≤ 100000 → okC n cs) ∧ -9223372036854775808 ≤ e ∧ e ≤ 9223372036854775807 | _ => False
theorem okW_arg {x : D} (h : okW x) : ∃ s n cs e, x = .agg [.bool s, .sl n cs, .int .i64 e] ∧ (n ≤ 100000 → okC n cs) ∧ -9223372036854775808 ≤ e ∧ e ≤ 9223372036854775807 := by
 match x, h with
 | .agg [.bool s, .sl n cs, .int .i64 e], h => exact ⟨s, n, cs, e, rfl, h⟩
theorem okW_mk {s : Bool} {n : Nat} {cs : List D} {e : Int} (h : n ≤ 100000 → okC n cs) (h1 : -9223372036854775808 ≤ e) (h2 : e ≤ 9223372036854775807) : okW (.agg [.bool s, .sl n cs, .int .i64 e]) := ⟨h, h1, h2⟩
theorem tz_is {m c : Int} {k : Nat} (h : m = c * 2 ^ k) (hc : c.natAbs % 2 = 1) : tz m.natAbs = k := by
 have h1 : m.natAbs = c.natAbs * 2 ^ k := by rw [h, Int.natAbs_mul, Int.natAbs_pow]; rfl
 have h2 := tz_mul_pow (n := c.natAbs) (by omega) k
 rw [h1, h2, tz_odd hc, Nat.zero_add]
theorem tmI_is {m c : Int} {k : Nat} (h : m = c * 2 ^ k) (hc : c.natAbs % 2 = 1) (hm : m ≠ 0) : tmI m = c := by
 have h1 := tmI_mul m
 rw [tz_is h hc] at h1
 refine Int.eq_of_mul_eq_mul_right (Int.ne_of_gt (pow_pos' k)) ?_
 rw [h1, h]
theorem teI_is {m c e : Int} {k : Nat} (h : m = c * 2 ^ k) (hc : c.natAbs % 2 = 1) (hm : m ≠ 0) : teI m e = e + k := by
 rw [teI_ne hm, tz_is h hc]
theorem vI_nil : vI false [] = 0 := rfl
theorem okC_nil : okC 0 [] := by
 have h := okC_N0 (z := 0) (by rw [show (0 : Int).natAbs = 0 from rfl, ln_zero]; decide)
 rwa [N0_ln0, N0_lm0] at h
theorem k3 : tmI 3 = 3 := tmI_is (k := 0) (by decide) (by decide) (by decide)
theorem k1 : tmI 1 = 1 := tmI_is (k := 0) (by decide) (by decide) (by decide)
theorem k1e (e : Int) : teI 1 e = e := (teI_is (c := 1) (k := 0) (by decide) (by decide) (by decide)).trans (Int.add_zero e)
end Go.Proofs.YtnjjfakjnkhhjaaGreatDoor.Ev
namespace Go.Proofs.YtnjjfakjnkhhjaaGreatDoor.Ev
open Go Go.RowKit
def V (k : Nat) (m e : Int) : Int := m * 2 ^ (e + k).toNat
theorem V_zero (k : Nat) (e : Int) : V k 0 e = 0 := Int.zero_mul _
theorem V_neg (k : Nat) (m e : Int) : V k (-m) e = -V k m e := Int.neg_mul _ _
theorem V_nrm {k : Nat} {m e : Int} (h : -(k : Int) ≤ e) : V k (tmI m) (teI m e) = V k m e := by
 by_cases h0 : m = 0
 ·rw [h0, tmI_zero]; unfold V; rw [Int.zero_mul, Int.zero_mul]
 ·have := tm_val (m := m) (e := e) (k := -(k : Int)) h h0
  unfold V
  rwa [Int.sub_neg, Int.sub_neg] at this
theorem V_add {k : Nat} {mx ex my ey : Int} (h1 : -(k : Int) ≤ ex) (h2 : -(k : Int) ≤ ey) : V k (addM mx ex my ey) (min ex ey) = V k mx ex + V k my ey := by
 have := addM_low (mx := mx) (my := my) h1 h2
 unfold V
 rwa [Int.sub_neg, Int.sub_neg, Int.sub_neg] at this
theorem sg_V (k : Nat) (m e : Int) : sg (V k m e) = sg m := sg_pow _ _
theorem V_inj {k : Nat} {m e n f : Int} (h1 : -(k : Int) ≤ e) (h2 : -(k : Int) ≤ f) (h : V k m e = V k n f) : tmI m = tmI n ∧ teI m e = teI n f := by
 refine nrm_eq (k := -(k : Int)) h1 h2 ?_
 unfold V at h
 rwa [Int.sub_neg, Int.sub_neg]
theorem cmp_V {k : Nat} {mx ex my ey : Int} (h1 : -(k : Int) ≤ ex) (h2 : -(k : Int) ≤ ey) : cmpD mx ex my ey = sg (V k mx ex - V k my ey) := by
 rw [cmpD_sub, ← sg_V k _ (min ex ey), V_add h1 h2, V_neg, Int.sub_eq_add_neg]
theorem tmI_addL (a e b f : Int) : tmI (addM (tmI a) (teI a e) b f) = tmI (addM a e b f) := (addM_norm2 a e b f).1
theorem tmI_addR (a e b f : Int) : tmI (addM a e (tmI b) (teI b f)) = tmI (addM a e b f) := (addM_norm a e b f).1
theorem teI_addR (a e b f : Int) : teI (addM a e (tmI b) (teI b f)) (min e (teI b f)) = teI (addM a e b f) (min e f) := (addM_norm a e b f).2
theorem tmI_addN (a e b f : Int) : tmI (addM a e (-tmI b) (teI b f)) = tmI (addM a e (-b) f) := by rw [← tmI_neg, ← teI_neg]; exact tmI_addR _ _ _ _
theorem topI_nrm (a e : Int) : topI (tmI a) (teI a e) = topI a e := by
 by_cases h : a = 0
 ·rw [h, tmI_zero, teI_zero]; rfl
 ·unfold topI
  rw [if_neg h, if_neg (tmI_ne h), teI_ne h]
  have h1 := congrArg Int.natAbs (tmI_mul a)
  rw [natAbs_pow2] at h1
  have h2 := nb_mul_pow (n := (tmI a).natAbs) (by have := tmI_ne h; omega) (tz a.natAbs)
  rw [h1] at h2
  omega
theorem cmpD_nrm (a e b f : Int) : cmpD (tmI a) (teI a e) (tmI b) (teI b f) = cmpD a e b f := by
 rw [cmpD_sub, cmpD_sub, ← sg_tmI, tmI_addN, tmI_addL, sg_tmI]
theorem three {a b : Prop} [Decidable a] [Decidable b] : ¬a ∨ (a ∧ ¬b) ∨ (a ∧ b) := by
 by_cases h : a
 ·by_cases h2 : b
  ·exact .inr (.inr ⟨h, h2⟩)
  ·exact .inr (.inl ⟨h, h2⟩)
 ·exact .inl h
theorem fit_tm {X : Int} {k : Nat} (h : Fit X k) : Fit (tmI X) k := h.le (tmI_le _)
theorem isi_int (k : IntKind) (z : Int) : isi k (.int k z) := rfl
theorem okI_mk {s : Bool} {n : Nat} {cs : List D} (h : okC n cs) : okI (.agg [.bool s, .sl n cs]) := h
theorem okE_mk {s : Bool} {n : Nat} {cs : List D} {e : Int} (h : okC n cs) : okE (.agg [.bool s, .sl n cs, .int .i64 e]) := h
theorem okD_mk {s : Bool} {n : Nat} {cs : List D} {e : Int} (h : okC n cs) (h1 : -100000000 ≤ e) (h2 : e ≤ 100000000) : okD (.agg [.bool s, .sl n cs, .int .i64 e]) := ⟨h, h1, h2⟩
theorem near_mk {b : Int} {a1 a2 b1 b2 : D} {e f : Int} (h1 : e - min e f ≤ b) (h2 : f - min f e ≤ b) : near b (.agg [a1, a2, .int .i64 e]) (.agg [b1, b2, .int .i64 f]) := fun _ _ => ⟨h1, h2⟩
theorem te_in {m e a b c : Int} {k : Nat} (h : Fit m k) (h1 : a ≤ e) (h2 : e ≤ b) (ha : a ≤ 0) (hb : 0 ≤ b) (hc : b + (k : Int) = c) : a ≤ teI m e ∧ teI m e ≤ c := by
 rcases teI_bound (e := e) h with h3 | ⟨_, h3, h4⟩ <;> omega
theorem sg_mulW (X Y : Int) : IntKind.i64.wrap (sg X * sg Y) = sg (X * Y) := by
 have key : sg X * sg Y = sg (X * Y) := by
  rcases sg_cases X with ⟨h1, h2⟩ | ⟨h1, h2⟩ | ⟨h1, h2⟩ <;> rcases sg_cases Y with ⟨h3, h4⟩ | ⟨h3, h4⟩ | ⟨h3, h4⟩ <;> rw [h2, h4]
  ·exact (sg_pos (Int.mul_pos_of_neg_of_neg h1 h3)).symm
  ·exact (sg_zero (by rw [h3, Int.mul_zero])).symm
  ·exact (sg_neg (Int.mul_neg_of_neg_of_pos h1 h3)).symm
  ·exact (sg_zero (by rw [h1, Int.zero_mul])).symm
  ·exact (sg_zero (by rw [h1, Int.zero_mul])).symm
  ·exact (sg_zero (by rw [h1, Int.zero_mul])).symm
  ·exact (sg_neg (Int.mul_neg_of_pos_of_neg h1 h3)).symm
  ·exact (sg_zero (by rw [h3, Int.mul_zero])).symm
  ·exact (sg_pos (Int.mul_pos h1 h3)).symm
 rw [key]
 have := sg_range (X * Y)
 exact wrap_in (by omega) (by omega)
end Go.Proofs.YtnjjfakjnkhhjaaGreatDoor.Ev
