import Derived.Test.YtkfojbelnemhbaaGreatDoorGu
import Derived.Test.YtkfojbelnemhbaaGreatDoorEw1
set_option linter.all false
namespace Go.Proofs.YtkfojbelnemhbaaGreatDoor.Ev
open Go Go.RowKit
theorem sz_min {a b : Dy} {L H : Nat} (ha : sz a L H) (hb : sz b L H) : sz (dmin a b) L H := by rcases dmin_or a b with ⟨e, _⟩ | ⟨e, _⟩ <;> rw [e] <;> assumption
theorem sz_max {a b : Dy} {L H : Nat} (ha : sz a L H) (hb : sz b L H) : sz (dmax a b) L H := by rcases dmax_or a b with ⟨e, _⟩ | ⟨e, _⟩ <;> rw [e] <;> assumption
theorem sz_zero (L H : Nat) : sz (0, 0) L H := ⟨0, by unfold Fit; exact Nat.pow_pos (by decide), by rw [qv_zero, qv_zero]⟩
theorem sz_abs {a : Dy} {L H : Nat} (ha : sz a L H) : sz a.abs L H := by
 obtain ⟨Z, h1, h2⟩ := ha
 have h3 := qv_abs0 a
 rcases h3.2.1 with h | h
 ·exact ⟨Z, h1, by rw [h]; exact h2⟩
 ·exact ⟨-Z, h1.neg, by rw [h, h2, qv_neg']⟩
theorem cz_rn {x : Re} {L H : Nat} (h : cz x L H) : cz (rn x) L H := by
 rcases rn_ends x with e | e <;> rw [e]
 ·exact ⟨sz_n h.1, sz_n h.2⟩
 ·exact ⟨sz_n h.2, sz_n h.1⟩
theorem cz_radd {x y : Re} {L H : Nat} (h : cz x L H) (g : cz y L H) : cz (radd x y) L (H + 1) := ⟨sz_add h.1 g.1, sz_add h.2 g.2⟩
theorem cz_rneg {x : Re} {L H : Nat} (h : cz x L H) : cz (rneg x) L H := ⟨sz_neg h.2, sz_neg h.1⟩
theorem cz_rsub {x y : Re} {L H : Nat} (h : cz x L H) (g : cz y L H) : cz (rsub x y) L (H + 1) := cz_radd h (cz_rneg g)
theorem cz_rmul {x y : Re} {L H M K : Nat} (h : cz x L H) (g : cz y M K) : cz (rmul x y) (L + M) (H + K) :=
 ⟨sz_min (sz_min (sz_mul h.1 g.1) (sz_mul h.1 g.2)) (sz_min (sz_mul h.2 g.1) (sz_mul h.2 g.2)), sz_max (sz_max (sz_mul h.1 g.1) (sz_mul h.1 g.2)) (sz_max (sz_mul h.2 g.1) (sz_mul h.2 g.2))⟩
theorem cz_rabs {x : Re} {L H : Nat} (h : cz x L H) : cz (rabs x) L H := by
 unfold rabs
 split
 ·exact ⟨sz_zero _ _, sz_max (sz_abs h.1) (sz_abs h.2)⟩
 ·exact ⟨sz_min (sz_abs h.1) (sz_abs h.2), sz_max (sz_abs h.1) (sz_abs h.2)⟩
theorem cz_sq {x : Re} {L H : Nat} (h : cz x L H) : cz (rpow x 2) (L + L) (H + H) := by
 have g := cz_rabs h
 show cz ((rabs x).1.pow 2, (rabs x).2.pow 2) _ _
 rw [pow_two, pow_two]
 exact ⟨sz_mul g.1 g.1, sz_mul g.2 g.2⟩
theorem cz_rhull {x y : Re} {L H : Nat} (h : cz x L H) (g : cz y L H) : cz (rhull x y) L H := ⟨sz_min h.1 g.1, sz_max h.2 g.2⟩
theorem cz_rmeet {x y : Re} {L H : Nat} (h : cz x L H) (g : cz y L H) : cz (rmeet x y) L H := ⟨sz_max h.1 g.1, sz_min h.2 g.2⟩
theorem cz_zero (L H : Nat) : cz ((0, 0), (0, 0)) L H := ⟨sz_zero _ _, sz_zero _ _⟩
theorem cz_fR {x : Re} {k B : Nat} (h : fR x k B) : cz x B (k + B) := ⟨sz_fD h.1, sz_fD h.2⟩
theorem sz_low {a : Dy} {L H : Nat} (hn : a.n = a) (h : sz a L H) : a.1 = 0 ∨ (-(L : Int) ≤ a.2 ∧ (nb a.1.natAbs : Int) + a.2 ≤ H ∧ V L a.1 a.2 = V L a.1 a.2 ∧ (V L a.1 a.2).natAbs < 2 ^ (L + H)) := by
 obtain ⟨Z, h1, h2⟩ := h
 have h3 := qv_inj.1 h2
 rw [hn] at h3
 by_cases h0 : a.1 = 0
 ·exact .inl h0
 ·right
  have hz : Z ≠ 0 := fun hz => by
   rw [h3, hz] at h0
   exact h0 (show tmI 0 = 0 from tmI_zero)
  have e1 : a.1 = tmI Z := congrArg Prod.fst h3
  have e2 : a.2 = teI Z (-(L : Int)) := congrArg Prod.snd h3
  have h4 := te_ge (e := -(L : Int)) hz
  have hV : V L a.1 a.2 = Z := by
   rw [e1, e2, V_nrm (by omega)]
   unfold V
   rw [show (-(L : Int) + L).toNat = 0 by omega, Int.pow_zero, Int.mul_one]
  have hlow : -(L : Int) ≤ a.2 := by rw [e2]; exact h4
  refine ⟨hlow, ?_, rfl, by rw [hV]; exact h1⟩
  have h5 : a.1.natAbs * 2 ^ (a.2 + L).toNat < 2 ^ (L + H) := by rw [← V_abs, hV]; exact h1
  have h6 : a.1.natAbs ≠ 0 := by omega
  have h7 := nb_mul_pow h6 (a.2 + L).toNat
  have h8 := nb_le_of_lt h5
  omega
theorem sz_V {a : Dy} {L H : Nat} (hl : -(L : Int) ≤ a.2) (h : (V L a.1 a.2).natAbs < 2 ^ (L + H)) : sz a L H := by
 refine ⟨V L a.1 a.2, h, ?_⟩
 have h1 := qv_V (k := L) (a := a) hl
 show qv a = ((V L a.1 a.2 : Int) : Rat) * (2 : Rat) ^ (-(L : Int))
 rw [h1, Rat.mul_assoc, ← zp_nat, ← Rat.zpow_add two_ne, show (L : Int) + -(L : Int) = 0 by omega, Rat.zpow_zero, Rat.mul_one]
theorem sz_to {a : Dy} {L H : Nat} (h : sz a L H) (h1 : L + H ≤ 19000) (p md : Int) : sz (a.to p md) L (H + 1) := by
 rw [← to_nn]
 have hs := sz_n h
 rcases sz_low (n_n a) hs with h0 | ⟨h2, h3, _, h4⟩
 ·unfold Dy.to
  rw [(gm_lies (.inl h0)).1, (gm_lies (.inl h0)).2, h0, tmI_zero, teI_zero]
  exact sz_zero _ _
 ·obtain ⟨b, hb⟩ : ∃ b, b = a.n := ⟨_, rfl⟩
  rw [← hb] at h2 h3 h4 ⊢
  by_cases h0 : b.1 = 0
  ·unfold Dy.to
   rw [(gm_lies (.inl h0)).1, (gm_lies (.inl h0)).2, h0, tmI_zero, teI_zero]
   exact sz_zero _ _
  have hb0 : b.1.natAbs ≠ 0 := by omega
  have hT : topI b.1 b.2 = (nb b.1.natAbs : Int) - 1 + b.2 := if_neg h0
  have hnb : nb b.1.natAbs ≠ 0 := fun h => by have := nb_zero_iff.1 h; omega
  by_cases hlow : -(L : Int) ≤ stepI b.1 b.2 p
  ·have hst : stepI b.1 b.2 p = topI b.1 b.2 - min (max p 1) 4000 + 1 := by unfold stepI clampE at hlow ⊢; omega
   have hV := V_grid (k := L) (m := b.1) (E := stepI b.1 b.2 p) md h2 hlow
   have hU : (0 : Int) < 2 ^ (stepI b.1 b.2 p + L).toNat := pow_pos' _
   have hUP : (2 : Int) ^ (stepI b.1 b.2 p + L).toNat * 2 ^ (min (max p 1) 4000).toNat = 2 ^ (topI b.1 b.2 + 1 + L).toNat := by rw [← Int.pow_add]; congr 1; omega
   have hv : (V L b.1 b.2).natAbs < 2 ^ (topI b.1 b.2 + 1 + L).toNat := by
    rw [V_abs, show (topI b.1 b.2 + 1 + L).toNat = nb b.1.natAbs + (b.2 + L).toNat by omega, Nat.pow_add]
    exact Nat.mul_lt_mul_of_pos_right (lt_pow_nb _) (Nat.pow_pos (by decide))
   have hc := pow2_cast (topI b.1 b.2 + 1 + L).toNat
   have hr := rd_top (mode := md) (v := V L b.1 b.2) (P := 2 ^ (min (max p 1) 4000).toNat) hU (by rw [hUP]; omega) (by rw [hUP]; omega)
   rw [← hV, hUP] at hr
   have hg := ge_low (k := L) (m := b.1) md h2 hlow
   refine sz_V (a := (gm b.1 b.2 (stepI b.1 b.2 p) md, ge b.1 b.2 (stepI b.1 b.2 p) md)) hg ?_
   have hw : (V L (gm b.1 b.2 (stepI b.1 b.2 p) md) (ge b.1 b.2 (stepI b.1 b.2 p) md)).natAbs ≤ 2 ^ (topI b.1 b.2 + 1 + L).toNat := by omega
   refine Nat.lt_of_le_of_lt hw ?_
   exact Nat.pow_lt_pow_right (by decide) (by omega)
  ·have hE : stepI b.1 b.2 p ≤ teI b.1 b.2 := by
    have := te_ge (e := b.2) h0
    omega
   have e1 : b.to p md = b.n := by
    unfold Dy.to
    rw [(gm_lies (.inr hE)).1, (gm_lies (.inr hE)).2]; rfl
   rw [e1]
   exact sz_mono (sz_n (by rw [hb]; exact hs)) (Nat.le_refl _) (by omega)
theorem cz_round {x : Re} {L H : Nat} (h : cz x L H) (h1 : L + H ≤ 19000) (p : Int) : cz (rround x p) L (H + 1) := ⟨sz_to h.1 h1 _ _, sz_to h.2 h1 _ _⟩
theorem sz_inv {b : Dy} {L H P : Nat} (hn : b.n = b) (h : sz b L H) (hb : b.1 ≠ 0) (hLH : L + H ≤ 14000) {p : Int} (hp : p ≤ P) (hP1 : 1 ≤ P) (hP : P ≤ 1000) (md : Int) : sz (Dy.div (1, 0) b p md) (H + P) (L + 2) := by
 rcases sz_low hn h with h0 | ⟨h2, h3, _, _⟩
 ·exact absurd h0 hb
 have hb0 : b.1.natAbs ≠ 0 := by omega
 have hnb : nb b.1.natAbs ≠ 0 := fun h => by have := nb_zero_iff.1 h; omega
 have hq := topQ_low (M := (1 : Int).natAbs) (N := b.1.natAbs)
 have h1 : nb (1 : Int).natAbs = 1 := by decide
 have hD : topD 1 0 b.1 b.2 = topQ (1 : Int).natAbs b.1.natAbs + 0 - b.2 := rfl
 rw [h1] at hq
 have e1 : qE 1 0 b.1 b.2 p = qE 1 0 b.1 b.2 (max p 1) := by
  unfold qE
  rw [show min (max p 1) 4000 = min (max (max p 1) 1) 4000 by omega]
 have hE := qE_is (X := 1) (e := 0) (Y := b.1) (f := b.2) (p := max p 1) (by omega) (by omega) (by omega) (by omega)
 have hl := qm_le (X := 1) (e := 0) (f := b.2) (max p 1) hb (by omega) md
 rw [← hE] at hl
 unfold Dy.div
 rw [e1]
 obtain ⟨E, hEe⟩ : ∃ E, E = qE 1 0 b.1 b.2 (max p 1) := ⟨_, rfl⟩
 rw [← hEe] at hl hE ⊢
 refine sz_n (sz_V (a := (qm 1 0 b.1 b.2 E md, E)) (show -((H + P : Nat) : Int) ≤ E by omega) ?_)
 rw [V_abs]
 refine Nat.lt_of_le_of_lt (Nat.mul_le_mul_right _ hl) ?_
 rw [← Nat.pow_add]
 exact Nat.pow_lt_pow_right (by decide) (by show _ + (E + ((H + P : Nat) : Int)).toNat < _; omega)
theorem rat_lt1 {a b c : Rat} (h : a ≤ b) (k : b < c) : a < c := Rat.not_le.1 fun hc => Rat.not_le.2 k (Rat.le_trans hc h)
theorem rat_lt2 {a b c : Rat} (h : a < b) (k : b ≤ c) : a < c := Rat.not_le.1 fun hc => Rat.not_le.2 h (Rat.le_trans k hc)
theorem cz_inv {x : Re} {L H P : Nat} (hc : ccan x) (h : cz x L H) (h0 : 0 < qv x.1 ∨ qv x.2 < 0) (ho : rok x) (hLH : L + H ≤ 14000) {p : Int} (hp : p ≤ P) (hP1 : 1 ≤ P) (hP : P ≤ 1000) : cz (rinv x p) (H + P) (L + 2) := by
 have h1 : x.1.1 ≠ 0 := fun h => by
  have h2 := (qv_eq0 x.1).2 h
  rcases h0 with h3 | h3
  ·rw [h2] at h3; exact absurd h3 (by decide)
  ·have : qv x.1 < 0 := rat_lt1 ho h3
   rw [h2] at this; exact absurd this (by decide)
 have h2 : x.2.1 ≠ 0 := fun h => by
  have h2 := (qv_eq0 x.2).2 h
  rcases h0 with h3 | h3
  ·have : 0 < qv x.2 := rat_lt2 h3 ho
   rw [h2] at this; exact absurd this (by decide)
  ·rw [h2] at h3; exact absurd h3 (by decide)
 exact ⟨sz_inv hc.2 h.2 h2 hLH hp hP1 hP _, sz_inv hc.1 h.1 h1 hLH hp hP1 hP _⟩
theorem ccan_of {x : Re} (h : rcan x) : ccan x := ⟨h.2.1, h.2.2⟩
def rz (x : Re) (L H : Nat) : Prop := rcan x ∧ cz x L H
theorem rz.fR {x : Re} {L H : Nat} (h : rz x L H) : fR x (L + H) (L + H) := cz_can (ccan_of h.1) h.2
theorem rz.c {x : Re} {L H : Nat} (h : rz x L H) (hl : L + H ≤ 19200) : rC x := rC_of h.1 h.fR hl (by omega)
theorem rz.mono {x : Re} {L H L' H' : Nat} (h : rz x L H) (h1 : L ≤ L') (h2 : H ≤ H') : rz x L' H' := ⟨h.1, cz_mono h.2 h1 h2⟩
theorem rz_add {x y : Re} {L H : Nat} (h : rz x L H) (g : rz y L H) : rz (radd x y) L (H + 1) := ⟨rcan_radd h.1.1 g.1.1, cz_radd h.2 g.2⟩
theorem rz_sub {x y : Re} {L H : Nat} (h : rz x L H) (g : rz y L H) : rz (rsub x y) L (H + 1) := ⟨rcan_rsub h.1.1 g.1.1, cz_rsub h.2 g.2⟩
theorem rz_neg {x : Re} {L H : Nat} (h : rz x L H) : rz (rneg x) L H := ⟨rcan_rneg h.1.1, cz_rneg h.2⟩
theorem rz_mul {x y : Re} {L H M K : Nat} (h : rz x L H) (g : rz y M K) : rz (rmul x y) (L + M) (H + K) := ⟨rcan_rmul h.1.1 g.1.1, cz_rmul h.2 g.2⟩
theorem rz_sq {x : Re} {L H : Nat} (h : rz x L H) : rz (rpow x 2) (L + L) (H + H) := ⟨rcan_rpow h.1.1 2, cz_sq h.2⟩
theorem rz_hull {x y : Re} {L H : Nat} (h : rz x L H) (g : rz y L H) : rz (rhull x y) L H := ⟨rcan_rhull h.1 g.1, cz_rhull h.2 g.2⟩
theorem rz_round {x : Re} {L H : Nat} (h : rz x L H) (hl : L + H ≤ 19000) (p : Int) : rz (rround x p) L (H + 1) := ⟨rcan_rround h.1.1 p, cz_round h.2 hl p⟩
theorem rz_inv {x : Re} {L H P : Nat} (h : rz x L H) (h0 : 0 < qv x.1 ∨ qv x.2 < 0) (hLH : L + H ≤ 14000) {p : Int} (hp : p ≤ P) (hP1 : 1 ≤ P) (hP : P ≤ 1000) : rz (rinv x p) (H + P) (L + 2) := ⟨rcan_rinv h.1.1 h0 p, cz_inv (ccan_of h.1) h.2 h0 h.1.1 hLH hp hP1 hP⟩
theorem rcan_zero : rcan ((0, 0), (0, 0)) := ⟨Rat.le_refl, zero_n, zero_n⟩
theorem rz_zero (L H : Nat) : rz ((0, 0), (0, 0)) L H := ⟨rcan_zero, cz_zero _ _⟩
abbrev Rc := Re × Re
def rcn (x : Rc) : Rc := (rn x.1, rn x.2)
def pz (x : Rc) (L H : Nat) : Prop := rz x.1 L H ∧ rz x.2 L H
def pcan (x : Rc) : Prop := rcan x.1 ∧ rcan x.2
theorem pz.can {x : Rc} {L H : Nat} (h : pz x L H) : pcan x := ⟨h.1.1, h.2.1⟩
theorem pcan_rcn (x : Rc) : pcan (rcn x) := ⟨rcan_rn _, rcan_rn _⟩
theorem pcan.id {x : Rc} (h : pcan x) : rcn x = x := Prod.ext h.1.id h.2.id
theorem rcn_rcn (x : Rc) : rcn (rcn x) = rcn x := (pcan_rcn x).id
def padd (x y : Rc) : Rc := (radd x.1 y.1, radd x.2 y.2)
def psub (x y : Rc) : Rc := (rsub x.1 y.1, rsub x.2 y.2)
def pneg (x : Rc) : Rc := (rneg x.1, rneg x.2)
def phull (x y : Rc) : Rc := (rhull x.1 y.1, rhull x.2 y.2)
def pround (x : Rc) (p : Int) : Rc := (rround x.1 p, rround x.2 p)
def pmul (x y : Rc) : Rc := (rsub (rmul x.1 y.1) (rmul x.2 y.2), radd (rmul x.1 y.2) (rmul x.2 y.1))
def psq (x : Rc) : Rc := (rsub (rpow x.1 2) (rpow x.2 2), radd (rmul x.1 x.2) (rmul x.1 x.2))
def pnorm (x : Rc) : Re := radd (rpow x.1 2) (rpow x.2 2)
def ppt (a : Re) : Rc := ((a.1, a.1), (a.2, a.2))
def pzero : Rc := (((0, 0), (0, 0)), ((0, 0), (0, 0)))
def ppw (x : Rc) : Nat → Rc
 | 0 => ppt cone
 | k + 1 => pmul (ppw x k) x
def pmid (x : Rc) : Re := ((x.1.1.add x.1.2).scl (-1), (x.2.1.add x.2.2).scl (-1))
def pinvZ (x : Rc) (p : Int) : Rc := (rdivZ x.1 (pnorm x) p, rdivZ (rneg x.2) (pnorm x) p)
def pdivZ (x y : Rc) (p : Int) : Rc := if er0 (pnorm y) = 0 then pround (pmul x (pinvZ y p)) p else pzero
def pmeetB (x y : Rc) : Bool := meetB x.1 y.1 && meetB x.2 y.2
def pmeetZ (x y : Rc) : Rc := if pmeetB x y = true then (rmeetZ (rn x.1) (rn y.1), rmeetZ (rn x.2) (rn y.2)) else pzero
theorem pz_rcn {x : Rc} {L H : Nat} (h1 : cz x.1 L H) (h2 : cz x.2 L H) : pz (rcn x) L H := ⟨⟨rcan_rn _, cz_rn h1⟩, rcan_rn _, cz_rn h2⟩
theorem pz.mono {x : Rc} {L H L' H' : Nat} (h : pz x L H) (h1 : L ≤ L') (h2 : H ≤ H') : pz x L' H' := ⟨h.1.mono h1 h2, h.2.mono h1 h2⟩
theorem pz_add {x y : Rc} {L H : Nat} (h : pz x L H) (g : pz y L H) : pz (padd x y) L (H + 1) := ⟨rz_add h.1 g.1, rz_add h.2 g.2⟩
theorem pz_sub {x y : Rc} {L H : Nat} (h : pz x L H) (g : pz y L H) : pz (psub x y) L (H + 1) := ⟨rz_sub h.1 g.1, rz_sub h.2 g.2⟩
theorem pz_neg {x : Rc} {L H : Nat} (h : pz x L H) : pz (pneg x) L H := ⟨rz_neg h.1, rz_neg h.2⟩
theorem pz_hull {x y : Rc} {L H : Nat} (h : pz x L H) (g : pz y L H) : pz (phull x y) L H := ⟨rz_hull h.1 g.1, rz_hull h.2 g.2⟩
theorem pz_round {x : Rc} {L H : Nat} (h : pz x L H) (hl : L + H ≤ 19000) (p : Int) : pz (pround x p) L (H + 1) := ⟨rz_round h.1 hl p, rz_round h.2 hl p⟩
theorem pz_mul {x y : Rc} {L H M K : Nat} (h : pz x L H) (g : pz y M K) : pz (pmul x y) (L + M) (H + K + 1) := ⟨rz_sub (rz_mul h.1 g.1) (rz_mul h.2 g.2), rz_add (rz_mul h.1 g.2) (rz_mul h.2 g.1)⟩
theorem pz_sq {x : Rc} {L H : Nat} (h : pz x L H) : pz (psq x) (L + L) (H + H + 1) := ⟨rz_sub (rz_sq h.1) (rz_sq h.2), rz_add (rz_mul h.1 h.2) (rz_mul h.1 h.2)⟩
theorem pz_norm {x : Rc} {L H : Nat} (h : pz x L H) : rz (pnorm x) (L + L) (H + H + 1) := rz_add (rz_sq h.1) (rz_sq h.2)
theorem sz_one : sz (1, 0) 0 1 := ⟨1, by unfold Fit; decide, rfl⟩
theorem rz_one : rz ((1, 0), (1, 0)) 0 1 := ⟨⟨Rat.le_refl, one_n, one_n⟩, sz_one, sz_one⟩
theorem pz_one : pz (ppt cone) 0 1 := ⟨rz_one, rz_zero _ _⟩
theorem pz_zero (L H : Nat) : pz pzero L H := ⟨rz_zero _ _, rz_zero _ _⟩
theorem pz_pw {x : Rc} {L H : Nat} (h : pz x L H) : ∀ k, pz (ppw x k) (L * k) ((H + 1) * k + 1)
 | 0 => pz_one.mono (by omega) (by omega)
 | k + 1 => (pz_mul (pz_pw h k) h).mono (by rw [Nat.mul_add, Nat.mul_one]; exact Nat.le_refl _) (by rw [Nat.mul_add (H + 1) k 1]; omega)
theorem cz_pt {a : Re} {L H : Nat} (hc : ccan a) (h : cz a L H) : pz (ppt a) L H := ⟨⟨⟨Rat.le_refl, hc.1, hc.1⟩, h.1, h.1⟩, ⟨Rat.le_refl, hc.2, hc.2⟩, h.2, h.2⟩
theorem rz_divZ {x y : Re} {L H M K P : Nat} (h : rz x L H) (g : rz y M K) (hLH : M + K ≤ 14000) {p : Int} (hp : p ≤ P) (hP1 : 1 ≤ P) (hP : P ≤ 1000) (hs : L + (K + P) + (H + (M + 2)) ≤ 19000) : rz (rdivZ x y p) (L + (K + P)) (H + (M + 2) + 1) := by
 unfold rdivZ
 split
 ·exact rz_zero _ _
 ·rename_i hz
  have h0 : 0 < qv y.1 ∨ qv y.2 < 0 := by
   have hh : ¬zeroY (rn y) = true := by rw [g.1.id]; exact hz
   have := not_zero hh
   rwa [g.1.id] at this
  exact rz_round (rz_mul h (rz_inv g h0 hLH hp hP1 hP)) (by omega) p
theorem mid_rn (x : Re) : (rn x).1.add (rn x).2 = x.1.add x.2 := by
 refine nn_eq (add_n _ _) (add_n _ _) ?_
 rw [qv_add, qv_add]
 rcases rn_ends x with e | e <;> rw [e]
 ·rw [qv_n, qv_n]
 ·rw [qv_n, qv_n, Rat.add_comm]
theorem pmid_rcn (x : Rc) : pmid (rcn x) = pmid x := by unfold pmid rcn; dsimp only; rw [mid_rn, mid_rn]
theorem ccan_mid (x : Rc) : ccan (pmid x) := ⟨scl_n _ _, scl_n _ _⟩
theorem ppw_can {x : Rc} (h : pcan x) : ∀ k, pcan (ppw x k)
 | 0 => pz_one.can
 | k + 1 => ⟨rcan_rsub (rcan_rmul (ppw_can h k).1.1 h.1.1).1 (rcan_rmul (ppw_can h k).2.1 h.2.1).1, rcan_radd (rcan_rmul (ppw_can h k).1.1 h.2.1).1 (rcan_rmul (ppw_can h k).2.1 h.1.1).1⟩
end Go.Proofs.YtkfojbelnemhbaaGreatDoor.Ev
