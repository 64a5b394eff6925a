import Derived.Test.YtnjjfakjnkhhjaaGreatDoorGu
import Derived.Test.YtnjjfakjnkhhjaaGreatDoorEw1
set_option linter.all false
namespace Go.Proofs.YtnjjfakjnkhhjaaGreatDoor.Ev
open Go Go.RowKit
theorem sz_zero (L H : Nat) : sz (0, 0) L H := ⟨0, by unfold Fit; exact Nat.pow_pos (by decide), by rw [qv_zero, qv_zero]⟩
theorem cz_rn {x : Re} {L H : Nat} (h : cz x L H) : cz (rn x) L H := by
 rcases rn_ends x with e | e <;> rw [e]
 ·exact ⟨sz_n h.1, sz_n h.2⟩
 ·exact ⟨sz_n h.2, sz_n h.1⟩
theorem sz_low {a : Dy} {L H : Nat} (hn : a.n = a) (h : sz a L H) : a.1 = 0 ∨ (-(L : Int) ≤ a.2 ∧ (nb a.1.natAbs : Int) + a.2 ≤ H ∧ V L a.1 a.2 = V L a.1 a.2 ∧ (V L a.1 a.2).natAbs < 2 ^ (L + H)) := by
 obtain ⟨Z, h1, h2⟩ := h
 have h3 := qv_inj.1 h2
 rw [hn] at h3
 by_cases h0 : a.1 = 0
 ·exact .inl h0
 ·right
  have hz : Z ≠ 0 := fun hz => by
   rw [h3, hz] at h0
   exact h0 (show tmI 0 = 0 from tmI_zero)
  have e1 : a.1 = tmI Z := congrArg Prod.fst h3
  have e2 : a.2 = teI Z (-(L : Int)) := congrArg Prod.snd h3
  have h4 := te_ge (e := -(L : Int)) hz
  have hV : V L a.1 a.2 = Z := by
   rw [e1, e2, V_nrm (by omega)]
   unfold V
   rw [show (-(L : Int) + L).toNat = 0 by omega, Int.pow_zero, Int.mul_one]
  have hlow : -(L : Int) ≤ a.2 := by rw [e2]; exact h4
  refine ⟨hlow, ?_, rfl, by rw [hV]; exact h1⟩
  have h5 : a.1.natAbs * 2 ^ (a.2 + L).toNat < 2 ^ (L + H) := by rw [← V_abs, hV]; exact h1
  have h6 : a.1.natAbs ≠ 0 := by omega
  have h7 := nb_mul_pow h6 (a.2 + L).toNat
  have h8 := nb_le_of_lt h5
  omega
theorem sz_V {a : Dy} {L H : Nat} (hl : -(L : Int) ≤ a.2) (h : (V L a.1 a.2).natAbs < 2 ^ (L + H)) : sz a L H := by
 refine ⟨V L a.1 a.2, h, ?_⟩
 have h1 := qv_V (k := L) (a := a) hl
 show qv a = ((V L a.1 a.2 : Int) : Rat) * (2 : Rat) ^ (-(L : Int))
 rw [h1, Rat.mul_assoc, ← zp_nat, ← Rat.zpow_add two_ne, show (L : Int) + -(L : Int) = 0 by omega, Rat.zpow_zero, Rat.mul_one]
theorem sz_to {a : Dy} {L H : Nat} (h : sz a L H) (h1 : L + H ≤ 19000) (p md : Int) : sz (a.to p md) L (H + 1) := by
 rw [← to_nn]
 have hs := sz_n h
 rcases sz_low (n_n a) hs with h0 | ⟨h2, h3, _, h4⟩
 ·unfold Dy.to
  rw [(gm_lies (.inl h0)).1, (gm_lies (.inl h0)).2, h0, tmI_zero, teI_zero]
  exact sz_zero _ _
 ·obtain ⟨b, hb⟩ : ∃ b, b = a.n := ⟨_, rfl⟩
  rw [← hb] at h2 h3 h4 ⊢
  by_cases h0 : b.1 = 0
  ·unfold Dy.to
   rw [(gm_lies (.inl h0)).1, (gm_lies (.inl h0)).2, h0, tmI_zero, teI_zero]
   exact sz_zero _ _
  have hb0 : b.1.natAbs ≠ 0 := by omega
  have hT : topI b.1 b.2 = (nb b.1.natAbs : Int) - 1 + b.2 := if_neg h0
  have hnb : nb b.1.natAbs ≠ 0 := fun h => by have := nb_zero_iff.1 h; omega
  by_cases hlow : -(L : Int) ≤ stepI b.1 b.2 p
  ·have hst : stepI b.1 b.2 p = topI b.1 b.2 - min (max p 1) 4000 + 1 := by unfold stepI clampE at hlow ⊢; omega
   have hV := V_grid (k := L) (m := b.1) (E := stepI b.1 b.2 p) md h2 hlow
   have hU : (0 : Int) < 2 ^ (stepI b.1 b.2 p + L).toNat := pow_pos' _
   have hUP : (2 : Int) ^ (stepI b.1 b.2 p + L).toNat * 2 ^ (min (max p 1) 4000).toNat = 2 ^ (topI b.1 b.2 + 1 + L).toNat := by rw [← Int.pow_add]; congr 1; omega
   have hv : (V L b.1 b.2).natAbs < 2 ^ (topI b.1 b.2 + 1 + L).toNat := by
    rw [V_abs, show (topI b.1 b.2 + 1 + L).toNat = nb b.1.natAbs + (b.2 + L).toNat by omega, Nat.pow_add]
    exact Nat.mul_lt_mul_of_pos_right (lt_pow_nb _) (Nat.pow_pos (by decide))
   have hc := pow2_cast (topI b.1 b.2 + 1 + L).toNat
   have hr := rd_top (mode := md) (v := V L b.1 b.2) (P := 2 ^ (min (max p 1) 4000).toNat) hU (by rw [hUP]; omega) (by rw [hUP]; omega)
   rw [← hV, hUP] at hr
   have hg := ge_low (k := L) (m := b.1) md h2 hlow
   refine sz_V (a := (gm b.1 b.2 (stepI b.1 b.2 p) md, ge b.1 b.2 (stepI b.1 b.2 p) md)) hg ?_
   have hw : (V L (gm b.1 b.2 (stepI b.1 b.2 p) md) (ge b.1 b.2 (stepI b.1 b.2 p) md)).natAbs ≤ 2 ^ (topI b.1 b.2 + 1 + L).toNat := by omega
   refine Nat.lt_of_le_of_lt hw ?_
   exact Nat.pow_lt_pow_right (by decide) (by omega)
  ·have hE : stepI b.1 b.2 p ≤ teI b.1 b.2 := by
    have := te_ge (e := b.2) h0
    omega
   have e1 : b.to p md = b.n := by
    unfold Dy.to
    rw [(gm_lies (.inr hE)).1, (gm_lies (.inr hE)).2]; rfl
   rw [e1]
   exact sz_mono (sz_n (by rw [hb]; exact hs)) (Nat.le_refl _) (by omega)
theorem ccan_of {x : Re} (h : rcan x) : ccan x := ⟨h.2.1, h.2.2⟩
def rz (x : Re) (L H : Nat) : Prop := rcan x ∧ cz x L H
theorem rz.fR {x : Re} {L H : Nat} (h : rz x L H) : fR x (L + H) (L + H) := cz_can (ccan_of h.1) h.2
theorem rz.c {x : Re} {L H : Nat} (h : rz x L H) (hl : L + H ≤ 19200) : rC x := rC_of h.1 h.fR hl (by omega)
theorem rz.mono {x : Re} {L H L' H' : Nat} (h : rz x L H) (h1 : L ≤ L') (h2 : H ≤ H') : rz x L' H' := ⟨h.1, cz_mono h.2 h1 h2⟩
abbrev Rc := Re × Re
def rcn (x : Rc) : Rc := (rn x.1, rn x.2)
def pz (x : Rc) (L H : Nat) : Prop := rz x.1 L H ∧ rz x.2 L H
def pcan (x : Rc) : Prop := rcan x.1 ∧ rcan x.2
theorem pz.can {x : Rc} {L H : Nat} (h : pz x L H) : pcan x := ⟨h.1.1, h.2.1⟩
theorem pcan.id {x : Rc} (h : pcan x) : rcn x = x := Prod.ext h.1.id h.2.id
def padd (x y : Rc) : Rc := (radd x.1 y.1, radd x.2 y.2)
def psub (x y : Rc) : Rc := (rsub x.1 y.1, rsub x.2 y.2)
def pneg (x : Rc) : Rc := (rneg x.1, rneg x.2)
def phull (x y : Rc) : Rc := (rhull x.1 y.1, rhull x.2 y.2)
def pround (x : Rc) (p : Int) : Rc := (rround x.1 p, rround x.2 p)
def pmul (x y : Rc) : Rc := (rsub (rmul x.1 y.1) (rmul x.2 y.2), radd (rmul x.1 y.2) (rmul x.2 y.1))
def psq (x : Rc) : Rc := (rsub (rpow x.1 2) (rpow x.2 2), radd (rmul x.1 x.2) (rmul x.1 x.2))
def pnorm (x : Rc) : Re := radd (rpow x.1 2) (rpow x.2 2)
def ppt (a : Re) : Rc := ((a.1, a.1), (a.2, a.2))
def pzero : Rc := (((0, 0), (0, 0)), ((0, 0), (0, 0)))
def pmid (x : Rc) : Re := ((x.1.1.add x.1.2).scl (-1), (x.2.1.add x.2.2).scl (-1))
def pinvZ (x : Rc) (p : Int) : Rc := (rdivZ x.1 (pnorm x) p, rdivZ (rneg x.2) (pnorm x) p)
theorem pz.mono {x : Rc} {L H L' H' : Nat} (h : pz x L H) (h1 : L ≤ L') (h2 : H ≤ H') : pz x L' H' := ⟨h.1.mono h1 h2, h.2.mono h1 h2⟩
theorem mid_rn (x : Re) : (rn x).1.add (rn x).2 = x.1.add x.2 := by
 refine nn_eq (add_n _ _) (add_n _ _) ?_
 rw [qv_add, qv_add]
 rcases rn_ends x with e | e <;> rw [e]
 ·rw [qv_n, qv_n]
 ·rw [qv_n, qv_n, Rat.add_comm]
theorem pmid_rcn (x : Rc) : pmid (rcn x) = pmid x := by unfold pmid rcn; dsimp only; rw [mid_rn, mid_rn]
end Go.Proofs.YtnjjfakjnkhhjaaGreatDoor.Ev
namespace Go.Proofs.YtnjjfakjnkhhjaaGreatDoor.Ev
open Go Go.RowKit
theorem sq_nn (a : Rat) : 0 ≤ a * a := by
 rcases Rat.le_total (a := 0) (b := a) with h | h
 ·exact Rat.mul_nonneg h h
 ·have h1 : 0 ≤ -a := by grind
  have h2 := Rat.mul_nonneg h1 h1
  have h3 : -a * -a = a * a := by grind
  rwa [h3] at h2
theorem qv_half (a : Dy) : qv (a.scl (-1)) = qv a / 2 := by
 unfold Dy.scl
 rw [qv_n]
 show qv (a.1, a.2 + -1) = _
 unfold qv
 dsimp only
 rw [Rat.zpow_add two_ne]
 have : (2 : Rat) ^ (-1 : Int) = 1 / 2 := by decide +kernel
 rw [this]; grind
end Go.Proofs.YtnjjfakjnkhhjaaGreatDoor.Ev
