/- Contracts: known, few, Same. -/
import Derived.Test.YtopkndkicdgafaaDoorRoot
namespace Go.Proofs.YtopkndkicdgafaaDoor
open Go.RowKit

set_option maxHeartbeats 400000 in
theorem few_any (w : World) (A : Option Addr) (n c : Nat) : Calls Tryd.prog 18 #[.slice A n c] w fun e w' => e = .returned (.bool (decide (n ≤ 24))) ∧ w = w' := by
  go_enter Tryd.func18, Tryd.ntmps18
  go_wp2
  go_ret
  exact ⟨ret_bool (by rw [Bool.eq_iff_iff, decide_eq_true_iff, decide_eq_true_iff]; omega), rfl⟩

/-- a list of one digit, as its limbs. -/
theorem lm_one {w : World} {A : Option Addr} {m c x : Nat} (h : Lm w A m c (lim x)) (h0 : x ≠ 0) (hx : x < Bs) : m = 1 ∧ ∃ b o, A = some ⟨b, o, none⟩ ∧ w.cell? ⟨b, o, none⟩ = some (d32 x) := by
  have hl := h.len
  rw [lim_single h0 hx] at h hl
  have hm : m = 1 := hl.symm
  subst hm
  obtain ⟨b, o, e, _, hc⟩ := h.at_ (k := 0) (by omega)
  exact ⟨rfl, b, o, e, by have := hc 0 (by omega); rw [Nat.add_zero] at this; exact this⟩
theorem val_01 : val [0, 1] = 4294967296 := by rw [val_cons, val_single, Bs_eq]
theorem val_5 : val [5] = 5 := val_single 5

theorem lim_01 : lim (val [0, 1]) = [0, 1] := lim_of_canon (Ok.of_mem (fun x hx => by rw [Bs_eq]; simp at hx; omega)) (.inr (by decide))
theorem dec_01 : decide (lim (val [0, 1]) = [0, 1]) = true := decide_eq_true lim_01
theorem dec_0 : decide (lim (val [0]) = [0]) = false := by
  rw [val_single, lim_zero]; rfl
theorem nb_33 : nb 4294967296 = 33 := nb_unique (k := 32) (by omega) (by omega)
theorem tz_32 : tz 4294967296 = 32 := tz_of 32 0
theorem rt_16 : rt 4294967296 = 65536 := rt_unique (by omega) (by omega)

set_option maxHeartbeats 4000000 in
theorem known_any (w : World) (hT : Tab w) : Calls Tryd.prog 17 #[] w fun e w' => e = .returned (.bool true) ∧ Below w.heap.size w w' := by
  have HT := Lib.hid hT
  clear hT
  go_enter Tryd.func17, Tryd.ntmps17
  go_wp2_with fail
  obtain ⟨w1, hw1⟩ : ∃ w1, w1 = ((w.alloc (.cells #[.int .u32 0, .int .u32 1] 37)).alloc (.cells #[.int .u32 5] 37)) := ⟨_, rfl⟩
  rw [← hw1]
  have hb1 : Below w.heap.size w w1 := by rw [hw1]; exact ((Below.refl _ _).alloc (Nat.le_refl _) _).alloc (by simp) _
  have ha : Lm w1 (some ⟨w.heap.size, 0, none⟩) 2 2 [0, 1] := by
    rw [hw1]
    have h1 : Own (w.alloc (.cells #[.int .u32 0, .int .u32 1] 37)) w.heap.size [0, 1] := Own.list w [0, 1]
    exact (h1.alloc _).lm (Ok.of_mem (fun x hx => by rw [Bs_eq]; simp at hx; omega)) (by simp)
  have hb : Lm w1 (some ⟨w.heap.size + 1, 0, none⟩) 1 1 [5] := by
    rw [hw1]
    have h1 := Own.list (w.alloc (.cells #[.int .u32 0, .int .u32 1] 37)) [5]
    rw [World.size_alloc] at h1
    exact h1.lm (Ok.of_mem (fun x hx => by rw [Bs_eq]; simp at hx; omega)) (by simp)
  clear hw1
  have HT1 := Lib.hid (HT.out.bel hb1)
  clear HT
  have c1 := Lib.hid (div_any w1 _ _ _ _ _ _ _ _ ha hb (by omega))
  refine c1.out.mono ?_
  clear c1
  rw [val_01, val_5]
  intro e w2 hD
  rcases hD with ⟨hz, _⟩ | ⟨_, Aq, mq, cq, Ar, mr, cr, rfl, hq, hr, _, _, hb2⟩
  · omega
  obtain ⟨rfl, bq, oq, rfl, hcq⟩ := lm_one (x := 858993459) hq (by omega) (by rw [Bs_eq]; omega)
  obtain ⟨rfl, br, or, rfl, hcr⟩ := lm_one (x := 1) hr (by omega) (by rw [Bs_eq]; omega)
  have ha2 := ha.bel hb2
  have hbb2 := hb.bel hb2
  have hB2 := hb1.trans (hb2.mono hb1.size)
  have HT2 := Lib.hid (HT1.out.bel hb2)
  clear ha hb hb2 hb1 HT1 hcq hcr
  have c2 := Lib.hid (sub_any w2 _ _ _ _ _ _ _ _ ha2 hbb2)
  go_wp2_with fail
  refine c2.out.mono ?_
  clear c2
  rw [val_01, val_5]
  intro e w3 hS
  rcases hS with ⟨hz, _⟩ | ⟨_, Ad, md, cd, rfl, hd, _, hb3⟩
  · omega
  obtain ⟨rfl, bd, od, rfl, hcd⟩ := lm_one (x := 4294967291) hd (by omega) (by rw [Bs_eq]; omega)
  have ha3 := ha2.bel hb3
  have hbb3 := hbb2.bel hb3
  have hq3 := hq.bel hb3
  have hr3 := hr.bel hb3
  have hB3 := hB2.trans (hb3.mono hB2.size)
  have HT3 := Lib.hid (HT2.out.bel hb3)
  clear ha2 hbb2 hq hr hB2 hb3 HT2 hcd
  have c3 := Lib.hid (sub_any w3 _ _ _ _ _ _ _ _ hbb3 ha3)
  go_wp2_with fail
  refine c3.out.mono ?_
  clear c3
  rw [val_01, val_5]
  intro e w4 hS
  rcases hS with ⟨_, rfl, hb4⟩ | ⟨hz, _⟩
  case inr => omega
  have ha4 := ha3.bel hb4
  have hbb4 := hbb3.bel hb4
  have hq4 := hq3.bel hb4
  have hr4 := hr3.bel hb4
  have hd4 := hd.bel hb4
  have hB4 := hB3.trans (hb4.mono hB3.size)
  have HT4 := Lib.hid (HT3.out.bel hb4)
  clear ha3 hbb3 hq3 hr3 hd hB3 hb4 HT3
  have c4 := Lib.hid (div_any w4 _ _ _ _ _ _ _ _ ha4 (Lm.nil w4) (by omega))
  go_wp2_with fail
  refine c4.out.mono ?_
  clear c4
  rw [val_01, val_nil]
  intro e w5 hS
  rcases hS with ⟨_, rfl, hb5⟩ | ⟨hz, _⟩
  case inr => exact absurd rfl hz
  have ha5 := ha4.bel hb5
  have hbb5 := hbb4.bel hb5
  obtain ⟨_, bq', oq', eq', hcq⟩ := lm_one (x := 858993459) (hq4.bel hb5) (by omega) (by rw [Bs_eq]; omega)
  obtain ⟨_, br', or', er', hcr⟩ := lm_one (x := 1) (hr4.bel hb5) (by omega) (by rw [Bs_eq]; omega)
  obtain ⟨_, bd', od', ed', hcd⟩ := lm_one (x := 4294967291) (hd4.bel hb5) (by omega) (by rw [Bs_eq]; omega)
  injection eq' with eq'; injection eq' with e1 e2; subst e1 e2
  injection er' with er'; injection er' with e1 e2; subst e1 e2
  injection ed' with ed'; injection ed' with e1 e2; subst e1 e2
  have hB5 := hB4.trans (hb5.mono hB4.size)
  have HT5 := Lib.hid (HT4.out.bel hb5)
  clear ha4 hbb4 hq4 hr4 hd4 hB4 hb5 HT4
  have c5 := Lib.hid (is_any w5 _ _ _ _ ha5)
  go_wp2_with fail
  refine c5.out.mono ?_
  clear c5
  rw [dec_01]
  rintro e w' ⟨rfl, rfl⟩
  go_wp2_with fail
  obtain ⟨w6, hw6⟩ : ∃ w6, w6 = w5.alloc (.cells #[.int .u32 0] 37) := ⟨_, rfl⟩
  rw [← hw6]
  have hb6 : Below w5.heap.size w5 w6 := by rw [hw6]; exact (Below.refl _ _).alloc (Nat.le_refl _) _
  have h0 : Lm w6 (some ⟨w5.heap.size, 0, none⟩) 1 1 [0] := by
    rw [hw6]
    exact (Own.list w5 [0]).lm (Ok.of_mem (fun x hx => by rw [Bs_eq]; simp at hx; omega)) (by simp)
  have ha6 := ha5.bel hb6
  have hbb6 := hbb5.bel hb6
  have hB6 := hB5.trans (hb6.mono hB5.size)
  have HT6 := Lib.hid (HT5.out.bel hb6)
  clear hw6 hb6 ha5 hbb5 hB5 HT5 hcq hcr hcd
  have c6 := Lib.hid (is_any w6 _ _ _ _ h0)
  refine c6.out.mono ?_
  clear c6
  rw [dec_0]
  rintro e w' ⟨rfl, rfl⟩
  have c7 := Lib.hid (cmp_any w6 _ _ _ _ _ _ _ _ ha6 hbb6)
  go_wp2_with fail
  refine c7.out.mono ?_
  clear c7
  rw [val_01, val_5, cmpN_gt (by omega : 5 < 4294967296)]
  rintro e w7 ⟨rfl, nq, hw7⟩
  have hb7 : Below w6.heap.size w6 w7 := by rw [hw7]; exact below_drewN (Below.refl _ _) nq
  have ha7 := ha6.bel hb7
  have hB7 := hB6.trans (hb7.mono hB6.size)
  have HT7 := Lib.hid (HT6.out.bel hb7)
  clear hw7 hb7 ha6 hbb6 hB6 HT6 h0
  have c8 := Lib.hid (bits_any w7 _ _ _ _ ha7)
  go_wp2_with fail
  refine c8.out.mono ?_
  clear c8
  rw [val_01, nb_33]
  rintro e w' ⟨rfl, rfl⟩
  have c9 := Lib.hid (low_any w7 _ _ _ _ ha7 HT7.out)
  go_wp2_with fail
  refine c9.out.mono ?_
  clear c9
  rw [val_01, tz_32]
  rintro e w' ⟨rfl, rfl⟩
  have c10 := Lib.hid (root_any w7 _ _ _ _ ha7 (by omega))
  go_wp2_with fail
  refine c10.out.mono ?_
  clear c10
  rw [val_01, rt_16]
  rintro e w8 ⟨A8, m8, c8, rfl, hl8, _, hb8⟩
  obtain ⟨rfl, _⟩ := lm_one (x := 65536) hl8 (by omega) (by rw [Bs_eq]; omega)
  go_wp2
  go_ret
  exact ⟨rfl, hB7.trans (hb8.mono hB7.size)⟩

end Go.Proofs.YtopkndkicdgafaaDoor
