/- Contracts of package whole: Cmp. -/
import Derived.Test.YtopkndkicdgafaaDoorWE
import Derived.Deep.RegionHeld3
namespace Go.Proofs.YtopkndkicdgafaaDoor
open Go.RowKit

theorem compare_z (w : World) (x y : Int) {ρ : Int} (hρ : sg (x - y) = ρ) : Calls Tryd.prog 80 #[.int .i64 x, .int .i64 y] w fun e w' => e = .returned (.int .i64 ρ) ∧ w = w' := by
  subst hρ
  rcases Int.lt_trichotomy x y with h | h | h
  · rw [sg_neg (by omega)]
    go_enter Tryd.func80, Tryd.ntmps80
    go_wp2
    go_ret
    exact ⟨rfl, rfl⟩
  · subst h
    rw [sg_zero (by omega)]
    go_enter Tryd.func80, Tryd.ntmps80
    go_wp2
    go_ret
    exact ⟨rfl, rfl⟩
  · rw [sg_pos (by omega)]
    go_enter Tryd.func80, Tryd.ntmps80
    go_wp2
    go_ret
    exact ⟨rfl, rfl⟩
theorem ncmp_bel (w : World) (A : Option Addr) (n c : Nat) (xs : List Nat) (A' : Option Addr) (n' c' : Nat) (ys : List Nat) (h : Lm w A n c xs) (h' : Lm w A' n' c' ys) {q : Int} (hq : cmpN (val xs) (val ys) = q) :
    Calls Tryd.prog 27 #[.slice A n c, .slice A' n' c'] w fun e w' => e = .returned (.int .i64 q) ∧ Below w.heap.size w w' :=
  (cmp_any w A n c xs A' n' c' ys h h').mono fun _ _ ⟨he, hw⟩ => ⟨by rw [← hq]; exact he, by obtain ⟨nq, rfl⟩ := hw; exact below_drewN (Below.refl _ _) nq⟩
theorem sg_ne {X Y σ τ : Int} (h : sg X = σ) (h' : sg Y = τ) (hne : σ ≠ τ) : sg (σ - τ) = sg (X - Y) := by
  subst h; subst h'
  rcases sg_cases X with ⟨h, e⟩ | ⟨h, e⟩ | ⟨h, e⟩ <;> rcases sg_cases Y with ⟨h', e'⟩ | ⟨h', e'⟩ | ⟨h', e'⟩ <;> rw [e, e'] at hne ⊢ <;> first | exact absurd rfl hne | (rw [sg_neg (X := X - Y) (by omega)]; rfl) | (rw [sg_pos (X := X - Y) (by omega)]; rfl)
theorem sg_eq {X Y σ : Int} {a b : Nat} (h : sg X = σ) (h' : sg Y = σ) (ha : X.natAbs = a) (hb : Y.natAbs = b) : σ * cmpN a b = sg (X - Y) ∧ (-1 ≤ σ * cmpN a b ∧ σ * cmpN a b ≤ 1) := by
  have h3 : σ * cmpN a b = sg (X - Y) := by
    subst h
    rcases sg_cases X with ⟨h, e⟩ | ⟨h, e⟩ | ⟨h, e⟩ <;> rcases sg_cases Y with ⟨h4, e'⟩ | ⟨h4, e'⟩ | ⟨h4, e'⟩ <;> rw [e] at h' ⊢ <;> rw [e'] at h' <;> (try omega)
    all_goals
      unfold cmpN sg
      split <;> (try split) <;> (try split) <;> (try split) <;> omega
  exact ⟨h3, by rw [h3]; exact sg_range _⟩
set_option maxHeartbeats 2000000 in
theorem wcmp_ne (w : World) (sa : Bool) (Aa : Option Addr) (na ca : Nat) (xa : List Nat) (La : Lm w Aa na ca xa) (sb : Bool) (Ab : Option Addr) (nb cb : Nat) (xb : List Nat) (Lb : Lm w Ab nb cb xb) {σ τ : Int} (hσ : sg (sgn sa (val xa)) = σ) (hτ : sg (sgn sb (val xb)) = τ) (hne : σ ≠ τ) :
    Calls Tryd.prog 55 #[.agg #[.bool sa, .slice Aa na ca], .agg #[.bool sb, .slice Ab nb cb]] w fun e w' => e = .returned (.int .i64 (sg (sgn sa (val xa) - sgn sb (val xb)))) ∧ Below w.heap.size w w' := by
  have hp := sg_ne hσ hτ hne
  have hn : (σ != τ) = true := by rw [bne_iff_ne]; exact hne
  obtain ⟨ρ, hρ⟩ : ∃ ρ, sg (sgn sa (val xa) - sgn sb (val xb)) = ρ := ⟨_, rfl⟩
  rw [hρ] at hp
  rw [hρ]
  have HP := Lib.hid hp
  clear hρ hp hne
  have Hσ := Lib.hid hσ
  have Hτ := Lib.hid hτ
  clear hσ hτ
  go_enter Tryd.func55, Tryd.ntmps55
  go_wp2_with fail
  obtain ⟨ga, hga⟩ : ∃ g, g = w.heap.size := ⟨_, rfl⟩
  obtain ⟨gb, hgb⟩ : ∃ g, g = w.heap.size + 1 := ⟨_, rfl⟩
  obtain ⟨w1, hw1⟩ : ∃ v, v = ((w.alloc (.cells #[.bool sa, .slice Aa na ca] 43)).alloc (.cells #[.bool sb, .slice Ab nb cb] 43)) := ⟨_, rfl⟩
  have bel1 : Below w.heap.size w w1 := by rw [hw1]; exact bel_alloc2 _ _ _
  have b_a1 : Box w1 ga sa Aa na ca := by rw [hw1, hga]; exact ((Box.new _ _ _ _ _).alloc _)
  have b_b1 : Box w1 gb sb Ab nb cb := by rw [hw1, hgb]; exact (Box.at1 _ _ _ _ _ _)
  rw [← hw1, ← hgb, ← hga]
  have hgs : w.heap.size ≤ ga ∧ w.heap.size ≤ gb ∧ ga ≠ gb ∧ gb ≠ ga := by omega
  have HG := Lib.hid hgs
  clear hw1 hgs hga hgb
  have l_a1 := La.bel bel1
  have l_b1 := Lb.bel bel1
  have c_a0_1 := b_a1.c0
  have c_a1_1 := b_a1.c1
  have c_b0_1 := b_b1.c0
  have c_b1_1 := b_b1.c1
  go_region_held3 (fun w' => (Box w' ga sa Aa na ca ∧ w'.cell? ⟨ga, 0, none⟩ = some (.bool sa) ∧ w'.cell? ⟨ga, 1, none⟩ = some (.slice Aa na ca)) ∧ (Box w' gb sb Ab nb cb ∧ w'.cell? ⟨gb, 0, none⟩ = some (.bool sb) ∧ w'.cell? ⟨gb, 1, none⟩ = some (.slice Ab nb cb)))
    (first
      | exact ⟨held0 (w := w1.drew) b_a1, held0 (w := w1.drew) b_b1⟩
      | exact keep20 (by assumption) (by assumption))
    (first
      | (go_at_call 53; go_at_call_of 53 (Value.slice Aa na ca); refine (wsign_at _ sa Aa na ca xa ?_ Hσ.out).mono ?_; exact l_a1.drew; rintro e w2 ⟨rfl, hb2⟩)
      | (go_at_call 53; go_at_call_of 53 (Value.slice Ab nb cb); refine (wsign_at _ sb Ab nb cb xb ?_ Hτ.out).mono ?_; exact l_b1.drew.bel hb2; rintro e w3 ⟨rfl, hb3⟩))
  have hbx := bel_next (bel_undrew hb2) hb3
  have b_a2 := b_a1.bel hbx
  have b_b2 := b_b1.bel hbx
  have l_a2 := l_a1.bel hbx
  have l_b2 := l_b1.bel hbx
  have bel2 := bel1.trans (hbx.mono bel1.size)
  have c_a0_2 := b_a2.c0
  have c_a1_2 := b_a2.c1
  have c_b0_2 := b_b2.c0
  have c_b1_2 := b_b2.c1
  clear hbx b_a1 c_a0_1 c_a1_1 b_b1 c_b0_1 c_b1_1 l_a1 l_b1 bel1
  clear hb2 hb3
  go_wp2_with fail
  have cc := Lib.hid (compare_z w3 σ τ HP.out)
  refine cc.out.mono ?_
  clear cc
  rintro e w' ⟨rfl, rfl⟩
  go_wp2
  go_ret
  exact ⟨rfl, bel2⟩
set_option maxHeartbeats 2000000 in
theorem wcmp_eq (w : World) (sa : Bool) (Aa : Option Addr) (na ca : Nat) (xa : List Nat) (La : Lm w Aa na ca xa) (sb : Bool) (Ab : Option Addr) (nb cb : Nat) (xb : List Nat) (Lb : Lm w Ab nb cb xb) {σ τ : Int} (hσ : sg (sgn sa (val xa)) = σ) (hτ : sg (sgn sb (val xb)) = τ) (hne : σ = τ) :
    Calls Tryd.prog 55 #[.agg #[.bool sa, .slice Aa na ca], .agg #[.bool sb, .slice Ab nb cb]] w fun e w' => e = .returned (.int .i64 (sg (sgn sa (val xa) - sgn sb (val xb)))) ∧ Below w.heap.size w w' := by
  subst hne
  obtain ⟨q, hq⟩ : ∃ q, cmpN (val xa) (val xb) = q := ⟨_, rfl⟩
  have hp := sg_eq hσ hτ (sgn_natAbs _ _) (sgn_natAbs _ _)
  rw [hq] at hp
  obtain ⟨ρ, hρ⟩ : ∃ ρ, sg (sgn sa (val xa) - sgn sb (val xb)) = ρ := ⟨_, rfl⟩
  rw [hρ] at hp
  rw [hρ]
  have hw1 : σ * q = ρ := hp.1
  have hw : IntKind.i64.wrap ρ = ρ := wrap_pm (by omega)
  have HQ := Lib.hid hq
  clear hρ hp hq
  have Hσ := Lib.hid hσ
  have Hτ := Lib.hid hτ
  clear hσ hτ
  go_enter Tryd.func55, Tryd.ntmps55
  go_wp2_with fail
  obtain ⟨ga, hga⟩ : ∃ g, g = w.heap.size := ⟨_, rfl⟩
  obtain ⟨gb, hgb⟩ : ∃ g, g = w.heap.size + 1 := ⟨_, rfl⟩
  obtain ⟨w1, hw1⟩ : ∃ v, v = ((w.alloc (.cells #[.bool sa, .slice Aa na ca] 43)).alloc (.cells #[.bool sb, .slice Ab nb cb] 43)) := ⟨_, rfl⟩
  have bel1 : Below w.heap.size w w1 := by rw [hw1]; exact bel_alloc2 _ _ _
  have b_a1 : Box w1 ga sa Aa na ca := by rw [hw1, hga]; exact ((Box.new _ _ _ _ _).alloc _)
  have b_b1 : Box w1 gb sb Ab nb cb := by rw [hw1, hgb]; exact (Box.at1 _ _ _ _ _ _)
  rw [← hw1, ← hgb, ← hga]
  have hgs : w.heap.size ≤ ga ∧ w.heap.size ≤ gb ∧ ga ≠ gb ∧ gb ≠ ga := by omega
  have HG := Lib.hid hgs
  clear hw1 hgs hga hgb
  have l_a1 := La.bel bel1
  have l_b1 := Lb.bel bel1
  have c_a0_1 := b_a1.c0
  have c_a1_1 := b_a1.c1
  have c_b0_1 := b_b1.c0
  have c_b1_1 := b_b1.c1
  go_region_held3 (fun w' => (Box w' ga sa Aa na ca ∧ w'.cell? ⟨ga, 0, none⟩ = some (.bool sa) ∧ w'.cell? ⟨ga, 1, none⟩ = some (.slice Aa na ca)) ∧ (Box w' gb sb Ab nb cb ∧ w'.cell? ⟨gb, 0, none⟩ = some (.bool sb) ∧ w'.cell? ⟨gb, 1, none⟩ = some (.slice Ab nb cb)))
    (first
      | exact ⟨held0 (w := w1.drew) b_a1, held0 (w := w1.drew) b_b1⟩
      | exact keep20 (by assumption) (by assumption))
    (first
      | (go_at_call 53; go_at_call_of 53 (Value.slice Aa na ca); refine (wsign_at _ sa Aa na ca xa ?_ Hσ.out).mono ?_; exact l_a1.drew; rintro e w2 ⟨rfl, hb2⟩)
      | (go_at_call 53; go_at_call_of 53 (Value.slice Ab nb cb); refine (wsign_at _ sb Ab nb cb xb ?_ Hτ.out).mono ?_; exact l_b1.drew.bel hb2; rintro e w3 ⟨rfl, hb3⟩))
  have hbx := bel_next (bel_undrew hb2) hb3
  have b_a2 := b_a1.bel hbx
  have b_b2 := b_b1.bel hbx
  have l_a2 := l_a1.bel hbx
  have l_b2 := l_b1.bel hbx
  have bel2 := bel1.trans (hbx.mono bel1.size)
  have c_a0_2 := b_a2.c0
  have c_a1_2 := b_a2.c1
  have c_b0_2 := b_b2.c0
  have c_b1_2 := b_b2.c1
  clear hbx b_a1 c_a0_1 c_a1_1 b_b1 c_b0_1 c_b1_1 l_a1 l_b1 bel1
  clear hb2 hb3
  go_wp2_with fail
  have cc := Lib.hid (ncmp_bel w3 Aa na ca xa Ab nb cb xb l_a2 l_b2 HQ.out)
  refine cc.out.mono ?_
  clear cc
  rintro e w3 ⟨rfl, hb3⟩
  have b_a3 := b_a2.bel hb3
  have b_b3 := b_b2.bel hb3
  have l_a3 := l_a2.bel hb3
  have l_b3 := l_b2.bel hb3
  have bel3 := bel2.trans (hb3.mono bel2.size)
  have c_a0_3 := b_a3.c0
  have c_a1_3 := b_a3.c1
  have c_b0_3 := b_b3.c0
  have c_b1_3 := b_b3.c1
  clear hb3 b_a2 c_a0_2 c_a1_2 b_b2 c_b0_2 c_b1_2 l_a2 l_b2 bel2
  go_wp2
  go_ret
  exact ⟨rfl, bel3⟩
theorem wcmp_any (w : World) (sa : Bool) (Aa : Option Addr) (na ca : Nat) (xa : List Nat) (La : Lm w Aa na ca xa) (sb : Bool) (Ab : Option Addr) (nb cb : Nat) (xb : List Nat) (Lb : Lm w Ab nb cb xb) :
    Calls Tryd.prog 55 #[.agg #[.bool sa, .slice Aa na ca], .agg #[.bool sb, .slice Ab nb cb]] w fun e w' => e = .returned (.int .i64 (sg (sgn sa (val xa) - sgn sb (val xb)))) ∧ Below w.heap.size w w' := by
  by_cases h : sg (sgn sa (val xa)) = sg (sgn sb (val xb))
  · exact wcmp_eq w sa Aa na ca xa La sb Ab nb cb xb Lb rfl rfl h
  · exact wcmp_ne w sa Aa na ca xa La sb Ab nb cb xb Lb rfl rfl h
end Go.Proofs.YtopkndkicdgafaaDoor
