/- Contracts of package whole: Cmp. -/
import Derived.Test.YtgmencbhkkcpiaaGreatDoorWE
import Derived.Deep.RegionHeld3
import Derived.Test.YtgmencbhkkcpiaaGreatDoorDv
namespace Go.Proofs.YtgmencbhkkcpiaaGreatDoor
open Go.RowKit

theorem compare_z (w : World) (x y : Int) {ρ : Int} (hρ : sg (x - y) = ρ) : Calls Tryz.prog 63 #[.int .i64 x, .int .i64 y] w fun e w' => e = .returned (.int .i64 ρ) ∧ w = w' := by
  subst hρ
  rcases Int.lt_trichotomy x y with h | h | h
  · rw [sg_neg (by omega)]
    go_enter Tryz.func63, Tryz.ntmps63
    go_wp2
    go_ret
    exact ⟨rfl, rfl⟩
  · subst h
    rw [sg_zero (by omega)]
    go_enter Tryz.func63, Tryz.ntmps63
    go_wp2
    go_ret
    exact ⟨rfl, rfl⟩
  · rw [sg_pos (by omega)]
    go_enter Tryz.func63, Tryz.ntmps63
    go_wp2
    go_ret
    exact ⟨rfl, rfl⟩
theorem ncmp_bel (w : World) (A : Option Addr) (n c : Nat) (xs : List Nat) (A' : Option Addr) (n' c' : Nat) (ys : List Nat) (h : Lm w A n c xs) (h' : Lm w A' n' c' ys) {q : Int} (hq : cmpN (val xs) (val ys) = q) :
    Calls Tryz.prog 83 #[.slice A n c, .slice A' n' c'] w fun e w' => e = .returned (.int .i64 q) ∧ Below w.heap.size w w' :=
  (cmp_any w A n c xs A' n' c' ys h h').mono fun _ _ ⟨he, hw⟩ => ⟨by rw [← hq]; exact he, by obtain ⟨nq, rfl⟩ := hw; exact below_drewN (Below.refl _ _) nq⟩
theorem sg_ne {X Y σ τ : Int} (h : sg X = σ) (h' : sg Y = τ) (hne : σ ≠ τ) : sg (σ - τ) = sg (X - Y) := by
  subst h; subst h'
  rcases sg_cases X with ⟨h, e⟩ | ⟨h, e⟩ | ⟨h, e⟩ <;> rcases sg_cases Y with ⟨h', e'⟩ | ⟨h', e'⟩ | ⟨h', e'⟩ <;> rw [e, e'] at hne ⊢ <;> first | exact absurd rfl hne | (rw [sg_neg (X := X - Y) (by omega)]; rfl) | (rw [sg_pos (X := X - Y) (by omega)]; rfl)
theorem sg_eq {X Y σ : Int} {a b : Nat} (h : sg X = σ) (h' : sg Y = σ) (ha : X.natAbs = a) (hb : Y.natAbs = b) : σ * cmpN a b = sg (X - Y) ∧ (-1 ≤ σ * cmpN a b ∧ σ * cmpN a b ≤ 1) := by
  have h3 : σ * cmpN a b = sg (X - Y) := by
    subst h
    rcases sg_cases X with ⟨h, e⟩ | ⟨h, e⟩ | ⟨h, e⟩ <;> rcases sg_cases Y with ⟨h4, e'⟩ | ⟨h4, e'⟩ | ⟨h4, e'⟩ <;> rw [e] at h' ⊢ <;> rw [e'] at h' <;> (try omega)
    all_goals
      unfold cmpN sg
      split <;> (try split) <;> (try split) <;> (try split) <;> omega
  exact ⟨h3, by rw [h3]; exact sg_range _⟩
set_option maxHeartbeats 2000000 in
theorem wcmp_ne (w : World) (sa : Bool) (Aa : Option Addr) (na ca : Nat) (xa : List Nat) (La : Lm w Aa na ca xa) (sb : Bool) (Ab : Option Addr) (nb cb : Nat) (xb : List Nat) (Lb : Lm w Ab nb cb xb) {σ τ : Int} (hσ : sg (sgn sa (val xa)) = σ) (hτ : sg (sgn sb (val xb)) = τ) (hne : σ ≠ τ) :
    Calls Tryz.prog 66 #[.agg #[.bool sa, .slice Aa na ca], .agg #[.bool sb, .slice Ab nb cb]] w fun e w' => e = .returned (.int .i64 (sg (sgn sa (val xa) - sgn sb (val xb)))) ∧ Below w.heap.size w w' := by
  have hp := sg_ne hσ hτ hne
  have hn : (σ != τ) = true := by rw [bne_iff_ne]; exact hne
  obtain ⟨ρ, hρ⟩ : ∃ ρ, sg (sgn sa (val xa) - sgn sb (val xb)) = ρ := ⟨_, rfl⟩
  rw [hρ] at hp
  rw [hρ]
  have HP := Lib.hid hp
  clear hρ hp hne
  have Hσ := Lib.hid hσ
  have Hτ := Lib.hid hτ
  clear hσ hτ
  go_enter Tryz.func66, Tryz.ntmps66
  go_wp2_with fail
  obtain ⟨ga, hga⟩ : ∃ g, g = w.heap.size := ⟨_, rfl⟩
  obtain ⟨gb, hgb⟩ : ∃ g, g = w.heap.size + 1 := ⟨_, rfl⟩
  obtain ⟨w1, hw1⟩ : ∃ v, v = ((w.alloc (.cells #[.bool sa, .slice Aa na ca] 24)).alloc (.cells #[.bool sb, .slice Ab nb cb] 24)) := ⟨_, rfl⟩
  have bel1 : Below w.heap.size w w1 := by rw [hw1]; exact bel_alloc2 _ _ _
  have b_a1 : Box w1 ga sa Aa na ca := by rw [hw1, hga]; exact ((Box.new _ _ _ _ _).alloc _)
  have b_b1 : Box w1 gb sb Ab nb cb := by rw [hw1, hgb]; exact (Box.at1 _ _ _ _ _ _)
  rw [← hw1, ← hgb, ← hga]
  have hgs : w.heap.size ≤ ga ∧ w.heap.size ≤ gb ∧ ga ≠ gb ∧ gb ≠ ga := by omega
  have HG := Lib.hid hgs
  clear hw1 hgs hga hgb
  have l_a1 := La.bel bel1
  have l_b1 := Lb.bel bel1
  have c_a0_1 := b_a1.c0
  have c_a1_1 := b_a1.c1
  have c_b0_1 := b_b1.c0
  have c_b1_1 := b_b1.c1
  go_region_held3 (fun w' => (Box w' ga sa Aa na ca ∧ w'.cell? ⟨ga, 0, none⟩ = some (.bool sa) ∧ w'.cell? ⟨ga, 1, none⟩ = some (.slice Aa na ca)) ∧ (Box w' gb sb Ab nb cb ∧ w'.cell? ⟨gb, 0, none⟩ = some (.bool sb) ∧ w'.cell? ⟨gb, 1, none⟩ = some (.slice Ab nb cb)))
    (first
      | exact ⟨held0 (w := w1.drew) b_a1, held0 (w := w1.drew) b_b1⟩
      | exact keep20 (by assumption) (by assumption))
    (first
      | (go_at_call 71; go_at_call_of 71 (Value.slice Aa na ca); refine (wsign_at _ sa Aa na ca xa ?_ Hσ.out).mono ?_; exact l_a1.drew; rintro e w2 ⟨rfl, hb2⟩)
      | (go_at_call 71; go_at_call_of 71 (Value.slice Ab nb cb); refine (wsign_at _ sb Ab nb cb xb ?_ Hτ.out).mono ?_; exact l_b1.drew.bel hb2; rintro e w3 ⟨rfl, hb3⟩))
  have hbx := bel_next (bel_undrew hb2) hb3
  have b_a2 := b_a1.bel hbx
  have b_b2 := b_b1.bel hbx
  have l_a2 := l_a1.bel hbx
  have l_b2 := l_b1.bel hbx
  have bel2 := bel1.trans (hbx.mono bel1.size)
  have c_a0_2 := b_a2.c0
  have c_a1_2 := b_a2.c1
  have c_b0_2 := b_b2.c0
  have c_b1_2 := b_b2.c1
  clear hbx b_a1 c_a0_1 c_a1_1 b_b1 c_b0_1 c_b1_1 l_a1 l_b1 bel1
  clear hb2 hb3
  go_wp2_with fail
  have cc := Lib.hid (compare_z w3 σ τ HP.out)
  refine cc.out.mono ?_
  clear cc
  rintro e w' ⟨rfl, rfl⟩
  go_wp2
  go_ret
  exact ⟨rfl, bel2⟩
set_option maxHeartbeats 2000000 in
theorem wcmp_eq (w : World) (sa : Bool) (Aa : Option Addr) (na ca : Nat) (xa : List Nat) (La : Lm w Aa na ca xa) (sb : Bool) (Ab : Option Addr) (nb cb : Nat) (xb : List Nat) (Lb : Lm w Ab nb cb xb) {σ τ : Int} (hσ : sg (sgn sa (val xa)) = σ) (hτ : sg (sgn sb (val xb)) = τ) (hne : σ = τ) :
    Calls Tryz.prog 66 #[.agg #[.bool sa, .slice Aa na ca], .agg #[.bool sb, .slice Ab nb cb]] w fun e w' => e = .returned (.int .i64 (sg (sgn sa (val xa) - sgn sb (val xb)))) ∧ Below w.heap.size w w' := by
  subst hne
  obtain ⟨q, hq⟩ : ∃ q, cmpN (val xa) (val xb) = q := ⟨_, rfl⟩
  have hp := sg_eq hσ hτ (sgn_natAbs _ _) (sgn_natAbs _ _)
  rw [hq] at hp
  obtain ⟨ρ, hρ⟩ : ∃ ρ, sg (sgn sa (val xa) - sgn sb (val xb)) = ρ := ⟨_, rfl⟩
  rw [hρ] at hp
  rw [hρ]
  have hw1 : σ * q = ρ := hp.1
  have hw : IntKind.i64.wrap ρ = ρ := wrap_pm (by omega)
  have HQ := Lib.hid hq
  clear hρ hp hq
  have Hσ := Lib.hid hσ
  have Hτ := Lib.hid hτ
  clear hσ hτ
  go_enter Tryz.func66, Tryz.ntmps66
  go_wp2_with fail
  obtain ⟨ga, hga⟩ : ∃ g, g = w.heap.size := ⟨_, rfl⟩
  obtain ⟨gb, hgb⟩ : ∃ g, g = w.heap.size + 1 := ⟨_, rfl⟩
  obtain ⟨w1, hw1⟩ : ∃ v, v = ((w.alloc (.cells #[.bool sa, .slice Aa na ca] 24)).alloc (.cells #[.bool sb, .slice Ab nb cb] 24)) := ⟨_, rfl⟩
  have bel1 : Below w.heap.size w w1 := by rw [hw1]; exact bel_alloc2 _ _ _
  have b_a1 : Box w1 ga sa Aa na ca := by rw [hw1, hga]; exact ((Box.new _ _ _ _ _).alloc _)
  have b_b1 : Box w1 gb sb Ab nb cb := by rw [hw1, hgb]; exact (Box.at1 _ _ _ _ _ _)
  rw [← hw1, ← hgb, ← hga]
  have hgs : w.heap.size ≤ ga ∧ w.heap.size ≤ gb ∧ ga ≠ gb ∧ gb ≠ ga := by omega
  have HG := Lib.hid hgs
  clear hw1 hgs hga hgb
  have l_a1 := La.bel bel1
  have l_b1 := Lb.bel bel1
  have c_a0_1 := b_a1.c0
  have c_a1_1 := b_a1.c1
  have c_b0_1 := b_b1.c0
  have c_b1_1 := b_b1.c1
  go_region_held3 (fun w' => (Box w' ga sa Aa na ca ∧ w'.cell? ⟨ga, 0, none⟩ = some (.bool sa) ∧ w'.cell? ⟨ga, 1, none⟩ = some (.slice Aa na ca)) ∧ (Box w' gb sb Ab nb cb ∧ w'.cell? ⟨gb, 0, none⟩ = some (.bool sb) ∧ w'.cell? ⟨gb, 1, none⟩ = some (.slice Ab nb cb)))
    (first
      | exact ⟨held0 (w := w1.drew) b_a1, held0 (w := w1.drew) b_b1⟩
      | exact keep20 (by assumption) (by assumption))
    (first
      | (go_at_call 71; go_at_call_of 71 (Value.slice Aa na ca); refine (wsign_at _ sa Aa na ca xa ?_ Hσ.out).mono ?_; exact l_a1.drew; rintro e w2 ⟨rfl, hb2⟩)
      | (go_at_call 71; go_at_call_of 71 (Value.slice Ab nb cb); refine (wsign_at _ sb Ab nb cb xb ?_ Hτ.out).mono ?_; exact l_b1.drew.bel hb2; rintro e w3 ⟨rfl, hb3⟩))
  have hbx := bel_next (bel_undrew hb2) hb3
  have b_a2 := b_a1.bel hbx
  have b_b2 := b_b1.bel hbx
  have l_a2 := l_a1.bel hbx
  have l_b2 := l_b1.bel hbx
  have bel2 := bel1.trans (hbx.mono bel1.size)
  have c_a0_2 := b_a2.c0
  have c_a1_2 := b_a2.c1
  have c_b0_2 := b_b2.c0
  have c_b1_2 := b_b2.c1
  clear hbx b_a1 c_a0_1 c_a1_1 b_b1 c_b0_1 c_b1_1 l_a1 l_b1 bel1
  clear hb2 hb3
  go_wp2_with fail
  have cc := Lib.hid (ncmp_bel w3 Aa na ca xa Ab nb cb xb l_a2 l_b2 HQ.out)
  refine cc.out.mono ?_
  clear cc
  rintro e v3 ⟨rfl, kb3⟩
  have b_a3 := b_a2.bel kb3
  have b_b3 := b_b2.bel kb3
  have l_a3 := l_a2.bel kb3
  have l_b3 := l_b2.bel kb3
  have bel3 := bel2.trans (kb3.mono bel2.size)
  have c_a0_3 := b_a3.c0
  have c_a1_3 := b_a3.c1
  have c_b0_3 := b_b3.c0
  have c_b1_3 := b_b3.c1
  clear kb3 b_a2 c_a0_2 c_a1_2 b_b2 c_b0_2 c_b1_2 l_a2 l_b2 bel2
  go_wp2
  go_ret
  exact ⟨rfl, bel3⟩
theorem wcmp_any (w : World) (sa : Bool) (Aa : Option Addr) (na ca : Nat) (xa : List Nat) (La : Lm w Aa na ca xa) (sb : Bool) (Ab : Option Addr) (nb cb : Nat) (xb : List Nat) (Lb : Lm w Ab nb cb xb) :
    Calls Tryz.prog 66 #[.agg #[.bool sa, .slice Aa na ca], .agg #[.bool sb, .slice Ab nb cb]] w fun e w' => e = .returned (.int .i64 (sg (sgn sa (val xa) - sgn sb (val xb)))) ∧ Below w.heap.size w w' := by
  by_cases h : sg (sgn sa (val xa)) = sg (sgn sb (val xb))
  · exact wcmp_eq w sa Aa na ca xa La sb Ab nb cb xb Lb rfl rfl h
  · exact wcmp_ne w sa Aa na ca xa La sb Ab nb cb xb Lb rfl rfl h
end Go.Proofs.YtgmencbhkkcpiaaGreatDoor
/- Contracts of package whole: Shr. -/
namespace Go.Proofs.YtgmencbhkkcpiaaGreatDoor
open Go.RowKit

theorem pow_dvd_tz {V k : Nat} (h : V ≠ 0) : 2 ^ k ∣ V ↔ k ≤ tz V := by
  obtain ⟨m, hm⟩ := tz_spec h
  constructor
  · intro hd
    apply Nat.le_of_not_lt
    intro hlt
    have h1 : 2 ^ (tz V + 1) ∣ V := Nat.dvd_trans (Nat.pow_dvd_pow 2 hlt) hd
    rw [hm] at h1
    generalize tz V = t at *
    rw [tz_of, Nat.pow_succ] at h1
    have h2 := Nat.dvd_of_mul_dvd_mul_left (Nat.two_pow_pos t) h1
    omega
  · intro hle
    exact Nat.dvd_trans (Nat.pow_dvd_pow 2 hle) ⟨2 * m + 1, hm⟩
theorem shr_pos {X : Int} {V k : Nat} (hX : X.natAbs = V) (h : ¬ X < 0) : (X / 2 ^ k).natAbs = V / 2 ^ k ∧ ¬ X / 2 ^ k < 0 := by
  obtain rfl : X = (V : Int) := by omega
  have e : (V : Int) / 2 ^ k = ((V / 2 ^ k : Nat) : Int) := by rw [Int.natCast_ediv, Int.natCast_pow]; rfl
  rw [e]
  exact ⟨rfl, Int.not_lt.2 (Int.natCast_nonneg _)⟩
theorem shr_neg {X : Int} {V k : Nat} (hX : X.natAbs = V) (h : X < 0) : (X / 2 ^ k).natAbs = V / 2 ^ k + (if tz V < k then 1 else 0) ∧ X / 2 ^ k < 0 := by
  obtain rfl : X = -(V : Int) := by omega
  have hV : V ≠ 0 := by omega
  have hp : (0 : Int) < 2 ^ k := Int.pow_pos (by decide)
  have e : (V : Int) / 2 ^ k = ((V / 2 ^ k : Nat) : Int) := by rw [Int.natCast_ediv, Int.natCast_pow]; rfl
  have hd : ((2 : Int) ^ k ∣ (V : Int)) ↔ k ≤ tz V := by
    rw [← pow_dvd_tz hV, ← Int.natCast_dvd_natCast, Int.natCast_pow]; rfl
  have hneg : -(V : Int) / 2 ^ k < 0 := Int.ediv_neg_of_neg_of_pos (by omega) hp
  refine ⟨?_, hneg⟩
  rw [Int.neg_ediv, e]
  clear hneg e
  generalize V / 2 ^ k = q
  by_cases ht : tz V < k
  · rw [if_neg (by rw [hd]; omega), Int.sign_eq_one_of_pos hp, if_pos ht]; omega
  · rw [if_pos (by rw [hd]; omega), if_neg ht]; omega
set_option maxHeartbeats 2000000 in
theorem wshr_pos (w : World) (sa : Bool) (Aa : Option Addr) (na ca : Nat) (xa : List Nat) (La : Lm w Aa na ca xa) (k : Int) (hna : na ≤ 1000000000) (hT : Tab w) (hs : ¬ sgn sa (val xa) < 0) :
    Calls Tryz.prog 98 #[.agg #[.bool sa, .slice Aa na ca], .int .i64 k] w (TellsI w (sgn sa (val xa) / 2 ^ heldN k) (na + 2)) := by
  obtain ⟨σ, hσ, hσr⟩ : ∃ σ, sg (sgn sa (val xa)) = σ ∧ (-1 ≤ σ ∧ σ ≤ 1) := ⟨_, rfl, sg_range _⟩
  have Hσ := Lib.hid hσ
  clear hσ
  have hσn : ¬ σ < 0 := by rw [← Hσ.out, sg_sign]; exact hs
  have hf := shr_pos (k := heldN k) (sgn_natAbs sa (val xa)) hs
  obtain ⟨Z, hZ⟩ : ∃ Z, sgn sa (val xa) / 2 ^ heldN k = Z := ⟨_, rfl⟩
  rw [hZ] at hf
  rw [hZ]
  have HZ := Lib.hid hf
  clear hZ hf hs
  have HT := Lib.hid hT
  clear hT
  go_enter Tryz.func98, Tryz.ntmps98
  go_wp2_with fail
  obtain ⟨ga, hga⟩ : ∃ g, g = w.heap.size := ⟨_, rfl⟩
  obtain ⟨r0, hr0⟩ : ∃ g, g = w.heap.size + 1 := ⟨_, rfl⟩
  obtain ⟨w1, hw1⟩ : ∃ v, v = ((w.alloc (.cells #[.bool sa, .slice Aa na ca] 24)).alloc (.cells #[.bool false, .slice none 0 0] 24)) := ⟨_, rfl⟩
  have bel1 : Below w.heap.size w w1 := by rw [hw1]; exact bel_alloc2 _ _ _
  have b_a1 : Box w1 ga sa Aa na ca := by rw [hw1, hga]; exact ((Box.new _ _ _ _ _).alloc _)
  have t_r01 : Two w1 r0 := by rw [hw1, hr0]; exact Box.two (Box.at1 _ _ _ _ _ _)
  rw [← hw1, ← hr0, ← hga]
  have hgs : w.heap.size ≤ ga ∧ w.heap.size ≤ r0 ∧ ga ≠ r0 ∧ r0 ≠ ga := by omega
  have HG := Lib.hid hgs
  clear hw1 hgs hga hr0
  have l_a1 := La.bel bel1
  have c_a0_1 := b_a1.c0
  have c_a1_1 := b_a1.c1
  have f_r01 := t_r01.room.2
  have HT1 := Lib.hid (HT.out.bel bel1)
  go_region_held3 (fun w' => (Box w' ga sa Aa na ca ∧ w'.cell? ⟨ga, 0, none⟩ = some (.bool sa) ∧ w'.cell? ⟨ga, 1, none⟩ = some (.slice Aa na ca)) ∧ (Two w' r0 ∧ w'.cell? ⟨r0, 0, none⟩ = some (lies w' r0 0) ∧ w'.cell? ⟨r0, 1, none⟩ = some (lies w' r0 1) ∧ w'.frozen? ⟨r0, 0, none⟩ = false ∧ w'.frozen? ⟨r0, 1, none⟩ = false))
    (first
      | exact ⟨held0 (w := w1.drew) b_a1, Two.room (w := w1.drew) t_r01⟩
      | exact keep11 (by assumption) (by assumption))
    (first
      | (go_at_call 71; refine (wsign_at _ sa Aa na ca xa ?_ Hσ.out).mono ?_; exact l_a1.drew; rintro e w2 ⟨rfl, hb2⟩)
      | (go_at_call 87; refine (shr_any _ Aa na ca xa k ?_ ?_).mono ?_; exact l_a1.drew.bel hb2; omega; rintro e w3 ⟨A3, m3, c3, rfl, h3, hm3, hb3⟩))
  have HT2 := Lib.hid (HT1.out.bel (bel_next (bel_undrew hb2) hb3))
  have hbx := bel_next (bel_undrew hb2) hb3
  have b_a2 := b_a1.bel hbx
  have t_r02 := t_r01.bel hbx
  have l_a2 := l_a1.bel hbx
  have bel2 := bel1.trans (hbx.mono bel1.size)
  have c_a0_2 := b_a2.c0
  have c_a1_2 := b_a2.c1
  have f_r02 := t_r02.room.2
  clear hbx b_a1 c_a0_1 c_a1_1 t_r01 f_r01 l_a1 bel1
  clear hb2 hb3
  rw [← HZ.out.1] at h3
  go_wp2_with fail
  have cc := Lib.hid (signed_z w3 Z σ A3 m3 c3 (na + 2) h3 (by omega) (fun _ => by have h1 := HZ.out.2; omega))
  refine cc.out.mono ?_
  clear cc
  rintro e v3 ⟨A5, m5, c5, rfl, h5, hm5, kb3⟩
  have b_a3 := b_a2.bel kb3
  have t_r03 := t_r02.bel kb3
  have l_a3 := l_a2.bel kb3
  have l_m3 := h3.bel kb3
  have bel3 := bel2.trans (kb3.mono bel2.size)
  have c_a0_3 := b_a3.c0
  have c_a1_3 := b_a3.c1
  have f_r03 := t_r03.room.2
  clear kb3 b_a2 c_a0_2 c_a1_2 t_r02 f_r02 l_a2 h3 bel2
  go_wp2
  have hx := t_r03.put (decide (Z < 0)) A5 m5 c5
  have hl := h5.put t_r03 (.bool (decide (Z < 0))) (.slice A5 m5 c5)
  have hbl := bel_put bel3 (g := r0) HG.out.2.1 (.bool (decide (Z < 0))) (.slice A5 m5 c5)
  generalize (v3.setCell ⟨r0, 0, none⟩ (.bool (decide (Z < 0)))).setCell ⟨r0, 1, none⟩ (.slice A5 m5 c5) = wz at *
  refine bodyPost_ret (v := .agg #[.bool (decide (Z < 0)), .slice A5 m5 c5]) (by simp [results, Tryz.results98, go_sem, hx.c0, hx.c1]) rfl ?_
  exact ⟨_, _, _, rfl, hl, hm5, hbl⟩
set_option maxHeartbeats 2000000 in
theorem wshr_no (w : World) (sa : Bool) (Aa : Option Addr) (na ca : Nat) (xa : List Nat) (La : Lm w Aa na ca xa) (k : Int) (hna : na ≤ 1000000000) (hT : Tab w) (hs : sgn sa (val xa) < 0) (hl : ¬ tz (val xa) < heldN k) :
    Calls Tryz.prog 98 #[.agg #[.bool sa, .slice Aa na ca], .int .i64 k] w (TellsI w (sgn sa (val xa) / 2 ^ heldN k) (na + 2)) := by
  obtain ⟨σ, hσ, hσr⟩ : ∃ σ, sg (sgn sa (val xa)) = σ ∧ (-1 ≤ σ ∧ σ ≤ 1) := ⟨_, rfl, sg_range _⟩
  have Hσ := Lib.hid hσ
  clear hσ
  have hσn : σ < 0 := by rw [← Hσ.out, sg_sign]; exact hs
  have hf := shr_neg (k := heldN k) (sgn_natAbs sa (val xa)) hs
  rw [if_neg hl] at hf
  obtain ⟨z, hz, hzl⟩ : ∃ z : Nat, tz (val xa) = z ∧ ¬ ((z : Int) < min k 100000) := ⟨_, rfl, by have hV : val xa ≠ 0 := (fun e => by rw [e, sgn_zero] at hs; omega); unfold heldN at hl; omega⟩
  clear hl
  obtain ⟨Z, hZ⟩ : ∃ Z, sgn sa (val xa) / 2 ^ heldN k = Z := ⟨_, rfl⟩
  rw [hZ] at hf
  rw [hZ]
  have HZ := Lib.hid hf
  clear hZ hf hs
  have Hz := Lib.hid hz
  clear hz
  have HT := Lib.hid hT
  clear hT
  go_enter Tryz.func98, Tryz.ntmps98
  go_wp2_with fail
  obtain ⟨ga, hga⟩ : ∃ g, g = w.heap.size := ⟨_, rfl⟩
  obtain ⟨r0, hr0⟩ : ∃ g, g = w.heap.size + 1 := ⟨_, rfl⟩
  obtain ⟨w1, hw1⟩ : ∃ v, v = ((w.alloc (.cells #[.bool sa, .slice Aa na ca] 24)).alloc (.cells #[.bool false, .slice none 0 0] 24)) := ⟨_, rfl⟩
  have bel1 : Below w.heap.size w w1 := by rw [hw1]; exact bel_alloc2 _ _ _
  have b_a1 : Box w1 ga sa Aa na ca := by rw [hw1, hga]; exact ((Box.new _ _ _ _ _).alloc _)
  have t_r01 : Two w1 r0 := by rw [hw1, hr0]; exact Box.two (Box.at1 _ _ _ _ _ _)
  rw [← hw1, ← hr0, ← hga]
  have hgs : w.heap.size ≤ ga ∧ w.heap.size ≤ r0 ∧ ga ≠ r0 ∧ r0 ≠ ga := by omega
  have HG := Lib.hid hgs
  clear hw1 hgs hga hr0
  have l_a1 := La.bel bel1
  have c_a0_1 := b_a1.c0
  have c_a1_1 := b_a1.c1
  have f_r01 := t_r01.room.2
  have HT1 := Lib.hid (HT.out.bel bel1)
  go_region_held3 (fun w' => (Box w' ga sa Aa na ca ∧ w'.cell? ⟨ga, 0, none⟩ = some (.bool sa) ∧ w'.cell? ⟨ga, 1, none⟩ = some (.slice Aa na ca)) ∧ (Two w' r0 ∧ w'.cell? ⟨r0, 0, none⟩ = some (lies w' r0 0) ∧ w'.cell? ⟨r0, 1, none⟩ = some (lies w' r0 1) ∧ w'.frozen? ⟨r0, 0, none⟩ = false ∧ w'.frozen? ⟨r0, 1, none⟩ = false))
    (first
      | exact ⟨held0 (w := w1.drew) b_a1, Two.room (w := w1.drew) t_r01⟩
      | exact keep11 (by assumption) (by assumption))
    (first
      | (go_at_call 71; refine (wsign_at _ sa Aa na ca xa ?_ Hσ.out).mono ?_; exact l_a1.drew; rintro e w2 ⟨rfl, hb2⟩)
      | (go_at_call 87; refine (shr_any _ Aa na ca xa k ?_ ?_).mono ?_; exact l_a1.drew.bel hb2; omega; rintro e w3 ⟨A3, m3, c3, rfl, h3, hm3, hb3⟩))
  have HT2 := Lib.hid (HT1.out.bel (bel_next (bel_undrew hb2) hb3))
  have hbx := bel_next (bel_undrew hb2) hb3
  have b_a2 := b_a1.bel hbx
  have t_r02 := t_r01.bel hbx
  have l_a2 := l_a1.bel hbx
  have bel2 := bel1.trans (hbx.mono bel1.size)
  have c_a0_2 := b_a2.c0
  have c_a1_2 := b_a2.c1
  have f_r02 := t_r02.room.2
  clear hbx b_a1 c_a0_1 c_a1_1 t_r01 f_r01 l_a1 bel1
  clear hb2 hb3
  go_wp2_with fail
  have cc := Lib.hid (low_any w3 Aa na ca xa l_a2 HT2.out)
  refine cc.out.mono ?_
  clear cc
  rw [Hz.out]
  rintro e w' ⟨rfl, rfl⟩
  rw [← Nat.add_zero (val xa / 2 ^ heldN k), ← HZ.out.1] at h3
  go_wp2_with fail
  have cc := Lib.hid (signed_z w3 Z σ A3 m3 c3 (na + 2) h3 (by omega) (fun _ => by have h1 := HZ.out.2; omega))
  refine cc.out.mono ?_
  clear cc
  rintro e v3 ⟨A5, m5, c5, rfl, h5, hm5, kb3⟩
  have b_a3 := b_a2.bel kb3
  have t_r03 := t_r02.bel kb3
  have l_a3 := l_a2.bel kb3
  have l_m3 := h3.bel kb3
  have bel3 := bel2.trans (kb3.mono bel2.size)
  have c_a0_3 := b_a3.c0
  have c_a1_3 := b_a3.c1
  have f_r03 := t_r03.room.2
  clear kb3 b_a2 c_a0_2 c_a1_2 t_r02 f_r02 l_a2 h3 bel2
  go_wp2
  have hx := t_r03.put (decide (Z < 0)) A5 m5 c5
  have hl := h5.put t_r03 (.bool (decide (Z < 0))) (.slice A5 m5 c5)
  have hbl := bel_put bel3 (g := r0) HG.out.2.1 (.bool (decide (Z < 0))) (.slice A5 m5 c5)
  generalize (v3.setCell ⟨r0, 0, none⟩ (.bool (decide (Z < 0)))).setCell ⟨r0, 1, none⟩ (.slice A5 m5 c5) = wz at *
  refine bodyPost_ret (v := .agg #[.bool (decide (Z < 0)), .slice A5 m5 c5]) (by simp [results, Tryz.results98, go_sem, hx.c0, hx.c1]) rfl ?_
  exact ⟨_, _, _, rfl, hl, hm5, hbl⟩
set_option maxHeartbeats 2000000 in
theorem wshr_yes (w : World) (sa : Bool) (Aa : Option Addr) (na ca : Nat) (xa : List Nat) (La : Lm w Aa na ca xa) (k : Int) (hna : na ≤ 1000000000) (hT : Tab w) (hs : sgn sa (val xa) < 0) (hl : tz (val xa) < heldN k) :
    Calls Tryz.prog 98 #[.agg #[.bool sa, .slice Aa na ca], .int .i64 k] w (TellsI w (sgn sa (val xa) / 2 ^ heldN k) (na + 2)) := by
  obtain ⟨σ, hσ, hσr⟩ : ∃ σ, sg (sgn sa (val xa)) = σ ∧ (-1 ≤ σ ∧ σ ≤ 1) := ⟨_, rfl, sg_range _⟩
  have Hσ := Lib.hid hσ
  clear hσ
  have hσn : σ < 0 := by rw [← Hσ.out, sg_sign]; exact hs
  have hf := shr_neg (k := heldN k) (sgn_natAbs sa (val xa)) hs
  rw [if_pos hl] at hf
  obtain ⟨z, hz, hzl⟩ : ∃ z : Nat, tz (val xa) = z ∧ ((z : Int) < min k 100000) := ⟨_, rfl, by have hV : val xa ≠ 0 := (fun e => by rw [e, sgn_zero] at hs; omega); unfold heldN at hl; omega⟩
  clear hl
  obtain ⟨Z, hZ⟩ : ∃ Z, sgn sa (val xa) / 2 ^ heldN k = Z := ⟨_, rfl⟩
  rw [hZ] at hf
  rw [hZ]
  have HZ := Lib.hid hf
  clear hZ hf hs
  have Hz := Lib.hid hz
  clear hz
  have HT := Lib.hid hT
  clear hT
  go_enter Tryz.func98, Tryz.ntmps98
  go_wp2_with fail
  obtain ⟨ga, hga⟩ : ∃ g, g = w.heap.size := ⟨_, rfl⟩
  obtain ⟨r0, hr0⟩ : ∃ g, g = w.heap.size + 1 := ⟨_, rfl⟩
  obtain ⟨w1, hw1⟩ : ∃ v, v = ((w.alloc (.cells #[.bool sa, .slice Aa na ca] 24)).alloc (.cells #[.bool false, .slice none 0 0] 24)) := ⟨_, rfl⟩
  have bel1 : Below w.heap.size w w1 := by rw [hw1]; exact bel_alloc2 _ _ _
  have b_a1 : Box w1 ga sa Aa na ca := by rw [hw1, hga]; exact ((Box.new _ _ _ _ _).alloc _)
  have t_r01 : Two w1 r0 := by rw [hw1, hr0]; exact Box.two (Box.at1 _ _ _ _ _ _)
  rw [← hw1, ← hr0, ← hga]
  have hgs : w.heap.size ≤ ga ∧ w.heap.size ≤ r0 ∧ ga ≠ r0 ∧ r0 ≠ ga := by omega
  have HG := Lib.hid hgs
  clear hw1 hgs hga hr0
  have l_a1 := La.bel bel1
  have c_a0_1 := b_a1.c0
  have c_a1_1 := b_a1.c1
  have f_r01 := t_r01.room.2
  have HT1 := Lib.hid (HT.out.bel bel1)
  go_region_held3 (fun w' => (Box w' ga sa Aa na ca ∧ w'.cell? ⟨ga, 0, none⟩ = some (.bool sa) ∧ w'.cell? ⟨ga, 1, none⟩ = some (.slice Aa na ca)) ∧ (Two w' r0 ∧ w'.cell? ⟨r0, 0, none⟩ = some (lies w' r0 0) ∧ w'.cell? ⟨r0, 1, none⟩ = some (lies w' r0 1) ∧ w'.frozen? ⟨r0, 0, none⟩ = false ∧ w'.frozen? ⟨r0, 1, none⟩ = false))
    (first
      | exact ⟨held0 (w := w1.drew) b_a1, Two.room (w := w1.drew) t_r01⟩
      | exact keep11 (by assumption) (by assumption))
    (first
      | (go_at_call 71; refine (wsign_at _ sa Aa na ca xa ?_ Hσ.out).mono ?_; exact l_a1.drew; rintro e w2 ⟨rfl, hb2⟩)
      | (go_at_call 87; refine (shr_any _ Aa na ca xa k ?_ ?_).mono ?_; exact l_a1.drew.bel hb2; omega; rintro e w3 ⟨A3, m3, c3, rfl, h3, hm3, hb3⟩))
  have HT2 := Lib.hid (HT1.out.bel (bel_next (bel_undrew hb2) hb3))
  have hbx := bel_next (bel_undrew hb2) hb3
  have b_a2 := b_a1.bel hbx
  have t_r02 := t_r01.bel hbx
  have l_a2 := l_a1.bel hbx
  have bel2 := bel1.trans (hbx.mono bel1.size)
  have c_a0_2 := b_a2.c0
  have c_a1_2 := b_a2.c1
  have f_r02 := t_r02.room.2
  clear hbx b_a1 c_a0_1 c_a1_1 t_r01 f_r01 l_a1 bel1
  clear hb2 hb3
  go_wp2_with fail
  have cc := Lib.hid (low_any w3 Aa na ca xa l_a2 HT2.out)
  refine cc.out.mono ?_
  clear cc
  rw [Hz.out]
  rintro e w' ⟨rfl, rfl⟩
  go_wp2_with fail
  obtain ⟨v3, hv3⟩ : ∃ v, v = w3.alloc (.cells #[.int .u32 1] 87) := ⟨_, rfl⟩
  rw [← hv3]
  have hb3 : Below w3.heap.size w3 v3 := by rw [hv3]; exact bel_alloc _ _
  have lit3 : Lm v3 (some ⟨w3.heap.size, 0, none⟩) 1 1 [1] := by rw [hv3]; exact (Own.list w3 [1]).lm (Ok.of_mem (fun x hx => by rw [Bs_eq]; simp at hx; omega)) (by simp)
  clear hv3
  have b_a3 := b_a2.bel hb3
  have t_r03 := t_r02.bel hb3
  have l_a3 := l_a2.bel hb3
  have l_m3 := h3.bel hb3
  have bel3 := bel2.trans (hb3.mono bel2.size)
  have c_a0_3 := b_a3.c0
  have c_a1_3 := b_a3.c1
  have f_r03 := t_r03.room.2
  clear hb3 b_a2 c_a0_2 c_a1_2 t_r02 f_r02 l_a2 h3 bel2
  go_wp2_with fail
  have cc := Lib.hid (add_any v3 A3 m3 c3 _ _ _ _ _ l_m3 lit3 (by omega) (by omega))
  refine cc.out.mono ?_
  clear cc
  rw [val_lim, val_single]
  rintro e v4 ⟨A4, m4, c4, rfl, h4, hm4, kb4⟩
  have b_a4 := b_a3.bel kb4
  have t_r04 := t_r03.bel kb4
  have l_a4 := l_a3.bel kb4
  have l_m4 := l_m3.bel kb4
  have l_one4 := lit3.bel kb4
  have bel4 := bel3.trans (kb4.mono bel3.size)
  have c_a0_4 := b_a4.c0
  have c_a1_4 := b_a4.c1
  have f_r04 := t_r04.room.2
  clear kb4 b_a3 c_a0_3 c_a1_3 t_r03 f_r03 l_a3 l_m3 lit3 bel3
  rw [← HZ.out.1] at h4
  go_wp2_with fail
  have cc := Lib.hid (signed_z v4 Z σ A4 m4 c4 (na + 2) h4 (by omega) (fun _ => by have h1 := HZ.out.2; omega))
  refine cc.out.mono ?_
  clear cc
  rintro e v5 ⟨A5, m5, c5, rfl, h5, hm5, kb5⟩
  have b_a5 := b_a4.bel kb5
  have t_r05 := t_r04.bel kb5
  have l_a5 := l_a4.bel kb5
  have l_m5 := h4.bel kb5
  have l_one5 := l_one4.bel kb5
  have bel5 := bel4.trans (kb5.mono bel4.size)
  have c_a0_5 := b_a5.c0
  have c_a1_5 := b_a5.c1
  have f_r05 := t_r05.room.2
  clear kb5 b_a4 c_a0_4 c_a1_4 t_r04 f_r04 l_a4 h4 l_one4 bel4
  go_wp2
  have hx := t_r05.put (decide (Z < 0)) A5 m5 c5
  have hl := h5.put t_r05 (.bool (decide (Z < 0))) (.slice A5 m5 c5)
  have hbl := bel_put bel5 (g := r0) HG.out.2.1 (.bool (decide (Z < 0))) (.slice A5 m5 c5)
  generalize (v5.setCell ⟨r0, 0, none⟩ (.bool (decide (Z < 0)))).setCell ⟨r0, 1, none⟩ (.slice A5 m5 c5) = wz at *
  refine bodyPost_ret (v := .agg #[.bool (decide (Z < 0)), .slice A5 m5 c5]) (by simp [results, Tryz.results98, go_sem, hx.c0, hx.c1]) rfl ?_
  exact ⟨_, _, _, rfl, hl, hm5, hbl⟩
theorem wshr_any (w : World) (sa : Bool) (Aa : Option Addr) (na ca : Nat) (xa : List Nat) (La : Lm w Aa na ca xa) (k : Int) (hna : na ≤ 1000000000) (hT : Tab w) :
    Calls Tryz.prog 98 #[.agg #[.bool sa, .slice Aa na ca], .int .i64 k] w (TellsI w (sgn sa (val xa) / 2 ^ heldN k) (na + 2)) := by
  by_cases hs : sgn sa (val xa) < 0
  · by_cases hl : tz (val xa) < heldN k
    · exact wshr_yes w sa Aa na ca xa La k hna hT hs hl
    · exact wshr_no w sa Aa na ca xa La k hna hT hs hl
  · exact wshr_pos w sa Aa na ca xa La k hna hT hs
end Go.Proofs.YtgmencbhkkcpiaaGreatDoor
/- Contracts of package whole: Of. -/
namespace Go.Proofs.YtgmencbhkkcpiaaGreatDoor
open Go.RowKit

set_option maxHeartbeats 1000000 in
theorem wof_p (w : World) (N : Nat) (hN : N < 9223372036854775808) : Calls Tryz.prog 50 #[.int .i64 ((N : Int))] w (TellsI w ((N : Int)) 2) := by
  have hlt : ¬ (N : Int) < 0 := by omega
  obtain ⟨lo, hlo, e1⟩ : ∃ lo, lo = N % 4294967296 ∧ (N : Int) % 4294967296 = (lo : Int) := ⟨_, rfl, by omega⟩
  obtain ⟨hi', hhi, e2⟩ : ∃ h, h = N / 4294967296 ∧ (N : Int) / 4294967296 = (h : Int) := ⟨_, rfl, by omega⟩
  have hhb : hi' < 4294967296 := by omega
  have hlb : lo < 4294967296 := by omega
  have e3 : (hi' : Int) % 4294967296 = (hi' : Int) := by omega
  have hv : val [lo, hi'] = N := by rw [val_cons, val_single, Bs_eq]; omega
  have hz : sgn false (val [lo, hi']) = (N : Int) := by rw [hv]; rfl
  obtain ⟨Z, hZ⟩ : ∃ Z, (N : Int) = Z := ⟨_, rfl⟩
  have hzz : sgn false (val [lo, hi']) = Z := hz.trans hZ
  have HH := Lib.hid (And.intro hzz (And.intro hlb hhb))
  have HZ := Lib.hid hZ
  clear hv hz hzz hlo hhi hZ
  go_enter Tryz.func50, Tryz.ntmps50
  go_wp2_with fail
  obtain ⟨r0, hr0⟩ : ∃ g, g = w.heap.size := ⟨_, rfl⟩
  obtain ⟨w1, hw1⟩ : ∃ v, v = w.alloc (.cells #[.bool false, .slice none 0 0] 24) := ⟨_, rfl⟩
  obtain ⟨w2, hw2⟩ : ∃ v, v = w1.alloc (.cells #[.int .u32 (lo : Nat), .int .u32 (hi' : Nat)] 87) := ⟨_, rfl⟩
  have hsz : w1.heap.size = w.heap.size + 1 := by rw [hw1, size_alloc]
  have bel2 : Below w.heap.size w w2 := by rw [hw2, hw1]; exact bel_alloc2 _ _ _
  have t_r02 : Two w2 r0 := by rw [hw2, hw1, hr0]; exact ((Box.new _ _ _ _ _).alloc _).two
  have l2 : Lm w2 (some ⟨w.heap.size + 1, 0, none⟩) 2 2 [lo, hi'] := by
    rw [hw2, ← hsz]; exact (Own.list w1 [lo, hi']).lm (Ok.of_mem (fun x hx => by have := HH.out.2; rw [Bs_eq]; simp at hx; omega)) (by simp)
  have hle : w.heap.size ≤ r0 := by omega
  rw [← hr0] at l2
  rw [← hw1, ← hw2, ← hr0]
  have HG := Lib.hid hle
  clear hw1 hw2 hsz hle
  have HR := Lib.hid hr0
  clear hr0
  have f_r02 := t_r02.room.2
  have cc := Lib.hid (wnorm_any w2 false _ 2 2 _ l2)
  refine cc.out.mono ?_
  clear cc
  rw [HH.out.1]
  rintro e v3 ⟨A4, m4, c4, rfl, h4, hm4, kb3⟩
  have t_r03 := t_r02.bel kb3
  have l_l3 := l2.bel kb3
  have bel3 := bel2.trans (kb3.mono bel2.size)
  have f_r03 := t_r03.room.2
  clear kb3 t_r02 f_r02 l2 bel2
  go_wp2
  have hx := t_r03.put (decide (Z < 0)) A4 m4 c4
  have hl := h4.put t_r03 (.bool (decide (Z < 0))) (.slice A4 m4 c4)
  have hbl := bel_put bel3 (g := r0) HG.out (.bool (decide (Z < 0))) (.slice A4 m4 c4)
  generalize (v3.setCell ⟨r0, 0, none⟩ (.bool (decide (Z < 0)))).setCell ⟨r0, 1, none⟩ (.slice A4 m4 c4) = wz at *
  refine bodyPost_ret (v := .agg #[.bool (decide (Z < 0)), .slice A4 m4 c4]) (by simp [results, Tryz.results50, go_sem, hx.c0, hx.c1]) rfl ?_
  rw [HZ.out]
  exact ⟨_, _, _, rfl, hl, hm4, hbl⟩
set_option maxHeartbeats 1000000 in
theorem wof_n (w : World) (N : Nat) (hN : 0 < N ∧ N ≤ 9223372036854775808) : Calls Tryz.prog 50 #[.int .i64 (-(N : Int))] w (TellsI w (-(N : Int)) 2) := by
  have hlt : -(N : Int) < 0 := by omega
  have eu : IntKind.u64.wrap (-IntKind.u64.wrap (-(N : Int))) = (N : Int) := by rw [IntKind.wrap_u64, IntKind.wrap_u64]; omega
  obtain ⟨lo, hlo, e1⟩ : ∃ lo, lo = N % 4294967296 ∧ (N : Int) % 4294967296 = (lo : Int) := ⟨_, rfl, by omega⟩
  obtain ⟨hi', hhi, e2⟩ : ∃ h, h = N / 4294967296 ∧ (N : Int) / 4294967296 = (h : Int) := ⟨_, rfl, by omega⟩
  have hhb : hi' < 4294967296 := by omega
  have hlb : lo < 4294967296 := by omega
  have e3 : (hi' : Int) % 4294967296 = (hi' : Int) := by omega
  have hv : val [lo, hi'] = N := by rw [val_cons, val_single, Bs_eq]; omega
  have hz : sgn true (val [lo, hi']) = -(N : Int) := by rw [hv]; rfl
  obtain ⟨Z, hZ⟩ : ∃ Z, -(N : Int) = Z := ⟨_, rfl⟩
  have hzz : sgn true (val [lo, hi']) = Z := hz.trans hZ
  have HH := Lib.hid (And.intro hzz (And.intro hlb hhb))
  have HZ := Lib.hid hZ
  clear hv hz hzz hlo hhi hZ
  go_enter Tryz.func50, Tryz.ntmps50
  go_wp2_with fail
  obtain ⟨r0, hr0⟩ : ∃ g, g = w.heap.size := ⟨_, rfl⟩
  obtain ⟨w1, hw1⟩ : ∃ v, v = w.alloc (.cells #[.bool false, .slice none 0 0] 24) := ⟨_, rfl⟩
  obtain ⟨w2, hw2⟩ : ∃ v, v = w1.alloc (.cells #[.int .u32 (lo : Nat), .int .u32 (hi' : Nat)] 87) := ⟨_, rfl⟩
  have hsz : w1.heap.size = w.heap.size + 1 := by rw [hw1, size_alloc]
  have bel2 : Below w.heap.size w w2 := by rw [hw2, hw1]; exact bel_alloc2 _ _ _
  have t_r02 : Two w2 r0 := by rw [hw2, hw1, hr0]; exact ((Box.new _ _ _ _ _).alloc _).two
  have l2 : Lm w2 (some ⟨w.heap.size + 1, 0, none⟩) 2 2 [lo, hi'] := by
    rw [hw2, ← hsz]; exact (Own.list w1 [lo, hi']).lm (Ok.of_mem (fun x hx => by have := HH.out.2; rw [Bs_eq]; simp at hx; omega)) (by simp)
  have hle : w.heap.size ≤ r0 := by omega
  rw [← hr0] at l2
  rw [← hw1, ← hw2, ← hr0]
  have HG := Lib.hid hle
  clear hw1 hw2 hsz hle
  have HR := Lib.hid hr0
  clear hr0
  have f_r02 := t_r02.room.2
  have cc := Lib.hid (wnorm_any w2 true _ 2 2 _ l2)
  refine cc.out.mono ?_
  clear cc
  rw [HH.out.1]
  rintro e v3 ⟨A4, m4, c4, rfl, h4, hm4, kb3⟩
  have t_r03 := t_r02.bel kb3
  have l_l3 := l2.bel kb3
  have bel3 := bel2.trans (kb3.mono bel2.size)
  have f_r03 := t_r03.room.2
  clear kb3 t_r02 f_r02 l2 bel2
  go_wp2
  have hx := t_r03.put (decide (Z < 0)) A4 m4 c4
  have hl := h4.put t_r03 (.bool (decide (Z < 0))) (.slice A4 m4 c4)
  have hbl := bel_put bel3 (g := r0) HG.out (.bool (decide (Z < 0))) (.slice A4 m4 c4)
  generalize (v3.setCell ⟨r0, 0, none⟩ (.bool (decide (Z < 0)))).setCell ⟨r0, 1, none⟩ (.slice A4 m4 c4) = wz at *
  refine bodyPost_ret (v := .agg #[.bool (decide (Z < 0)), .slice A4 m4 c4]) (by simp [results, Tryz.results50, go_sem, hx.c0, hx.c1]) rfl ?_
  rw [HZ.out]
  exact ⟨_, _, _, rfl, hl, hm4, hbl⟩
theorem wof_any (w : World) (n : Int) (hn : -9223372036854775808 ≤ n ∧ n ≤ 9223372036854775807) : Calls Tryz.prog 50 #[.int .i64 n] w (TellsI w n 2) := by
  by_cases h : n < 0
  · obtain ⟨N, rfl⟩ : ∃ N : Nat, n = -(N : Int) := ⟨n.natAbs, by omega⟩
    exact wof_n w N (by omega)
  · obtain ⟨N, rfl⟩ : ∃ N : Nat, n = (N : Int) := ⟨n.natAbs, by omega⟩
    exact wof_p w N (by omega)
end Go.Proofs.YtgmencbhkkcpiaaGreatDoor
/- Contracts of package whole: Small. -/
namespace Go.Proofs.YtgmencbhkkcpiaaGreatDoor
open Go.RowKit

/-- what fits into 64 bits. -/
def fits (Z : Int) : Bool := decide (-9223372036854775808 ≤ Z ∧ Z ≤ 9223372036854775807)
end Go.Proofs.YtgmencbhkkcpiaaGreatDoor
/- Contracts of package whole: Div. -/
namespace Go.Proofs.YtgmencbhkkcpiaaGreatDoor
open Go.RowKit

end Go.Proofs.YtgmencbhkkcpiaaGreatDoor
