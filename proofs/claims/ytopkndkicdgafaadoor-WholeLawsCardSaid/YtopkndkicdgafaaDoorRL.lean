/- Contracts by the numbers themselves. -/
import Derived.Test.YtopkndkicdgafaaDoorRJ
import Derived.Deep.RegionHeld3
namespace Go.Proofs.YtopkndkicdgafaaDoor
open Go.RowKit

theorem keep30 {w w' : World} {g0 : Nat} {s0 : Bool} {A0 : Option Addr} {n0 c0 : Nat} {g1 : Nat} {s1 : Bool} {A1 : Option Addr} {n1 c1 : Nat} {g2 : Nat} {s2 : Bool} {A2 : Option Addr} {n2 c2 : Nat}  {P0 : Prop} {P1 : Prop} {P2 : Prop} (hb : Below w.heap.size w w') (h : (Box w g0 s0 A0 n0 c0 ∧ P0) ∧ (Box w g1 s1 A1 n1 c1 ∧ P1) ∧ (Box w g2 s2 A2 n2 c2 ∧ P2)) : (Box w' g0 s0 A0 n0 c0 ∧ w'.cell? ⟨g0, 0, none⟩ = some (.bool s0) ∧ w'.cell? ⟨g0, 1, none⟩ = some (.slice A0 n0 c0)) ∧ (Box w' g1 s1 A1 n1 c1 ∧ w'.cell? ⟨g1, 0, none⟩ = some (.bool s1) ∧ w'.cell? ⟨g1, 1, none⟩ = some (.slice A1 n1 c1)) ∧ (Box w' g2 s2 A2 n2 c2 ∧ w'.cell? ⟨g2, 0, none⟩ = some (.bool s2) ∧ w'.cell? ⟨g2, 1, none⟩ = some (.slice A2 n2 c2)) :=
  ⟨held0 (h.1.1.bel hb), held0 (h.2.1.1.bel hb), held0 (h.2.2.1.bel hb)⟩
theorem wadd_g (w : World) (X Y : Int) (sa : Bool) (Aa : Option Addr) (na ca : Nat) (xa : List Nat) (La : Lm w Aa na ca xa) (ha : sgn sa (val xa) = X) (sb : Bool) (Ab : Option Addr) (nb cb : Nat) (xb : List Nat) (Lb : Lm w Ab nb cb xb) (hb : sgn sb (val xb) = Y) (hT : SumsT w) (hna : na ≤ 1000000000) (hnb : nb ≤ 1000000000) {Z : Int} (hZ : X + Y = Z) :
    Calls Tryd.prog 57 #[.agg #[.bool sa, .slice Aa na ca], .agg #[.bool sb, .slice Ab nb cb]] w (TellsI w Z (max na nb + 1)) := by
  subst ha; subst hb; subst hZ; exact wadd_any w sa Aa na ca xa La sb Ab nb cb xb Lb hT hna hnb
theorem wsub_g (w : World) (X Y : Int) (sa : Bool) (Aa : Option Addr) (na ca : Nat) (xa : List Nat) (La : Lm w Aa na ca xa) (ha : sgn sa (val xa) = X) (sb : Bool) (Ab : Option Addr) (nb cb : Nat) (xb : List Nat) (Lb : Lm w Ab nb cb xb) (hb : sgn sb (val xb) = Y) (hT : SumsT w) (hna : na ≤ 1000000000) (hnb : nb ≤ 1000000000) {Z : Int} (hZ : X - Y = Z) :
    Calls Tryd.prog 59 #[.agg #[.bool sa, .slice Aa na ca], .agg #[.bool sb, .slice Ab nb cb]] w (TellsI w Z (max na nb + 1)) := by
  subst ha; subst hb; subst hZ; exact wsub_any w sa Aa na ca xa La sb Ab nb cb xb Lb hT hna hnb
theorem wmul_g (w : World) (X Y : Int) (sa : Bool) (Aa : Option Addr) (na ca : Nat) (xa : List Nat) (La : Lm w Aa na ca xa) (ha : sgn sa (val xa) = X) (sb : Bool) (Ab : Option Addr) (nb cb : Nat) (xb : List Nat) (Lb : Lm w Ab nb cb xb) (hb : sgn sb (val xb) = Y) (hT : ProductsT w) (hna : na ≤ 1000000000) (hnb : nb ≤ 1000000000) {Z : Int} (hZ : X * Y = Z) :
    Calls Tryd.prog 61 #[.agg #[.bool sa, .slice Aa na ca], .agg #[.bool sb, .slice Ab nb cb]] w (TellsI w Z (na + nb)) := by
  subst ha; subst hb; subst hZ; exact wmul_any w sa Aa na ca xa La sb Ab nb cb xb Lb hT hna hnb
theorem wcmp_g (w : World) (X Y : Int) (sa : Bool) (Aa : Option Addr) (na ca : Nat) (xa : List Nat) (La : Lm w Aa na ca xa) (ha : sgn sa (val xa) = X) (sb : Bool) (Ab : Option Addr) (nb cb : Nat) (xb : List Nat) (Lb : Lm w Ab nb cb xb) (hb : sgn sb (val xb) = Y) {ρ : Int} (hZ : sg (X - Y) = ρ) :
    Calls Tryd.prog 55 #[.agg #[.bool sa, .slice Aa na ca], .agg #[.bool sb, .slice Ab nb cb]] w (fun e w' => e = .returned (.int .i64 ρ) ∧ Below w.heap.size w w') := by
  subst ha; subst hb; subst hZ; exact wcmp_any w sa Aa na ca xa La sb Ab nb cb xb Lb
theorem wneg_g (w : World) (X : Int) (sa : Bool) (Aa : Option Addr) (na ca : Nat) (xa : List Nat) (La : Lm w Aa na ca xa) (ha : sgn sa (val xa) = X) {Z : Int} (hZ : -X = Z) :
    Calls Tryd.prog 63 #[.agg #[.bool sa, .slice Aa na ca]] w (TellsI w Z na) := by
  subst ha; subst hZ; exact wneg_any w sa Aa na ca xa La
theorem wnorm_g (w : World) (X : Int) (sa : Bool) (Aa : Option Addr) (na ca : Nat) (xa : List Nat) (La : Lm w Aa na ca xa) (ha : sgn sa (val xa) = X) :
    Calls Tryd.prog 51 #[.agg #[.bool sa, .slice Aa na ca]] w (TellsI w X na) := by
  subst ha; exact wnorm_any w sa Aa na ca xa La
theorem wsign_g (w : World) (X : Int) (sa : Bool) (Aa : Option Addr) (na ca : Nat) (xa : List Nat) (La : Lm w Aa na ca xa) (ha : sgn sa (val xa) = X) {ρ : Int} (hZ : sg X = ρ) :
    Calls Tryd.prog 53 #[.agg #[.bool sa, .slice Aa na ca]] w (fun e w' => e = .returned (.int .i64 ρ) ∧ Below w.heap.size w w') := by
  subst ha; subst hZ; exact wsign_any w sa Aa na ca xa La
theorem wshl_g (w : World) (X : Int) (k : Int) (sa : Bool) (Aa : Option Addr) (na ca : Nat) (xa : List Nat) (La : Lm w Aa na ca xa) (ha : sgn sa (val xa) = X) (hna : na ≤ 1000000000) {Z : Int} (hZ : X * 2 ^ heldN k = Z) :
    Calls Tryd.prog 70 #[.agg #[.bool sa, .slice Aa na ca], .int .i64 k] w (TellsI w Z (na + heldN k / 32 + 1)) := by
  subst ha; subst hZ; exact wshl_any w sa Aa na ca xa La k hna
theorem wshr_g (w : World) (X : Int) (k : Int) (sa : Bool) (Aa : Option Addr) (na ca : Nat) (xa : List Nat) (La : Lm w Aa na ca xa) (ha : sgn sa (val xa) = X) (hna : na ≤ 1000000000) (hT : Tab w) {Z : Int} (hZ : X / 2 ^ heldN k = Z) :
    Calls Tryd.prog 67 #[.agg #[.bool sa, .slice Aa na ca], .int .i64 k] w (TellsI w Z (na + 2)) := by
  subst ha; subst hZ; exact wshr_any w sa Aa na ca xa La k hna hT
theorem wsmall_g (w : World) (X : Int) (sa : Bool) (Aa : Option Addr) (na ca : Nat) (xa : List Nat) (La : Lm w Aa na ca xa) (ha : sgn sa (val xa) = X) (hT : FarthestT w) {k : Int} {t : Bool} (hk : (if fits X = true then X else 0) = k) (ht : fits X = t) :
    Calls Tryd.prog 65 #[.agg #[.bool sa, .slice Aa na ca]] w (fun e w' => e = .returned (.tuple #[.int .i64 k, .bool t]) ∧ Below w.heap.size w w') := by
  subst ha; subst hk; subst ht; exact wsmall_any w sa Aa na ca xa La hT
theorem wof_g (w : World) (n : Int) (hn : -9223372036854775808 ≤ n ∧ n ≤ 9223372036854775807) {Z : Int} (hZ : n = Z) :
    Calls Tryd.prog 69 #[.int .i64 n] w (TellsI w Z 2) := by
  subst hZ; exact wof_any w n hn
theorem rof_g (w : World) (n : Int) (hn : -9223372036854775808 ≤ n ∧ n ≤ 9223372036854775807) {Z : Int} (hZ : n = Z) :
    Calls Tryd.prog 72 #[.int .i64 n] w (TellsI w Z 2) := by
  subst hZ; exact rof_any w n hn
theorem wis_lim (w : World) (X : Int) (A : Option Addr) (n c : Nat) (h : Lm w A n c (lim X.natAbs)) :
    Calls Tryd.prog 48 #[.agg #[.bool (decide (X < 0)), .slice A n c]] w fun e w' => e = .returned (.bool true) ∧ Below w.heap.size w w' :=
  (wis_any w _ A n c _ h).mono fun e w' ⟨he, hb⟩ => ⟨by
    rw [he]
    refine ret_bool ?_
    rw [val_lim, decide_eq_true rfl, Bool.true_and, Bool.not_eq_true', Bool.and_eq_false_iff]
    have h1 := ln_pos_iff h
    by_cases hX : X < 0
    · exact .inr (decide_eq_false (by omega))
    · exact .inl (decide_eq_false hX), hb⟩
theorem wis_negzero (w : World) : Calls Tryd.prog 48 #[.agg #[.bool true, .slice none 0 0]] w fun e w' => e = .returned (.bool false) ∧ Below w.heap.size w w' :=
  (wis_any w true none 0 0 [] (Lm.nil w)).mono fun e w' ⟨he, hb⟩ => ⟨by rw [he]; refine ret_bool ?_; rw [val_nil, lim_zero]; rfl, hb⟩
end Go.Proofs.YtopkndkicdgafaaDoor
