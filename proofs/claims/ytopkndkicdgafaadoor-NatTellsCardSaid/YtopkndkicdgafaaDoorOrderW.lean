/- Contracts as the laws' walks take them. -/
import Derived.Test.YtopkndkicdgafaaDoorKnown
import Derived.Test.YtopkndkicdgafaaDoorSame
namespace Go.Proofs.YtopkndkicdgafaaDoor
open Go.RowKit

theorem bel_drew {w w' : World} (h : ∃ nq, w' = w.drewN nq) : Below w.heap.size w w' := by obtain ⟨nq, rfl⟩ := h; exact below_drewN (Below.refl _ _) nq
theorem bel_same {w w' : World} (h : w = w') : Below w.heap.size w w' := by subst h; exact Below.refl _ _
theorem cmp_bel (w : World) (A : Option Addr) (n c : Nat) (xs : List Nat) (A' : Option Addr) (n' c' : Nat) (ys : List Nat) (h : Lm w A n c xs) (h' : Lm w A' n' c' ys) :
    Calls Tryd.prog 27 #[.slice A n c, .slice A' n' c'] w fun e w' => e = .returned (.int .i64 (cmpN (val xs) (val ys))) ∧ Below w.heap.size w w' :=
  (cmp_any w A n c xs A' n' c' ys h h').mono fun _ _ ⟨he, hw⟩ => ⟨he, bel_drew hw⟩
theorem same_bel (w : World) (A : Option Addr) (n c : Nat) (xs : List Nat) (A' : Option Addr) (n' c' : Nat) (ys : List Nat) (h : Lm w A n c xs) (h' : Lm w A' n' c' ys) :
    Calls Tryd.prog 25 #[.slice A n c, .slice A' n' c'] w fun e w' => e = .returned (.bool (decide (xs = ys))) ∧ Below w.heap.size w w' :=
  (same_any w A n c xs A' n' c' ys h h').mono fun _ _ ⟨he, hw⟩ => ⟨he, bel_drew hw⟩

theorem cmpN_add (X Y Z : Nat) : cmpN (X + Z) (Y + Z) = cmpN X Y := by
  rcases Nat.lt_trichotomy X Y with h | h | h
  · rw [cmpN_lt h, cmpN_lt (by omega)]
  · rw [cmpN_eq h, cmpN_eq (by omega)]
  · rw [cmpN_gt h, cmpN_gt (by omega)]
theorem cmpN_mul (X Y Z : Nat) (hZ : 0 < Z) : cmpN (X * Z) (Y * Z) = cmpN X Y := by
  rcases Nat.lt_trichotomy X Y with h | h | h
  · rw [cmpN_lt h, cmpN_lt (Nat.mul_lt_mul_of_pos_right h hZ)]
  · rw [cmpN_eq h, cmpN_eq (by rw [h])]
  · rw [cmpN_gt h, cmpN_gt (Nat.mul_lt_mul_of_pos_right h hZ)]
theorem cmpN_trans {X Y Z : Nat} {x : Int} (h1 : cmpN X Y = x) (h2 : cmpN Y Z = x) : cmpN X Z = x := by
  subst h1
  unfold cmpN at *
  split <;> split at h2 <;> (try split) <;> (try split at h2) <;> (try split at h2) <;> omega

theorem heldN_small {k : Nat} (h : k ≤ 255) : heldN (k : Int) ≤ 255 := by unfold heldN; omega
end Go.Proofs.YtopkndkicdgafaaDoor
