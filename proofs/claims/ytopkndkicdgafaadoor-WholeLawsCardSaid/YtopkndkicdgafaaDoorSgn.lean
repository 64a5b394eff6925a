/- Numbers with a sign: plain facts, and what a call tells of them. -/
import Derived.Test.YtopkndkicdgafaaDoorAdd
import Derived.Test.YtopkndkicdgafaaDoorCmp
namespace Go.Proofs.YtopkndkicdgafaaDoor
open Go.RowKit

/-- the number of such a sign and size. -/
def sgn (s : Bool) (N : Nat) : Int := if s then -(N : Int) else (N : Int)
theorem sgn_natAbs (s : Bool) (N : Nat) : (sgn s N).natAbs = N := by unfold sgn; cases s <;> simp
theorem sgn_zero (s : Bool) : sgn s 0 = 0 := by unfold sgn; cases s <;> rfl
theorem sgn_true (N : Nat) : sgn true N = -(N : Int) := rfl
theorem sgn_false (N : Nat) : sgn false N = (N : Int) := rfl
theorem sgn_eq_zero (s : Bool) (N : Nat) : sgn s N = 0 ↔ N = 0 := by unfold sgn; cases s <;> simp
theorem sgn_of (Z : Int) : sgn (decide (Z < 0)) Z.natAbs = Z := by
  unfold sgn
  by_cases h : Z < 0
  · rw [decide_eq_true h, if_pos rfl]; omega
  · rw [decide_eq_false h, if_neg (by decide)]; omega
theorem sgn_lim (Z : Int) : sgn (decide (Z < 0)) (val (lim Z.natAbs)) = Z := by rw [val_lim, sgn_of]
/-- -1, 0, 1. -/
def sg (X : Int) : Int := if X < 0 then -1 else if X = 0 then 0 else 1
theorem sg_neg {X : Int} (h : X < 0) : sg X = -1 := by unfold sg; rw [if_pos h]
theorem sg_zero {X : Int} (h : X = 0) : sg X = 0 := by unfold sg; rw [if_neg (by omega), if_pos h]
theorem sg_pos {X : Int} (h : 0 < X) : sg X = 1 := by unfold sg; rw [if_neg (by omega), if_neg (by omega)]
theorem sg_cases (X : Int) : (X < 0 ∧ sg X = -1) ∨ (X = 0 ∧ sg X = 0) ∨ (0 < X ∧ sg X = 1) := by
  rcases Int.lt_trichotomy X 0 with h | h | h
  · exact .inl ⟨h, sg_neg h⟩
  · exact .inr (.inl ⟨h, sg_zero h⟩)
  · exact .inr (.inr ⟨h, sg_pos h⟩)
theorem sg_neg_ (X : Int) : sg (-X) = -sg X := by unfold sg; split <;> (try split) <;> (try split) <;> (try split) <;> omega
theorem sg_sign (X : Int) : sg X < 0 ↔ X < 0 := by unfold sg; split <;> (try split) <;> omega
theorem sg_mul (X Y : Int) : sg (X * Y) = sg X * sg Y := by
  rcases sg_cases X with ⟨h, e⟩ | ⟨h, e⟩ | ⟨h, e⟩ <;> rcases sg_cases Y with ⟨h', e'⟩ | ⟨h', e'⟩ | ⟨h', e'⟩ <;> rw [e, e']
  · exact sg_pos (Int.mul_pos_of_neg_of_neg h h')
  · rw [h', Int.mul_zero]; exact sg_zero rfl
  · exact sg_neg (Int.mul_neg_of_neg_of_pos h h')
  · rw [h, Int.zero_mul]; exact sg_zero rfl
  · rw [h, Int.zero_mul]; exact sg_zero rfl
  · rw [h, Int.zero_mul]; exact sg_zero rfl
  · exact sg_neg (Int.mul_neg_of_pos_of_neg h h')
  · rw [h', Int.mul_zero]; exact sg_zero rfl
  · exact sg_pos (Int.mul_pos h h')
/-- the number's value, and its sign, as the call tells it. -/
abbrev iv (s : Bool) (A : Option Addr) (n c : Nat) : Value := .agg #[.bool s, .slice A n c]
/-- What a call tells: the number as it is meant. -/
def TellsI (w : World) (Z : Int) (len : Nat) (e : Ending) (w' : World) : Prop :=
  ∃ A m c, e = .returned (.agg #[.bool (decide (Z < 0)), .slice A m c]) ∧ Lm w' A m c (lim Z.natAbs) ∧ m ≤ len ∧ Below w.heap.size w w'
theorem TellsI.mk {w w' : World} {Z : Int} {len : Nat} {e : Ending} {t : Bool} {N : Nat} {A : Option Addr} {m c : Nat} (he : e = .returned (.agg #[.bool t, .slice A m c])) (hl : Lm w' A m c (lim N)) (hm : m ≤ len) (hb : Below w.heap.size w w')
    (hN : Z.natAbs = N) (ht : t = true ↔ Z < 0) : TellsI w Z len e w' := by
  refine ⟨A, m, c, ?_, by rw [hN]; exact hl, hm, hb⟩
  have e1 : t = decide (Z < 0) := by rw [Bool.eq_iff_iff, ht, decide_eq_true_iff]
  rw [he, e1]
theorem ln_pos_iff {N m : Nat} {w : World} {A : Option Addr} {c : Nat} (h : Lm w A m c (lim N)) : 0 < m ↔ N ≠ 0 := by
  have h1 : ln N = m := h.len
  rw [← h1]
  constructor
  · intro h2 h3; rw [h3, ln_zero] at h2; omega
  · intro h2; exact Nat.pos_of_ne_zero fun h3 => h2 (ln_zero_iff.1 h3)
end Go.Proofs.YtopkndkicdgafaaDoor
