/- Plain facts of the laws: the walk. -/
import Derived.Test.YtopkndkicdgafaaDoorOrderW
import Derived.Test.YtopkndkicdgafaaDoorArg
namespace Go.Proofs.YtopkndkicdgafaaDoor
open Go.RowKit

theorem dec_same {M N : Nat} (h : M = N) : decide (lim M = lim N) = true := by rw [h]; exact decide_eq_true rfl
theorem dec_is (N : Nat) : decide (lim (val (lim N)) = lim N) = true := by rw [val_lim]; exact decide_eq_true rfl
theorem heldN_nat {k : Nat} (h : k ≤ 100000) : heldN (k : Int) = k := by unfold heldN; omega
theorem cmpN_le {M N : Nat} (h : M ≤ N) : cmpN M N ≤ 0 := by unfold cmpN; split <;> (try split) <;> omega
theorem lm_zero {w : World} {A : Option Addr} {m c : Nat} (h : Lm w A m c (lim 0)) : m = 0 := by
  have := h.len; rw [lim_zero] at this; exact this.symm
theorem lm_pos {w : World} {A : Option Addr} {m c N : Nat} (h : Lm w A m c (lim N)) (hN : N ≠ 0) : m ≠ 0 := by
  have h1 : ln N = m := h.len
  intro e; exact hN (ln_zero_iff.1 (h1.trans e))
end Go.Proofs.YtopkndkicdgafaaDoor
