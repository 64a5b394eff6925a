/- Contracts of Sub and Div without cases, for the walks. -/
import Derived.Test.YtopkndkicdgafaaDoorLawWords
import Derived.Test.YtopkndkicdgafaaDoorRefH
namespace Go.Proofs.YtopkndkicdgafaaDoor
open Go.RowKit

/-- the rest that is told: none of a divisor 0. -/
def rst (M N : Nat) : Nat := if N = 0 then 0 else M % N
def SubU (w : World) (M N len : Nat) (t : Bool) (e : Ending) (w' : World) : Prop :=
  ∃ S m d, e = .returned (.tuple #[.slice S m d, .bool t]) ∧ Lm w' S m d (lim (M - N)) ∧ m ≤ len ∧ Below w.heap.size w w'
def DivU (w : World) (M N len len' : Nat) (t : Bool) (e : Ending) (w' : World) : Prop :=
  ∃ S m d S' m' d', e = .returned (.tuple #[.slice S m d, .slice S' m' d', .bool t]) ∧ Lm w' S m d (lim (M / N)) ∧ Lm w' S' m' d' (lim (rst M N)) ∧ m ≤ len ∧ m' ≤ max len len' ∧ Below w.heap.size w w'
theorem TellsSub.uni {w w' : World} {M N len : Nat} {e : Ending} {t : Bool} (ht : decide (N ≤ M) = t) (h : TellsSub w M N len e w') : SubU w M N len t e w' := by
  subst ht
  rcases h with ⟨hlt, he, hb⟩ | ⟨hle, S, m, d, he, hl, hm, hb⟩
  · exact ⟨none, 0, 0, by rw [he, decide_eq_false (Nat.not_le.2 hlt)], by rw [Nat.sub_eq_zero_of_le (Nat.le_of_lt hlt), lim_zero]; exact Lm.nil _, Nat.zero_le _, hb⟩
  · exact ⟨S, m, d, by rw [he, decide_eq_true hle], hl, hm, hb⟩
theorem TellsDiv.uni {w w' : World} {M N len len' : Nat} {e : Ending} {t : Bool} (ht : decide (N ≠ 0) = t) (h : TellsDiv w M N len len' e w') : DivU w M N len len' t e w' := by
  subst ht
  rcases h with ⟨h0, he, hb⟩ | ⟨h0, S, m, d, S', m', d', he, hl, hl', hm, hm', hb⟩
  · exact ⟨none, 0, 0, none, 0, 0, by rw [he, decide_eq_false (fun c => c h0)], by rw [h0, Nat.div_zero, lim_zero]; exact Lm.nil _, by rw [rst, if_pos h0, lim_zero]; exact Lm.nil _, Nat.zero_le _, Nat.zero_le _, hb⟩
  · exact ⟨S, m, d, S', m', d', by rw [he, decide_eq_true h0], hl, by rw [rst, if_neg h0]; exact hl', hm, hm', hb⟩
theorem sub_uni (w : World) (A : Option Addr) (n c : Nat) (xs : List Nat) (A' : Option Addr) (n' c' : Nat) (ys : List Nat) (h : Lm w A n c xs) (h' : Lm w A' n' c' ys) {t : Bool} (ht : decide (val ys ≤ val xs) = t) :
    Calls Tryd.prog 19 #[.slice A n c, .slice A' n' c'] w (SubU w (val xs) (val ys) n t) := (sub_any w A n c xs A' n' c' ys h h').mono fun _ _ => TellsSub.uni ht
theorem rsub_uni (w : World) (A : Option Addr) (n c : Nat) (xs : List Nat) (A' : Option Addr) (n' c' : Nat) (ys : List Nat) (h : Lm w A n c xs) (h' : Lm w A' n' c' ys) {t : Bool} (ht : decide (val ys ≤ val xs) = t) :
    Calls Tryd.prog 20 #[.slice A n c, .slice A' n' c'] w (SubU w (val xs) (val ys) n t) := (rsub_any w A n c xs A' n' c' ys h h').mono fun _ _ => TellsSub.uni ht
theorem div_uni (w : World) (A : Option Addr) (n c : Nat) (xs : List Nat) (A' : Option Addr) (n' c' : Nat) (ys : List Nat) (h : Lm w A n c xs) (h' : Lm w A' n' c' ys) {t : Bool} (ht : decide (val ys ≠ 0) = t) (hn : n ≤ 10000000000) :
    Calls Tryd.prog 21 #[.slice A n c, .slice A' n' c'] w (DivU w (val xs) (val ys) n n' t) := (div_any w A n c xs A' n' c' ys h h' hn).mono fun _ _ => TellsDiv.uni ht
theorem rdiv_uni (w : World) (A : Option Addr) (n c : Nat) (xs : List Nat) (A' : Option Addr) (n' c' : Nat) (ys : List Nat) (h : Lm w A n c xs) (h' : Lm w A' n' c' ys) {t : Bool} (ht : decide (val ys ≠ 0) = t) (hn : n ≤ 1000000000) (hn' : n' ≤ 1000000000) :
    Calls Tryd.prog 22 #[.slice A n c, .slice A' n' c'] w (DivU w (val xs) (val ys) n n' t) := (rdiv_any w A n c xs A' n' c' ys h h' hn hn').mono fun _ _ => TellsDiv.uni ht
theorem rcmp_bel (w : World) (A : Option Addr) (n c : Nat) (xs : List Nat) (A' : Option Addr) (n' c' : Nat) (ys : List Nat) (h : Lm w A n c xs) (h' : Lm w A' n' c' ys) :
    Calls Tryd.prog 28 #[.slice A n c, .slice A' n' c'] w fun e w' => e = .returned (.int .i64 (cmpN (val xs) (val ys))) ∧ Below w.heap.size w w' :=
  (rcmp_any w A n c xs A' n' c' ys h h').mono fun _ _ ⟨he, hw⟩ => ⟨he, bel_drew hw⟩
theorem rtrim_bel (w : World) (A : Option Addr) (n c : Nat) (xs : List Nat) (h : Lm w A n c xs) :
    Calls Tryd.prog 24 #[.slice A n c] w (Tells w (val xs) n) :=
  (rtrim_lm w A n c xs h).mono fun _ _ ⟨m, he, hl, hm, hw⟩ => ⟨A, m, c, he, by subst hw; exact hl, hm, bel_same hw⟩
theorem is_len {xs : List Nat} {n : Nat} (hx : Ok xs) (hl : xs.length = n) : (((ln (val xs) : Nat) : Int) == (n : Int)) = decide (lim (val xs) = xs) := by
  subst hl
  rw [Bool.eq_iff_iff, beq_iff_eq, decide_eq_true_iff]
  constructor
  · intro h
    rw [lim_val_take hx, List.take_of_length_le (by omega)]
  · intro h
    show ((lim (val xs)).length : Int) = _
    rw [h]
end Go.Proofs.YtopkndkicdgafaaDoor
