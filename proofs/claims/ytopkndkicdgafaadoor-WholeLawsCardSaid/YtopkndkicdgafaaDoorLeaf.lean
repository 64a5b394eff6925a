/- Contracts of the small functions: cut, at, the carries of math/bits. -/
import Derived.Test.YtopkndkicdgafaaDoorWord
import Derived.Test.YtopkndkicdgafaaDoorBits
import Derived.Lib.Strings
import Derived.Lib.Slices
import Derived.Lib.Small
import Derived.Lib.Walk
import Derived.BigQuiet
import Derived.Deep.QuietTactic
namespace Go.Proofs.YtopkndkicdgafaaDoor
open Go.RowKit

theorem ret_slice {A : Option Addr} {m m' c : Nat} (h : m = m') : Ending.returned (.slice A m c) = .returned (.slice A m' c) := by rw [h]
theorem ret_int {k : IntKind} {a b : Int} (h : a = b) : Ending.returned (.int k a) = .returned (.int k b) := by rw [h]
theorem ret_bool {a b : Bool} (h : a = b) : Ending.returned (.bool a) = .returned (.bool b) := by rw [h]
theorem tup_ints {k l : IntKind} {a a' b b' : Int} (h : a = a') (h2 : b = b') : Ending.returned (.tuple #[.int k a, .int l b]) = .returned (.tuple #[.int k a', .int l b']) := by rw [h, h2]
theorem cast_eq {a b : Nat} (h : a = b) : (a : Int) = b := by rw [h]

/-- a contract that leaves the world alone, inside a region that only reads. -/
theorem q_same {P : Program} {f : FuncId} {args : Array Value} {w : World} {n : Nat} {v : Value}
    (h : Calls P f args (w.drewN n) fun e w' => e = .returned v ∧ w.drewN n = w') : Calls P f args (w.drewN n) fun e w'' => e = .returned v ∧ ∃ m, w'' = w.drewN m :=
  h.mono fun _ _ ⟨he, hm⟩ => ⟨he, n, hm.symm⟩
/-- the same behind an earlier one. -/
theorem q_add {P : Program} {f : FuncId} {args : Array Value} {w : World} {a n : Nat} {v : Value}
    (h : Calls P f args (w.drewN (a + n)) fun e w' => e = .returned v ∧ w.drewN (a + n) = w') : Calls P f args (w.drewN (a + n)) fun e w'' => e = .returned v ∧ ∃ m, w'' = w.drewN (a + m) :=
  h.mono fun _ _ ⟨he, hm⟩ => ⟨he, n, hm.symm⟩

set_option maxHeartbeats 400000 in
theorem cut_any (w : World) (A : Option Addr) (n c : Nat) (xs : List Nat) (h : Lm w A n c xs) :
    Calls Tryd.prog 73 #[.slice A n c] w fun e w' => e = .returned (.slice A (ln (val xs)) c) ∧ w = w' := by
  have hlen := Lib.hid h.len
  have hcap := h.cap
  have hnn := h.big
  go_enter Tryd.func73, Tryd.ntmps73
  go_wp2
  go_loop [3] (fun t => ∃ m : Nat, m ≤ n ∧ (∀ j, m ≤ j → j < n → dig xs j = 0) ∧ t = .int .i64 m) (fun t => (intOf t).toNat)
  case atStart => exact ⟨n, Nat.le_refl _, fun j h1 h2 => by omega, rfl⟩
  case round =>
    obtain ⟨m, hm, hz0, rfl⟩ := hrel
    have hz := Lib.hid hz0
    clear hz0
    by_cases hp : 0 < m
    · obtain ⟨b, o, rfl, hb, hc0⟩ := h.at_ (k := m - 1) (by omega)
      have hc := hc0 (m - 1) (by omega)
      clear hc0
      by_cases hd : dig xs (m - 1) = 0
      · rw [hd] at hc
        have hd' := Lib.hid hd
        clear hd
        go_wp2
        refine ⟨⟨m - 1, by omega, fun j h1 h2 => ?_, by congr 1; omega⟩, by simp [intOf]; omega⟩
        rcases Nat.lt_or_ge j m with h3 | h3
        · rw [show j = m - 1 from by omega]; exact hd'.out
        · exact hz.out j h3 h2
      · go_wp2
        go_ret
        exact ⟨ret_slice (lim_take h.ok (by rw [hlen.out]; exact hm) (fun j h1 h2 => hz.out j h1 (by rw [hlen.out] at h2; exact h2)) (.inr hd)).1.symm, rfl⟩
    · go_wp2
      go_ret
      exact ⟨ret_slice (lim_take h.ok (by rw [hlen.out]; exact hm) (fun j h1 h2 => hz.out j h1 (by rw [hlen.out] at h2; exact h2)) (.inl (by omega))).1.symm, rfl⟩

/-- cut, as its callers take it. -/
theorem cut_lm (w : World) (A : Option Addr) (n c : Nat) (xs : List Nat) (h : Lm w A n c xs) :
    Calls Tryd.prog 73 #[.slice A n c] w fun e w' => ∃ m, e = .returned (.slice A m c) ∧ Lm w A m c (lim (val xs)) ∧ m ≤ n ∧ w = w' :=
  (cut_any w A n c xs h).mono fun _ _ ⟨he, hw⟩ => ⟨_, he, h.cut, by have := ln_val_le h.ok; rw [h.len] at this; exact this, hw⟩

set_option maxHeartbeats 400000 in
theorem at_any (w : World) (A : Option Addr) (n c : Nat) (xs : List Nat) (i : Nat) (h : Lm w A n c xs) (_hi : i ≤ 2000000000000) :
    Calls Tryd.prog 75 #[.slice A n c, .int .i64 i] w fun e w' => e = .returned (d32 (dig xs i)) ∧ w = w' := by
  have hcap := h.cap
  have hbig := h.big
  by_cases hlt : i < n
  · obtain ⟨b, o, rfl, hb, hc0⟩ := h.at_ hlt
    have hc := hc0 i hlt
    clear hc0
    go_enter Tryd.func75, Tryd.ntmps75
    go_wp2
    go_ret
    exact ⟨rfl, rfl⟩
  · have hz : dig xs i = 0 := dig_over (by rw [h.len]; omega)
    rw [hz]
    clear hz
    go_enter Tryd.func75, Tryd.ntmps75
    go_wp2
    go_ret
    exact ⟨rfl, rfl⟩

set_option maxHeartbeats 400000 in
theorem add32_any (w : World) (x y d : Nat) (hx : x < Bs) (hy : y < Bs) (hd : d < Bs) :
    Calls Tryd.prog 82 #[d32 x, d32 y, d32 d] w fun e w' => e = .returned (.tuple #[d32 ((x + y + d) % Bs), d32 ((x + y + d) / Bs)]) ∧ w = w' := by
  rw [Bs_eq] at hx hy hd
  go_enter Tryd.func82, Tryd.ntmps82
  go_wp2
  go_ret2
  refine ⟨tup_ints ?_ ?_, rfl⟩ <;> (rw [Bs_eq]; omega)

set_option maxHeartbeats 400000 in
theorem sub32_any (w : World) (x y d : Nat) (hx : x < Bs) (hy : y < Bs) (hd : d ≤ 1) :
    Calls Tryd.prog 74 #[d32 x, d32 y, d32 d] w fun e w' => e = .returned (.tuple #[d32 ((x + Bs - y - d) % Bs), d32 (brw x y d)]) ∧ w = w' := by
  rw [Bs_eq] at hx hy
  go_enter Tryd.func74, Tryd.ntmps74
  go_wp2
  go_ret2
  refine ⟨tup_ints ?_ (borrow x y d hx hy hd), rfl⟩
  rw [Bs_eq]; omega

set_option maxHeartbeats 400000 in
theorem div32_any (w : World) (hi lo y : Nat) (hx : hi < y) (hl : lo < Bs) (hy : y < Bs) :
    Calls Tryd.prog 92 #[d32 hi, d32 lo, d32 y] w fun e w' => e = .returned (.tuple #[d32 ((hi * Bs + lo) / y), d32 ((hi * Bs + lo) % y)]) ∧ ∃ nq, w' = w.drewN nq := by
  rw [Bs_eq] at hl hy
  have hj := join64 hi lo (by omega) hl
  have hz : hi * Bs + lo < 18446744073709551616 := by rw [Bs_eq]; omega
  generalize hZ : hi * Bs + lo = Z at *
  have HZ := Lib.hid hZ
  clear hZ
  go_enter Tryd.func92, Tryd.ntmps92
  go_wp2
  go_quiet (fail)
  go_wp2
  go_ret2
  have h1 : Z / y < 4294967296 := by
    rw [Nat.div_lt_iff_lt_mul (by omega), ← HZ.out, Bs_eq]
    have : (hi + 1) * 4294967296 ≤ y * 4294967296 := Nat.mul_le_mul hx (Nat.le_refl _)
    rw [Nat.mul_comm 4294967296 y]; omega
  have h2 : Z % y < y := Nat.mod_lt _ (by omega)
  refine ⟨tup_ints ?_ ?_, ⟨_, rfl⟩⟩
  · rw [show ((Z : Int) / (y : Int)) = ((Z / y : Nat) : Int) from rfl, IntKind.wrap_u64]
    generalize Z / y = q at *; omega
  · rw [show ((Z : Int) % (y : Int)) = ((Z % y : Nat) : Int) from rfl]
    generalize Z % y = q at *; omega

set_option maxHeartbeats 400000 in
theorem nan_int (w : World) (x : Int) : Calls Tryd.prog 97 #[.int .i64 x] w fun e w' => e = .returned (.bool false) ∧ w = w' := by
  go_enter Tryd.func97, Tryd.ntmps97
  go_wp2
  go_ret
  exact ⟨rfl, rfl⟩
set_option maxHeartbeats 400000 in
theorem nan_u32 (w : World) (x : Int) : Calls Tryd.prog 98 #[.int .u32 x] w fun e w' => e = .returned (.bool false) ∧ w = w' := by
  go_enter Tryd.func98, Tryd.ntmps98
  go_wp2
  go_ret
  exact ⟨rfl, rfl⟩
set_option maxHeartbeats 400000 in
theorem compare_int (w : World) (x y : Nat) : Calls Tryd.prog 80 #[.int .i64 x, .int .i64 y] w fun e w' => e = .returned (.int .i64 (cmpN x y)) ∧ w = w' := by
  rcases Nat.lt_trichotomy x y with h | h | h
  · rw [cmpN_lt h]
    go_enter Tryd.func80, Tryd.ntmps80
    go_wp2
    go_ret
    exact ⟨rfl, rfl⟩
  · subst h
    rw [cmpN_self]
    go_enter Tryd.func80, Tryd.ntmps80
    go_wp2
    go_ret
    exact ⟨rfl, rfl⟩
  · rw [cmpN_gt h]
    go_enter Tryd.func80, Tryd.ntmps80
    go_wp2
    go_ret
    exact ⟨rfl, rfl⟩
set_option maxHeartbeats 400000 in
theorem compare_u32 (w : World) (x y : Nat) : Calls Tryd.prog 81 #[.int .u32 x, .int .u32 y] w fun e w' => e = .returned (.int .i64 (cmpN x y)) ∧ w = w' := by
  rcases Nat.lt_trichotomy x y with h | h | h
  · rw [cmpN_lt h]
    go_enter Tryd.func81, Tryd.ntmps81
    go_wp2
    go_ret
    exact ⟨rfl, rfl⟩
  · subst h
    rw [cmpN_self]
    go_enter Tryd.func81, Tryd.ntmps81
    go_wp2
    go_ret
    exact ⟨rfl, rfl⟩
  · rw [cmpN_gt h]
    go_enter Tryd.func81, Tryd.ntmps81
    go_wp2
    go_ret
    exact ⟨rfl, rfl⟩
/-- how many bits a shift may be. -/
def heldN (n : Int) : Nat := (min (max n 0) 100000).toNat
theorem heldN_le (n : Int) : heldN n ≤ 100000 := by unfold heldN; omega
theorem heldN_cast (n : Int) : (heldN n : Int) = min (max n 0) 100000 := by unfold heldN; omega
set_option maxHeartbeats 400000 in
theorem held_any (w : World) (n : Int) : Calls Tryd.prog 85 #[.int .i64 n] w fun e w' => e = .returned (.int .i64 (heldN n)) ∧ w = w' := by
  go_enter Tryd.func85, Tryd.ntmps85
  go_wp2
  go_ret
  exact ⟨ret_int (heldN_cast n).symm, rfl⟩
end Go.Proofs.YtopkndkicdgafaaDoor
