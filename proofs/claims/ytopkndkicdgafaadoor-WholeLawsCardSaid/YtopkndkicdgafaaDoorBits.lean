/- Plain facts on bits: the borrow of a difference, joined halves. -/
import Derived.Test.YtopkndkicdgafaaDoorNum
import Derived.Laws.BitsAllLaws
import Derived.Lib.BitFns
import Derived.Lib.TrailingZeros
namespace Go.Proofs.YtopkndkicdgafaaDoor
open Go

def brw (x y d : Nat) : Nat := if x < y + d then 1 else 0
theorem brw_le (x y d : Nat) : brw x y d ≤ 1 := by unfold brw; split <;> omega
theorem top31 (n : Nat) (h : n < 4294967296) : n / 2147483648 = if n.testBit 31 then 1 else 0 := by
  rw [Nat.testBit_eq_decide_div_mod_eq]
  have : n / 2147483648 < 2 := by omega
  have e : n / 2 ^ 31 % 2 = n / 2147483648 := by omega
  rw [e]
  rcases (by omega : n / 2147483648 = 0 ∨ n / 2147483648 = 1) with h0 | h0 <;> rw [h0] <;> rfl
theorem bit31 (n : Nat) (h : n < 4294967296) : n.testBit 31 = decide (2147483648 ≤ n) := by
  rw [Nat.testBit_eq_decide_div_mod_eq, Bool.eq_iff_iff, decide_eq_true_iff, decide_eq_true_iff]; omega
theorem not32 (x : Nat) (h : x < 4294967296) : bits .xor .u32 IntKind.u32.max (x : Int) = ((4294967295 ^^^ x : Nat) : Int) := u32_xor_nat 4294967295 x (by omega) h
theorem not32_lt (x : Nat) (h : x < 4294967296) : 4294967295 ^^^ x < 4294967296 := Nat.xor_lt_two_pow (n := 32) (by omega) h
theorem borrow (x y d : Nat) (hx : x < 4294967296) (hy : y < 4294967296) (hd : d ≤ 1) :
    bits .or .u32 (bits .and .u32 (bits .xor .u32 IntKind.u32.max (x : Int)) (y : Int)) (bits .and .u32 (bits .xor .u32 IntKind.u32.max (bits .xor .u32 (x : Int) (y : Int))) (((x : Int) - y - d) % 4294967296)) / 2147483648 = ((brw x y d : Nat) : Int) := by
  obtain ⟨D, hD⟩ : ∃ D : Nat, D = (x + 4294967296 - y - d) % 4294967296 := ⟨_, rfl⟩
  have hDi : ((x : Int) - y - d) % 4294967296 = (D : Int) := by rw [hD]; omega
  have hDl : D < 4294967296 := by rw [hD]; omega
  have hxy : x ^^^ y < 4294967296 := Nat.xor_lt_two_pow (n := 32) hx hy
  have h1 : (4294967295 ^^^ x) &&& y < 4294967296 := Nat.and_lt_two_pow (n := 32) _ hy
  have h2 : (4294967295 ^^^ (x ^^^ y)) &&& D < 4294967296 := Nat.and_lt_two_pow (n := 32) _ hDl
  rw [hDi, u32_xor_nat x y hx hy, not32 x hx, not32 _ hxy, u32_and_nat _ _ (not32_lt x hx) hy, u32_and_nat _ _ (not32_lt _ hxy) hDl, u32_or_nat _ _ h1 h2]
  have h3 : ((4294967295 ^^^ x) &&& y) ||| ((4294967295 ^^^ (x ^^^ y)) &&& D) < 4294967296 := Nat.or_lt_two_pow (n := 32) h1 h2
  have h4 := top31 _ h3
  have hM : Nat.testBit 4294967295 31 = true := by decide
  rw [Nat.testBit_or, Nat.testBit_and, Nat.testBit_and, Nat.testBit_xor, Nat.testBit_xor, Nat.testBit_xor, hM, bit31 x hx, bit31 y hy, bit31 D hDl] at h4
  have h5 : ((((4294967295 ^^^ x) &&& y) ||| ((4294967295 ^^^ (x ^^^ y)) &&& D) : Nat) : Int) / 2147483648 = (((((4294967295 ^^^ x) &&& y) ||| ((4294967295 ^^^ (x ^^^ y)) &&& D)) / 2147483648 : Nat) : Int) := rfl
  rw [h5, h4]
  unfold brw
  by_cases c1 : 2147483648 ≤ x <;> by_cases c2 : 2147483648 ≤ y <;> by_cases c3 : 2147483648 ≤ D <;> simp [c1, c2, c3] <;> (try split) <;> omega
/-- two halves side by side. -/
theorem join64 (hi lo : Nat) (h1 : hi < 4294967296) (h2 : lo < 4294967296) : bits .or .u64 ((hi : Int) * 4294967296) (lo : Int) = ((hi * Bs + lo : Nat) : Int) := by
  have e : ((hi : Int) * 4294967296) = ((hi * 4294967296 : Nat) : Int) := by omega
  rw [e, u64_or_nat _ _ (by omega) (by omega), nat_join 32 (hi * 4294967296) lo (by omega) (by omega)]; rfl

theorem libLen (n : Nat) (h : n < 2 ^ 64) : Lib.bitLen n = nb n := by
  induction n using Nat.strongRecOn with
  | _ n ih =>
    by_cases h0 : n = 0
    · subst h0; rfl
    · rw [Lib.bitLen_half n h0 h, ih (n / 2) (by omega) (by omega), nb_half h0]; omega
/-- the table's byte at x. -/
theorem len8_nb (x : Nat) (h : x < 256) : Lib.len8 (x : Int) = (nb x : Int) := by
  rw [Lib.len8_of x (by omega) (by omega), Int.toNat_natCast, libLen x (by omega)]
theorem nb_le8 (x : Nat) (h : x < 256) : nb x ≤ 8 := nb_le_of_lt (k := 8) h
theorem nb_shift (x k : Nat) (h : x / 2 ^ k ≠ 0) : nb x = nb (x / 2 ^ k) + k := by
  have := nb_join (t := x / 2 ^ k) (r := x % 2 ^ k) (k := k) h (Nat.mod_lt _ (Nat.two_pow_pos k))
  rw [Nat.div_add_mod'] at this; exact this
theorem mul_lt_big {d y : Nat} (hd : d < Bs) (hy : y < Bs) : d * y ≤ 18446744065119617025 := by
  rw [Bs_eq] at hd hy
  have : d * y ≤ 4294967295 * 4294967295 := Nat.mul_le_mul (by omega) (by omega)
  omega
end Go.Proofs.YtopkndkicdgafaaDoor
