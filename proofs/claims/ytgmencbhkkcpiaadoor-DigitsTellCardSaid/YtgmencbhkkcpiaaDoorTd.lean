/- Digits of numbers, as bytes. -/
import Derived.Laws.BytesArg
namespace Go.Proofs.YtgmencbhkkcpiaaDoor.Ev
open Go
def dch (d : Nat) : UInt8 := UInt8.ofNat (if d < 10 then 48 + d else 87 + d)
/-- the lowest k digits, the topmost of them first. -/
def low (b N : Nat) : Nat → List UInt8
  | 0 => []
  | k + 1 => dch (N / b ^ k % b) :: low b N k
/-- how many digits. -/
def nd (b N : Nat) : Nat := if h : N = 0 ∨ b < 2 then 0 else nd b (N / b) + 1
termination_by N
decreasing_by exact Nat.div_lt_self (by omega) (by omega)
def txt (b N : Nat) : List UInt8 := low b N (nd b N)
theorem low_len (b N : Nat) : ∀ k, (low b N k).length = k
  | 0 => rfl
  | k + 1 => by rw [low, List.length_cons, low_len b N k]
theorem nd_zero (b : Nat) : nd b 0 = 0 := by rw [nd]; simp
theorem nd_pos {b N : Nat} (hb : 2 ≤ b) (h : N ≠ 0) : nd b N = nd b (N / b) + 1 := by
  rw [nd]; rw [dif_neg (by omega)]
theorem nd_le {b : Nat} (hb : 2 ≤ b) : ∀ {k N : Nat}, nd b N ≤ k ↔ N < b ^ k
  | 0, N => by
    rw [Nat.pow_zero]
    by_cases h : N = 0
    · subst h; rw [nd_zero]; omega
    · rw [nd_pos hb h]; omega
  | k + 1, N => by
    by_cases h : N = 0
    · subst h; rw [nd_zero]
      exact ⟨fun _ => Nat.pow_pos (by omega), fun _ => Nat.zero_le _⟩
    · rw [nd_pos hb h, Nat.succ_le_succ_iff, nd_le hb, Nat.pow_succ, Nat.div_lt_iff_lt_mul (by omega)]
theorem nd_lt {b : Nat} (hb : 2 ≤ b) {k N : Nat} : k < nd b N ↔ b ^ k ≤ N := by
  have := nd_le hb (k := k) (N := N); omega
theorem nd_zero_iff {b N : Nat} (hb : 2 ≤ b) : nd b N = 0 ↔ N = 0 := by
  have := nd_le hb (k := 0) (N := N); rw [Nat.pow_zero] at this; omega
theorem low_mod {b : Nat} (hb : 0 < b) {N : Nat} {j : Nat} : ∀ {k : Nat}, k ≤ j → low b (N % b ^ j) k = low b N k
  | 0, _ => rfl
  | k + 1, h => by
    rw [low, low, low_mod hb (by omega)]
    congr 2
    obtain ⟨i, rfl⟩ : ∃ i, j = k + 1 + i := ⟨j - (k + 1), by omega⟩
    have e : b ^ (k + 1 + i) = b ^ k * (b * b ^ i) := by rw [Nat.pow_add, Nat.pow_succ, Nat.mul_assoc]
    rw [e, Nat.mod_mul_right_div_self, Nat.mod_mul_right_mod]
theorem low_app {b : Nat} (N k : Nat) : ∀ j, low b N (k + j) = low b (N / b ^ k) j ++ low b N k
  | 0 => rfl
  | j + 1 => by
    rw [← Nat.add_assoc, low, low_app N k j, low, List.cons_append, Nat.div_div_eq_div_mul, ← Nat.pow_add]
theorem nd_div {b : Nat} (hb : 2 ≤ b) {N k : Nat} (h : b ^ k ≤ N) : nd b N = k + nd b (N / b ^ k) := by
  have hp : 0 < b ^ k := Nat.pow_pos (by omega)
  apply Nat.le_antisymm
  · rw [nd_le hb, Nat.pow_add, Nat.mul_comm, ← Nat.div_lt_iff_lt_mul hp]
    exact (nd_le hb).1 (Nat.le_refl _)
  · have hk : N / b ^ k ≠ 0 := fun h0 => by have := Nat.lt_of_div_eq_zero hp h0; omega
    have h1 : 0 < nd b (N / b ^ k) := by have := nd_zero_iff hb (N := N / b ^ k); omega
    have h2 := (nd_lt hb (k := nd b (N / b ^ k) - 1) (N := N / b ^ k)).1 (by omega)
    have h3 := (nd_lt hb (k := k + (nd b (N / b ^ k) - 1)) (N := N)).2 (by
      rw [Nat.pow_add, Nat.mul_comm]
      exact (Nat.le_div_iff_mul_le hp).1 h2)
    omega
theorem txt_split {b : Nat} (hb : 2 ≤ b) {N k : Nat} (h : b ^ k ≤ N) : txt b N = txt b (N / b ^ k) ++ low b N k := by
  unfold txt
  rw [nd_div hb h, low_app]
/-- a number's digits; 0 has one. -/
def tx0 (b N : Nat) : List UInt8 := if N = 0 then [48] else txt b N
theorem low_nil (b : Nat) : ∀ k, low b 0 k = List.replicate k 48
  | 0 => rfl
  | k + 1 => by rw [low, low_nil b k, Nat.zero_div, Nat.zero_mod, List.replicate_succ]; rfl
theorem low_pad {b : Nat} (hb : 2 ≤ b) {N w : Nat} (h : N < b ^ w) : List.replicate (w - nd b N) 48 ++ txt b N = low b N w := by
  have h1 : nd b N ≤ w := (nd_le hb).2 h
  obtain ⟨j, hj⟩ : ∃ j, w = nd b N + j := ⟨w - nd b N, by omega⟩
  have h2 : N / b ^ nd b N = 0 := Nat.div_eq_of_lt ((nd_le hb).1 (Nat.le_refl _))
  rw [hj, low_app, h2, low_nil, Nat.add_sub_cancel_left]
  rfl
/-- as it is written behind others. -/
def pad (b w g : Nat) : List UInt8 := List.replicate (w - (tx0 b g).length) 48 ++ tx0 b g
theorem pad_low {b : Nat} (hb : 2 ≤ b) {g w : Nat} (hw : 1 ≤ w) (h : g < b ^ w) : pad b w g = low b g w := by
  unfold pad tx0
  by_cases h0 : g = 0
  · rw [if_pos h0, h0, low_nil]
    obtain ⟨v, rfl⟩ : ∃ v, w = v + 1 := ⟨w - 1, by omega⟩
    rw [show v + 1 - [(48 : UInt8)].length = v by simp, ← List.replicate_succ']
  · rw [if_neg h0]
    have : (txt b g).length = nd b g := low_len _ _ _
    rw [this, low_pad hb h]
/-- what is joined of groups, the topmost first. -/
def jn1 (b w : Nat) (acc : List UInt8) (g : Nat) : List UInt8 := if acc = [] then tx0 b g else acc ++ pad b w g
def jn (b w : Nat) (gs : List Nat) : List UInt8 := gs.foldl (jn1 b w) []
theorem tx0_ne {b : Nat} (hb : 2 ≤ b) (N : Nat) : tx0 b N ≠ [] := by
  unfold tx0
  split
  · simp
  · rename_i h
    intro h0
    have h1 : (txt b N).length = nd b N := low_len _ _ _
    rw [h0] at h1
    exact h ((nd_zero_iff hb).1 h1.symm)
/-- the value of groups, the topmost first. -/
def gv (B : Nat) (gs : List Nat) : Nat := gs.foldl (fun v g => v * B + g) 0
theorem jn_step {b : Nat} (hb : 2 ≤ b) {w : Nat} (hw : 1 ≤ w) {v g : Nat} (hv : v ≠ 0) (hg : g < b ^ w) : jn1 b w (tx0 b v) g = tx0 b (v * b ^ w + g) := by
  have hp : 0 < b ^ w := Nat.pow_pos (by omega)
  have h1 : b ^ w ≤ v * b ^ w + g := Nat.le_trans (Nat.le_mul_of_pos_left _ (by omega)) (Nat.le_add_right _ _)
  unfold jn1
  rw [if_neg (tx0_ne hb v), pad_low hb hw hg]
  unfold tx0
  rw [if_neg hv, if_neg (by omega), txt_split hb h1]
  congr 1
  · congr 1
    rw [Nat.mul_comm, Nat.mul_add_div hp, Nat.div_eq_of_lt hg, Nat.add_zero]
  · have := low_mod (b := b) (by omega) (N := v * b ^ w + g) (j := w) (k := w) (Nat.le_refl _)
    rw [← this, Nat.mul_comm, Nat.mul_add_mod, Nat.mod_eq_of_lt hg]
theorem jn_all {b : Nat} (hb : 2 ≤ b) {w : Nat} (hw : 1 ≤ w) : ∀ (gs : List Nat) (v : Nat), v ≠ 0 → (∀ g ∈ gs, g < b ^ w) → gs.foldl (jn1 b w) (tx0 b v) = tx0 b (gs.foldl (fun v g => v * b ^ w + g) v)
  | [], _, _, _ => rfl
  | g :: gs, v, hv, hg => by
    have hp : 0 < b ^ w := Nat.pow_pos (by omega)
    have h1 : v * b ^ w + g ≠ 0 := by have := Nat.mul_pos (show 0 < v by omega) hp; omega
    rw [List.foldl_cons, List.foldl_cons, jn_step hb hw hv (hg g (by simp)), jn_all hb hw gs _ h1 (fun x hx => hg x (by simp [hx]))]
/-- the whole of it. -/
theorem jn_val {b : Nat} (hb : 2 ≤ b) {w : Nat} (hw : 1 ≤ w) {g : Nat} {gs : List Nat} (h0 : g ≠ 0 ∨ gs = []) (hg : ∀ x ∈ g :: gs, x < b ^ w) : jn b w (g :: gs) = tx0 b (gv (b ^ w) (g :: gs)) := by
  unfold jn gv
  rw [List.foldl_cons, List.foldl_cons]
  have e : jn1 b w [] g = tx0 b g := if_pos rfl
  rw [e, Nat.zero_mul, Nat.zero_add]
  rcases h0 with h0 | h0
  · exact jn_all hb hw gs g h0 (fun x hx => hg x (by simp [hx]))
  · subst h0; rfl
theorem gv_snoc (B : Nat) (gs : List Nat) (g : Nat) : gv B (gs ++ [g]) = gv B gs * B + g := by unfold gv; rw [List.foldl_append]; rfl
end Go.Proofs.YtgmencbhkkcpiaaDoor.Ev
