/- Floats as words: what they stand for, what sums, products, quotients and roundings of such words are. -/
import Derived.Test.YtcamkbphognoaaaGreatDoorEva
import Derived.Laws.FloatArith
import Derived.IntWalk
import Derived.Test.YtcamkbphognoaaaGreatDoorXp
namespace Go.Proofs.YtcamkbphognoaaaGreatDoor.Ev
open Go Go.RowKit Ieee
set_option linter.unusedSimpArgs false
set_option linter.unusedVariables false
/-- a word's magnitude and place. -/
def fmag (r : Nat) : Nat := if r < 4503599627370496 then r else 4503599627370496 + r % 4503599627370496
def fpl (r : Nat) : Int := if r < 4503599627370496 then -1074 else -1074 + ((r / 4503599627370496 - 1 : Nat) : Int)
def infR : Nat := 9218868437227405312
def wd (s : Bool) (r : Nat) : Nat := if s then 9223372036854775808 + r else r
theorem binade_d : Format.binade double = 4503599627370496 := by decide
theorem infRung_d : Format.infRung double = infR := by decide
theorem least_d : Format.leastPlace double = -1074 := by decide
theorem weight_d : Format.signWeight double = 9223372036854775808 := by decide
theorem word_d (s : Bool) (r : Nat) : double.word s r = wd s r := by unfold Format.word wd; rw [weight_d]
theorem infR_lt : infR < 9223372036854775808 := by decide
theorem wd_parts {s : Bool} {r : Nat} (h : r < 9223372036854775808) : wd s r / 9223372036854775808 % 2 = s.toNat ∧ wd s r % 9223372036854775808 = r := by
  cases s <;> simp only [wd, if_true, if_false, Bool.toNat_true, Bool.toNat_false, Bool.false_eq_true] <;> omega
theorem wd_sg {s : Bool} {r : Nat} (h : r < 9223372036854775808) : (wd s r / 9223372036854775808 % 2 == 1) = s := by
  rw [(wd_parts h).1]; cases s <;> rfl
theorem read_fin {s : Bool} {r : Nat} (h : r < infR) : double.read (wd s r) = .number s (fmag r) (fpl r) := by
  have h2 : r < 9223372036854775808 := Nat.lt_trans h infR_lt
  unfold Format.read
  simp only [weight_d, binade_d, infRung_d, least_d, (wd_parts h2).2, wd_sg h2]
  unfold fmag fpl
  split
  · rfl
  · rfl
theorem read_inf {s : Bool} : double.read (wd s infR) = .infinity s := by
  have h2 : infR < 9223372036854775808 := infR_lt
  unfold Format.read
  simp only [weight_d, binade_d, infRung_d, least_d, (wd_parts h2).2, wd_sg h2]
  rw [if_neg (by decide), if_neg (Nat.lt_irrefl _)]; rfl
theorem fmag_lt {r : Nat} : fmag r < 9007199254740992 := by
  unfold fmag; split <;> omega
theorem fpl_ge {r : Nat} : -1074 ≤ fpl r := by unfold fpl; split <;> omega
theorem fpl_le {r : Nat} (h : r < infR) : fpl r ≤ 971 := by
  unfold fpl; unfold infR at h; split <;> omega
theorem fmag_pos {r : Nat} (h : 0 < r) : 0 < fmag r := by unfold fmag; split <;> omega
theorem fmag_zero : fmag 0 = 0 := rfl
/-- a rung from what it means. -/
theorem rung_of {r : Nat} (h : r < infR) : ((fpl r + 1074).toNat) * 4503599627370496 + fmag r = r := by
  unfold fpl fmag; unfold infR at h; split
  · simp
  · rw [show (-1074 + ((r / 4503599627370496 - 1 : Nat) : Int) + 1074).toNat = r / 4503599627370496 - 1 by omega]; omega
theorem log2_fmag {r : Nat} (h : 4503599627370496 ≤ r) : (fmag r).log2 = 52 := by
  unfold fmag
  rw [if_neg (by omega), Nat.log2_eq_iff (by omega)]
  constructor <;> simp <;> omega
theorem log2_fmag_lt {r : Nat} (h : r < 4503599627370496) (h0 : 0 < r) : (fmag r).log2 < 52 := by
  unfold fmag
  rw [if_pos h]
  exact (Nat.log2_lt (by omega)).2 (by simpa using h)
theorem log2_mul_pow {m : Nat} (h : 0 < m) (d : Nat) : (m * 2 ^ d).log2 = m.log2 + d := by
  rw [Nat.log2_eq_iff (by have := Nat.mul_pos h (Nat.two_pow_pos d); omega)]
  have h1 := (Nat.log2_eq_iff (show m ≠ 0 by omega)).1 rfl
  constructor
  · rw [Nat.pow_add]; exact Nat.mul_le_mul_right _ h1.1
  · rw [show m.log2 + d + 1 = m.log2 + 1 + d by omega, Nat.pow_add]; exact (Nat.mul_lt_mul_right (Nat.two_pow_pos d)).2 h1.2
theorem cut_exact {neg : Bool} {m : Nat} (h : 0 < m) (d : Nat) : Toward.even.cut neg (m * 2 ^ d) d = m := by
  unfold Toward.cut
  have hl := log2_mul_pow h d
  have hg : 1 <<< min d ((m * 2 ^ d).log2 + 2) = 2 ^ d := by rw [hl, show min d (m.log2 + d + 2) = d by omega, Nat.shiftLeft_eq, Nat.one_mul]
  simp only [hg]
  rw [Nat.mul_mod_left, Nat.mul_div_cancel _ (Nat.two_pow_pos d)]
  have h3 : (2 ^ d == 0) = false := by simp
  simp [h3]
/-- what is a rung's number is written as that rung. -/
theorem nearest_exact {s : Bool} {m : Nat} {p : Int} {r : Nat} (hr : r < infR) (K : Nat) (h1 : 0 ≤ p + K) (h2 : 1074 ≤ K) (h : m * 2 ^ (p + K).toNat = fmag r * 2 ^ (fpl r + K).toNat) : double.nearest s m p = wd s r := by
  have hge := fpl_ge (r := r)
  by_cases hm : m = 0
  · subst hm
    rw [Nat.zero_mul] at h
    have h3 : fmag r = 0 := by
      rcases Nat.mul_eq_zero.1 h.symm with h | h
      · exact h
      · have := Nat.two_pow_pos (fpl r + K).toNat; omega
    have hr0 : r = 0 := by
      rcases Nat.eq_zero_or_pos r with h | h
      · exact h
      · have := fmag_pos h; omega
    subst hr0
    unfold Format.nearest; rw [if_pos rfl, word_d]
  have hm0 : 0 < m := by omega
  have hf0 : 0 < fmag r := by
    rcases Nat.eq_zero_or_pos (fmag r) with h3 | h3
    · rw [h3, Nat.zero_mul] at h
      have := Nat.mul_pos hm0 (Nat.two_pow_pos (p + K).toNat); omega
    · exact h3
  have hr0 : 0 < r := by
    rcases Nat.eq_zero_or_pos r with h3 | h3
    · subst h3; exact absurd hf0 (by decide)
    · exact h3
  have hlog : m.log2 + (p + K).toNat = (fmag r).log2 + (fpl r + K).toNat := by rw [← log2_mul_pow hm0, ← log2_mul_pow hf0, h]
  have hlast : max (p + m.log2 - (52 : Nat)) (-1074) = fpl r := by
    by_cases hb : 4503599627370496 ≤ r
    · have := log2_fmag hb; omega
    · have h4 := log2_fmag_lt (by omega) hr0
      have h5 : fpl r = -1074 := by unfold fpl; rw [if_pos (by omega)]
      omega
  unfold Format.nearest
  rw [if_neg hm]
  simp only [least_d, infRung_d, binade_d, word_d, show double.fractionBits = 52 from rfl]
  rw [hlast]
  congr 1
  have hkept : Toward.even.cut s (m <<< (p - fpl r).toNat) (fpl r - p).toNat = fmag r := by
    rw [Nat.shiftLeft_eq]
    rcases Int.lt_or_le p (fpl r) with hp | hp
    · have h6 : m = fmag r * 2 ^ (fpl r - p).toNat := by
        rw [show (fpl r + K).toNat = (fpl r - p).toNat + (p + K).toNat by omega, Nat.pow_add, ← Nat.mul_assoc] at h
        exact Nat.eq_of_mul_eq_mul_right (Nat.two_pow_pos _) h
      rw [show (p - fpl r).toNat = 0 by omega, Nat.pow_zero, Nat.mul_one]
      generalize hd : (fpl r - p).toNat = d at *
      rw [h6]
      exact cut_exact hf0 d
    · have h6 : m * 2 ^ (p - fpl r).toNat = fmag r := by
        rw [show (p + K).toNat = (p - fpl r).toNat + (fpl r + K).toNat by omega, Nat.pow_add, ← Nat.mul_assoc] at h
        exact Nat.eq_of_mul_eq_mul_right (Nat.two_pow_pos _) h
      rw [h6, show (fpl r - p).toNat = 0 by omega]
      have := cut_exact (neg := s) hf0 0
      rwa [Nat.pow_zero, Nat.mul_one] at this
  rw [hkept, show ((fpl r - -1074 : Int)) = fpl r + 1074 by omega, rung_of hr]
  omega
/-- whatever is written is a number or infinite. -/
theorem nearest_any (s : Bool) (m : Nat) (p : Int) : ∃ r, r ≤ infR ∧ double.nearest s m p = wd s r := by
  unfold Format.nearest
  simp only [word_d, infRung_d]
  split
  · exact ⟨0, Nat.zero_le _, rfl⟩
  · exact ⟨_, Nat.min_le_right _ _, rfl⟩
/-- a rung's magnitude, in units of the least one. -/
def mg (r : Nat) : Nat := fmag r * 2 ^ (fpl r + 1074).toNat
def sv (s : Bool) (n : Nat) : Int := if s then -(n : Int) else n
/-- the rung of k * 2 ^ e units. -/
def rg (k e : Nat) : Nat := if k = 0 then 0 else if e + k.log2 < 52 then k * 2 ^ e else (e + k.log2 - 52) * 4503599627370496 + k * 2 ^ (52 - k.log2)
theorem log2_le {k : Nat} (hk : k < 9007199254740992) : k.log2 ≤ 52 := by
  rcases Nat.eq_zero_or_pos k with h | h
  · subst h; decide
  · have := (Nat.log2_lt (n := k) (k := 53) (by omega)).2 (by simpa using hk); omega
theorem rg_ok {k e : Nat} (hk : k < 9007199254740992) (he : e + k.log2 < 2098) : rg k e < infR ∧ mg (rg k e) = k * 2 ^ e := by
  unfold rg
  split
  · rename_i h; subst h; exact ⟨by decide, by simp [mg, fmag]⟩
  rename_i h
  have hl := log2_le hk
  have h1 := (Nat.log2_eq_iff h).1 rfl
  split
  · rename_i h2
    have h3 : k * 2 ^ e < 4503599627370496 := by
      calc k * 2 ^ e < 2 ^ (k.log2 + 1) * 2 ^ e := (Nat.mul_lt_mul_right (Nat.two_pow_pos e)).2 h1.2
        _ = 2 ^ (k.log2 + 1 + e) := by rw [← Nat.pow_add]
        _ ≤ 2 ^ 52 := Nat.pow_le_pow_right (by omega) (by omega)
        _ = 4503599627370496 := by decide
    refine ⟨Nat.lt_trans h3 (by decide), ?_⟩
    unfold mg fmag fpl
    rw [if_pos h3, if_pos h3]; simp
  · rename_i h2
    have h4 : 4503599627370496 ≤ k * 2 ^ (52 - k.log2) := by
      calc 4503599627370496 = 2 ^ (k.log2 + (52 - k.log2)) := by rw [show k.log2 + (52 - k.log2) = 52 by omega]
        _ = 2 ^ k.log2 * 2 ^ (52 - k.log2) := by rw [Nat.pow_add]
        _ ≤ k * 2 ^ (52 - k.log2) := Nat.mul_le_mul_right _ h1.1
    have h5 : k * 2 ^ (52 - k.log2) < 9007199254740992 := by
      calc k * 2 ^ (52 - k.log2) < 2 ^ (k.log2 + 1) * 2 ^ (52 - k.log2) := (Nat.mul_lt_mul_right (Nat.two_pow_pos _)).2 h1.2
        _ = 2 ^ 53 := by rw [← Nat.pow_add]; congr 1; omega
        _ = 9007199254740992 := by decide
    generalize hM : k * 2 ^ (52 - k.log2) = M at *
    generalize hE : e + k.log2 - 52 = E at *
    refine ⟨by unfold infR; omega, ?_⟩
    unfold mg fmag fpl
    rw [if_neg (by omega), if_neg (by omega)]
    rw [show 4503599627370496 + (E * 4503599627370496 + M) % 4503599627370496 = M by omega, show (-1074 + (((E * 4503599627370496 + M) / 4503599627370496 - 1 : Nat) : Int) + 1074).toNat = E by omega]
    rw [← hM, Nat.mul_assoc, ← Nat.pow_add]
    congr 2; omega
theorem signed_sv (s : Bool) (m u : Nat) : signed s m u = sv s (m * 2 ^ u) := by unfold signed sv; rw [Nat.shiftLeft_eq]
theorem sv_mul (s : Bool) (m u : Nat) : sv s (m * 2 ^ u) = sv s m * (2 ^ u : Nat) := by
  cases s <;> simp [sv, Int.neg_mul]
theorem sv_abs (s : Bool) (m : Nat) : (sv s m).natAbs = m := by cases s <;> simp [sv]
theorem mg_base {r : Nat} {b : Int} (hb : b ≤ fpl r) (h : -1074 ≤ b) : mg r = fmag r * 2 ^ (fpl r - b).toNat * 2 ^ (b + 1074).toNat := by
  unfold mg; rw [Nat.mul_assoc, ← Nat.pow_add]; congr 2; omega
theorem compare_scale {a b : Int} {c : Nat} (h : 0 < c) : compare (a * c) (b * c) = compare a b := by
  have hc : (0 : Int) < c := by omega
  have h1 : (a * c < b * c) = (a < b) := propext ⟨fun h => Int.lt_of_mul_lt_mul_right h (by omega), fun h => Int.mul_lt_mul_of_pos_right h hc⟩
  have h2 : (a * c = b * c) = (a = b) := propext ⟨fun h => Int.eq_of_mul_eq_mul_right (by omega) h, fun h => by rw [h]⟩
  show compareOfLessAndEq (a * c) (b * c) = compareOfLessAndEq a b
  unfold compareOfLessAndEq
  simp only [h1, h2]
theorem order_fin {s t : Bool} {r q : Nat} (hr : r < infR) (hq : q < infR) : double.order (wd s r) (wd t q) = some (compare (sv s (mg r)) (sv t (mg q))) := by
  unfold Format.order
  rw [read_fin hr, read_fin hq]
  unfold Datum.order
  simp only
  have h1 := fpl_ge (r := r)
  have h2 := fpl_ge (r := q)
  rw [mg_base (r := r) (b := min (fpl r) (fpl q)) (by omega) (by omega), mg_base (r := q) (b := min (fpl r) (fpl q)) (by omega) (by omega), sv_mul s (_ * _), sv_mul t (_ * _), signed_sv, signed_sv, compare_scale (Nat.two_pow_pos _)]
theorem add_fin {s t : Bool} {r q : Nat} (hr : r < infR) (hq : q < infR) {k e : Nat} (hk : k < 9007199254740992) (he : e + k.log2 < 2098) (h : (sv s (mg r) + sv t (mg q)).natAbs = k * 2 ^ e) :
    double.add (wd s r) (wd t q) = some (wd (if sv s (mg r) + sv t (mg q) = 0 then s && t else decide (sv s (mg r) + sv t (mg q) < 0)) (rg k e)) := by
  obtain ⟨g1, g2⟩ := rg_ok hk he
  unfold Format.add
  rw [read_fin hr, read_fin hq]
  unfold Datum.sum
  simp only [Option.map_some]
  have h1 := fpl_ge (r := r)
  have h2 := fpl_ge (r := q)
  have h3 := fpl_ge (r := rg k e)
  have e1 : sv s (mg r) + sv t (mg q) = (signed s (fmag r) (fpl r - min (fpl r) (fpl q)).toNat + signed t (fmag q) (fpl q - min (fpl r) (fpl q)).toNat) * (2 ^ (min (fpl r) (fpl q) + 1074).toNat : Nat) := by
    rw [mg_base (r := r) (b := min (fpl r) (fpl q)) (by omega) (by omega), mg_base (r := q) (b := min (fpl r) (fpl q)) (by omega) (by omega), sv_mul s (_ * _), sv_mul t (_ * _), signed_sv, signed_sv, Int.add_mul]
  have hpos := Nat.two_pow_pos (min (fpl r) (fpl q) + 1074).toNat
  generalize hT : signed s (fmag r) (fpl r - min (fpl r) (fpl q)).toNat + signed t (fmag q) (fpl q - min (fpl r) (fpl q)).toNat = T at e1 ⊢
  have hz : (sv s (mg r) + sv t (mg q) = 0) = (T = 0) := by
    rw [e1, Int.mul_eq_zero]; apply propext; constructor
    · rintro (h | h)
      · exact h
      · omega
    · exact .inl
  have hn : (sv s (mg r) + sv t (mg q) < 0) = (T < 0) := by
    rw [e1]; apply propext; constructor
    · intro h
      rcases Int.lt_or_le T 0 with h7 | h7
      · exact h7
      · have := Int.mul_nonneg h7 (show (0 : Int) ≤ ((2 ^ (min (fpl r) (fpl q) + 1074).toNat : Nat) : Int) by omega); omega
    · intro h; exact Int.mul_neg_of_neg_of_pos h (by omega)
  simp only [hz, hn]
  unfold Format.write
  simp only
  congr 1
  refine nearest_exact g1 1074 (by omega) (Nat.le_refl _) ?_
  show _ = mg (rg k e)
  rw [g2, ← h, e1, Int.natAbs_mul, Int.natAbs_natCast]
  rfl
theorem mul_fin {s t : Bool} {r q t0 : Nat} (hr : r < infR) (hq : q < infR) (h0 : t0 < infR) (K : Nat) (h1 : 0 ≤ fpl r + fpl q + K) (h2 : 1074 ≤ K) (h : fmag r * fmag q * 2 ^ (fpl r + fpl q + K).toNat = fmag t0 * 2 ^ (fpl t0 + K).toNat) :
    double.mul (wd s r) (wd t q) = some (wd (s ^^ t) t0) := by
  unfold Format.mul
  rw [read_fin hr, read_fin hq]
  unfold Datum.product Format.write
  simp only [Option.map_some]
  congr 1
  exact nearest_exact h0 K h1 h2 h
theorem fmul_any {s t : Bool} {r q : Nat} (hr : r < infR) (hq : q < infR) : ∃ t0, t0 ≤ infR ∧ double.mul (wd s r) (wd t q) = some (wd (s ^^ t) t0) := by
  unfold Format.mul
  rw [read_fin hr, read_fin hq]
  unfold Datum.product Format.write
  simp only [Option.map_some]
  obtain ⟨t0, h1, h2⟩ := nearest_any (s ^^ t) (fmag r * fmag q) (fpl r + fpl q)
  exact ⟨t0, h1, by rw [h2]⟩
theorem nearest_rg {s : Bool} {m : Nat} {p : Int} {k e : Nat} (hk : k < 9007199254740992) (he : e + k.log2 < 2098) (K : Nat) (hK : K = 1074) (h1 : 0 ≤ p + K) (h : m * 2 ^ (p + K).toNat = k * 2 ^ e) : double.nearest s m p = wd s (rg k e) := by
  obtain ⟨g1, g2⟩ := rg_ok hk he
  refine nearest_exact g1 K h1 (by omega) ?_
  subst hK; rw [h, ← g2]; rfl
theorem fint_small {n : Int} (h : n.natAbs < 9007199254740992) : FloatKind.f64.nearest n = wd (decide (n < 0)) (rg n.natAbs 1074) := by
  obtain ⟨K, hK⟩ : ∃ K, K = 1074 := ⟨_, rfl⟩
  rw [← hK]
  unfold FloatKind.nearest FloatKind.encode
  show double.nearest (decide (n < 0)) n.natAbs 0 = _
  refine nearest_rg h (by have := log2_le h; omega) K hK (by omega) ?_
  rw [show ((0 : Int) + (K : Nat)).toNat = K by omega]
theorem fneg_wd {s : Bool} {r : Nat} (h : r < 9223372036854775808) : Op.negFloat .f64 (wd s r) = wd (!s) r := by
  show wd s r ^^^ 2 ^ 63 = wd (!s) r
  have key : ∀ x : Nat, x < 2 ^ 63 → x ^^^ 2 ^ 63 = 2 ^ 63 + x := fun x hx => by
    apply Nat.eq_of_testBit_eq
    intro i
    rw [Nat.testBit_xor, Nat.testBit_two_pow]
    rcases Nat.lt_trichotomy i 63 with hi | hi | hi
    · rw [Nat.testBit_two_pow_add_gt hi]; simp [show ¬ 63 = i by omega]
    · subst hi; rw [Nat.testBit_two_pow_add_eq]; simp
    · have h3 : x < 2 ^ i := Nat.lt_of_lt_of_le hx (Nat.pow_le_pow_right (by omega) (by omega))
      have h4 : 2 ^ 63 + x < 2 ^ i := by
        have : 2 ^ 64 ≤ 2 ^ i := Nat.pow_le_pow_right (by omega) (by omega)
        omega
      rw [Nat.testBit_lt_two_pow h3, Nat.testBit_lt_two_pow h4]; simp [show ¬ 63 = i by omega]
  cases s
  · exact key r (by simpa using h)
  · have := key r (by simpa using h)
    show (9223372036854775808 + r) ^^^ 2 ^ 63 = r
    have e : 9223372036854775808 + r = r ^^^ 2 ^ 63 := this.symm
    rw [e, Nat.xor_assoc, Nat.xor_self, Nat.xor_zero]
theorem mg_lt {r q : Nat} (h : r < q) (hq : q < infR) : mg r < mg q := by
  have e1 := rung_of (Nat.lt_trans h hq)
  have e2 := rung_of hq
  have h1 := fpl_ge (r := r)
  have h2 := fpl_ge (r := q)
  have f1 := fmag_lt (r := r)
  have f2 := fmag_lt (r := q)
  unfold mg
  generalize hP : (fpl r + 1074).toNat = P at *
  generalize hQ : (fpl q + 1074).toNat = Q at *
  rcases Nat.lt_or_ge P Q with hl | hl
  · have h3 : 4503599627370496 ≤ fmag q := by
      unfold fpl at hQ; unfold fmag; split at hQ
      · omega
      · rename_i h4; rw [if_neg h4]; omega
    have h5 : fmag r * 2 ^ P < 9007199254740992 * 2 ^ P := (Nat.mul_lt_mul_right (Nat.two_pow_pos P)).2 f1
    have h6 : 2 ^ Q = 2 ^ P * 2 * 2 ^ (Q - P - 1) := by rw [show Q = P + 1 + (Q - P - 1) by omega, Nat.pow_add, Nat.pow_succ]; congr 2; omega
    have h7 : 2 ^ P * 2 ≤ 2 ^ Q := by rw [h6]; exact Nat.le_mul_of_pos_right _ (Nat.two_pow_pos _)
    have h8 : 4503599627370496 * (2 ^ P * 2) ≤ fmag q * 2 ^ Q := Nat.mul_le_mul h3 h7
    omega
  · have h3 : P = Q := by
      rcases Nat.lt_or_ge Q P with h | h
      · have : 4503599627370496 ≤ fmag r := by
          unfold fpl at hP; unfold fmag; split at hP
          · omega
          · rename_i h4; rw [if_neg h4]; omega
        omega
      · omega
    subst h3
    exact (Nat.mul_lt_mul_right (Nat.two_pow_pos P)).2 (by omega)
theorem mg_inj {r q : Nat} (hr : r < infR) (hq : q < infR) (h : mg r = mg q) : r = q := by
  rcases Nat.lt_trichotomy r q with h1 | h1 | h1
  · have := mg_lt h1 hq; omega
  · exact h1
  · have := mg_lt h1 hr; omega
theorem mg_zero : mg 0 = 0 := by unfold mg; rw [fmag_zero, Nat.zero_mul]
theorem mg_pos {r : Nat} (h : 0 < r) (hr : r < infR) : 0 < mg r := by have := mg_lt h hr; rw [mg_zero] at this; exact this
/-- a word, taken apart. -/
def rgo (u : Nat) : Nat := u % 9223372036854775808
def sgo (u : Nat) : Bool := decide (9223372036854775808 ≤ u)
theorem wd_of {u : Nat} (h : u < 18446744073709551616) : u = wd (sgo u) (rgo u) := by
  unfold wd sgo rgo
  by_cases h1 : 9223372036854775808 ≤ u
  · rw [decide_eq_true h1, if_pos rfl]; omega
  · rw [decide_eq_false h1, if_neg (by decide)]; omega
theorem rgo_wd {s : Bool} {r : Nat} (h : r < 9223372036854775808) : rgo (wd s r) = r := (wd_parts h).2
theorem sgo_wd {s : Bool} {r : Nat} (h : r < 9223372036854775808) : sgo (wd s r) = s := by
  unfold sgo wd; cases s
  · simp; omega
  · simp
theorem wd_lt {s : Bool} {r : Nat} (h : r < 9223372036854775808) : wd s r < 18446744073709551616 := by unfold wd; split <;> omega
theorem read_nan {s : Bool} {r : Nat} (h1 : infR < r) (h : r < 9223372036854775808) : double.read (wd s r) = .nan s (r - infR) := by
  unfold Format.read
  simp only [weight_d, binade_d, infRung_d, least_d, (wd_parts h).2, wd_sg h]
  have h2 : infR = 9218868437227405312 := rfl
  rw [if_neg (by omega), if_neg (by omega), if_neg (by omega)]
theorem order_nan {s : Bool} {r u : Nat} (h1 : infR < r) (h : r < 9223372036854775808) : double.order (wd s r) u = none := by
  unfold Format.order
  rw [read_nan h1 h]
  unfold Datum.order
  rfl
theorem order_inf_fin {s t : Bool} {q : Nat} (hq : q < infR) : double.order (wd s infR) (wd t q) = some (if s then .lt else .gt) := by
  unfold Format.order
  rw [read_inf, read_fin hq]
  unfold Datum.order
  rfl
theorem order_inf {s : Bool} : double.order (wd s infR) (wd s infR) = some .eq := by
  unfold Format.order
  rw [read_inf]
  unfold Datum.order
  cases s <;> rfl
theorem compare_self {a : Int} : compare a a = .eq := by
  show compareOfLessAndEq a a = .eq
  unfold compareOfLessAndEq; rw [if_neg (Int.lt_irrefl a), if_pos rfl]
theorem compare_lt {a b : Int} (h : a < b) : compare a b = .lt := by
  show compareOfLessAndEq a b = .lt
  unfold compareOfLessAndEq; rw [if_pos h]
theorem compare_gt {a b : Int} (h : b < a) : compare a b = .gt := by
  show compareOfLessAndEq a b = .gt
  unfold compareOfLessAndEq; rw [if_neg (by omega), if_neg (by omega)]
theorem fmt64 : FloatKind.f64.format = double := rfl
/-- a word is none, infinite or finite. -/
theorem isNaN_v {u : Nat} (h : u < 18446744073709551616) : fcmpV .neq .f64 u u = decide (infR < rgo u) := by
  have hr : rgo u < 9223372036854775808 := Nat.mod_lt _ (by decide)
  rw [wd_of h, rgo_wd hr]
  unfold fcmpV
  simp only [fmt64]
  rcases Nat.lt_trichotomy (rgo u) infR with h1 | h1 | h1
  · rw [order_fin h1 h1, compare_self, decide_eq_false (by omega)]; rfl
  · rw [h1, order_inf, decide_eq_false (by omega)]; rfl
  · rw [order_nan h1 hr, decide_eq_true h1]; rfl
theorem isInf_v {u : Nat} : fcmpV .gtr .f64 (rgo u) 9218868437227405311 = decide (rgo u = infR) := by
  have hr : rgo u < 9223372036854775808 := Nat.mod_lt _ (by decide)
  have hm : (9218868437227405311 : Nat) < infR := by decide
  show (double.order (wd false (rgo u)) (wd false 9218868437227405311) == some .gt) = _
  rcases Nat.lt_trichotomy (rgo u) infR with h1 | h1 | h1
  · rw [order_fin h1 hm, decide_eq_false (by omega)]
    rcases Nat.lt_or_ge (rgo u) 9218868437227405311 with h2 | h2
    · have := mg_lt h2 hm
      rw [compare_lt (by unfold sv; simp; omega)]; rfl
    · have h3 : rgo u = 9218868437227405311 := by unfold infR at h1; omega
      rw [h3, compare_self]; rfl
  · rw [h1, order_inf_fin hm, decide_eq_true rfl]; rfl
  · rw [order_nan h1 hr, decide_eq_false (by omega)]; rfl
theorem isZero_v {u : Nat} (h : u < 18446744073709551616) : fcmpV .eql .f64 u 0 = decide (rgo u = 0) := by
  have hr : rgo u < 9223372036854775808 := Nat.mod_lt _ (by decide)
  have h0 : (0 : Nat) < infR := by decide
  show (double.order u (wd false 0) == some .eq) = _
  rw [wd_of h, rgo_wd hr]
  rcases Nat.lt_trichotomy (rgo u) infR with h1 | h1 | h1
  · rw [order_fin h1 h0]
    rcases Nat.eq_zero_or_pos (rgo u) with h2 | h2
    · rw [h2, mg_zero, decide_eq_true rfl]; cases sgo u <;> rfl
    · have := mg_pos h2 h1
      rw [mg_zero, decide_eq_false (by omega)]
      cases sgo u
      · rw [compare_gt (by simp [sv]; omega)]; rfl
      · rw [compare_lt (by simp [sv]; omega)]; rfl
  · have h3 : infR = 9218868437227405312 := rfl
    rw [h1, order_inf_fin h0, decide_eq_false (by omega)]; cases sgo u <;> rfl
  · rw [order_nan h1 hr, decide_eq_false (by omega)]; rfl
/-- within the greatest ones. -/
def clamp (w : Nat) : Nat := fminV .f64 (fmaxV .f64 w 18442240474082181119) 9218868437227405311
theorem max_ok {s : Bool} {r : Nat} (hr : r ≤ infR) : ∃ t q, q ≤ infR ∧ fmaxV .f64 (wd s r) 18442240474082181119 = wd t q ∧ (r < infR → t = s ∧ q = r) ∧ (double.order (wd s r) 18442240474082181119).isSome = true := by
  have hm : (9218868437227405311 : Nat) < infR := by decide
  have e : (18442240474082181119 : Nat) = wd true 9218868437227405311 := by decide
  unfold fmaxV
  rw [fmt64, e]
  rcases Nat.lt_or_ge r infR with h1 | h1
  · rw [order_fin h1 hm]
    have hge : sv true (mg 9218868437227405311) ≤ sv s (mg r) := by
      have : mg r ≤ mg 9218868437227405311 := by
        rcases Nat.lt_or_ge r 9218868437227405311 with h2 | h2
        · exact Nat.le_of_lt (mg_lt h2 hm)
        · have h3 : r = 9218868437227405311 := by unfold infR at h1; omega
          rw [h3]; exact Nat.le_refl _
      cases s <;> simp [sv] <;> omega
    rcases Int.lt_or_le (sv true (mg 9218868437227405311)) (sv s (mg r)) with h2 | h2
    · rw [compare_gt h2]; exact ⟨s, r, hr, rfl, fun _ => ⟨rfl, rfl⟩, rfl⟩
    · have h3 : sv s (mg r) = sv true (mg 9218868437227405311) := by omega
      have hpos := mg_pos (r := 9218868437227405311) (by decide) hm
      have h4 : s = true ∧ mg r = mg 9218868437227405311 := by cases s <;> simp [sv] at h3 ⊢ <;> omega
      have h5 := mg_inj h1 hm h4.2
      rw [h3, compare_self]
      refine ⟨true, 9218868437227405311, by decide, ?_, fun _ => ⟨h4.1.symm, h5.symm⟩, rfl⟩
      simp only
      rw [h4.1, h5]; split <;> rfl
  · have h2 : r = infR := by omega
    rw [h2, order_inf_fin hm]
    cases s
    · exact ⟨false, infR, Nat.le_refl _, rfl, fun h => absurd h (Nat.lt_irrefl _), rfl⟩
    · exact ⟨true, 9218868437227405311, by decide, rfl, fun h => absurd h (Nat.lt_irrefl _), rfl⟩
theorem clamp_any {s : Bool} {r : Nat} (hr : r ≤ infR) : (double.order (wd s r) 18442240474082181119).isSome = true ∧ (double.order (fmaxV .f64 (wd s r) 18442240474082181119) 9218868437227405311).isSome = true ∧ ∃ t q, q < infR ∧ clamp (wd s r) = wd t q ∧ (r < infR → t = s ∧ q = r) := by
  have hm : (9218868437227405311 : Nat) < infR := by decide
  obtain ⟨t, q, h1, h2, h3, h4⟩ := max_ok (s := s) hr
  have e : (9218868437227405311 : Nat) = wd false 9218868437227405311 := by decide
  refine ⟨h4, ?_⟩
  unfold clamp
  rw [h2]
  have e2 : fminV .f64 (wd t q) 9218868437227405311 = (match double.order (wd t q) (wd false 9218868437227405311) with | some .lt => wd t q | some .gt => 9218868437227405311 | _ => if (FloatKind.f64.decode (wd t q)).neg then wd t q else 9218868437227405311) := rfl
  rw [e2]
  rcases Nat.lt_or_ge q infR with h5 | h5
  · have hle : sv t (mg q) ≤ sv false (mg 9218868437227405311) := by
      have : mg q ≤ mg 9218868437227405311 := by
        rcases Nat.lt_or_ge q 9218868437227405311 with h2 | h2
        · exact Nat.le_of_lt (mg_lt h2 hm)
        · have h3 : q = 9218868437227405311 := by unfold infR at h5; omega
          rw [h3]; exact Nat.le_refl _
      cases t <;> simp [sv] <;> omega
    have e3 : double.order (wd t q) 9218868437227405311 = double.order (wd t q) (wd false 9218868437227405311) := rfl
    rw [e3, order_fin h5 hm]
    refine ⟨rfl, ?_⟩
    rcases Int.lt_or_le (sv t (mg q)) (sv false (mg 9218868437227405311)) with h6 | h6
    · rw [compare_lt h6]; exact ⟨t, q, h5, rfl, h3⟩
    · have h7 : sv t (mg q) = sv false (mg 9218868437227405311) := by omega
      have hpos := mg_pos (r := 9218868437227405311) (by decide) hm
      have h8 : t = false ∧ mg q = mg 9218868437227405311 := by cases t <;> simp [sv] at h7 ⊢ <;> omega
      have h9 := mg_inj h5 hm h8.2
      rw [h7, compare_self]
      simp only
      refine ⟨t, q, h5, ?_, h3⟩
      rw [h8.1, h9]; split <;> rfl
  · have h6 : q = infR := by omega
    have e3 : double.order (wd t q) 9218868437227405311 = double.order (wd t q) (wd false 9218868437227405311) := rfl
    rw [e3, h6, order_inf_fin hm]
    have h7 : ¬ r < infR := fun h => by have := (h3 h).2; omega
    cases t
    · exact ⟨rfl, false, 9218868437227405311, by decide, rfl, fun h => absurd h h7⟩
    · have h8 : s = true ∨ s = false := by cases s <;> simp
      exact ⟨rfl, true, infR - 1, by decide, by
        exfalso
        have h9 : r = infR := by omega
        rw [h9] at h2
        have := h2
        unfold fmaxV at this
        rw [fmt64, show (18442240474082181119 : Nat) = wd true 9218868437227405311 by decide, order_inf_fin hm] at this
        cases s
        · simp [wd, h6, infR] at this
        · simp [wd, h6, infR] at this, fun h => absurd h h7⟩
/-- bits that are taken away. -/
theorem wrapu_n {n : Nat} (h : n < 18446744073709551616) : IntKind.u64.wrap (n : Int) = n := by
  simp only [IntKind.wrap, IntKind.signed, IntKind.bits, Bool.false_and, Bool.false_eq_true, if_false]
  omega
theorem andNot_nat {u c : Nat} (hu : u < 18446744073709551616) (hc : c < 18446744073709551616) : bitsV .andNot .u64 u c = ((u &&& (18446744073709551615 - c) : Nat) : Int) := by
  unfold bitsV
  simp only [show IntKind.bits .u64 = 64 from rfl]
  have h1 : (BitVec.ofInt 64 (u : Int) &&& ~~~BitVec.ofInt 64 (c : Int)).toNat = u &&& (18446744073709551615 - c) := by
    rw [BitVec.ofInt_natCast, BitVec.ofInt_natCast, BitVec.toNat_and, BitVec.toNat_not, BitVec.toNat_ofNat, BitVec.toNat_ofNat, Nat.mod_eq_of_lt (by simpa using hu), Nat.mod_eq_of_lt (by simpa using hc)]
  refine (congrArg (fun n : Nat => IntKind.u64.wrap (n : Int)) h1).trans ?_
  exact wrapu_n (Nat.lt_of_le_of_lt Nat.and_le_left hu)
theorem abs_v {u : Nat} (hu : u < 18446744073709551616) : bitsV .andNot .u64 u 9223372036854775808 = (rgo u : Nat) := by
  have := andNot_nat hu (show 9223372036854775808 < 18446744073709551616 by omega)
  refine this.trans ?_
  congr 1
  show u &&& (2 ^ 63 - 1) = u % 2 ^ 63
  exact Nat.and_two_pow_sub_one_eq_mod u 63
theorem exp_mask {u : Nat} (hu : u < 18446744073709551616) : bitsV .andNot .u64 u 9218868437227405312 = (u / 9223372036854775808 * 9223372036854775808 + u % 4503599627370496 : Nat) := by
  refine (andNot_nat hu (show 9218868437227405312 < 18446744073709551616 by omega)).trans ?_
  congr 1
  apply Nat.eq_of_testBit_eq
  intro i
  rw [Nat.testBit_and, show (18446744073709551615 - 9218868437227405312 : Nat) = 2 ^ 63 * 1 + (2 ^ 52 - 1) by decide, show u / 9223372036854775808 * 9223372036854775808 + u % 4503599627370496 = 2 ^ 63 * (u / 2 ^ 63) + u % 2 ^ 52 by rw [Nat.mul_comm]]
  rw [Nat.testBit_two_pow_mul_add _ (by decide), Nat.testBit_two_pow_mul_add _ (Nat.lt_of_lt_of_le (Nat.mod_lt _ (by decide)) (by decide))]
  have hmod : (u % 2 ^ 52).testBit i = (decide (i < 52) && u.testBit i) := Nat.testBit_mod_two_pow u 52 i
  have hm1 : (2 ^ 52 - 1 : Nat).testBit i = decide (i < 52) := Nat.testBit_two_pow_sub_one 52 i
  by_cases h1 : i < 63
  · rw [if_pos h1, if_pos h1, hmod, hm1, Bool.and_comm]
  · rw [if_neg h1, if_neg h1, Nat.testBit_div_two_pow]
    rcases Nat.lt_or_ge i 64 with h2 | h2
    · have : i = 63 := by omega
      subst this; simp
    · have h3 : u.testBit i = false := Nat.testBit_lt_two_pow (Nat.lt_of_lt_of_le hu (by
        calc 18446744073709551616 = 2 ^ 64 := by decide
          _ ≤ 2 ^ i := Nat.pow_le_pow_right (by omega) h2))
      rw [show i - 63 + 63 = i by omega, h3]; simp
theorem or_add {a b k : Nat} (ha : a % 2 ^ k = 0) (hb : b < 2 ^ k) : a ||| b = a + b := by
  have h : a = 2 ^ k * (a / 2 ^ k) := by have := Nat.div_add_mod a (2 ^ k); omega
  rw [h, Nat.two_pow_add_eq_or_of_lt hb]
theorem or_nat {a b : Nat} (ha : a < 18446744073709551616) (hb : b < 18446744073709551616) : bitsV .or .u64 a b = ((a ||| b : Nat) : Int) := by
  unfold bitsV
  simp only [show IntKind.bits .u64 = 64 from rfl]
  have h1 : (BitVec.ofInt 64 (a : Int) ||| BitVec.ofInt 64 (b : Int)).toNat = a ||| b := by
    rw [BitVec.ofInt_natCast, BitVec.ofInt_natCast, BitVec.toNat_or, BitVec.toNat_ofNat, BitVec.toNat_ofNat, Nat.mod_eq_of_lt (by simpa using ha), Nat.mod_eq_of_lt (by simpa using hb)]
  refine (congrArg (fun n : Nat => IntKind.u64.wrap (n : Int)) h1).trans ?_
  exact wrapu_n (by
    have : a ||| b < 2 ^ 64 := Nat.or_lt_two_pow (by simpa using ha) (by simpa using hb)
    simpa using this)
/-- sign and fraction, with an exponent put between. -/
theorem or_exp {s F E : Nat} (hs : s < 2) (hF : F < 4503599627370496) (hE : E < 2048) : bitsV .or .u64 ((s * 9223372036854775808 + F : Nat) : Int) ((E * 4503599627370496 : Nat) : Int) = ((s * 9223372036854775808 + E * 4503599627370496 + F : Nat) : Int) := by
  rw [or_nat (by omega) (by omega)]
  congr 1
  have h1 : s * 9223372036854775808 + F = (s * 9223372036854775808) ||| F := (or_add (k := 52) (by omega) (by simpa using hF)).symm
  have h2 : s * 9223372036854775808 + E * 4503599627370496 = (s * 9223372036854775808) ||| (E * 4503599627370496) := (or_add (k := 63) (by omega) (by omega)).symm
  have h3 : s * 9223372036854775808 + E * 4503599627370496 + F = (s * 9223372036854775808 + E * 4503599627370496) ||| F := (or_add (k := 52) (by omega) (by simpa using hF)).symm
  rw [h1, h3, h2, Nat.or_assoc, Nat.or_assoc, Nat.or_comm F]
theorem and_nat {a b : Nat} (ha : a < 18446744073709551616) (hb : b < 18446744073709551616) : std.and .u64 (a : Int) (b : Int) = ((a &&& b : Nat) : Int) := by
  have h1 : (BitVec.ofInt 64 (a : Int) &&& BitVec.ofInt 64 (b : Int)).toNat = a &&& b := by
    rw [BitVec.ofInt_natCast, BitVec.ofInt_natCast, BitVec.toNat_and, BitVec.toNat_ofNat, BitVec.toNat_ofNat, Nat.mod_eq_of_lt (by simpa using ha), Nat.mod_eq_of_lt (by simpa using hb)]
  refine (congrArg (fun n : Nat => IntKind.u64.wrap (n : Int)) h1).trans ?_
  exact wrapu_n (Nat.lt_of_le_of_lt Nat.and_le_left ha)
theorem wrap_i64n {n : Nat} (h : n < 9223372036854775808) : IntKind.i64.wrap (n : Int) = n := IntWalk.i64_in _ (by omega)
theorem and_nat_i {a b : Nat} (ha : a < 9223372036854775808) (hb : b < 9223372036854775808) : std.and .i64 (a : Int) (b : Int) = ((a &&& b : Nat) : Int) := by
  have h1 : (BitVec.ofInt 64 (a : Int) &&& BitVec.ofInt 64 (b : Int)).toNat = a &&& b := by
    rw [BitVec.ofInt_natCast, BitVec.ofInt_natCast, BitVec.toNat_and, BitVec.toNat_ofNat, BitVec.toNat_ofNat, Nat.mod_eq_of_lt (by omega), Nat.mod_eq_of_lt (by omega)]
  refine (congrArg (fun n : Nat => IntKind.i64.wrap (n : Int)) h1).trans ?_
  exact wrap_i64n (Nat.lt_of_le_of_lt Nat.and_le_left ha)
theorem and_2047 {a : Nat} (ha : a < 9223372036854775808) : std.and .i64 (a : Int) 2047 = ((a % 2048 : Nat) : Int) := by
  refine (and_nat_i ha (show 2047 < 9223372036854775808 by omega)).trans ?_
  congr 1
  exact Nat.and_two_pow_sub_one_eq_mod a 11
theorem and_2047u {a : Nat} (ha : a < 18446744073709551616) : std.and .u64 (a : Int) 2047 = ((a % 2048 : Nat) : Int) := by
  refine (and_nat ha (show 2047 < 18446744073709551616 by omega)).trans ?_
  congr 1
  exact Nat.and_two_pow_sub_one_eq_mod a 11
theorem and_sign {a : Nat} (ha : a < 18446744073709551616) : std.and .u64 (a : Int) 9223372036854775808 = ((a / 9223372036854775808 * 9223372036854775808 : Nat) : Int) := by
  refine (and_nat ha (show 9223372036854775808 < 18446744073709551616 by omega)).trans ?_
  congr 1
  show a &&& 2 ^ 63 = _
  have h0 : a &&& 2 ^ 63 = (a.testBit 63).toNat * 2 ^ 63 := by
    apply Nat.eq_of_testBit_eq
    intro i
    rw [Nat.testBit_and, Nat.testBit_two_pow]
    cases hb : a.testBit 63
    · simp only [Bool.toNat_false, Nat.zero_mul, Nat.zero_testBit]
      by_cases h : 63 = i
      · subst h; rw [hb]; rfl
      · rw [decide_eq_false h, Bool.and_false]
    · rw [Bool.toNat_true, Nat.one_mul, Nat.testBit_two_pow]
      by_cases h : 63 = i
      · subst h; rw [hb]; rfl
      · rw [decide_eq_false h, Bool.and_false]
  rw [h0]
  have h2 : a / 9223372036854775808 = (a.testBit 63).toNat := by
    rw [Nat.testBit_eq_decide_div_mod_eq]
    by_cases h : a / 2 ^ 63 % 2 = 1
    · rw [decide_eq_true h]; simp; omega
    · rw [decide_eq_false h]; simp; omega
  rw [h2]
theorem shr_52 {u : Nat} (hu : u < 18446744073709551616) : std.shr .u64 (u : Int) 52 = ((u / 4503599627370496 : Nat) : Int) := by
  show Int.fdiv (u : Int) (2 ^ min (52 : Int).toNat 64) = _
  rw [show (2 : Int) ^ min (52 : Int).toNat 64 = 4503599627370496 by decide, Int.fdiv_eq_ediv_of_nonneg _ (by omega)]
  omega
theorem shl_52 {E : Nat} (hE : E < 2048) : std.shl .u64 (E : Int) 52 = ((E * 4503599627370496 : Nat) : Int) := by
  show IntKind.u64.wrap ((E : Int) * 2 ^ min (52 : Int).toNat 64) = _
  rw [show (2 : Int) ^ min (52 : Int).toNat 64 = 4503599627370496 by decide]
  have := wrapu_n (n := E * 4503599627370496) (by omega)
  rw [Int.natCast_mul] at this
  exact this.trans (by rw [Int.natCast_mul])
/-- one times a number. -/
theorem mul_one_v {s : Bool} {r : Nat} (hr : r < infR) : double.mul 4607182418800017408 (wd s r) = some (wd s r) := by
  have e : (4607182418800017408 : Nat) = wd false 4607182418800017408 := rfl
  rw [e]
  have h := mul_fin (s := false) (t := s) (r := 4607182418800017408) (q := r) (t0 := r) (by decide) hr hr 2000 (by
    have h1 := fpl_ge (r := r)
    have h2 : fpl 4607182418800017408 = -52 := by decide
    rw [h2]; omega) (by omega) (by
    have h1 := fpl_ge (r := r)
    have h2 : fpl 4607182418800017408 = -52 := by decide
    have h3 : fmag 4607182418800017408 = 2 ^ 52 := by decide
    rw [h2, h3, Nat.mul_comm (2 ^ 52), Nat.mul_assoc, ← Nat.pow_add]
    congr 2; omega)
  rw [Bool.false_xor] at h
  exact h
/-- a number below the normal ones, made a normal one. -/
theorem mul_up_v {s : Bool} {r : Nat} (h : r < 4503599627370496) : double.mul (wd s r) 4841369599423283200 = some (wd s (rg r 52)) := by
  have e : (4841369599423283200 : Nat) = wd false 4841369599423283200 := rfl
  rw [e]
  obtain ⟨K, hK⟩ : ∃ K, K = 1074 := ⟨_, rfl⟩
  obtain ⟨g1, g2⟩ := rg_ok (k := r) (e := 52) (by omega) (by have := log2_le (k := r) (by omega); omega)
  have h := mul_fin (s := s) (t := false) (r := r) (q := 4841369599423283200) (t0 := rg r 52) (by unfold infR; omega) (by decide) g1 K (by
    have h2 : fpl 4841369599423283200 = 0 := by decide
    have h1 := fpl_ge (r := r)
    rw [h2]; omega) (by omega) (by
    have h1 : fpl r = -1074 := by unfold fpl; rw [if_pos h]
    have h2 : fpl 4841369599423283200 = 0 := by decide
    have h3 : fmag 4841369599423283200 = 2 ^ 52 := by decide
    have h4 : fmag r = r := by unfold fmag; rw [if_pos h]
    have g3 : fmag (rg r 52) * 2 ^ (fpl (rg r 52) + (K : Nat)).toNat = r * 2 ^ 52 := by subst hK; exact g2
    rw [g3, h1, h2, h3, h4, show ((-1074 : Int) + 0 + (K : Nat)).toNat = 0 by omega, Nat.pow_zero, Nat.mul_one])
  rw [Bool.xor_false] at h
  exact h
theorem small_v {u : Nat} (h : rgo u < infR) : fcmpV .lss .f64 (rgo u) 4503599627370496 = decide (rgo u < 4503599627370496) := by
  have hm : (4503599627370496 : Nat) < infR := by decide
  show (double.order (wd false (rgo u)) (wd false 4503599627370496) == some .lt) = _
  rw [order_fin h hm]
  rcases Nat.lt_trichotomy (rgo u) 4503599627370496 with h2 | h2 | h2
  · have := mg_lt h2 hm
    rw [compare_lt (by simp [sv]; omega), decide_eq_true h2]; rfl
  · rw [h2, compare_self]; rfl
  · have := mg_lt h2 h
    rw [compare_gt (by simp [sv]; omega), decide_eq_false (by omega)]; rfl
theorem neg_v {s : Bool} {r : Nat} (h : r < infR) (h0 : 0 < r) : fcmpV .lss .f64 (wd s r) 0 = s := by
  have hm : (0 : Nat) < infR := by decide
  show (double.order (wd s r) (wd false 0) == some .lt) = _
  have := mg_pos h0 h
  rw [order_fin h hm, mg_zero]
  cases s
  · rw [compare_gt (by simp [sv]; omega)]; rfl
  · rw [compare_lt (by simp [sv]; omega)]; rfl
/-- a normal word's exponent field and fraction. -/
def fE (r : Nat) : Nat := r / 4503599627370496
def fF (r : Nat) : Nat := r % 4503599627370496
def normal (r : Nat) : Prop := 4503599627370496 ≤ r ∧ r < infR
/-- what math.Ldexp tells. -/
def ldx (u : Nat) (e : Int) : Nat :=
  if rgo u = 0 then u
  else if e + fE (rgo u) - 1023 < -1075 then wd (sgo u) 0
  else if 1023 < e + fE (rgo u) - 1023 then wd (sgo u) infR
  else if e + fE (rgo u) - 1023 < -1022 then (double.mul 4368491638549381120 (wd (sgo u) ((e + fE (rgo u) + 53).toNat * 4503599627370496 + fF (rgo u)))).getD 0
  else wd (sgo u) ((e + fE (rgo u)).toNat * 4503599627370496 + fF (rgo u))
theorem ldx_any {u : Nat} {e : Int} (hu : u < 18446744073709551616) (hr : rgo u < infR) : ∃ s r, r ≤ infR ∧ ldx u e = wd s r := by
  have hi : infR = 9218868437227405312 := rfl
  have hF : fF (rgo u) < 4503599627370496 := Nat.mod_lt _ (by decide)
  have hE : fE (rgo u) < 2047 := by unfold fE; omega
  unfold ldx
  split
  · exact ⟨sgo u, rgo u, Nat.le_of_lt hr, wd_of hu⟩
  split
  · exact ⟨_, 0, Nat.zero_le _, rfl⟩
  split
  · exact ⟨_, infR, Nat.le_refl _, rfl⟩
  split
  · have e1 : (4368491638549381120 : Nat) = wd false 4368491638549381120 := rfl
    obtain ⟨t, h1, h2⟩ := fmul_any (s := false) (t := sgo u) (r := 4368491638549381120) (q := (e + fE (rgo u) + 53).toNat * 4503599627370496 + fF (rgo u)) (by decide) (by omega)
    rw [e1, h2]
    exact ⟨_, t, h1, rfl⟩
  · exact ⟨_, _, by omega, rfl⟩
/-- what math.Frexp tells. -/
def fxv (u : Nat) : Nat := if rgo u < 4503599627370496 then rg (rgo u) 52 else rgo u
def fxk (u : Nat) : Int := if rgo u < 4503599627370496 then -52 else 0
def fxf (u : Nat) : Nat := if rgo u = 0 then u else wd (sgo u) (1022 * 4503599627370496 + fF (fxv u))
def fxe (u : Nat) : Int := if rgo u = 0 then 0 else fxk u + fE (fxv u) - 1022
theorem rg_normal {r : Nat} (h : r < 4503599627370496) (h0 : 0 < r) : rg r 52 = (r.log2 + 1) * 4503599627370496 + (r * 2 ^ (52 - r.log2) - 4503599627370496) ∧ 4503599627370496 ≤ r * 2 ^ (52 - r.log2) ∧ r * 2 ^ (52 - r.log2) < 9007199254740992 ∧ r.log2 < 52 := by
  have hl : r.log2 < 52 := (Nat.log2_lt (by omega)).2 (by simpa using h)
  have h1 := (Nat.log2_eq_iff (show r ≠ 0 by omega)).1 rfl
  have h4 : 4503599627370496 ≤ r * 2 ^ (52 - r.log2) := by
    calc 4503599627370496 = 2 ^ (r.log2 + (52 - r.log2)) := by rw [show r.log2 + (52 - r.log2) = 52 by omega]
      _ = 2 ^ r.log2 * 2 ^ (52 - r.log2) := by rw [Nat.pow_add]
      _ ≤ r * 2 ^ (52 - r.log2) := Nat.mul_le_mul_right _ h1.1
  have h5 : r * 2 ^ (52 - r.log2) < 9007199254740992 := by
    calc r * 2 ^ (52 - r.log2) < 2 ^ (r.log2 + 1) * 2 ^ (52 - r.log2) := (Nat.mul_lt_mul_right (Nat.two_pow_pos _)).2 h1.2
      _ = 2 ^ 53 := by rw [← Nat.pow_add]; congr 1; omega
      _ = 9007199254740992 := by decide
  refine ⟨?_, h4, h5, hl⟩
  unfold rg
  rw [if_neg (by omega), if_neg (by omega), show 52 + r.log2 - 52 = r.log2 by omega]
  omega
theorem fxv_normal {u : Nat} (h : rgo u < infR) (h0 : rgo u ≠ 0) : normal (fxv u) := by
  unfold fxv normal
  split
  · rename_i h1
    obtain ⟨g, g2, g3, g4⟩ := rg_normal h1 (by omega)
    have hi : infR = 9218868437227405312 := rfl
    rw [g]; omega
  · omega
/-- a float's number: its digits, its place. -/
def xm (u : Nat) : Int := sv (sgo u) (fmag (rgo u))
def xe (u : Nat) : Int := fpl (rgo u)
/-- the digits that gauss tells of a float. -/
def gmf (u : Nat) : Int := if rgo u = 0 then 0 else sv (sgo u) (4503599627370496 + fF (fxv u))
theorem gm_le (u : Nat) : -9007199254740992 < gmf u ∧ gmf u < 9007199254740992 := by
  have hF : fF (fxv u) < 4503599627370496 := Nat.mod_lt _ (by decide)
  unfold gmf sv
  split
  · omega
  · split <;> omega
/-- they are the float's own, times a power of two. -/
theorem gm_x {u : Nat} (h : rgo u < infR) : ∃ n : Nat, n ≤ 52 ∧ gmf u = xm u * 2 ^ n ∧ (rgo u ≠ 0 → fxe u - 53 + n = xe u) := by
  unfold gmf xm xe fxe
  by_cases h0 : rgo u = 0
  · rw [if_pos h0, h0, fmag_zero]
    refine ⟨0, by omega, by cases sgo u <;> rfl, fun h => absurd rfl h⟩
  rw [if_neg h0, if_neg h0]
  by_cases h1 : rgo u < 4503599627370496
  · obtain ⟨g, g2, g3, g4⟩ := rg_normal h1 (by omega)
    have e1 : fxv u = rg (rgo u) 52 := by unfold fxv; rw [if_pos h1]
    have e2 : fmag (rgo u) = rgo u := by unfold fmag; rw [if_pos h1]
    have e3 : fpl (rgo u) = -1074 := by unfold fpl; rw [if_pos h1]
    have e4 : fxk u = -52 := by unfold fxk; rw [if_pos h1]
    have e5 : fF (fxv u) = rgo u * 2 ^ (52 - (rgo u).log2) - 4503599627370496 := by rw [e1, g]; unfold fF; omega
    have e6 : fE (fxv u) = (rgo u).log2 + 1 := by rw [e1, g]; unfold fE; omega
    refine ⟨52 - (rgo u).log2, by omega, ?_, fun _ => ?_⟩
    · rw [e5, e2, show 4503599627370496 + (rgo u * 2 ^ (52 - (rgo u).log2) - 4503599627370496) = rgo u * 2 ^ (52 - (rgo u).log2) by omega, sv_mul]
      congr 1
    · rw [e3, e4, e6]; omega
  · have e1 : fxv u = rgo u := by unfold fxv; rw [if_neg h1]
    have e4 : fxk u = 0 := by unfold fxk; rw [if_neg h1]
    have e2 : fmag (rgo u) = 4503599627370496 + rgo u % 4503599627370496 := by unfold fmag; rw [if_neg h1]
    have e3 : fpl (rgo u) = -1074 + ((rgo u / 4503599627370496 - 1 : Nat) : Int) := by unfold fpl; rw [if_neg h1]
    refine ⟨0, by omega, ?_, fun _ => ?_⟩
    · rw [e1, e2, Int.pow_zero, Int.mul_one]; rfl
    · rw [e1, e3, e4]; unfold fE; omega
/-- what is told as a whole number behind math.Frexp and math.Ldexp. -/
theorem gm_told {u : Nat} (hu : u < 18446744073709551616) (h : rgo u < infR) : floatToIntVal .f64 (ldx (fxf u) 53) .i64 = some (gmf u) := by
  have hF : fF (fxv u) < 4503599627370496 := Nat.mod_lt _ (by decide)
  by_cases h0 : rgo u = 0
  · have e1 : fxf u = u := by unfold fxf; rw [if_pos h0]
    have e2 : ldx u 53 = u := by unfold ldx; rw [if_pos h0]
    have e3 : gmf u = 0 := by unfold gmf; rw [if_pos h0]
    rw [e1, e2, e3, wd_of hu, h0]
    cases sgo u <;> decide
  · have e1 : fxf u = wd (sgo u) (1022 * 4503599627370496 + fF (fxv u)) := by unfold fxf; rw [if_neg h0]
    have hlt : 1022 * 4503599627370496 + fF (fxv u) < 9223372036854775808 := by omega
    have e2 : ldx (fxf u) 53 = wd (sgo u) (1075 * 4503599627370496 + fF (fxv u)) := by
      rw [e1]; unfold ldx
      rw [rgo_wd hlt, sgo_wd hlt]
      have a1 : fE (1022 * 4503599627370496 + fF (fxv u)) = 1022 := by unfold fE; omega
      have a2 : fF (1022 * 4503599627370496 + fF (fxv u)) = fF (fxv u) := by unfold fF; omega
      rw [a1, a2, if_neg (by omega), if_neg (by omega), if_neg (by omega), if_neg (by omega)]
      rfl
    have e3 : gmf u = sv (sgo u) (4503599627370496 + fF (fxv u)) := by unfold gmf; rw [if_neg h0]
    have hfin : 1075 * 4503599627370496 + fF (fxv u) < infR := by unfold infR; omega
    rw [e2, e3]
    unfold floatToIntVal FloatKind.decode
    rw [fmt64, read_fin hfin]
    have a3 : fpl (1075 * 4503599627370496 + fF (fxv u)) = 0 := by unfold fpl; rw [if_neg (by omega)]; omega
    have a4 : fmag (1075 * 4503599627370496 + fF (fxv u)) = 4503599627370496 + fF (fxv u) := by unfold fmag; rw [if_neg (by omega)]; omega
    rw [a3, a4]
    unfold Datum.toInt Datum.integral
    simp only
    have a5 : Toward.zero.cut (sgo u) ((4503599627370496 + fF (fxv u)) <<< (0 : Int).toNat) (-(0 : Int)).toNat = 4503599627370496 + fF (fxv u) := by
      have e0 : (4503599627370496 + fF (fxv u)) <<< (0 : Int).toNat = 4503599627370496 + fF (fxv u) := rfl
      rw [e0]
      unfold Toward.cut
      have e9 : 1 <<< min (-(0 : Int)).toNat ((4503599627370496 + fF (fxv u)).log2 + 2) = 1 := by
        rw [show (-(0 : Int)).toNat = 0 from rfl, Nat.zero_min]; rfl
      simp only [e9, Nat.div_one, Bool.toNat_false, Nat.add_zero]
    rw [a5, signed_sv, Nat.pow_zero, Nat.mul_one]
    rw [if_pos]
    have hmin : IntKind.i64.min = -9223372036854775808 := by decide
    have hmax : IntKind.i64.max = 9223372036854775807 := by decide
    rw [hmin, hmax]
    unfold sv
    split <;> omega
/-- the float that limbs, lowest first, are gathered in: above the point the topmost. -/
def flo (N : Nat) : Nat := if N < 4294967296 then rg N 1074 else rg N 1042
def nl (N : Nat) : Nat := if N = 0 then 0 else if N < 4294967296 then 1 else 2
theorem fz_ok : floatBits .quo .f64 0 4751297606875873280 = some 0 := by decide
theorem lim_float {l : Nat} (h : l < 4294967296) : FloatKind.f64.nearest (l : Int) = wd false (rg l 1074) := by
  rw [fint_small (n := (l : Int)) (by omega), decide_eq_false (by omega)]
  rfl
theorem fadd0 {l : Nat} (h : l < 4294967296) : floatBits .add .f64 0 (wd false (rg l 1074)) = some (wd false (rg l 1074)) := by
  have hk : l < 9007199254740992 := by omega
  have hl := log2_le hk
  obtain ⟨g1, g2⟩ := rg_ok hk (show 1074 + l.log2 < 2098 by omega)
  have hm : (0 : Nat) < infR := by decide
  show double.add (wd false 0) (wd false (rg l 1074)) = _
  have e : sv false (mg 0) + sv false (mg (rg l 1074)) = (mg (rg l 1074) : Int) := by rw [mg_zero]; simp [sv]
  rw [add_fin (s := false) (t := false) hm g1 (k := l) (e := 1074) hk (by omega) (by rw [e, Int.natAbs_natCast, g2]), e]
  split
  · rfl
  · rw [decide_eq_false (by omega)]
theorem log2_fmag_rg {k e : Nat} (hk : k < 9007199254740992) (h0 : k ≠ 0) (he : 52 ≤ e + k.log2) (he2 : e + k.log2 < 2098) : fmag (rg k e) = k * 2 ^ (52 - k.log2) ∧ fpl (rg k e) = (e : Int) - (52 - k.log2 : Nat) - 1074 ∧ 4503599627370496 ≤ k * 2 ^ (52 - k.log2) ∧ k * 2 ^ (52 - k.log2) < 9007199254740992 ∧ rg k e = (e + k.log2 - 52) * 4503599627370496 + k * 2 ^ (52 - k.log2) := by
  have hl := log2_le hk
  have h1 := (Nat.log2_eq_iff h0).1 rfl
  have h4 : 4503599627370496 ≤ k * 2 ^ (52 - k.log2) := by
    calc 4503599627370496 = 2 ^ (k.log2 + (52 - k.log2)) := by rw [show k.log2 + (52 - k.log2) = 52 by omega]
      _ = 2 ^ k.log2 * 2 ^ (52 - k.log2) := by rw [Nat.pow_add]
      _ ≤ k * 2 ^ (52 - k.log2) := Nat.mul_le_mul_right _ h1.1
  have h5 : k * 2 ^ (52 - k.log2) < 9007199254740992 := by
    calc k * 2 ^ (52 - k.log2) < 2 ^ (k.log2 + 1) * 2 ^ (52 - k.log2) := (Nat.mul_lt_mul_right (Nat.two_pow_pos _)).2 h1.2
      _ = 2 ^ 53 := by rw [← Nat.pow_add]; congr 1; omega
      _ = 9007199254740992 := by decide
  have hr : rg k e = (e + k.log2 - 52) * 4503599627370496 + k * 2 ^ (52 - k.log2) := by unfold rg; rw [if_neg h0, if_neg (by omega)]
  refine ⟨?_, ?_, h4, h5, hr⟩
  · rw [hr]; unfold fmag; rw [if_neg (by omega)]; omega
  · rw [hr]; unfold fpl; rw [if_neg (by omega)]; omega
theorem two_52 : (2 ^ 52 : Nat) = 4503599627370496 := by decide
theorem quo_pow (M : Nat) : M <<< 54 = M * 4 * 4503599627370496 := by rw [Nat.shiftLeft_eq, show (2 ^ 54 : Nat) = 4 * 4503599627370496 by decide, Nat.mul_assoc]
theorem quo_exact {m n c d : Nat} {i j : Int} (hm : m.log2 = n.log2) (hn : n ≠ 0) (hd : m <<< d = c * n) : Datum.quotient d (.number false m i) (.number false n j) = some (.number false (2 * c) (i - j - (d : Nat) - 1)) := by
  unfold Datum.quotient
  simp only
  rw [if_neg hn, hm, Nat.add_sub_cancel, hd, Nat.mul_mod_left, Nat.mul_div_cancel _ (by omega)]
  rfl
theorem dval {l : Nat} (h0 : l ≠ 0) (h : l < 4294967296) : double.nearest false (2 * (l * 2 ^ (52 - l.log2) * 4)) (((1074 : Nat) : Int) - ((52 - l.log2 : Nat) : Int) - 1074 - -20 - ((54 : Nat) : Int) - 1) = wd false (rg l 1042) := by
  have hk : l < 9007199254740992 := by omega
  have hl := log2_le hk
  obtain ⟨K, hK⟩ : ∃ K, K = 1074 := ⟨_, rfl⟩
  obtain ⟨b, hb⟩ : ∃ b, b = 1042 := ⟨_, rfl⟩
  rw [← hb]
  refine nearest_rg hk (by omega) K hK (by omega) ?_
  rw [show ((1074 : Nat) : Int) - ((52 - l.log2 : Nat) : Int) - 1074 - -20 - ((54 : Nat) : Int) - 1 + (K : Nat) = ((1039 - (52 - l.log2) : Nat) : Int) by omega, Int.toNat_natCast]
  have e9 : ∀ p : Nat, 2 * (l * p * 4) = l * (p * 2 ^ 3) := fun p => by rw [show (2 ^ 3 : Nat) = 8 by decide, ← Nat.mul_assoc l]; omega
  rw [e9, ← Nat.pow_add, Nat.mul_assoc, ← Nat.pow_add]
  congr 2; omega
theorem div32' {l : Nat} (h0 : l ≠ 0) (h : l < 4294967296) {a : Nat} (ha : a = 1074) {n : Nat} (hn : n = 4503599627370496) {w2 : Nat} (hw : w2 = 4751297606875873280) : double.div (wd false (rg l a)) (wd false w2) = some (wd false (rg l 1042)) := by
  have hk : l < 9007199254740992 := by omega
  have hl := log2_le hk
  obtain ⟨a1, a2, a3, a4, a5⟩ := log2_fmag_rg hk h0 (e := a) (by omega) (by omega)
  obtain ⟨g1, _⟩ := rg_ok hk (show a + l.log2 < 2098 by omega)
  have hq : w2 < infR := by rw [hw]; decide
  have b1 : fmag w2 = n := by rw [hw, hn]; decide
  have b2 : fpl w2 = -20 := by rw [hw]; decide
  unfold Format.div
  rw [read_fin g1, read_fin hq, b1, b2, a1, a2]
  have hlog : (l * 2 ^ (52 - l.log2)).log2 = n.log2 := by
    rw [hn, show (4503599627370496 : Nat).log2 = 52 by decide]
    exact (Nat.log2_eq_iff (by omega)).2 ⟨by rw [two_52]; exact a3, by rw [show (2 ^ (52 + 1) : Nat) = 9007199254740992 by decide]; exact a4⟩
  have hq2 := quo_exact (d := 54) (c := l * 2 ^ (52 - l.log2) * 4) (i := (a : Int) - ((52 - l.log2 : Nat) : Int) - 1074) (j := -20) hlog (by omega) (by rw [quo_pow, hn])
  rw [show double.fractionBits + 2 = 54 from rfl, hq2]
  show some (double.nearest false (2 * (l * 2 ^ (52 - l.log2) * 4)) ((a : Int) - ((52 - l.log2 : Nat) : Int) - 1074 - -20 - ((54 : Nat) : Int) - 1)) = _
  rw [ha, dval h0 h]
theorem div32 {l : Nat} (h0 : l ≠ 0) (h : l < 4294967296) : floatBits .quo .f64 (wd false (rg l 1074)) 4751297606875873280 = some (wd false (rg l 1042)) := by
  have := div32' h0 h rfl rfl rfl
  exact this
theorem add32' {a b e2 : Nat} (ha : a < 4294967296) (hb : b < 2097152) (he : e2 ≤ 2000) : double.add (wd false (rg a e2)) (wd false (rg b (32 + e2))) = some (wd false (rg (a + b * 4294967296) e2)) := by
  have hk : a + b * 4294967296 < 9007199254740992 := by omega
  have l1 := log2_le (k := a) (by omega)
  have l2 := log2_le (k := b) (by omega)
  have l3 := log2_le hk
  obtain ⟨g1, g2⟩ := rg_ok (k := a) (by omega) (show e2 + a.log2 < 2098 by omega)
  obtain ⟨g3, g4⟩ := rg_ok (k := b) (by omega) (show 32 + e2 + b.log2 < 2098 by omega)
  have e : sv false (mg (rg a e2)) + sv false (mg (rg b (32 + e2))) = ((a + b * 4294967296) * 2 ^ e2 : Nat) := by
    rw [g2, g4]
    show ((a * 2 ^ e2 : Nat) : Int) + ((b * 2 ^ (32 + e2) : Nat) : Int) = _
    rw [Nat.pow_add, show (2 ^ 32 : Nat) = 4294967296 by decide, ← Int.natCast_add]
    congr 1
    rw [Nat.add_mul, Nat.mul_assoc]
  rw [add_fin (s := false) (t := false) g1 g3 (k := a + b * 4294967296) (e := e2) hk (by omega) (by rw [e, Int.natAbs_natCast]), e]
  split
  · rfl
  · rw [decide_eq_false (by omega)]
theorem add32 {a b : Nat} (ha : a < 4294967296) (hb : b < 2097152) : floatBits .add .f64 (wd false (rg a 1042)) (wd false (rg b 1074)) = some (wd false (rg (a + b * 4294967296) 1042)) :=
  add32' (e2 := 1042) ha hb (by omega)
theorem flo_fin {N : Nat} (h : N < 9007199254740992) : flo N < infR := by
  have hl := log2_le h
  unfold flo; split
  · exact (rg_ok h (by omega)).1
  · exact (rg_ok h (by omega)).1
/-- what gauss' float of M * 2 ^ E is. -/
def gfl (M E : Int) : Nat := clamp (ldx (wd (decide (M < 0)) (flo M.natAbs)) (E - 32 + 32 * (nl M.natAbs : Nat)))
theorem gfl_any {M E : Int} (h : M.natAbs < 9007199254740992) : ∃ t q, q < infR ∧ gfl M E = wd t q := by
  have h1 := flo_fin h
  have h2 : flo M.natAbs < 9223372036854775808 := Nat.lt_trans h1 infR_lt
  obtain ⟨s, r, h3, h4⟩ := ldx_any (e := E - 32 + 32 * (nl M.natAbs : Nat)) (wd_lt (s := decide (M < 0)) h2) (by rw [rgo_wd h2]; exact h1)
  obtain ⟨_, _, t, q, h5, h6, _⟩ := clamp_any (s := s) h3
  exact ⟨t, q, h5, by unfold gfl; rw [h4, h6]⟩
theorem gfl_zero {E : Int} : gfl 0 E = 0 := by
  have e : ldx (wd (decide ((0 : Int) < 0)) (flo (Int.natAbs 0))) (E - 32 + 32 * (nl (Int.natAbs 0) : Nat)) = 0 := by
    have e1 : wd (decide ((0 : Int) < 0)) (flo (Int.natAbs 0)) = 0 := by decide
    rw [e1]; unfold ldx; rw [if_pos (by decide)]
  unfold gfl; rw [e]; decide
theorem flo_is {N : Nat} (h : N < 9007199254740992) (hN : N ≠ 0) : flo N = (1074 - 32 * ((nl N : Nat) - 1) + N.log2 - 52) * 4503599627370496 + N * 2 ^ (52 - N.log2) ∧ (nl N = 1 ∨ nl N = 2) := by
  have hl := log2_le h
  obtain ⟨a, ha⟩ : ∃ a, a = 1074 := ⟨_, rfl⟩
  obtain ⟨b, hb⟩ : ∃ b, b = 1042 := ⟨_, rfl⟩
  have p1 := (log2_fmag_rg h hN (e := a) (by omega) (by omega)).2.2.2.2
  have p2 := (log2_fmag_rg h hN (e := b) (by omega) (by omega)).2.2.2.2
  rw [ha] at p1
  rw [hb] at p2
  unfold flo nl
  rw [if_neg hN]
  by_cases h3 : N < 4294967296
  · rw [if_pos h3, if_pos h3]
    exact ⟨p1, .inl rfl⟩
  · rw [if_neg h3, if_neg h3]
    exact ⟨p2, .inr rfl⟩
/-- of what has a plain exponent it is just that. -/
theorem gfl_plain {M E : Int} (h : M.natAbs < 9007199254740992) (h0 : M ≠ 0) (h1 : -1022 ≤ E + M.natAbs.log2) (h2 : E + M.natAbs.log2 ≤ 1023) : gfl M E = wd (decide (M < 0)) (rg M.natAbs (E + 1074).toNat) := by
  have hl := log2_le h
  have hN : M.natAbs ≠ 0 := by omega
  unfold gfl
  generalize M.natAbs = N at *
  obtain ⟨g1, _⟩ := rg_ok h (show (E + 1074).toNat + N.log2 < 2098 by omega)
  have hfl := flo_fin h
  have hfl2 : flo N < 9223372036854775808 := Nat.lt_trans hfl infR_lt
  obtain ⟨a1, a2, a3, a4, a5⟩ := log2_fmag_rg h hN (e := (E + 1074).toNat) (by omega) (by omega)
  have key : ldx (wd (decide (M < 0)) (flo N)) (E - 32 + 32 * (nl N : Nat)) = wd (decide (M < 0)) (rg N (E + 1074).toNat) := by
    have e1 := flo_is h hN
    obtain ⟨e1, e2⟩ := e1
    unfold ldx
    rw [rgo_wd hfl2, sgo_wd hfl2, a5]
    generalize hP : N * 2 ^ (52 - N.log2) = P at *
    have e3 : fE (flo N) = 1074 - 32 * ((nl N : Nat) - 1) + N.log2 - 51 := by unfold fE; rw [e1]; omega
    have e4 : fF (flo N) = P - 4503599627370496 := by unfold fF; rw [e1]; omega
    have e5 : flo N ≠ 0 := by omega
    rw [if_neg e5, e3, e4]
    rw [if_neg (by omega), if_neg (by omega), if_neg (by omega)]
    refine congrArg (wd (decide (M < 0))) ?_
    omega
  rw [key]
  obtain ⟨_, _, t, q, h5, h6, h7⟩ := clamp_any (s := decide (M < 0)) (Nat.le_of_lt g1)
  obtain ⟨h8, h9⟩ := h7 g1
  rw [h6, h8, h9]
/-- it is a number. -/
theorem gfl_self {M E : Int} (h : M.natAbs < 9007199254740992) : fcmpV .eql .f64 (gfl M E) (gfl M E) = true := by
  obtain ⟨t, q, h1, h2⟩ := gfl_any (E := E) h
  rw [h2]
  show (double.order (wd t q) (wd t q) == some .eq) = true
  rw [order_fin h1 h1, compare_self]; rfl
/-- it is the float u, if u's number is M * 2 ^ E. -/
theorem gfl_is {M E : Int} {u : Nat} (hu : u < 18446744073709551616) (hr : rgo u < infR) (h : M.natAbs < 9007199254740992) (h1 : M = 0 → rgo u = 0) (h2 : M ≠ 0 → -1022 ≤ E + M.natAbs.log2 ∧ E + M.natAbs.log2 ≤ 1023 ∧ sgo u = decide (M < 0) ∧ mg (rgo u) = M.natAbs * 2 ^ (E + 1074).toNat) : fcmpV .eql .f64 (gfl M E) u = true := by
  show (double.order (gfl M E) u == some .eq) = true
  by_cases h0 : M = 0
  · subst h0
    rw [gfl_zero, wd_of hu, h1 rfl]
    cases sgo u <;> decide
  · obtain ⟨a1, a2, a3, a4⟩ := h2 h0
    have hl := log2_le h
    obtain ⟨g1, g2⟩ := rg_ok h (show (E + 1074).toNat + M.natAbs.log2 < 2098 by omega)
    rw [gfl_plain h h0 a1 a2, wd_of hu, order_fin g1 hr, g2, a3, a4, compare_self]
    rfl
end Go.Proofs.YtcamkbphognoaaaGreatDoor.Ev
/- Package math's functions on floats. -/
namespace Go.Proofs.YtcamkbphognoaaaGreatDoor.Ev
open Go Go.RowKit
set_option linter.unusedSimpArgs false
set_option linter.unusedVariables false
def xts (f : Nat) : Option Xt := if f = 142 then some .f64bits else if f = 62 then some .f64from else none
set_option maxRecDepth 100000 in
theorem xts_ok : ∀ f x, xts f = some x → ExtOk Tryz.prog f x := by
  intro f x h
  unfold xts at h
  split at h
  · rename_i hf
    cases h; subst hf
    exact ⟨Tryz.f142, by kernel_rfl, by kernel_rfl, by kernel_rfl, by kernel_rfl, by kernel_rfl⟩
  · split at h
    · rename_i hf
      cases h; subst hf
      exact ⟨Tryz.f62, by kernel_rfl, by kernel_rfl, by kernel_rfl, by kernel_rfl, by kernel_rfl⟩
    · cases h
/-- a function's text, gone through on letters, with floats' bits. -/
theorem goodF {l : List Nat} {tab : List (Nat × FnSpec)} {shs : List (Nat × Shape)} (hs : tab.map (fun p => (p.1, p.2.sh)) = shs) (hg : Goods Tryz.prog (GWL l) N0 tab)
    {f : Nat} (fn : Func) (hf : Tryz.prog.funcs[f]? = some fn) (hn : (fn.name == "runtime.NumGoroutine") = false) (hb : fn.body.isSome = true) {s : FnSpec}
    (h : ∀ ds, s.p ds → ∀ (F : Ltr) (A : Alg) (Q : Post), F = fnOf N0 tab → A = std → Q.R (s.out N0 ds) → ∃ fuel, ev (mkCtxF ti (gtL l) xts shs F A) fuel (fn.body.getD .skip) (start fn.ntmps ds) (ends (mkCtxF ti (gtL l) xts shs F A) fn.results.toList Q.R)) : Good Tryz.prog (GWL l) N0 f s := by
  obtain ⟨c, hc⟩ := Option.isSome_iff_exists.1 hb
  refine goodF_of ti_ok gtL_ok xts_ok (GWL.bel l) mixed tab shs hs hg hf hn hc rfl rfl fun ds hp F A Q hF hA hQ => ?_
  have := h ds hp F A Q hF hA hQ
  rw [hc] at this
  exact this
def isF : D → Prop | .flt .f64 u => u < 18446744073709551616 | _ => False
def df : D → Nat | .flt _ u => u | _ => 0
theorem isF_arg {x : D} (h : isF x) : ∃ u, x = .flt .f64 u ∧ u < 18446744073709551616 := by
  match x, h with
  | .flt .f64 u, h => exact ⟨u, rfl, h⟩
theorem isF_mk {u : Nat} (h : u < 18446744073709551616) : isF (.flt .f64 u) := h
theorem Post.f {Q : Post} {k : FloatKind} {a b : Nat} (h : Q.R (.flt k a)) (hab : a = b) : Q.R (.flt k b) := hab ▸ h
def sf1 (sh : Shape) (p : D → Prop) (n : D → Nat) (z : D → Int) (b : D → Bool) : FnSpec :=
  ⟨sh, fun ds => match ds with | [x] => p x | _ => False, fun ds _ => a1 0 (fun x _ => z x) ds 0, fun ds _ => a1 false (fun x _ => b x) ds 0, fun ds _ => a1 0 (fun x _ => n x) ds 0, fun _ _ => []⟩
def sf2 (sh : Shape) (p : D → D → Prop) (n : D → D → Nat) (b : D → D → Bool) : FnSpec :=
  ⟨sh, fun ds => match ds with | [x, y] => p x y | _ => False, fun _ _ => 0, fun ds _ => a2 false (fun x y _ => b x y) ds 0, fun ds _ => a2 0 (fun x y _ => n x y) ds 0, fun _ _ => []⟩
theorem toNat_nat (n : Nat) : ((n : Int)).toNat = n := Int.toNat_natCast n
def fin (x : D) : Prop := isF x ∧ rgo (df x) < infR
def finN (x : D) : Prop := isF x ∧ (rgo (df x) = 0 ∨ normal (rgo (df x)))
def s_mAbs : FnSpec := sf1 (.one .f) isF (fun x => rgo (df x)) (fun _ => 0) (fun _ => false)
def s_mNaN : FnSpec := sf1 (.one .b) isF (fun _ => 0) (fun _ => 0) (fun x => decide (infR < rgo (df x)))
def s_mInf : FnSpec := sf2 (.one .b) (fun x y => isF x ∧ isi .i64 y ∧ dz y = 0) (fun _ _ => 0) (fun x _ => decide (rgo (df x) = infR))
def s_mInfinity : FnSpec := sf1 (.one .f) (fun x => isi .i64 x) (fun x => if 0 ≤ dz x then wd false infR else wd true infR) (fun _ => 0) (fun _ => false)
def s_mSign : FnSpec := sf2 (.one .f) (fun x y => (isF x ∧ df x = 0) ∧ isF y) (fun _ y => wd (sgo (df y)) 0) (fun _ _ => false)
def s_mNorm : FnSpec := sf1 (.tup [(false, [.f]), (false, [.i .i64])]) fin (fun x => wd (sgo (df x)) (fxv (df x))) (fun x => fxk (df x)) (fun _ => false)
def s_mldx : FnSpec := sf2 (.one .f) (fun x y => finN x ∧ isi .i64 y ∧ -4000000000000000000 ≤ dz y ∧ dz y ≤ 4000000000000000000) (fun x y => ldx (df x) (dz y)) (fun _ _ => false)
def s_mLdx : FnSpec := s_mldx
def s_mfxp : FnSpec := sf1 (.tup [(false, [.f]), (false, [.i .i64])]) fin (fun x => fxf (df x)) (fun x => fxe (df x)) (fun _ => false)
def s_mFxp : FnSpec := s_mfxp
theorem sf1_arg {sh : Shape} {p : D → Prop} {n : D → Nat} {z : D → Int} {b : D → Bool} {ds : List D} (h : (sf1 sh p n z b).p ds) : ∃ x, ds = [x] ∧ p x := by
  match ds, h with
  | [x], h => exact ⟨x, rfl, h⟩
theorem sf2_arg {sh : Shape} {p : D → D → Prop} {n : D → D → Nat} {b : D → D → Bool} {ds : List D} (h : (sf2 sh p n b).p ds) : ∃ x y, ds = [x, y] ∧ p x y := by
  match ds, h with
  | [x, y], h => exact ⟨x, y, rfl, h⟩
theorem std_of (n : Nat) : std.of n = (n : Int) := rfl
theorem std_lt (a b : Int) : std.lt a b = decide (a < b) := rfl
theorem std_le (a b : Int) : std.le a b = decide (a ≤ b) := rfl
theorem std_eq (a b : Int) : std.eq a b = (a == b) := rfl
theorem std_not (b : Bool) : std.not b = !b := rfl
theorem std_fcmp : std.fcmp = fcmpV := rfl
theorem std_fneg : std.fneg = Op.negFloat := rfl
theorem std_bits : std.bits = bitsV := rfl
theorem std_toN (z : Int) : std.toN z = z.toNat := rfl
theorem std_pick (t x y : Bool) : std.pick t x y = if t then x else y := rfl
theorem std_nn (a : Int) : std.nn a = (0 ≤ a) := rfl
theorem std_fok (op : BinOp) (k : FloatKind) (a b : Nat) : std.fok op k a b = ((floatBits op k a b).isSome = true) := rfl
theorem std_fop (op : BinOp) (k : FloatKind) (a b : Nat) : std.fop op k a b = (floatBits op k a b).getD 0 := rfl
theorem ldx_cases (u : Nat) (e : Int) (h : rgo u = 0 ∨ normal (rgo u)) : rgo u = 0 ∨ (normal (rgo u) ∧ e + ((fE (rgo u) : Nat) - 1023) < -1075) ∨ (normal (rgo u) ∧ ¬e + ((fE (rgo u) : Nat) - 1023) < -1075 ∧ 1023 < e + ((fE (rgo u) : Nat) - 1023) ∧ sgo u = true) ∨ (normal (rgo u) ∧ ¬e + ((fE (rgo u) : Nat) - 1023) < -1075 ∧ 1023 < e + ((fE (rgo u) : Nat) - 1023) ∧ sgo u = false) ∨ (normal (rgo u) ∧ ¬e + ((fE (rgo u) : Nat) - 1023) < -1075 ∧ ¬1023 < e + ((fE (rgo u) : Nat) - 1023) ∧ e + ((fE (rgo u) : Nat) - 1023) < -1022) ∨ (normal (rgo u) ∧ ¬e + ((fE (rgo u) : Nat) - 1023) < -1075 ∧ ¬1023 < e + ((fE (rgo u) : Nat) - 1023) ∧ ¬e + ((fE (rgo u) : Nat) - 1023) < -1022) := by
  rcases h with h | h
  · exact .inl h
  · by_cases h1 : e + ((fE (rgo u) : Nat) - 1023) < -1075
    · exact .inr (.inl ⟨h, h1⟩)
    · by_cases h2 : 1023 < e + ((fE (rgo u) : Nat) - 1023)
      · cases hs : sgo u
        · exact .inr (.inr (.inr (.inl ⟨h, h1, h2, rfl⟩)))
        · exact .inr (.inr (.inl ⟨h, h1, h2, rfl⟩))
      · by_cases h3 : e + ((fE (rgo u) : Nat) - 1023) < -1022
        · exact .inr (.inr (.inr (.inr (.inl ⟨h, h1, h2, h3⟩))))
        · exact .inr (.inr (.inr (.inr (.inr ⟨h, h1, h2, h3⟩))))
theorem infR_is : infR = 9218868437227405312 := rfl
theorem nE_le {r : Nat} (h : normal r) : 1 ≤ fE r ∧ fE r ≤ 2046 := by
  have hi := infR_is
  unfold normal at h; unfold fE; omega
theorem fin_of {u : Nat} (h : normal (rgo u)) : rgo u < infR := h.2
theorem ldx_facts {u : Nat} {e : Int} (hu : u < 18446744073709551616) (h : normal (rgo u)) (h1 : -4000000000000000000 ≤ e) (h2 : e ≤ 4000000000000000000) :
    fcmpV .eql .f64 u 0 = false ∧ (rgo u = infR) = False ∧ (infR < rgo u) = False ∧ wd (sgo u) (fxv u) = u ∧ fxk u = 0 ∧ std.add .i64 e 0 = e ∧
    std.shr .u64 (u : Int) 52 = (u / 4503599627370496 : Nat) ∧ std.cv .i64 ((u / 4503599627370496 : Nat) : Int) = (u / 4503599627370496 : Nat) ∧ std.and .i64 ((u / 4503599627370496 : Nat) : Int) 2047 = (fE (rgo u) : Nat) ∧ std.sub .i64 ((fE (rgo u) : Nat) : Int) 1023 = ((fE (rgo u) : Nat) : Int) - 1023 ∧ std.add .i64 e (((fE (rgo u) : Nat) : Int) - 1023) = e + (((fE (rgo u) : Nat) : Int) - 1023) := by
  have hi := infR_is
  have hE := nE_le h
  have hx : fxv u = rgo u := if_neg (by unfold normal at h; omega)
  refine ⟨?_, ?_, ?_, ?_, ?_, ?_, shr_52 hu, ?_, ?_, ?_, ?_⟩
  · rw [isZero_v hu]; exact decide_eq_false (by unfold normal at h; omega)
  · exact eq_false (by unfold normal at h; omega)
  · exact eq_false (by unfold normal at h; omega)
  · rw [hx]; exact (wd_of hu).symm
  · exact if_neg (by unfold normal at h; omega)
  · show IntKind.i64.wrap (e + 0) = e
    rw [Int.add_zero]; exact wrap_in (by omega) (by omega)
  · exact wrap_in (by omega) (by omega)
  · rw [and_2047 (by omega)]; congr 1; unfold fE rgo; omega
  · exact wrap_in (by omega) (by omega)
  · exact wrap_in (by omega) (by omega)
theorem ldx_low {u : Nat} {e : Int} (h : normal (rgo u)) (h1 : e + ((fE (rgo u) : Nat) - 1023) < -1075) : ldx u e = wd (sgo u) 0 := by
  unfold ldx
  rw [if_neg (by unfold normal at h; omega), if_pos (by omega)]
theorem ldx_high {u : Nat} {e : Int} (h : normal (rgo u)) (h1 : ¬e + ((fE (rgo u) : Nat) - 1023) < -1075) (h2 : 1023 < e + ((fE (rgo u) : Nat) - 1023)) : ldx u e = wd (sgo u) infR := by
  unfold ldx
  rw [if_neg (by unfold normal at h; omega), if_neg (by omega), if_pos (by omega)]
theorem neg_word {u : Nat} (hu : u < 18446744073709551616) (h : normal (rgo u)) : fcmpV .lss .f64 u 0 = sgo u := by
  have := neg_v (s := sgo u) h.2 (by unfold normal at h; omega)
  rwa [← wd_of hu] at this
theorem top_bit {u : Nat} (hu : u < 18446744073709551616) : u / 9223372036854775808 < 2 ∧ u / 9223372036854775808 * 9223372036854775808 + u % 4503599627370496 = u / 9223372036854775808 * 9223372036854775808 + fF (rgo u) ∧ ∀ r, r < 9223372036854775808 → u / 9223372036854775808 * 9223372036854775808 + r = wd (sgo u) r := by
  refine ⟨by omega, ?_, fun r hr => ?_⟩
  · unfold fF rgo; omega
  · unfold wd sgo
    by_cases h : 9223372036854775808 ≤ u
    · rw [decide_eq_true h, if_pos rfl]; omega
    · rw [decide_eq_false h, if_neg (by decide)]; omega
theorem word_put {u n : Nat} (hu : u < 18446744073709551616) (hn : n < 2048) : bitsV .or .u64 ((u / 9223372036854775808 * 9223372036854775808 + u % 4503599627370496 : Nat) : Int) ((n * 4503599627370496 : Nat) : Int) = ((wd (sgo u) (n * 4503599627370496 + fF (rgo u)) : Nat) : Int) := by
  obtain ⟨h1, h2, h3⟩ := top_bit hu
  have hF : fF (rgo u) < 4503599627370496 := Nat.mod_lt _ (by decide)
  rw [h2, or_exp h1 hF hn, ← h3 _ (by omega), Nat.add_assoc]
theorem ldx_full {u : Nat} {e : Int} (hu : u < 18446744073709551616) (h : normal (rgo u)) (h1 : ¬e + ((fE (rgo u) : Nat) - 1023) < -1075) (h2 : ¬1023 < e + ((fE (rgo u) : Nat) - 1023)) (h3 : ¬e + ((fE (rgo u) : Nat) - 1023) < -1022) (h4 : -4000000000000000000 ≤ e) (h5 : e ≤ 4000000000000000000) :
    bitsV .andNot .u64 (u : Int) 9218868437227405312 = ((u / 9223372036854775808 * 9223372036854775808 + u % 4503599627370496 : Nat) : Int) ∧
    std.add .i64 (e + (((fE (rgo u) : Nat) : Int) - 1023)) 1023 = (((e + (fE (rgo u) : Nat)).toNat : Nat) : Int) ∧ std.cv .u64 (((e + (fE (rgo u) : Nat)).toNat : Nat) : Int) = (((e + (fE (rgo u) : Nat)).toNat : Nat) : Int) ∧ std.shl .u64 (((e + (fE (rgo u) : Nat)).toNat : Nat) : Int) 52 = (((e + (fE (rgo u) : Nat)).toNat * 4503599627370496 : Nat) : Int) ∧
    bitsV .or .u64 ((u / 9223372036854775808 * 9223372036854775808 + u % 4503599627370496 : Nat) : Int) (((e + (fE (rgo u) : Nat)).toNat * 4503599627370496 : Nat) : Int) = ((ldx u e : Nat) : Int) ∧ floatBits .mul .f64 4607182418800017408 (ldx u e) = some (ldx u e) ∧ True := by
  have hE := nE_le h
  have hF : fF (rgo u) < 4503599627370496 := Nat.mod_lt _ (by decide)
  have hl : ldx u e = wd (sgo u) ((e + (fE (rgo u) : Nat)).toNat * 4503599627370496 + fF (rgo u)) := by
    unfold ldx
    rw [if_neg (by unfold normal at h; omega), if_neg (by omega), if_neg (by omega), if_neg (by omega)]
  generalize hn : (e + (fE (rgo u) : Nat)).toNat = n at *
  refine ⟨exp_mask hu, ?_, wrapu_n (by omega), shl_52 (by omega), ?_, ?_, trivial⟩
  · show IntKind.i64.wrap (e + (((fE (rgo u) : Nat) : Int) - 1023) + 1023) = _
    rw [wrap_in (by omega) (by omega)]; omega
  · rw [hl]; exact word_put hu (by omega)
  · rw [hl]; exact mul_one_v (by have hi := infR_is; omega)
theorem ldx_mid {u : Nat} {e : Int} (hu : u < 18446744073709551616) (h : normal (rgo u)) (h1 : ¬e + ((fE (rgo u) : Nat) - 1023) < -1075) (h2 : ¬1023 < e + ((fE (rgo u) : Nat) - 1023)) (h3 : e + ((fE (rgo u) : Nat) - 1023) < -1022) (h4 : -4000000000000000000 ≤ e) (h5 : e ≤ 4000000000000000000) :
    bitsV .andNot .u64 (u : Int) 9218868437227405312 = ((u / 9223372036854775808 * 9223372036854775808 + u % 4503599627370496 : Nat) : Int) ∧
    std.add .i64 (e + (((fE (rgo u) : Nat) : Int) - 1023)) 53 = e + (((fE (rgo u) : Nat) : Int) - 1023) + 53 ∧
    std.add .i64 (e + (((fE (rgo u) : Nat) : Int) - 1023) + 53) 1023 = (((e + (fE (rgo u) : Nat) + 53).toNat : Nat) : Int) ∧ std.cv .u64 (((e + (fE (rgo u) : Nat) + 53).toNat : Nat) : Int) = (((e + (fE (rgo u) : Nat) + 53).toNat : Nat) : Int) ∧ std.shl .u64 (((e + (fE (rgo u) : Nat) + 53).toNat : Nat) : Int) 52 = (((e + (fE (rgo u) : Nat) + 53).toNat * 4503599627370496 : Nat) : Int) ∧
    bitsV .or .u64 ((u / 9223372036854775808 * 9223372036854775808 + u % 4503599627370496 : Nat) : Int) (((e + (fE (rgo u) : Nat) + 53).toNat * 4503599627370496 : Nat) : Int) = ((wd (sgo u) ((e + (fE (rgo u) : Nat) + 53).toNat * 4503599627370496 + fF (rgo u)) : Nat) : Int) ∧ floatBits .mul .f64 4368491638549381120 (wd (sgo u) ((e + (fE (rgo u) : Nat) + 53).toNat * 4503599627370496 + fF (rgo u))) = some (ldx u e) ∧ True := by
  have hE := nE_le h
  have hi := infR_is
  have hF : fF (rgo u) < 4503599627370496 := Nat.mod_lt _ (by decide)
  have hl : ldx u e = (Ieee.double.mul 4368491638549381120 (wd (sgo u) ((e + (fE (rgo u) : Nat) + 53).toNat * 4503599627370496 + fF (rgo u)))).getD 0 := by
    unfold ldx
    rw [if_neg (by unfold normal at h; omega), if_neg (by omega), if_neg (by omega), if_pos (by omega)]
  generalize hn : (e + (fE (rgo u) : Nat) + 53).toNat = n at *
  refine ⟨exp_mask hu, wrap_in (by omega) (by omega), ?_, wrapu_n (by omega), shl_52 (by omega), word_put hu (by omega), ?_, trivial⟩
  · show IntKind.i64.wrap (e + (((fE (rgo u) : Nat) : Int) - 1023) + 53 + 1023) = _
    rw [wrap_in (by omega) (by omega)]; omega
  · rw [hl]
    obtain ⟨t0, _, ht⟩ := fmul_any (s := false) (t := sgo u) (r := 4368491638549381120) (q := n * 4503599627370496 + fF (rgo u)) (by decide) (by omega)
    have ht2 : Ieee.double.mul 4368491638549381120 (wd (sgo u) (n * 4503599627370496 + fF (rgo u))) = some (wd (false ^^ sgo u) t0) := ht
    show Ieee.double.mul 4368491638549381120 (wd (sgo u) (n * 4503599627370496 + fF (rgo u))) = _
    rw [ht2]; rfl
theorem sign_facts {v : Nat} (hv : v < 18446744073709551616) : bitsV .andNot .u64 ((0 : Nat) : Int) 9223372036854775808 = ((0 : Nat) : Int) ∧ std.and .u64 (v : Int) 9223372036854775808 = ((v / 9223372036854775808 * 9223372036854775808 : Nat) : Int) ∧ bitsV .or .u64 ((0 : Nat) : Int) ((v / 9223372036854775808 * 9223372036854775808 : Nat) : Int) = ((wd (sgo v) 0 : Nat) : Int) := by
  refine ⟨by decide, and_sign hv, ?_⟩
  rw [or_nat (by omega) (by omega), Nat.zero_or, ← (top_bit hv).2.2 0 (by omega), Nat.add_zero]
theorem norm_low {u : Nat} (hu : u < 18446744073709551616) (h : rgo u < 4503599627370496) : floatBits .mul .f64 u 4841369599423283200 = some (wd (sgo u) (fxv u)) ∧ fxk u = -52 := by
  refine ⟨?_, if_pos h⟩
  have := mul_up_v (s := sgo u) h
  rw [← wd_of hu] at this
  rw [show fxv u = rg (rgo u) 52 from if_pos h]
  exact this
theorem norm_high {u : Nat} (hu : u < 18446744073709551616) (h : ¬rgo u < 4503599627370496) : wd (sgo u) (fxv u) = u ∧ fxk u = 0 := by
  refine ⟨?_, if_neg h⟩
  rw [show fxv u = rgo u from if_neg h]
  exact (wd_of hu).symm
theorem finN_mk {u : Nat} (h1 : u < 18446744073709551616) (h2 : rgo u = 0 ∨ normal (rgo u)) : finN (.flt .f64 u) := ⟨h1, h2⟩
theorem fin_mk {u : Nat} (h1 : u < 18446744073709551616) (h2 : rgo u < infR) : fin (.flt .f64 u) := ⟨h1, h2⟩
theorem fxp_facts {u : Nat} (hu : u < 18446744073709551616) (hr : rgo u < infR) (h0 : rgo u ≠ 0) :
    fcmpV .eql .f64 u 0 = false ∧ (rgo u = infR) = False ∧ (infR < rgo u) = False ∧ std.shr .u64 ((wd (sgo u) (fxv u) : Nat) : Int) 52 = (wd (sgo u) (fxv u) / 4503599627370496 : Nat) ∧ std.and .u64 ((wd (sgo u) (fxv u) / 4503599627370496 : Nat) : Int) 2047 = (fE (fxv u) : Nat) ∧ std.cv .i64 ((fE (fxv u) : Nat) : Int) = (fE (fxv u) : Nat) ∧
    std.sub .i64 ((fE (fxv u) : Nat) : Int) 1023 = ((fE (fxv u) : Nat) : Int) - 1023 ∧ std.add .i64 (((fE (fxv u) : Nat) : Int) - 1023) 1 = ((fE (fxv u) : Nat) : Int) - 1023 + 1 ∧ std.add .i64 (fxk u) (((fE (fxv u) : Nat) : Int) - 1023 + 1) = fxe u ∧
    bitsV .andNot .u64 ((wd (sgo u) (fxv u) : Nat) : Int) 9218868437227405312 = ((wd (sgo u) (fxv u) / 9223372036854775808 * 9223372036854775808 + wd (sgo u) (fxv u) % 4503599627370496 : Nat) : Int) ∧
    bitsV .or .u64 ((wd (sgo u) (fxv u) / 9223372036854775808 * 9223372036854775808 + wd (sgo u) (fxv u) % 4503599627370496 : Nat) : Int) 4602678819172646912 = ((fxf u : Nat) : Int) ∧ True := by
  have hi := infR_is
  have hn := fxv_normal hr h0
  have hE := nE_le hn
  have hlt : fxv u < 9223372036854775808 := by have := hn.2; omega
  have hv := wd_lt (s := sgo u) hlt
  have e1 := rgo_wd (s := sgo u) hlt
  have e2 := sgo_wd (s := sgo u) hlt
  have hk : fxk u = -52 ∨ fxk u = 0 := by unfold fxk; split <;> simp
  refine ⟨?_, ?_, ?_, shr_52 hv, ?_, ?_, ?_, ?_, ?_, exp_mask hv, ?_, trivial⟩
  · rw [isZero_v hu]; exact decide_eq_false h0
  · exact eq_false (by omega)
  · exact eq_false (by omega)
  · have h9 : wd (sgo u) (fxv u) / 4503599627370496 % 2048 = fE (fxv u) := by
      have : wd (sgo u) (fxv u) / 4503599627370496 % 2048 = fE (rgo (wd (sgo u) (fxv u))) := by unfold fE rgo; omega
      rw [this, e1]
    rw [and_2047u (by omega), h9]
  · exact wrap_in (by omega) (by omega)
  · exact wrap_in (by omega) (by omega)
  · exact wrap_in (by omega) (by omega)
  · unfold fxe
    rw [if_neg h0]
    show IntKind.i64.wrap (fxk u + (((fE (fxv u) : Nat) : Int) - 1023 + 1)) = _
    rw [wrap_in (by omega) (by omega)]; omega
  · have := word_put (u := wd (sgo u) (fxv u)) (n := 1022) hv (by omega)
    rw [e1, e2] at this
    unfold fxf
    rw [if_neg h0]
    exact this
set_option maxRecDepth 100000 in
set_option maxHeartbeats 2000000 in
theorem good_mAbs : Good Tryz.prog (GWL [0, 1]) N0 110 s_mAbs := by
  refine goodF (l := [0, 1]) (tab := []) (shs := []) rfl trivial Tryz.f110 (by kernel_rfl) (by kernel_rfl) (by kernel_rfl) (fun ds hp F A Q hF hA hQ => ⟨0, ?_⟩)
  obtain ⟨x, rfl, hx⟩ := sf1_arg hp
  obtain ⟨u, rfl, hu⟩ := isF_arg hx
  have e1 := abs_v hu
  clear hp hx
  cbv
  repeat' (first | with_reducible refine And.intro ?_ ?_ | (with_reducible refine safe_lift hA ?_; kernel_rfl) | (intro hc_; cbv))
  all_goals (repeat (rw [safe_true hA, true_and]; rotate_left; kernel_rfl))
  all_goals subst hF hA
  all_goals simp only [fnOf, find, std, reduceIte, Nat.reduceEqDiff, sp1, sp2, a1, a2, FnSpec.out, Shape.build, leafs, leafCells, tups, oneOf, List.cons_append, List.nil_append, List.length_cons, List.length_nil, s_mAbs, sf1, sf2, df, dz, toNat_nat, decide_eq_true_eq, decide_eq_false_iff_not, gt_iff_lt, ge_iff_le, e1] at *
  all_goals (repeat' (first
    | with_reducible exact hQ
    | with_reducible assumption
    | with_reducible exact isi_int _ _
    | with_reducible exact isF_mk (by assumption)
    | with_reducible exact isF_mk (by omega)
    | with_reducible exact fin_mk (by assumption) (by assumption)
    | with_reducible exact finN_mk (by assumption) (by assumption)
    | exact hQ
    | omega
    | with_reducible refine And.intro ?_ ?_))
set_option maxRecDepth 100000 in
set_option maxHeartbeats 2000000 in
theorem good_mNaN : Good Tryz.prog (GWL [0, 1]) N0 65 s_mNaN := by
  refine goodL (l := [0, 1]) (tab := []) (shs := []) rfl trivial Tryz.f65 (by kernel_rfl) (by kernel_rfl) (by kernel_rfl) (fun ds hp F A Q hF hA hQ => ⟨0, ?_⟩)
  obtain ⟨x, rfl, hx⟩ := sf1_arg hp
  obtain ⟨u, rfl, hu⟩ := isF_arg hx
  have e1 := isNaN_v hu
  clear hp hx
  cbv
  repeat' (first | with_reducible refine And.intro ?_ ?_ | (with_reducible refine safe_lift hA ?_; kernel_rfl) | (intro hc_; cbv))
  all_goals (repeat (rw [safe_true hA, true_and]; rotate_left; kernel_rfl))
  all_goals subst hF hA
  all_goals simp only [fnOf, find, std, reduceIte, Nat.reduceEqDiff, sp1, sp2, a1, a2, FnSpec.out, Shape.build, leafs, leafCells, tups, oneOf, List.cons_append, List.nil_append, List.length_cons, List.length_nil, s_mNaN, sf1, sf2, df, dz, toNat_nat, decide_eq_true_eq, decide_eq_false_iff_not, gt_iff_lt, ge_iff_le, e1] at *
  all_goals (repeat' (first
    | with_reducible exact hQ
    | with_reducible assumption
    | with_reducible exact isi_int _ _
    | with_reducible exact isF_mk (by assumption)
    | with_reducible exact isF_mk (by omega)
    | with_reducible exact fin_mk (by assumption) (by assumption)
    | with_reducible exact finN_mk (by assumption) (by assumption)
    | exact hQ
    | omega
    | with_reducible refine And.intro ?_ ?_))
set_option maxRecDepth 100000 in
set_option maxHeartbeats 8000000 in
theorem good_mInf : Good Tryz.prog (GWL [0, 1]) N0 64 s_mInf := by
  refine goodL (l := [0, 1]) (tab := [(110, s_mAbs)]) (shs := [(110, .one .f)]) rfl ⟨good_mAbs, trivial⟩ Tryz.f64 (by kernel_rfl) (by kernel_rfl) (by kernel_rfl) (fun ds hp F A Q hF hA hQ => ⟨0, ?_⟩)
  obtain ⟨x, y, rfl, hx, hy⟩ := sf2_arg hp
  obtain ⟨u, rfl, hu⟩ := isF_arg hx
  obtain ⟨hy, hz⟩ := hy
  obtain ⟨z, rfl⟩ := isi_arg hy
  have hz : z = 0 := hz
  subst hz
  have e1 := isInf_v (u := u)
  clear hp hx hy
  · cbv
    repeat' (first | with_reducible refine And.intro ?_ ?_ | (with_reducible refine safe_lift hA ?_; kernel_rfl) | (intro hc_; (first | (with_reducible exfalso; clear hQ; subst hF hA; simp only [fnOf, find, std_of, std_lt, std_le, std_eq, std_not, std_fcmp, std_fneg, std_bits, std_toN, std_pick, std_nn, std_fok, std_fop, reduceIte, Nat.reduceEqDiff, sp1, sp2, a1, a2, FnSpec.out, Shape.build, leafs, leafCells, tups, oneOf, List.cons_append, List.nil_append, List.length_cons, List.length_nil, s_mInf, s_mAbs, sf1, sf2, df, dz, toNat_nat, decide_eq_true_eq, decide_eq_false_iff_not, gt_iff_lt, ge_iff_le, eq_self, Bool.not_eq_eq_eq_not, decide_eq_true_eq, decide_eq_false_iff_not, not_true_eq_false, not_false_eq_true, decide_true, decide_false, Bool.true_and, Bool.and_true, Bool.not_true, Bool.not_false, beq_self_eq_true, Bool.true_eq_false, Bool.false_eq_true, reduceCtorEq, gt_iff_lt, ge_iff_le, true_and, and_true, and_self, Bool.false_eq, Bool.and_self, Int.add_zero, Option.isSome_some, Option.getD_some, e1] at hc_; done) | (clear hc_; cbv))))
    all_goals subst hF hA
    all_goals (try simp only [fnOf, find, std_of, std_lt, std_le, std_eq, std_not, std_fcmp, std_fneg, std_bits, std_toN, std_pick, std_nn, std_fok, std_fop, reduceIte, Nat.reduceEqDiff, sp1, sp2, a1, a2, FnSpec.out, Shape.build, leafs, leafCells, tups, oneOf, List.cons_append, List.nil_append, List.length_cons, List.length_nil, s_mInf, s_mAbs, sf1, sf2, df, dz, toNat_nat, decide_eq_true_eq, decide_eq_false_iff_not, gt_iff_lt, ge_iff_le, eq_self, Bool.not_eq_eq_eq_not, decide_eq_true_eq, decide_eq_false_iff_not, not_true_eq_false, not_false_eq_true, decide_true, decide_false, Bool.true_and, Bool.and_true, Bool.not_true, Bool.not_false, beq_self_eq_true, Bool.true_eq_false, Bool.false_eq_true, reduceCtorEq, gt_iff_lt, ge_iff_le, true_and, and_true, and_self, Bool.false_eq, Bool.and_self, Int.add_zero, Option.isSome_some, Option.getD_some, e1] at hQ ⊢)
    all_goals (repeat' (first
    | with_reducible exact hQ
    | with_reducible assumption
    | with_reducible exact isi_int _ _
    | with_reducible exact isF_mk (by assumption)
    | with_reducible exact isF_mk (by omega)
    | with_reducible exact fin_mk (by assumption) (by assumption)
    | with_reducible exact finN_mk (by assumption) (by assumption)
    | exact hQ
    | omega
    | with_reducible refine And.intro ?_ ?_))
set_option maxRecDepth 100000 in
set_option maxHeartbeats 8000000 in
theorem good_mInfinity : Good Tryz.prog (GWL [0, 1]) N0 101 s_mInfinity := by
  refine goodF (l := [0, 1]) (tab := []) (shs := []) rfl trivial Tryz.f101 (by kernel_rfl) (by kernel_rfl) (by kernel_rfl) (fun ds hp F A Q hF hA hQ => ⟨0, ?_⟩)
  obtain ⟨x, rfl, hx⟩ := sf1_arg hp
  obtain ⟨z, rfl⟩ := isi_arg hx
  clear hp hx
  have e1 : Int.toNat 9218868437227405312 = wd false infR := by decide
  have e2 : Int.toNat 18442240474082181120 = wd true infR := by decide
  by_cases h0 : 0 ≤ z
  · have h0 := eq_true h0
    cbv
    repeat' (first | with_reducible refine And.intro ?_ ?_ | (with_reducible refine safe_lift hA ?_; kernel_rfl) | (intro hc_; (first | (with_reducible exfalso; clear hQ; subst hF hA; simp only [fnOf, find, std_of, std_lt, std_le, std_eq, std_not, std_fcmp, std_fneg, std_bits, std_toN, std_pick, std_nn, std_fok, std_fop, reduceIte, Nat.reduceEqDiff, sp1, sp2, a1, a2, FnSpec.out, Shape.build, leafs, leafCells, tups, oneOf, List.cons_append, List.nil_append, List.length_cons, List.length_nil, s_mInfinity, sf1, sf2, df, dz, toNat_nat, decide_eq_true_eq, decide_eq_false_iff_not, gt_iff_lt, ge_iff_le, eq_self, Bool.not_eq_eq_eq_not, decide_eq_true_eq, decide_eq_false_iff_not, not_true_eq_false, not_false_eq_true, decide_true, decide_false, Bool.true_and, Bool.and_true, Bool.not_true, Bool.not_false, beq_self_eq_true, Bool.true_eq_false, Bool.false_eq_true, reduceCtorEq, gt_iff_lt, ge_iff_le, true_and, and_true, and_self, Bool.false_eq, Bool.and_self, Int.add_zero, Option.isSome_some, Option.getD_some, h0, e1, e2, if_true] at hc_; done) | (clear hc_; cbv))))
    all_goals subst hF hA
    all_goals (try simp only [fnOf, find, std_of, std_lt, std_le, std_eq, std_not, std_fcmp, std_fneg, std_bits, std_toN, std_pick, std_nn, std_fok, std_fop, reduceIte, Nat.reduceEqDiff, sp1, sp2, a1, a2, FnSpec.out, Shape.build, leafs, leafCells, tups, oneOf, List.cons_append, List.nil_append, List.length_cons, List.length_nil, s_mInfinity, sf1, sf2, df, dz, toNat_nat, decide_eq_true_eq, decide_eq_false_iff_not, gt_iff_lt, ge_iff_le, eq_self, Bool.not_eq_eq_eq_not, decide_eq_true_eq, decide_eq_false_iff_not, not_true_eq_false, not_false_eq_true, decide_true, decide_false, Bool.true_and, Bool.and_true, Bool.not_true, Bool.not_false, beq_self_eq_true, Bool.true_eq_false, Bool.false_eq_true, reduceCtorEq, gt_iff_lt, ge_iff_le, true_and, and_true, and_self, Bool.false_eq, Bool.and_self, Int.add_zero, Option.isSome_some, Option.getD_some, h0, e1, e2, if_true] at hQ ⊢)
    all_goals (repeat' (first
    | with_reducible exact hQ
    | with_reducible assumption
    | with_reducible exact isi_int _ _
    | with_reducible exact isF_mk (by assumption)
    | with_reducible exact isF_mk (by omega)
    | with_reducible exact fin_mk (by assumption) (by assumption)
    | with_reducible exact finN_mk (by assumption) (by assumption)
    | exact hQ
    | omega
    | with_reducible refine And.intro ?_ ?_))
  · have h0 := eq_false h0
    cbv
    repeat' (first | with_reducible refine And.intro ?_ ?_ | (with_reducible refine safe_lift hA ?_; kernel_rfl) | (intro hc_; (first | (with_reducible exfalso; clear hQ; subst hF hA; simp only [fnOf, find, std_of, std_lt, std_le, std_eq, std_not, std_fcmp, std_fneg, std_bits, std_toN, std_pick, std_nn, std_fok, std_fop, reduceIte, Nat.reduceEqDiff, sp1, sp2, a1, a2, FnSpec.out, Shape.build, leafs, leafCells, tups, oneOf, List.cons_append, List.nil_append, List.length_cons, List.length_nil, s_mInfinity, sf1, sf2, df, dz, toNat_nat, decide_eq_true_eq, decide_eq_false_iff_not, gt_iff_lt, ge_iff_le, eq_self, Bool.not_eq_eq_eq_not, decide_eq_true_eq, decide_eq_false_iff_not, not_true_eq_false, not_false_eq_true, decide_true, decide_false, Bool.true_and, Bool.and_true, Bool.not_true, Bool.not_false, beq_self_eq_true, Bool.true_eq_false, Bool.false_eq_true, reduceCtorEq, gt_iff_lt, ge_iff_le, true_and, and_true, and_self, Bool.false_eq, Bool.and_self, Int.add_zero, Option.isSome_some, Option.getD_some, h0, e1, e2, if_false] at hc_; done) | (clear hc_; cbv))))
    all_goals subst hF hA
    all_goals (try simp only [fnOf, find, std_of, std_lt, std_le, std_eq, std_not, std_fcmp, std_fneg, std_bits, std_toN, std_pick, std_nn, std_fok, std_fop, reduceIte, Nat.reduceEqDiff, sp1, sp2, a1, a2, FnSpec.out, Shape.build, leafs, leafCells, tups, oneOf, List.cons_append, List.nil_append, List.length_cons, List.length_nil, s_mInfinity, sf1, sf2, df, dz, toNat_nat, decide_eq_true_eq, decide_eq_false_iff_not, gt_iff_lt, ge_iff_le, eq_self, Bool.not_eq_eq_eq_not, decide_eq_true_eq, decide_eq_false_iff_not, not_true_eq_false, not_false_eq_true, decide_true, decide_false, Bool.true_and, Bool.and_true, Bool.not_true, Bool.not_false, beq_self_eq_true, Bool.true_eq_false, Bool.false_eq_true, reduceCtorEq, gt_iff_lt, ge_iff_le, true_and, and_true, and_self, Bool.false_eq, Bool.and_self, Int.add_zero, Option.isSome_some, Option.getD_some, h0, e1, e2, if_false] at hQ ⊢)
    all_goals (repeat' (first
    | with_reducible exact hQ
    | with_reducible assumption
    | with_reducible exact isi_int _ _
    | with_reducible exact isF_mk (by assumption)
    | with_reducible exact isF_mk (by omega)
    | with_reducible exact fin_mk (by assumption) (by assumption)
    | with_reducible exact finN_mk (by assumption) (by assumption)
    | exact hQ
    | omega
    | with_reducible refine And.intro ?_ ?_))
set_option maxRecDepth 100000 in
set_option maxHeartbeats 8000000 in
theorem good_mSign : Good Tryz.prog (GWL [0, 1]) N0 189 s_mSign := by
  refine goodF (l := [0, 1]) (tab := []) (shs := []) rfl trivial Tryz.f189 (by kernel_rfl) (by kernel_rfl) (by kernel_rfl) (fun ds hp F A Q hF hA hQ => ⟨0, ?_⟩)
  obtain ⟨x, y, rfl, hx, hy⟩ := sf2_arg hp
  obtain ⟨hx, hx0⟩ := hx
  obtain ⟨u, rfl, hu⟩ := isF_arg hx
  obtain ⟨v, rfl, hv⟩ := isF_arg hy
  have hx0 : u = 0 := hx0
  subst hx0
  obtain ⟨e1, e2, e3⟩ := sign_facts hv
  clear hp hx hy
  · cbv
    repeat' (first | with_reducible refine And.intro ?_ ?_ | (with_reducible refine safe_lift hA ?_; kernel_rfl) | (intro hc_; (first | (with_reducible exfalso; clear hQ; subst hF hA; simp only [fnOf, find, std_of, std_lt, std_le, std_eq, std_not, std_fcmp, std_fneg, std_bits, std_toN, std_pick, std_nn, std_fok, std_fop, reduceIte, Nat.reduceEqDiff, sp1, sp2, a1, a2, FnSpec.out, Shape.build, leafs, leafCells, tups, oneOf, List.cons_append, List.nil_append, List.length_cons, List.length_nil, s_mSign, sf1, sf2, df, dz, toNat_nat, decide_eq_true_eq, decide_eq_false_iff_not, gt_iff_lt, ge_iff_le, eq_self, Bool.not_eq_eq_eq_not, decide_eq_true_eq, decide_eq_false_iff_not, not_true_eq_false, not_false_eq_true, decide_true, decide_false, Bool.true_and, Bool.and_true, Bool.not_true, Bool.not_false, beq_self_eq_true, Bool.true_eq_false, Bool.false_eq_true, reduceCtorEq, gt_iff_lt, ge_iff_le, true_and, and_true, and_self, Bool.false_eq, Bool.and_self, Int.add_zero, Option.isSome_some, Option.getD_some, e1, e2, e3] at hc_; done) | (clear hc_; cbv))))
    all_goals subst hF hA
    all_goals (try simp only [fnOf, find, std_of, std_lt, std_le, std_eq, std_not, std_fcmp, std_fneg, std_bits, std_toN, std_pick, std_nn, std_fok, std_fop, reduceIte, Nat.reduceEqDiff, sp1, sp2, a1, a2, FnSpec.out, Shape.build, leafs, leafCells, tups, oneOf, List.cons_append, List.nil_append, List.length_cons, List.length_nil, s_mSign, sf1, sf2, df, dz, toNat_nat, decide_eq_true_eq, decide_eq_false_iff_not, gt_iff_lt, ge_iff_le, eq_self, Bool.not_eq_eq_eq_not, decide_eq_true_eq, decide_eq_false_iff_not, not_true_eq_false, not_false_eq_true, decide_true, decide_false, Bool.true_and, Bool.and_true, Bool.not_true, Bool.not_false, beq_self_eq_true, Bool.true_eq_false, Bool.false_eq_true, reduceCtorEq, gt_iff_lt, ge_iff_le, true_and, and_true, and_self, Bool.false_eq, Bool.and_self, Int.add_zero, Option.isSome_some, Option.getD_some, e1, e2, e3] at hQ ⊢)
    all_goals (repeat' (first
    | with_reducible exact hQ
    | with_reducible assumption
    | with_reducible exact isi_int _ _
    | with_reducible exact isF_mk (by assumption)
    | with_reducible exact isF_mk (by omega)
    | with_reducible exact fin_mk (by assumption) (by assumption)
    | with_reducible exact finN_mk (by assumption) (by assumption)
    | exact hQ
    | omega
    | with_reducible refine And.intro ?_ ?_))
set_option maxRecDepth 100000 in
set_option maxHeartbeats 8000000 in
theorem good_mNorm : Good Tryz.prog (GWL [0, 1]) N0 188 s_mNorm := by
  refine goodL (l := [0, 1]) (tab := [(110, s_mAbs)]) (shs := [(110, .one .f)]) rfl ⟨good_mAbs, trivial⟩ Tryz.f188 (by kernel_rfl) (by kernel_rfl) (by kernel_rfl) (fun ds hp F A Q hF hA hQ => ⟨0, ?_⟩)
  obtain ⟨x, rfl, hx⟩ := sf1_arg hp
  obtain ⟨hx, hr⟩ := hx
  obtain ⟨u, rfl, hu⟩ := isF_arg hx
  have hr : rgo u < infR := hr
  clear hp hx
  have e1 := small_v hr
  by_cases h0 : rgo u < 4503599627370496
  · obtain ⟨e2, e3⟩ := norm_low hu h0
    have h0 := eq_true h0
    cbv
    repeat' (first | with_reducible refine And.intro ?_ ?_ | (with_reducible refine safe_lift hA ?_; kernel_rfl) | (intro hc_; (first | (with_reducible exfalso; clear hQ; subst hF hA; simp only [fnOf, find, std_of, std_lt, std_le, std_eq, std_not, std_fcmp, std_fneg, std_bits, std_toN, std_pick, std_nn, std_fok, std_fop, reduceIte, Nat.reduceEqDiff, sp1, sp2, a1, a2, FnSpec.out, Shape.build, leafs, leafCells, tups, oneOf, List.cons_append, List.nil_append, List.length_cons, List.length_nil, s_mNorm, s_mAbs, sf1, sf2, df, dz, toNat_nat, decide_eq_true_eq, decide_eq_false_iff_not, gt_iff_lt, ge_iff_le, eq_self, Bool.not_eq_eq_eq_not, decide_eq_true_eq, decide_eq_false_iff_not, not_true_eq_false, not_false_eq_true, decide_true, decide_false, Bool.true_and, Bool.and_true, Bool.not_true, Bool.not_false, beq_self_eq_true, Bool.true_eq_false, Bool.false_eq_true, reduceCtorEq, gt_iff_lt, ge_iff_le, true_and, and_true, and_self, Bool.false_eq, Bool.and_self, Int.add_zero, Option.isSome_some, Option.getD_some, h0, e1, e2, e3, Option.isSome_some, Option.getD_some] at hc_; done) | (clear hc_; cbv))))
    all_goals subst hF hA
    all_goals (try simp only [fnOf, find, std_of, std_lt, std_le, std_eq, std_not, std_fcmp, std_fneg, std_bits, std_toN, std_pick, std_nn, std_fok, std_fop, reduceIte, Nat.reduceEqDiff, sp1, sp2, a1, a2, FnSpec.out, Shape.build, leafs, leafCells, tups, oneOf, List.cons_append, List.nil_append, List.length_cons, List.length_nil, s_mNorm, s_mAbs, sf1, sf2, df, dz, toNat_nat, decide_eq_true_eq, decide_eq_false_iff_not, gt_iff_lt, ge_iff_le, eq_self, Bool.not_eq_eq_eq_not, decide_eq_true_eq, decide_eq_false_iff_not, not_true_eq_false, not_false_eq_true, decide_true, decide_false, Bool.true_and, Bool.and_true, Bool.not_true, Bool.not_false, beq_self_eq_true, Bool.true_eq_false, Bool.false_eq_true, reduceCtorEq, gt_iff_lt, ge_iff_le, true_and, and_true, and_self, Bool.false_eq, Bool.and_self, Int.add_zero, Option.isSome_some, Option.getD_some, h0, e1, e2, e3, Option.isSome_some, Option.getD_some] at hQ ⊢)
    all_goals (repeat' (first
    | with_reducible exact hQ
    | with_reducible assumption
    | with_reducible exact isi_int _ _
    | with_reducible exact isF_mk (by assumption)
    | with_reducible exact isF_mk (by omega)
    | with_reducible exact fin_mk (by assumption) (by assumption)
    | with_reducible exact finN_mk (by assumption) (by assumption)
    | exact hQ
    | omega
    | with_reducible refine And.intro ?_ ?_))
  · obtain ⟨e2, e3⟩ := norm_high hu h0
    have h0 := eq_false h0
    cbv
    repeat' (first | with_reducible refine And.intro ?_ ?_ | (with_reducible refine safe_lift hA ?_; kernel_rfl) | (intro hc_; (first | (with_reducible exfalso; clear hQ; subst hF hA; simp only [fnOf, find, std_of, std_lt, std_le, std_eq, std_not, std_fcmp, std_fneg, std_bits, std_toN, std_pick, std_nn, std_fok, std_fop, reduceIte, Nat.reduceEqDiff, sp1, sp2, a1, a2, FnSpec.out, Shape.build, leafs, leafCells, tups, oneOf, List.cons_append, List.nil_append, List.length_cons, List.length_nil, s_mNorm, s_mAbs, sf1, sf2, df, dz, toNat_nat, decide_eq_true_eq, decide_eq_false_iff_not, gt_iff_lt, ge_iff_le, eq_self, Bool.not_eq_eq_eq_not, decide_eq_true_eq, decide_eq_false_iff_not, not_true_eq_false, not_false_eq_true, decide_true, decide_false, Bool.true_and, Bool.and_true, Bool.not_true, Bool.not_false, beq_self_eq_true, Bool.true_eq_false, Bool.false_eq_true, reduceCtorEq, gt_iff_lt, ge_iff_le, true_and, and_true, and_self, Bool.false_eq, Bool.and_self, Int.add_zero, Option.isSome_some, Option.getD_some, h0, e1, e2, e3] at hc_; done) | (clear hc_; cbv))))
    all_goals subst hF hA
    all_goals (try simp only [fnOf, find, std_of, std_lt, std_le, std_eq, std_not, std_fcmp, std_fneg, std_bits, std_toN, std_pick, std_nn, std_fok, std_fop, reduceIte, Nat.reduceEqDiff, sp1, sp2, a1, a2, FnSpec.out, Shape.build, leafs, leafCells, tups, oneOf, List.cons_append, List.nil_append, List.length_cons, List.length_nil, s_mNorm, s_mAbs, sf1, sf2, df, dz, toNat_nat, decide_eq_true_eq, decide_eq_false_iff_not, gt_iff_lt, ge_iff_le, eq_self, Bool.not_eq_eq_eq_not, decide_eq_true_eq, decide_eq_false_iff_not, not_true_eq_false, not_false_eq_true, decide_true, decide_false, Bool.true_and, Bool.and_true, Bool.not_true, Bool.not_false, beq_self_eq_true, Bool.true_eq_false, Bool.false_eq_true, reduceCtorEq, gt_iff_lt, ge_iff_le, true_and, and_true, and_self, Bool.false_eq, Bool.and_self, Int.add_zero, Option.isSome_some, Option.getD_some, h0, e1, e2, e3] at hQ ⊢)
    all_goals (repeat' (first
    | with_reducible exact hQ
    | with_reducible assumption
    | with_reducible exact isi_int _ _
    | with_reducible exact isF_mk (by assumption)
    | with_reducible exact isF_mk (by omega)
    | with_reducible exact fin_mk (by assumption) (by assumption)
    | with_reducible exact finN_mk (by assumption) (by assumption)
    | exact hQ
    | omega
    | with_reducible refine And.intro ?_ ?_))
set_option maxRecDepth 100000 in
set_option maxHeartbeats 8000000 in
theorem good_mldx : Good Tryz.prog (GWL [0, 1]) N0 173 s_mldx := by
  refine goodF (l := [0, 1]) (tab := [(64, s_mInf), (65, s_mNaN), (188, s_mNorm), (189, s_mSign), (101, s_mInfinity)]) (shs := [(64, .one .b), (65, .one .b), (188, .tup [(false, [.f]), (false, [.i .i64])]), (189, .one .f), (101, .one .f)]) rfl ⟨good_mInf, good_mNaN, good_mNorm, good_mSign, good_mInfinity, trivial⟩ Tryz.f173 (by kernel_rfl) (by kernel_rfl) (by kernel_rfl) (fun ds hp F A Q hF hA hQ => ⟨0, ?_⟩)
  obtain ⟨x, y, rfl, hx, hy⟩ := sf2_arg hp
  obtain ⟨hx, hx2⟩ := hx
  obtain ⟨u, rfl, hu⟩ := isF_arg hx
  obtain ⟨hy, hy1, hy2⟩ := hy
  obtain ⟨e, rfl⟩ := isi_arg hy
  have hx2 : rgo u = 0 ∨ normal (rgo u) := hx2
  have hy1 : -4000000000000000000 ≤ e := hy1
  have hy2 : e ≤ 4000000000000000000 := hy2
  clear hp hx hy
  rcases ldx_cases u e hx2 with h0 | ⟨hn, h1⟩ | ⟨hn, h1, h2, hs⟩ | ⟨hn, h1, h2, hs⟩ | ⟨hn, h1, h2, h3⟩ | ⟨hn, h1, h2, h3⟩
  · have q0 := isZero_v hu
    rw [decide_eq_true h0] at q0
    have e0 : ldx u e = u := if_pos h0
    cbv
    repeat' (first | with_reducible refine And.intro ?_ ?_ | (with_reducible refine safe_lift hA ?_; kernel_rfl) | (intro hc_; (first | (with_reducible exfalso; clear hQ; subst hF hA; simp only [fnOf, find, std_of, std_lt, std_le, std_eq, std_not, std_fcmp, std_fneg, std_bits, std_toN, std_pick, std_nn, std_fok, std_fop, reduceIte, Nat.reduceEqDiff, sp1, sp2, a1, a2, FnSpec.out, Shape.build, leafs, leafCells, tups, oneOf, List.cons_append, List.nil_append, List.length_cons, List.length_nil, s_mldx, s_mInf, s_mNaN, s_mNorm, s_mSign, s_mInfinity, sf1, sf2, df, dz, toNat_nat, decide_eq_true_eq, decide_eq_false_iff_not, gt_iff_lt, ge_iff_le, eq_self, Bool.not_eq_eq_eq_not, decide_eq_true_eq, decide_eq_false_iff_not, not_true_eq_false, not_false_eq_true, decide_true, decide_false, Bool.true_and, Bool.and_true, Bool.not_true, Bool.not_false, beq_self_eq_true, Bool.true_eq_false, Bool.false_eq_true, reduceCtorEq, gt_iff_lt, ge_iff_le, true_and, and_true, and_self, Bool.false_eq, Bool.and_self, Int.add_zero, Option.isSome_some, Option.getD_some, q0, e0] at hc_; done) | (clear hc_; cbv))))
    all_goals subst hF hA
    all_goals (try simp only [fnOf, find, std_of, std_lt, std_le, std_eq, std_not, std_fcmp, std_fneg, std_bits, std_toN, std_pick, std_nn, std_fok, std_fop, reduceIte, Nat.reduceEqDiff, sp1, sp2, a1, a2, FnSpec.out, Shape.build, leafs, leafCells, tups, oneOf, List.cons_append, List.nil_append, List.length_cons, List.length_nil, s_mldx, s_mInf, s_mNaN, s_mNorm, s_mSign, s_mInfinity, sf1, sf2, df, dz, toNat_nat, decide_eq_true_eq, decide_eq_false_iff_not, gt_iff_lt, ge_iff_le, eq_self, Bool.not_eq_eq_eq_not, decide_eq_true_eq, decide_eq_false_iff_not, not_true_eq_false, not_false_eq_true, decide_true, decide_false, Bool.true_and, Bool.and_true, Bool.not_true, Bool.not_false, beq_self_eq_true, Bool.true_eq_false, Bool.false_eq_true, reduceCtorEq, gt_iff_lt, ge_iff_le, true_and, and_true, and_self, Bool.false_eq, Bool.and_self, Int.add_zero, Option.isSome_some, Option.getD_some, q0, e0] at hQ ⊢)
    all_goals (repeat' (first
    | with_reducible exact hQ
    | with_reducible assumption
    | with_reducible exact isi_int _ _
    | with_reducible exact isF_mk (by assumption)
    | with_reducible exact isF_mk (by omega)
    | with_reducible exact fin_mk (by assumption) (by assumption)
    | with_reducible exact finN_mk (by assumption) (by assumption)
    | exact hQ
    | omega
    | with_reducible refine And.intro ?_ ?_))
  · obtain ⟨q0, q1, q2, q3, q4, q5, q6, q7, q8, q9, qA⟩ := ldx_facts hu hn hy1 hy2
    have qF := fin_of hn
    have hl := ldx_low hn h1
    have c1 := eq_true h1
    cbv
    repeat' (first | with_reducible refine And.intro ?_ ?_ | (with_reducible refine safe_lift hA ?_; kernel_rfl) | (intro hc_; (first | (with_reducible exfalso; clear hQ; subst hF hA; simp only [fnOf, find, std_of, std_lt, std_le, std_eq, std_not, std_fcmp, std_fneg, std_bits, std_toN, std_pick, std_nn, std_fok, std_fop, reduceIte, Nat.reduceEqDiff, sp1, sp2, a1, a2, FnSpec.out, Shape.build, leafs, leafCells, tups, oneOf, List.cons_append, List.nil_append, List.length_cons, List.length_nil, s_mldx, s_mInf, s_mNaN, s_mNorm, s_mSign, s_mInfinity, sf1, sf2, df, dz, toNat_nat, decide_eq_true_eq, decide_eq_false_iff_not, gt_iff_lt, ge_iff_le, eq_self, Bool.not_eq_eq_eq_not, decide_eq_true_eq, decide_eq_false_iff_not, not_true_eq_false, not_false_eq_true, decide_true, decide_false, Bool.true_and, Bool.and_true, Bool.not_true, Bool.not_false, beq_self_eq_true, Bool.true_eq_false, Bool.false_eq_true, reduceCtorEq, gt_iff_lt, ge_iff_le, true_and, and_true, and_self, Bool.false_eq, Bool.and_self, Int.add_zero, Option.isSome_some, Option.getD_some, q0, q1, q2, q3, q4, q5, q6, q7, q8, q9, qA, hl, c1] at hc_; done) | (clear hc_; cbv))))
    all_goals subst hF hA
    all_goals (try simp only [fnOf, find, std_of, std_lt, std_le, std_eq, std_not, std_fcmp, std_fneg, std_bits, std_toN, std_pick, std_nn, std_fok, std_fop, reduceIte, Nat.reduceEqDiff, sp1, sp2, a1, a2, FnSpec.out, Shape.build, leafs, leafCells, tups, oneOf, List.cons_append, List.nil_append, List.length_cons, List.length_nil, s_mldx, s_mInf, s_mNaN, s_mNorm, s_mSign, s_mInfinity, sf1, sf2, df, dz, toNat_nat, decide_eq_true_eq, decide_eq_false_iff_not, gt_iff_lt, ge_iff_le, eq_self, Bool.not_eq_eq_eq_not, decide_eq_true_eq, decide_eq_false_iff_not, not_true_eq_false, not_false_eq_true, decide_true, decide_false, Bool.true_and, Bool.and_true, Bool.not_true, Bool.not_false, beq_self_eq_true, Bool.true_eq_false, Bool.false_eq_true, reduceCtorEq, gt_iff_lt, ge_iff_le, true_and, and_true, and_self, Bool.false_eq, Bool.and_self, Int.add_zero, Option.isSome_some, Option.getD_some, q0, q1, q2, q3, q4, q5, q6, q7, q8, q9, qA, hl, c1] at hQ ⊢)
    all_goals (repeat' (first
    | with_reducible exact hQ
    | with_reducible assumption
    | with_reducible exact isi_int _ _
    | with_reducible exact isF_mk (by assumption)
    | with_reducible exact isF_mk (by omega)
    | with_reducible exact fin_mk (by assumption) (by assumption)
    | with_reducible exact finN_mk (by assumption) (by assumption)
    | exact hQ
    | omega
    | with_reducible refine And.intro ?_ ?_))
  · obtain ⟨q0, q1, q2, q3, q4, q5, q6, q7, q8, q9, qA⟩ := ldx_facts hu hn hy1 hy2
    have qF := fin_of hn
    have hl := ldx_high hn h1 h2
    have c1 := eq_false h1
    have c2 := eq_true h2
    have c4 := neg_word hu hn
    rw [hs] at c4 hl
    have c5 : ¬(0 : Int) ≤ -1 := by decide
    have c5 := eq_false c5
    cbv
    repeat' (first | with_reducible refine And.intro ?_ ?_ | (with_reducible refine safe_lift hA ?_; kernel_rfl) | (intro hc_; (first | (with_reducible exfalso; clear hQ; subst hF hA; simp only [fnOf, find, std_of, std_lt, std_le, std_eq, std_not, std_fcmp, std_fneg, std_bits, std_toN, std_pick, std_nn, std_fok, std_fop, reduceIte, Nat.reduceEqDiff, sp1, sp2, a1, a2, FnSpec.out, Shape.build, leafs, leafCells, tups, oneOf, List.cons_append, List.nil_append, List.length_cons, List.length_nil, s_mldx, s_mInf, s_mNaN, s_mNorm, s_mSign, s_mInfinity, sf1, sf2, df, dz, toNat_nat, decide_eq_true_eq, decide_eq_false_iff_not, gt_iff_lt, ge_iff_le, eq_self, Bool.not_eq_eq_eq_not, decide_eq_true_eq, decide_eq_false_iff_not, not_true_eq_false, not_false_eq_true, decide_true, decide_false, Bool.true_and, Bool.and_true, Bool.not_true, Bool.not_false, beq_self_eq_true, Bool.true_eq_false, Bool.false_eq_true, reduceCtorEq, gt_iff_lt, ge_iff_le, true_and, and_true, and_self, Bool.false_eq, Bool.and_self, Int.add_zero, Option.isSome_some, Option.getD_some, q0, q1, q2, q3, q4, q5, q6, q7, q8, q9, qA, hl, c1, c2, c4, c5, if_false] at hc_; done) | (clear hc_; cbv))))
    all_goals subst hF hA
    all_goals (try simp only [fnOf, find, std_of, std_lt, std_le, std_eq, std_not, std_fcmp, std_fneg, std_bits, std_toN, std_pick, std_nn, std_fok, std_fop, reduceIte, Nat.reduceEqDiff, sp1, sp2, a1, a2, FnSpec.out, Shape.build, leafs, leafCells, tups, oneOf, List.cons_append, List.nil_append, List.length_cons, List.length_nil, s_mldx, s_mInf, s_mNaN, s_mNorm, s_mSign, s_mInfinity, sf1, sf2, df, dz, toNat_nat, decide_eq_true_eq, decide_eq_false_iff_not, gt_iff_lt, ge_iff_le, eq_self, Bool.not_eq_eq_eq_not, decide_eq_true_eq, decide_eq_false_iff_not, not_true_eq_false, not_false_eq_true, decide_true, decide_false, Bool.true_and, Bool.and_true, Bool.not_true, Bool.not_false, beq_self_eq_true, Bool.true_eq_false, Bool.false_eq_true, reduceCtorEq, gt_iff_lt, ge_iff_le, true_and, and_true, and_self, Bool.false_eq, Bool.and_self, Int.add_zero, Option.isSome_some, Option.getD_some, q0, q1, q2, q3, q4, q5, q6, q7, q8, q9, qA, hl, c1, c2, c4, c5, if_false] at hQ ⊢)
    all_goals (repeat' (first
    | with_reducible exact hQ
    | with_reducible assumption
    | with_reducible exact isi_int _ _
    | with_reducible exact isF_mk (by assumption)
    | with_reducible exact isF_mk (by omega)
    | with_reducible exact fin_mk (by assumption) (by assumption)
    | with_reducible exact finN_mk (by assumption) (by assumption)
    | exact hQ
    | omega
    | with_reducible refine And.intro ?_ ?_))
  · obtain ⟨q0, q1, q2, q3, q4, q5, q6, q7, q8, q9, qA⟩ := ldx_facts hu hn hy1 hy2
    have qF := fin_of hn
    have hl := ldx_high hn h1 h2
    have c1 := eq_false h1
    have c2 := eq_true h2
    have c4 := neg_word hu hn
    rw [hs] at c4 hl
    have c6 : (0 : Int) ≤ 1 := by decide
    have c6 := eq_true c6
    cbv
    repeat' (first | with_reducible refine And.intro ?_ ?_ | (with_reducible refine safe_lift hA ?_; kernel_rfl) | (intro hc_; (first | (with_reducible exfalso; clear hQ; subst hF hA; simp only [fnOf, find, std_of, std_lt, std_le, std_eq, std_not, std_fcmp, std_fneg, std_bits, std_toN, std_pick, std_nn, std_fok, std_fop, reduceIte, Nat.reduceEqDiff, sp1, sp2, a1, a2, FnSpec.out, Shape.build, leafs, leafCells, tups, oneOf, List.cons_append, List.nil_append, List.length_cons, List.length_nil, s_mldx, s_mInf, s_mNaN, s_mNorm, s_mSign, s_mInfinity, sf1, sf2, df, dz, toNat_nat, decide_eq_true_eq, decide_eq_false_iff_not, gt_iff_lt, ge_iff_le, eq_self, Bool.not_eq_eq_eq_not, decide_eq_true_eq, decide_eq_false_iff_not, not_true_eq_false, not_false_eq_true, decide_true, decide_false, Bool.true_and, Bool.and_true, Bool.not_true, Bool.not_false, beq_self_eq_true, Bool.true_eq_false, Bool.false_eq_true, reduceCtorEq, gt_iff_lt, ge_iff_le, true_and, and_true, and_self, Bool.false_eq, Bool.and_self, Int.add_zero, Option.isSome_some, Option.getD_some, q0, q1, q2, q3, q4, q5, q6, q7, q8, q9, qA, hl, c1, c2, c4, c6, if_true] at hc_; done) | (clear hc_; cbv))))
    all_goals subst hF hA
    all_goals (try simp only [fnOf, find, std_of, std_lt, std_le, std_eq, std_not, std_fcmp, std_fneg, std_bits, std_toN, std_pick, std_nn, std_fok, std_fop, reduceIte, Nat.reduceEqDiff, sp1, sp2, a1, a2, FnSpec.out, Shape.build, leafs, leafCells, tups, oneOf, List.cons_append, List.nil_append, List.length_cons, List.length_nil, s_mldx, s_mInf, s_mNaN, s_mNorm, s_mSign, s_mInfinity, sf1, sf2, df, dz, toNat_nat, decide_eq_true_eq, decide_eq_false_iff_not, gt_iff_lt, ge_iff_le, eq_self, Bool.not_eq_eq_eq_not, decide_eq_true_eq, decide_eq_false_iff_not, not_true_eq_false, not_false_eq_true, decide_true, decide_false, Bool.true_and, Bool.and_true, Bool.not_true, Bool.not_false, beq_self_eq_true, Bool.true_eq_false, Bool.false_eq_true, reduceCtorEq, gt_iff_lt, ge_iff_le, true_and, and_true, and_self, Bool.false_eq, Bool.and_self, Int.add_zero, Option.isSome_some, Option.getD_some, q0, q1, q2, q3, q4, q5, q6, q7, q8, q9, qA, hl, c1, c2, c4, c6, if_true] at hQ ⊢)
    all_goals (repeat' (first
    | with_reducible exact hQ
    | with_reducible assumption
    | with_reducible exact isi_int _ _
    | with_reducible exact isF_mk (by assumption)
    | with_reducible exact isF_mk (by omega)
    | with_reducible exact fin_mk (by assumption) (by assumption)
    | with_reducible exact finN_mk (by assumption) (by assumption)
    | exact hQ
    | omega
    | with_reducible refine And.intro ?_ ?_))
  · obtain ⟨q0, q1, q2, q3, q4, q5, q6, q7, q8, q9, qA⟩ := ldx_facts hu hn hy1 hy2
    have qF := fin_of hn
    obtain ⟨r1, r2, r3, r4, r5, r6, r7, r8⟩ := ldx_mid hu hn h1 h2 h3 hy1 hy2
    have c1 := eq_false h1
    have c2 := eq_false h2
    have c3 := eq_true h3
    cbv
    repeat' (first | with_reducible refine And.intro ?_ ?_ | (with_reducible refine safe_lift hA ?_; kernel_rfl) | (intro hc_; (first | (with_reducible exfalso; clear hQ; subst hF hA; simp only [fnOf, find, std_of, std_lt, std_le, std_eq, std_not, std_fcmp, std_fneg, std_bits, std_toN, std_pick, std_nn, std_fok, std_fop, reduceIte, Nat.reduceEqDiff, sp1, sp2, a1, a2, FnSpec.out, Shape.build, leafs, leafCells, tups, oneOf, List.cons_append, List.nil_append, List.length_cons, List.length_nil, s_mldx, s_mInf, s_mNaN, s_mNorm, s_mSign, s_mInfinity, sf1, sf2, df, dz, toNat_nat, decide_eq_true_eq, decide_eq_false_iff_not, gt_iff_lt, ge_iff_le, eq_self, Bool.not_eq_eq_eq_not, decide_eq_true_eq, decide_eq_false_iff_not, not_true_eq_false, not_false_eq_true, decide_true, decide_false, Bool.true_and, Bool.and_true, Bool.not_true, Bool.not_false, beq_self_eq_true, Bool.true_eq_false, Bool.false_eq_true, reduceCtorEq, gt_iff_lt, ge_iff_le, true_and, and_true, and_self, Bool.false_eq, Bool.and_self, Int.add_zero, Option.isSome_some, Option.getD_some, q0, q1, q2, q3, q4, q5, q6, q7, q8, q9, qA, c1, c2, c3, r1, r2, r3, r4, r5, r6, r7, r8] at hc_; done) | (clear hc_; cbv))))
    all_goals subst hF hA
    all_goals (try simp only [fnOf, find, std_of, std_lt, std_le, std_eq, std_not, std_fcmp, std_fneg, std_bits, std_toN, std_pick, std_nn, std_fok, std_fop, reduceIte, Nat.reduceEqDiff, sp1, sp2, a1, a2, FnSpec.out, Shape.build, leafs, leafCells, tups, oneOf, List.cons_append, List.nil_append, List.length_cons, List.length_nil, s_mldx, s_mInf, s_mNaN, s_mNorm, s_mSign, s_mInfinity, sf1, sf2, df, dz, toNat_nat, decide_eq_true_eq, decide_eq_false_iff_not, gt_iff_lt, ge_iff_le, eq_self, Bool.not_eq_eq_eq_not, decide_eq_true_eq, decide_eq_false_iff_not, not_true_eq_false, not_false_eq_true, decide_true, decide_false, Bool.true_and, Bool.and_true, Bool.not_true, Bool.not_false, beq_self_eq_true, Bool.true_eq_false, Bool.false_eq_true, reduceCtorEq, gt_iff_lt, ge_iff_le, true_and, and_true, and_self, Bool.false_eq, Bool.and_self, Int.add_zero, Option.isSome_some, Option.getD_some, q0, q1, q2, q3, q4, q5, q6, q7, q8, q9, qA, c1, c2, c3, r1, r2, r3, r4, r5, r6, r7, r8] at hQ ⊢)
    all_goals (repeat' (first
    | with_reducible exact hQ
    | with_reducible assumption
    | with_reducible exact isi_int _ _
    | with_reducible exact isF_mk (by assumption)
    | with_reducible exact isF_mk (by omega)
    | with_reducible exact fin_mk (by assumption) (by assumption)
    | with_reducible exact finN_mk (by assumption) (by assumption)
    | exact hQ
    | omega
    | with_reducible refine And.intro ?_ ?_))
  · obtain ⟨q0, q1, q2, q3, q4, q5, q6, q7, q8, q9, qA⟩ := ldx_facts hu hn hy1 hy2
    have qF := fin_of hn
    obtain ⟨r1, r2, r3, r4, r5, r6, r7⟩ := ldx_full hu hn h1 h2 h3 hy1 hy2
    have c1 := eq_false h1
    have c2 := eq_false h2
    have c3 := eq_false h3
    cbv
    repeat' (first | with_reducible refine And.intro ?_ ?_ | (with_reducible refine safe_lift hA ?_; kernel_rfl) | (intro hc_; (first | (with_reducible exfalso; clear hQ; subst hF hA; simp only [fnOf, find, std_of, std_lt, std_le, std_eq, std_not, std_fcmp, std_fneg, std_bits, std_toN, std_pick, std_nn, std_fok, std_fop, reduceIte, Nat.reduceEqDiff, sp1, sp2, a1, a2, FnSpec.out, Shape.build, leafs, leafCells, tups, oneOf, List.cons_append, List.nil_append, List.length_cons, List.length_nil, s_mldx, s_mInf, s_mNaN, s_mNorm, s_mSign, s_mInfinity, sf1, sf2, df, dz, toNat_nat, decide_eq_true_eq, decide_eq_false_iff_not, gt_iff_lt, ge_iff_le, eq_self, Bool.not_eq_eq_eq_not, decide_eq_true_eq, decide_eq_false_iff_not, not_true_eq_false, not_false_eq_true, decide_true, decide_false, Bool.true_and, Bool.and_true, Bool.not_true, Bool.not_false, beq_self_eq_true, Bool.true_eq_false, Bool.false_eq_true, reduceCtorEq, gt_iff_lt, ge_iff_le, true_and, and_true, and_self, Bool.false_eq, Bool.and_self, Int.add_zero, Option.isSome_some, Option.getD_some, q0, q1, q2, q3, q4, q5, q6, q7, q8, q9, qA, c1, c2, c3, r1, r2, r3, r4, r5, r6, r7] at hc_; done) | (clear hc_; cbv))))
    all_goals subst hF hA
    all_goals (try simp only [fnOf, find, std_of, std_lt, std_le, std_eq, std_not, std_fcmp, std_fneg, std_bits, std_toN, std_pick, std_nn, std_fok, std_fop, reduceIte, Nat.reduceEqDiff, sp1, sp2, a1, a2, FnSpec.out, Shape.build, leafs, leafCells, tups, oneOf, List.cons_append, List.nil_append, List.length_cons, List.length_nil, s_mldx, s_mInf, s_mNaN, s_mNorm, s_mSign, s_mInfinity, sf1, sf2, df, dz, toNat_nat, decide_eq_true_eq, decide_eq_false_iff_not, gt_iff_lt, ge_iff_le, eq_self, Bool.not_eq_eq_eq_not, decide_eq_true_eq, decide_eq_false_iff_not, not_true_eq_false, not_false_eq_true, decide_true, decide_false, Bool.true_and, Bool.and_true, Bool.not_true, Bool.not_false, beq_self_eq_true, Bool.true_eq_false, Bool.false_eq_true, reduceCtorEq, gt_iff_lt, ge_iff_le, true_and, and_true, and_self, Bool.false_eq, Bool.and_self, Int.add_zero, Option.isSome_some, Option.getD_some, q0, q1, q2, q3, q4, q5, q6, q7, q8, q9, qA, c1, c2, c3, r1, r2, r3, r4, r5, r6, r7] at hQ ⊢)
    all_goals (repeat' (first
    | with_reducible exact hQ
    | with_reducible assumption
    | with_reducible exact isi_int _ _
    | with_reducible exact isF_mk (by assumption)
    | with_reducible exact isF_mk (by omega)
    | with_reducible exact fin_mk (by assumption) (by assumption)
    | with_reducible exact finN_mk (by assumption) (by assumption)
    | exact hQ
    | omega
    | with_reducible refine And.intro ?_ ?_))
set_option maxRecDepth 100000 in
set_option maxHeartbeats 8000000 in
theorem good_mLdx : Good Tryz.prog (GWL [0, 1]) N0 141 s_mLdx := by
  refine goodL (l := [0, 1]) (tab := [(173, s_mldx)]) (shs := [(173, .one .f)]) rfl ⟨good_mldx, trivial⟩ Tryz.f141 (by kernel_rfl) (by kernel_rfl) (by kernel_rfl) (fun ds hp F A Q hF hA hQ => ⟨0, ?_⟩)
  obtain ⟨x, y, rfl, hx, hy⟩ := sf2_arg hp
  obtain ⟨hx, hx2⟩ := hx
  obtain ⟨u, rfl, hu⟩ := isF_arg hx
  obtain ⟨hy, hy1, hy2⟩ := hy
  obtain ⟨e, rfl⟩ := isi_arg hy
  have hx2 : rgo u = 0 ∨ normal (rgo u) := hx2
  have hy1 : -4000000000000000000 ≤ e := hy1
  have hy2 : e ≤ 4000000000000000000 := hy2
  clear hp hx hy
  · cbv
    repeat' (first | with_reducible refine And.intro ?_ ?_ | (with_reducible refine safe_lift hA ?_; kernel_rfl) | (intro hc_; (first | (with_reducible exfalso; clear hQ; subst hF hA; simp only [fnOf, find, std_of, std_lt, std_le, std_eq, std_not, std_fcmp, std_fneg, std_bits, std_toN, std_pick, std_nn, std_fok, std_fop, reduceIte, Nat.reduceEqDiff, sp1, sp2, a1, a2, FnSpec.out, Shape.build, leafs, leafCells, tups, oneOf, List.cons_append, List.nil_append, List.length_cons, List.length_nil, s_mLdx, s_mldx, sf1, sf2, df, dz, toNat_nat, decide_eq_true_eq, decide_eq_false_iff_not, gt_iff_lt, ge_iff_le, eq_self, Bool.not_eq_eq_eq_not, decide_eq_true_eq, decide_eq_false_iff_not, not_true_eq_false, not_false_eq_true, decide_true, decide_false, Bool.true_and, Bool.and_true, Bool.not_true, Bool.not_false, beq_self_eq_true, Bool.true_eq_false, Bool.false_eq_true, reduceCtorEq, gt_iff_lt, ge_iff_le, true_and, and_true, and_self, Bool.false_eq, Bool.and_self, Int.add_zero, Option.isSome_some, Option.getD_some] at hc_; done) | (clear hc_; cbv))))
    all_goals subst hF hA
    all_goals (try simp only [fnOf, find, std_of, std_lt, std_le, std_eq, std_not, std_fcmp, std_fneg, std_bits, std_toN, std_pick, std_nn, std_fok, std_fop, reduceIte, Nat.reduceEqDiff, sp1, sp2, a1, a2, FnSpec.out, Shape.build, leafs, leafCells, tups, oneOf, List.cons_append, List.nil_append, List.length_cons, List.length_nil, s_mLdx, s_mldx, sf1, sf2, df, dz, toNat_nat, decide_eq_true_eq, decide_eq_false_iff_not, gt_iff_lt, ge_iff_le, eq_self, Bool.not_eq_eq_eq_not, decide_eq_true_eq, decide_eq_false_iff_not, not_true_eq_false, not_false_eq_true, decide_true, decide_false, Bool.true_and, Bool.and_true, Bool.not_true, Bool.not_false, beq_self_eq_true, Bool.true_eq_false, Bool.false_eq_true, reduceCtorEq, gt_iff_lt, ge_iff_le, true_and, and_true, and_self, Bool.false_eq, Bool.and_self, Int.add_zero, Option.isSome_some, Option.getD_some] at hQ ⊢)
    all_goals (repeat' (first
    | with_reducible exact hQ
    | with_reducible assumption
    | with_reducible exact isi_int _ _
    | with_reducible exact isF_mk (by assumption)
    | with_reducible exact isF_mk (by omega)
    | with_reducible exact fin_mk (by assumption) (by assumption)
    | with_reducible exact finN_mk (by assumption) (by assumption)
    | exact hQ
    | omega
    | with_reducible refine And.intro ?_ ?_))
set_option maxRecDepth 100000 in
set_option maxHeartbeats 8000000 in
theorem good_mfxp : Good Tryz.prog (GWL [0, 1]) N0 171 s_mfxp := by
  refine goodF (l := [0, 1]) (tab := [(64, s_mInf), (65, s_mNaN), (188, s_mNorm)]) (shs := [(64, .one .b), (65, .one .b), (188, .tup [(false, [.f]), (false, [.i .i64])])]) rfl ⟨good_mInf, good_mNaN, good_mNorm, trivial⟩ Tryz.f171 (by kernel_rfl) (by kernel_rfl) (by kernel_rfl) (fun ds hp F A Q hF hA hQ => ⟨0, ?_⟩)
  obtain ⟨x, rfl, hx⟩ := sf1_arg hp
  obtain ⟨hx, hr⟩ := hx
  obtain ⟨u, rfl, hu⟩ := isF_arg hx
  have hr : rgo u < infR := hr
  clear hp hx
  by_cases h0 : rgo u = 0
  · have q0 := isZero_v hu
    rw [decide_eq_true h0] at q0
    have e0 : fxf u = u := if_pos h0
    have e1 : fxe u = 0 := if_pos h0
    cbv
    repeat' (first | with_reducible refine And.intro ?_ ?_ | (with_reducible refine safe_lift hA ?_; kernel_rfl) | (intro hc_; (first | (with_reducible exfalso; clear hQ; subst hF hA; simp only [fnOf, find, std_of, std_lt, std_le, std_eq, std_not, std_fcmp, std_fneg, std_bits, std_toN, std_pick, std_nn, std_fok, std_fop, reduceIte, Nat.reduceEqDiff, sp1, sp2, a1, a2, FnSpec.out, Shape.build, leafs, leafCells, tups, oneOf, List.cons_append, List.nil_append, List.length_cons, List.length_nil, s_mfxp, s_mInf, s_mNaN, s_mNorm, sf1, sf2, df, dz, toNat_nat, decide_eq_true_eq, decide_eq_false_iff_not, gt_iff_lt, ge_iff_le, eq_self, Bool.not_eq_eq_eq_not, decide_eq_true_eq, decide_eq_false_iff_not, not_true_eq_false, not_false_eq_true, decide_true, decide_false, Bool.true_and, Bool.and_true, Bool.not_true, Bool.not_false, beq_self_eq_true, Bool.true_eq_false, Bool.false_eq_true, reduceCtorEq, gt_iff_lt, ge_iff_le, true_and, and_true, and_self, Bool.false_eq, Bool.and_self, Int.add_zero, Option.isSome_some, Option.getD_some, q0, e0, e1] at hc_; done) | (clear hc_; cbv))))
    all_goals subst hF hA
    all_goals (try simp only [fnOf, find, std_of, std_lt, std_le, std_eq, std_not, std_fcmp, std_fneg, std_bits, std_toN, std_pick, std_nn, std_fok, std_fop, reduceIte, Nat.reduceEqDiff, sp1, sp2, a1, a2, FnSpec.out, Shape.build, leafs, leafCells, tups, oneOf, List.cons_append, List.nil_append, List.length_cons, List.length_nil, s_mfxp, s_mInf, s_mNaN, s_mNorm, sf1, sf2, df, dz, toNat_nat, decide_eq_true_eq, decide_eq_false_iff_not, gt_iff_lt, ge_iff_le, eq_self, Bool.not_eq_eq_eq_not, decide_eq_true_eq, decide_eq_false_iff_not, not_true_eq_false, not_false_eq_true, decide_true, decide_false, Bool.true_and, Bool.and_true, Bool.not_true, Bool.not_false, beq_self_eq_true, Bool.true_eq_false, Bool.false_eq_true, reduceCtorEq, gt_iff_lt, ge_iff_le, true_and, and_true, and_self, Bool.false_eq, Bool.and_self, Int.add_zero, Option.isSome_some, Option.getD_some, q0, e0, e1] at hQ ⊢)
    all_goals (repeat' (first
    | with_reducible exact hQ
    | with_reducible assumption
    | with_reducible exact isi_int _ _
    | with_reducible exact isF_mk (by assumption)
    | with_reducible exact isF_mk (by omega)
    | with_reducible exact fin_mk (by assumption) (by assumption)
    | with_reducible exact finN_mk (by assumption) (by assumption)
    | exact hQ
    | omega
    | with_reducible refine And.intro ?_ ?_))
  · obtain ⟨q0, q1, q2, q3, q4, q5, q6, q7, q8, q9, qA, qB⟩ := fxp_facts hu hr h0
    cbv
    repeat' (first | with_reducible refine And.intro ?_ ?_ | (with_reducible refine safe_lift hA ?_; kernel_rfl) | (intro hc_; (first | (with_reducible exfalso; clear hQ; subst hF hA; simp only [fnOf, find, std_of, std_lt, std_le, std_eq, std_not, std_fcmp, std_fneg, std_bits, std_toN, std_pick, std_nn, std_fok, std_fop, reduceIte, Nat.reduceEqDiff, sp1, sp2, a1, a2, FnSpec.out, Shape.build, leafs, leafCells, tups, oneOf, List.cons_append, List.nil_append, List.length_cons, List.length_nil, s_mfxp, s_mInf, s_mNaN, s_mNorm, sf1, sf2, df, dz, toNat_nat, decide_eq_true_eq, decide_eq_false_iff_not, gt_iff_lt, ge_iff_le, eq_self, Bool.not_eq_eq_eq_not, decide_eq_true_eq, decide_eq_false_iff_not, not_true_eq_false, not_false_eq_true, decide_true, decide_false, Bool.true_and, Bool.and_true, Bool.not_true, Bool.not_false, beq_self_eq_true, Bool.true_eq_false, Bool.false_eq_true, reduceCtorEq, gt_iff_lt, ge_iff_le, true_and, and_true, and_self, Bool.false_eq, Bool.and_self, Int.add_zero, Option.isSome_some, Option.getD_some, q0, q1, q2, q3, q4, q5, q6, q7, q8, q9, qA, qB] at hc_; done) | (clear hc_; cbv))))
    all_goals subst hF hA
    all_goals (try simp only [fnOf, find, std_of, std_lt, std_le, std_eq, std_not, std_fcmp, std_fneg, std_bits, std_toN, std_pick, std_nn, std_fok, std_fop, reduceIte, Nat.reduceEqDiff, sp1, sp2, a1, a2, FnSpec.out, Shape.build, leafs, leafCells, tups, oneOf, List.cons_append, List.nil_append, List.length_cons, List.length_nil, s_mfxp, s_mInf, s_mNaN, s_mNorm, sf1, sf2, df, dz, toNat_nat, decide_eq_true_eq, decide_eq_false_iff_not, gt_iff_lt, ge_iff_le, eq_self, Bool.not_eq_eq_eq_not, decide_eq_true_eq, decide_eq_false_iff_not, not_true_eq_false, not_false_eq_true, decide_true, decide_false, Bool.true_and, Bool.and_true, Bool.not_true, Bool.not_false, beq_self_eq_true, Bool.true_eq_false, Bool.false_eq_true, reduceCtorEq, gt_iff_lt, ge_iff_le, true_and, and_true, and_self, Bool.false_eq, Bool.and_self, Int.add_zero, Option.isSome_some, Option.getD_some, q0, q1, q2, q3, q4, q5, q6, q7, q8, q9, qA, qB] at hQ ⊢)
    all_goals (repeat' (first
    | with_reducible exact hQ
    | with_reducible assumption
    | with_reducible exact isi_int _ _
    | with_reducible exact isF_mk (by assumption)
    | with_reducible exact isF_mk (by omega)
    | with_reducible exact fin_mk (by assumption) (by assumption)
    | with_reducible exact finN_mk (by assumption) (by assumption)
    | exact hQ
    | omega
    | with_reducible refine And.intro ?_ ?_))
set_option maxRecDepth 100000 in
set_option maxHeartbeats 8000000 in
theorem good_mFxp : Good Tryz.prog (GWL [0, 1]) N0 140 s_mFxp := by
  refine goodL (l := [0, 1]) (tab := [(171, s_mfxp)]) (shs := [(171, .tup [(false, [.f]), (false, [.i .i64])])]) rfl ⟨good_mfxp, trivial⟩ Tryz.f140 (by kernel_rfl) (by kernel_rfl) (by kernel_rfl) (fun ds hp F A Q hF hA hQ => ⟨0, ?_⟩)
  obtain ⟨x, rfl, hx⟩ := sf1_arg hp
  obtain ⟨hx, hr⟩ := hx
  obtain ⟨u, rfl, hu⟩ := isF_arg hx
  have hr : rgo u < infR := hr
  clear hp hx
  · cbv
    repeat' (first | with_reducible refine And.intro ?_ ?_ | (with_reducible refine safe_lift hA ?_; kernel_rfl) | (intro hc_; (first | (with_reducible exfalso; clear hQ; subst hF hA; simp only [fnOf, find, std_of, std_lt, std_le, std_eq, std_not, std_fcmp, std_fneg, std_bits, std_toN, std_pick, std_nn, std_fok, std_fop, reduceIte, Nat.reduceEqDiff, sp1, sp2, a1, a2, FnSpec.out, Shape.build, leafs, leafCells, tups, oneOf, List.cons_append, List.nil_append, List.length_cons, List.length_nil, s_mFxp, s_mfxp, sf1, sf2, df, dz, toNat_nat, decide_eq_true_eq, decide_eq_false_iff_not, gt_iff_lt, ge_iff_le, eq_self, Bool.not_eq_eq_eq_not, decide_eq_true_eq, decide_eq_false_iff_not, not_true_eq_false, not_false_eq_true, decide_true, decide_false, Bool.true_and, Bool.and_true, Bool.not_true, Bool.not_false, beq_self_eq_true, Bool.true_eq_false, Bool.false_eq_true, reduceCtorEq, gt_iff_lt, ge_iff_le, true_and, and_true, and_self, Bool.false_eq, Bool.and_self, Int.add_zero, Option.isSome_some, Option.getD_some] at hc_; done) | (clear hc_; cbv))))
    all_goals subst hF hA
    all_goals (try simp only [fnOf, find, std_of, std_lt, std_le, std_eq, std_not, std_fcmp, std_fneg, std_bits, std_toN, std_pick, std_nn, std_fok, std_fop, reduceIte, Nat.reduceEqDiff, sp1, sp2, a1, a2, FnSpec.out, Shape.build, leafs, leafCells, tups, oneOf, List.cons_append, List.nil_append, List.length_cons, List.length_nil, s_mFxp, s_mfxp, sf1, sf2, df, dz, toNat_nat, decide_eq_true_eq, decide_eq_false_iff_not, gt_iff_lt, ge_iff_le, eq_self, Bool.not_eq_eq_eq_not, decide_eq_true_eq, decide_eq_false_iff_not, not_true_eq_false, not_false_eq_true, decide_true, decide_false, Bool.true_and, Bool.and_true, Bool.not_true, Bool.not_false, beq_self_eq_true, Bool.true_eq_false, Bool.false_eq_true, reduceCtorEq, gt_iff_lt, ge_iff_le, true_and, and_true, and_self, Bool.false_eq, Bool.and_self, Int.add_zero, Option.isSome_some, Option.getD_some] at hQ ⊢)
    all_goals (repeat' (first
    | with_reducible exact hQ
    | with_reducible assumption
    | with_reducible exact isi_int _ _
    | with_reducible exact isF_mk (by assumption)
    | with_reducible exact isF_mk (by omega)
    | with_reducible exact fin_mk (by assumption) (by assumption)
    | with_reducible exact finN_mk (by assumption) (by assumption)
    | exact hQ
    | omega
    | with_reducible refine And.intro ?_ ?_))
end Go.Proofs.YtcamkbphognoaaaGreatDoor.Ev
