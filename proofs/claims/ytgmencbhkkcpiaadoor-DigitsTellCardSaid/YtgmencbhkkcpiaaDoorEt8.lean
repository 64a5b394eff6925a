/- A law of digits: DigitsTell; the document's Value and Parse. -/
import Derived.Test.YtgmencbhkkcpiaaDoorEt4
namespace Go.Proofs.YtgmencbhkkcpiaaDoor.Ev
open Go Go.RowKit
set_option linter.unusedSimpArgs false
set_option linter.unusedVariables false
/-- the number of the digits among the first bytes. -/
def vat (t : ByteArray) : Nat → Nat
  | 0 => 0
  | i + 1 => if byt t i = 45 then vat t i else vat t i * 10 + (byt t i - 48)
theorem vat_lt (t : ByteArray) (h : ∀ j, j < t.size → byt t j = 45 ∨ (48 ≤ byt t j ∧ byt t j ≤ 57)) : ∀ i, i ≤ t.size → vat t i < 16 ^ i
  | 0, _ => Nat.lt_of_lt_of_eq Nat.zero_lt_one rfl
  | i + 1, hi => by
    have h1 := vat_lt t h i (by omega)
    have h2 := h i (by omega)
    rw [vat, Nat.pow_succ]
    split
    · have : 0 < 16 ^ i := Nat.pow_pos (by decide)
      omega
    · omega
theorem vat_fit {t : ByteArray} (h : ∀ j, j < t.size → byt t j = 45 ∨ (48 ≤ byt t j ∧ byt t j ≤ 57)) {i : Nat} (hi : i ≤ t.size) {K : Nat} (hK : 4 * i ≤ K) : Fit (vat t i : Nat) K := by
  unfold Fit
  rw [Int.natAbs_natCast]
  have h1 := vat_lt t h i hi
  have e : (16 : Nat) ^ i = 2 ^ (4 * i) := by rw [Nat.pow_mul]
  rw [e] at h1
  exact Nat.lt_of_lt_of_le h1 (Nat.pow_le_pow_right (by decide) hK)
theorem pre_head (s : ByteArray) : Lib.hasPrefix s.data.toList [45] = (decide (0 < s.size) && decide (byt s 0 = 45)) := by
  have e : s.data.toList.length = s.size := Array.length_toList
  rw [byt_list, ← e]
  generalize s.data.toList = l
  cases l with
  | nil => rfl
  | cons x l =>
    show ((45 : UInt8) == x && _) = _
    have h1 : ([] : List UInt8).isPrefixOf l = true := by cases l <;> rfl
    rw [h1, Bool.and_true]
    by_cases hx : x = 45
    · subst hx; rfl
    · have h2 : ((45 : UInt8) == x) = false := beq_eq_false_iff_ne.2 fun h => hx h.symm
      have h3 : ¬((x :: l).getD 0 0).toNat = 45 := fun h => hx (UInt8.toNat.inj (by exact h))
      rw [h2, decide_eq_false h3, Bool.and_false]
theorem neg1_is (s : ByteArray) : neg1 s = (decide (0 < s.size) && decide (byt s 0 = 45)) := pre_head s
theorem frm_is (s : ByteArray) : frm s = if 0 < s.size ∧ byt s 0 = 45 then 1 else 0 := by
  unfold frm
  rw [pre_head]
  by_cases h1 : 0 < s.size <;> by_cases h2 : byt s 0 = 45 <;> simp [h1, h2]
theorem vat_nv {t : ByteArray} (h : ∀ j, frm t ≤ j → j < t.size → 48 ≤ byt t j ∧ byt t j ≤ 57) : ∀ k, frm t + k ≤ t.size → vat t (frm t + k) = nv (bdy t) k
  | 0, h0 => by
    rw [nv, Nat.add_zero]
    have := frm_is t
    by_cases hc : 0 < t.size ∧ byt t 0 = 45
    · rw [if_pos hc] at this
      rw [this, vat, if_pos hc.2]; rfl
    · rw [if_neg hc] at this
      rw [this]; rfl
  | k + 1, h0 => by
    have h1 := h (frm t + k) (by omega) (by omega)
    rw [← Nat.add_assoc, vat, if_neg (by omega), vat_nv h k (by omega), nv, byt_bdy]
theorem vat_zs {t : ByteArray} (h : ∀ j, frm t ≤ j → j < t.size → 48 ≤ byt t j ∧ byt t j ≤ 57) : sgn (neg1 t) (vat t t.size) = zs t := by
  have e := bdy_size t
  unfold zs
  rw [← vat_nv h (bdy t).size (by omega), e]
theorem all_ok {t : ByteArray} (h : ∀ j, frm t ≤ j → j < t.size → 48 ≤ byt t j ∧ byt t j ≤ 57) : ∀ j, j < t.size → byt t j = 45 ∨ (48 ≤ byt t j ∧ byt t j ≤ 57) := by
  intro j hj
  by_cases hf : frm t ≤ j
  · exact .inr (h j hf hj)
  · have := frm_is t
    by_cases hc : 0 < t.size ∧ byt t 0 = 45
    · rw [if_pos hc] at this
      have hj0 : j = 0 := by omega
      subst hj0; exact .inl hc.2
    · rw [if_neg hc] at this; omega
/-- a text from a place on. -/
theorem cut_size {t : ByteArray} {f : Nat} (hf : f ≤ t.size) : (t.extract f t.size).size = t.size - f := by
  rw [ByteArray.size_extract, Nat.min_self]
theorem cut_byt {t : ByteArray} {f : Nat} (hf : f ≤ t.size) {j : Nat} (hj : f + j < t.size) : byt (t.extract f t.size) j = byt t (f + j) := by
  unfold byt
  rw [ByteArray.data_extract]
  have h1 : f + j < t.data.size := hj
  have h2 : j < (t.data.extract f t.size).size := by
    rw [Array.size_extract]
    show j < min t.size t.data.size - f
    have : t.data.size = t.size := rfl
    omega
  rw [Array.getD_eq_getD_getElem?, Array.getD_eq_getD_getElem?, Array.getElem?_eq_getElem h2, Array.getElem?_eq_getElem h1, Array.getElem_extract]
structure Cut (t : ByteArray) (f d : Nat) : Prop where
  le : f + d ≤ t.size
  lt : ∀ j, f ≤ j → j < f + d → 48 ≤ byt t j ∧ byt t j ≤ 57
  at' : f + d < t.size → ¬(48 ≤ byt t (f + d) ∧ byt t (f + d) ≤ 57)
theorem dgb_iff {t : ByteArray} {j : Nat} : dgb t j = true ↔ 48 ≤ byt t j ∧ byt t j ≤ 57 := by
  unfold dgb
  rw [Bool.and_eq_true, decide_eq_true_iff, decide_eq_true_iff]
theorem cut_is {t : ByteArray} {f : Nat} (hf : f ≤ t.size) : Cut t f (dgn (t.extract f t.size)) := by
  have hs := cut_size hf
  have hle := dgn_le (t.extract f t.size)
  refine ⟨by omega, fun j h1 h2 => ?_, fun h1 h2 => ?_⟩
  · have := dgb_iff.1 (dgn_lt (t := t.extract f t.size) (j := j - f) (by omega))
    rw [cut_byt hf (by omega), show f + (j - f) = j by omega] at this
    exact this
  · have h3 := dgn_at (t := t.extract f t.size) (by omega)
    have h4 := dgb_iff (t := t.extract f t.size) (j := dgn (t.extract f t.size))
    rw [cut_byt hf h1, h3] at h4
    exact absurd (h4.2 h2) (by decide)
theorem stb_in {t : ByteArray} {f d : Nat} (h : Cut t f d) {j : Nat} (h1 : f ≤ j) (h2 : j < f + d) (h4 : j < f + 400) (h5 : byt t f = 48 → f = 0 ∧ j = f) : stb t f j = true := by
  have hd := h.lt j h1 h2
  unfold stb
  rw [if_neg (by omega), if_neg (by omega)]
  split
  · rename_i hj
    subst hj
    by_cases h6 : byt t j = 48
    · rw [decide_eq_true (h5 h6).1, Bool.or_true]
    · rw [decide_eq_true h6, Bool.true_or]
  · rename_i hj
    exact decide_eq_true fun h6 => hj (h5 h6).2
theorem stb_out {t : ByteArray} {f j : Nat} (h : ¬(48 ≤ byt t j ∧ byt t j ≤ 57) ∨ f + 400 ≤ j ∨ (byt t f = 48 ∧ (f ≠ 0 ∨ j ≠ f))) : stb t f j = false := by
  unfold stb
  split
  · rfl
  · split
    · rfl
    · rcases h with h | h | ⟨h, h2⟩
      · omega
      · omega
      · split
        · rename_i hj
          subst hj
          have h3 : j ≠ 0 := by rcases h2 with h2 | h2; exact h2; exact absurd rfl h2
          rw [decide_eq_false (by simpa using h), decide_eq_false h3]; rfl
        · exact decide_eq_false (by simpa using h)
/-- where a text stops being a number: as the document finds it. -/
theorem fau_doc {t : ByteArray} {f d : Nat} (hf : frm t = f) (hf1 : f ≤ t.size) (h : Cut t f d) :
    (d = 0 → f = t.size → fau t = (t.size, 15)) ∧ (d = 0 → f ≠ t.size → fau t = (f, 14)) ∧
    (d ≠ 0 → byt t f = 48 → f = 1 → fau t = (f, 14)) ∧ (d ≠ 0 → byt t f = 48 → f ≠ 1 → 1 < d → fau t = (f + 1, 14)) ∧
    (d ≠ 0 → ¬(byt t f = 48 ∧ f = 1) → ¬(byt t f = 48 ∧ 1 < d) → 400 < d → fau t = (f + 400, 14)) ∧
    (d ≠ 0 → ¬(byt t f = 48 ∧ f = 1) → ¬(byt t f = 48 ∧ 1 < d) → d ≤ 400 → f + d < t.size → fau t = (f + d, 14)) ∧
    (d ≠ 0 → ¬(byt t f = 48 ∧ f = 1) → ¬(byt t f = 48 ∧ 1 < d) → d ≤ 400 → ¬f + d < t.size → fau t = (t.size, 0)) := by
  have hle := h.le
  have h01 : f = 0 ∨ f = 1 := by rw [frm_is] at hf; split at hf <;> omega
  refine ⟨fun h1 h2 => fau_is (.inr ⟨fun j a b => by omega, rfl, by rw [hf, if_pos h2]⟩), fun h1 h2 => fau_is (.inl ⟨by omega, by omega, fun j a b => by omega, ?_, rfl⟩), fun h1 h2 h3 => fau_is (.inl ⟨by omega, by omega, fun j a b => by omega, ?_, rfl⟩),
    fun h1 h2 h3 h4 => fau_is (.inl ⟨by omega, by omega, fun j a b => ?_, ?_, rfl⟩), fun h1 h2 h3 h4 => fau_is (.inl ⟨by omega, by omega, fun j a b => ?_, ?_, rfl⟩), fun h1 h2 h3 h4 h5 => fau_is (.inl ⟨by omega, by omega, fun j a b => ?_, ?_, rfl⟩), fun h1 h2 h3 h4 h5 => fau_is (.inr ⟨fun j a b => ?_, rfl, by rw [hf, if_neg (by omega)]⟩)⟩
  · rw [hf]
    have := h.at' (by omega)
    rw [h1, Nat.add_zero] at this
    exact stb_out (.inl this)
  · rw [hf]; exact stb_out (.inr (.inr ⟨h2, .inl (by omega)⟩))
  · rw [hf] at a ⊢; exact stb_in h (by omega) (by omega) (by omega) fun _ => ⟨by omega, by omega⟩
  · rw [hf]; exact stb_out (.inr (.inr ⟨h2, .inr (by omega)⟩))
  · rw [hf] at a ⊢; exact stb_in h (by omega) (by omega) (by omega) fun _ => ⟨by omega, by omega⟩
  · rw [hf]; exact stb_out (.inr (.inl (by omega)))
  · rw [hf] at a ⊢; exact stb_in h (by omega) (by omega) (by omega) fun _ => ⟨by omega, by omega⟩
  · rw [hf]; exact stb_out (.inl (h.at' h5))
  · rw [hf] at a ⊢; exact stb_in h (by omega) (by omega) (by omega) fun _ => ⟨by omega, by omega⟩
theorem ten_dig {x : Nat} (h : 48 ≤ x ∧ x ≤ 57) : x = 48 ∨ x = 49 ∨ x = 50 ∨ x = 51 ∨ x = 52 ∨ x = 53 ∨ x = 54 ∨ x = 55 ∨ x = 56 ∨ x = 57 := by omega
theorem dig_wrap {x : Nat} (h : 48 ≤ x ∧ x ≤ 57) : IntKind.u32.wrap (IntKind.u8.wrap ((x : Int) - 48)) = ((x - 48 : Nat) : Int) := by
  rcases ten_dig h with rfl | rfl | rfl | rfl | rfl | rfl | rfl | rfl | rfl | rfl <;> rfl
theorem dig_val {x : Nat} (h : 48 ≤ x ∧ x ≤ 57) : (vL [D.int IntKind.u32 (IntKind.u32.wrap (IntKind.u8.wrap ((x : Int) - 48)))]).toNat = x - 48 := by
  rcases ten_dig h with rfl | rfl | rfl | rfl | rfl | rfl | rfl | rfl | rfl | rfl <;> rfl
theorem okC_dig {d : Nat} (h : d < 100) : okC 1 [D.int IntKind.u32 (d : Nat)] := by
  refine ⟨rfl, rfl, fun x => ?_, by decide⟩
  match x with
  | 0 => show d < Bs; rw [Bs_eq]; omega
  | x + 1 => show dig [] x < Bs; rw [dig_nil]; decide
theorem vat_step {t : ByteArray} {i : Nat} (h : 48 ≤ byt t i ∧ byt t i ≤ 57) : vat t (i + 1) = vat t i * (vL [D.int IntKind.u32 10]).toNat + (vL [D.int IntKind.u32 (IntKind.u32.wrap (IntKind.u8.wrap ((byt t i : Int) - 48)))]).toNat := by
  rw [dig_val h, vat, if_neg (by omega)]; rfl
theorem dig_of {t : ByteArray} (hb : ∀ j, j < t.size → byt t j = 45 ∨ (48 ≤ byt t j ∧ byt t j ≤ 57)) {i : Nat} (hi : i < t.size) (h : (!((byt t i : Nat) : Int) == 45) = true) : 48 ≤ byt t i ∧ byt t i ≤ 57 := by
  rcases hb i hi with h1 | h1
  · rw [h1] at h; exact absurd h (by decide)
  · exact h1
theorem sign_of {t : ByteArray} {i : Nat} (h : (!((byt t i : Nat) : Int) == 45) = false) : byt t i = 45 := by
  rw [Bool.not_eq_false', beq_iff_eq] at h
  omega
theorem fit_4100 {t : ByteArray} (hb : ∀ j, j < t.size → byt t j = 45 ∨ (48 ≤ byt t j ∧ byt t j ≤ 57)) {i : Nat} (hi : i ≤ t.size) (ht : t.size ≤ 1000) {K : Nat} (hK : K = 4004) : Fit ((vat t i * (vL [D.int IntKind.u32 10]).toNat : Nat) : Int) K := by
  unfold Fit
  rw [Int.natAbs_natCast, show (vL [D.int IntKind.u32 10]).toNat = 10 from rfl]
  have h1 := vat_lt t hb i hi
  have e : (16 : Nat) ^ (i + 1) = 2 ^ (4 * (i + 1)) := by rw [Nat.pow_mul]
  rw [Nat.pow_succ] at e
  have h2 : vat t i * 10 < 16 ^ i * 16 := by omega
  rw [e] at h2
  exact Nat.lt_of_lt_of_le h2 (Nat.pow_le_pow_right (by decide) (by omega))
theorem vat_in {t : ByteArray} (hb : ∀ j, j < t.size → byt t j = 45 ∨ (48 ≤ byt t j ∧ byt t j ≤ 57)) {i : Nat} (hi : i ≤ t.size) (ht : t.size ≤ 1000) :
    okC (N0.ln (vat t i : Nat)) (N0.lm (vat t i : Nat)) ∧ okC (N0.ln ((vat t i * (vL [D.int IntKind.u32 10]).toNat : Nat) : Int)) (N0.lm ((vat t i * (vL [D.int IntKind.u32 10]).toNat : Nat) : Int)) ∧ True := by
  obtain ⟨K, hK⟩ : ∃ K : Nat, K = 4004 := ⟨_, rfl⟩
  exact ⟨okC_512 (vat_fit hb hi (K := K) (by omega)) (by omega), okC_512 (fit_4100 hb hi ht hK) (by omega), trivial⟩
theorem neg_of {t : ByteArray} (h : 0 < t.size) : neg1 t = (((t.data.toList.getD (Int.toNat 0) 0).toNat : Int) == 45) := by
  rw [neg1_is, decide_eq_true h, Bool.true_and, byt_list]
  show decide ((t.data.toList.getD 0 0).toNat = 45) = (((t.data.toList.getD 0 0).toNat : Int) == 45)
  rw [Bool.eq_iff_iff, decide_eq_true_iff, beq_iff_eq]
  omega
theorem neg_no {t : ByteArray} (h : ¬0 < t.size) : neg1 t = false := by
  rw [neg1_is, decide_eq_false h, Bool.false_and]
theorem N0_zero : D.sl (N0.ln ((0 : Nat) : Int)) (N0.lm ((0 : Nat) : Int)) = D.sl 0 [] := by
  show D.sl (ln 0) (u32s (lim 0)) = D.sl 0 []
  rw [ln_zero, lim_zero]; rfl
def s_rValue : FnSpec := ⟨.agg [.I], fun ds => match ds with | [.str t] => t.size ≤ 1000 ∧ ∀ j, j < t.size → byt t j = 45 ∨ (48 ≤ byt t j ∧ byt t j ≤ 57) | _ => False, fun ds _ => match ds with | [.str t] => sgn (neg1 t) (vat t t.size) | _ => 0, fun _ _ => false, fun _ _ => 0, fun _ _ => []⟩
theorem rvalue_arg {ds : List D} (h : s_rValue.p ds) : ∃ t, ds = [.str t] ∧ t.size ≤ 1000 ∧ ∀ j, j < t.size → byt t j = 45 ∨ (48 ≤ byt t j ∧ byt t j ≤ 57) := by
  match ds, h with
  | [.str t], h => exact ⟨t, rfl, h⟩
def s_rParse : FnSpec := ⟨.tup [(true, [.I]), (false, [.i .i64]), (false, [.i .i64])], fun ds => match ds with | [.str t] => t.size ≤ 1000 | _ => False, fun ds i => match ds with | [.str t] => (match i with | 0 => (if (fau t).2 = 0 then zs t else 0) | 1 => ((fau t).1 : Int) | _ => (fau t).2) | _ => 0, fun _ _ => false, fun _ _ => 0, fun _ _ => []⟩
theorem rparse_arg {ds : List D} (h : s_rParse.p ds) : ∃ t, ds = [.str t] ∧ t.size ≤ 1000 := by
  match ds, h with
  | [.str t], h => exact ⟨t, rfl, h⟩
theorem par_no {Q : Post} {t : ByteArray} {p : Nat} {e : Int} (h : fau t = (p, e)) (he : e ≠ 0) (hQ : Q.R (D.tup [D.agg [D.bool (N0.neg (if (fau t).2 = 0 then zs t else 0)), D.sl (N0.ln (if (fau t).2 = 0 then zs t else 0)) (N0.lm (if (fau t).2 = 0 then zs t else 0))], D.int .i64 ((fau t).1 : Nat), D.int .i64 (fau t).2])) {z : Int} (hz : z = p) :
    Q.R (D.tup [D.agg [D.bool false, D.sl 0 []], D.int .i64 z, D.int .i64 e]) := by
  rw [h] at hQ
  dsimp only at hQ
  rw [if_neg he] at hQ
  rw [hz, ← N0_zero]
  exact hQ
theorem par_yes {Q : Post} {t : ByteArray} (h : fau t = (t.size, 0)) (hv : sgn (neg1 t) (vat t t.size) = zs t) (hQ : Q.R (D.tup [D.agg [D.bool (N0.neg (if (fau t).2 = 0 then zs t else 0)), D.sl (N0.ln (if (fau t).2 = 0 then zs t else 0)) (N0.lm (if (fau t).2 = 0 then zs t else 0))], D.int .i64 ((fau t).1 : Nat), D.int .i64 (fau t).2])) :
    Q.R (D.tup [D.agg [D.bool (N0.neg (sgn (neg1 t) (vat t t.size))), D.sl (N0.ln (sgn (neg1 t) (vat t t.size))) (N0.lm (sgn (neg1 t) (vat t t.size)))], D.int .i64 (t.size : Nat), D.int .i64 0]) := by
  rw [h] at hQ
  dsimp only at hQ
  rw [if_pos rfl] at hQ
  rw [hv]
  exact hQ
theorem frm_1 {t : ByteArray} (h : 0 < t.size) (h2 : byt t 0 = 45) : frm t = 1 := by rw [frm_is, if_pos ⟨h, h2⟩]
theorem frm_0 {t : ByteArray} (h : ¬(0 < t.size ∧ byt t 0 = 45)) : frm t = 0 := by rw [frm_is, if_neg h]
theorem frm_three (t : ByteArray) : (frm t = 1 ∧ 0 < t.size ∧ byt t 0 = 45) ∨ (frm t = 0 ∧ 0 < t.size ∧ byt t 0 ≠ 45) ∨ (frm t = 0 ∧ t.size = 0) := by
  by_cases h : 0 < t.size
  · by_cases h2 : byt t 0 = 45
    · exact .inl ⟨frm_1 h h2, h, h2⟩
    · exact .inr (.inl ⟨frm_0 (fun k => h2 k.2), h, h2⟩)
  · exact .inr (.inr ⟨frm_0 (fun k => h k.1), by omega⟩)
theorem doc_seven {t : ByteArray} {f d : Nat} (hf : frm t = f) (hf1 : f ≤ t.size) (h : Cut t f d) :
    (d = 0 ∧ f = t.size ∧ fau t = (t.size, 15)) ∨ (d = 0 ∧ f ≠ t.size ∧ fau t = (f, 14)) ∨
    (d ≠ 0 ∧ byt t f = 48 ∧ f = 1 ∧ fau t = (f, 14)) ∨ (d ≠ 0 ∧ byt t f = 48 ∧ f ≠ 1 ∧ 1 < d ∧ fau t = (f + 1, 14)) ∨
    (d ≠ 0 ∧ (byt t f = 48 → f ≠ 1 ∧ d = 1) ∧ 400 < d ∧ fau t = (f + 400, 14)) ∨
    (d ≠ 0 ∧ (byt t f = 48 → f ≠ 1 ∧ d = 1) ∧ d ≤ 400 ∧ f + d < t.size ∧ fau t = (f + d, 14)) ∨
    (d ≠ 0 ∧ (byt t f = 48 → f ≠ 1 ∧ d = 1) ∧ d ≤ 400 ∧ f + d = t.size ∧ fau t = (t.size, 0)) := by
  obtain ⟨k1, k2, k3, k4, k5, k6, k7⟩ := fau_doc hf hf1 h
  have hle := h.le
  by_cases a1 : d = 0
  · by_cases a2 : f = t.size
    · exact .inl ⟨a1, a2, k1 a1 a2⟩
    · exact .inr (.inl ⟨a1, a2, k2 a1 a2⟩)
  · by_cases a2 : byt t f = 48 ∧ f = 1
    · exact .inr (.inr (.inl ⟨a1, a2.1, a2.2, k3 a1 a2.1 a2.2⟩))
    · by_cases a3 : byt t f = 48 ∧ 1 < d
      · have a4 : f ≠ 1 := fun k => a2 ⟨a3.1, k⟩
        exact .inr (.inr (.inr (.inl ⟨a1, a3.1, a4, a3.2, k4 a1 a3.1 a4 a3.2⟩)))
      · have a4 : byt t f = 48 → f ≠ 1 ∧ d = 1 := fun k => ⟨fun k2 => a2 ⟨k, k2⟩, by
          have := fun k2 => a3 ⟨k, k2⟩
          omega⟩
        by_cases a5 : 400 < d
        · exact .inr (.inr (.inr (.inr (.inl ⟨a1, a4, a5, k5 a1 a2 a3 a5⟩))))
        · by_cases a6 : f + d < t.size
          · exact .inr (.inr (.inr (.inr (.inr (.inl ⟨a1, a4, by omega, a6, k6 a1 a2 a3 (by omega) a6⟩)))))
          · exact .inr (.inr (.inr (.inr (.inr (.inr ⟨a1, a4, by omega, by omega, k7 a1 a2 a3 (by omega) a6⟩)))))
theorem cut_all {t : ByteArray} {f d : Nat} (hf : frm t = f) (h : Cut t f d) (he : f + d = t.size) :
    (∀ j, j < t.size → byt t j = 45 ∨ (48 ≤ byt t j ∧ byt t j ≤ 57)) ∧ sgn (neg1 t) (vat t t.size) = zs t := by
  have h1 : ∀ j, frm t ≤ j → j < t.size → 48 ≤ byt t j ∧ byt t j ≤ 57 := fun j a b => h.lt j (by omega) (by omega)
  exact ⟨all_ok h1, vat_zs h1⟩
set_option maxRecDepth 100000 in
set_option maxHeartbeats 2000000 in
theorem good_rValue : Good Tryd.prog (GD [0]) N0 18 s_rValue := by
  refine goodD (l := [0]) (tab := [(34, s_rMul), (33, s_rAdd), (22, s_rNorm)]) (shs := [(34, .one .L), (33, .one .L), (22, .agg [.I])]) rfl ⟨good_rMul, good_rAdd, good_rNorm, trivial⟩ Tryd.f18 (by kernel_rfl) (by kernel_rfl) (by kernel_rfl) (fun ds hp F A Q hF hA hQ => ⟨0, ?_⟩)
  obtain ⟨t, rfl, ht, hb⟩ := rvalue_arg hp
  clear hp
  obtain ⟨M, hM⟩ : ∃ M : Nat → Int, ∀ i : Nat, M i = (vat t i : Nat) := ⟨_, fun _ => rfl⟩
  obtain ⟨J, hJ⟩ : ∃ J : Nat → Int, ∀ i : Nat, J i = (i : Int) := ⟨_, fun _ => rfl⟩
  obtain ⟨K, hK⟩ : ∃ K, K = t.size := ⟨_, rfl⟩
  cbv
  refine loop_by (fun i st => (st.setT 3 (.sl (F.ln (M i)) (F.lm (M i)))).setT 4 (.int .i64 (J i))) (K) ?_ (fun i hi => ?_)
  all_goals try cbv
  repeat' (first | with_reducible refine And.intro ?_ ?_ | (with_reducible refine safe_lift hA ?_; kernel_rfl) | (intro hc_; cbv))
  all_goals (repeat (rw [safe_true hA, true_and]; rotate_left; kernel_rfl))
  all_goals subst hF hA
  all_goals simp only [fnOf, find, std, reduceIte, Nat.reduceEqDiff, sp1, sp2, a1, a2, FnSpec.out, Shape.build, leafs, leafCells, tups, oneOf, List.cons_append, List.nil_append, List.length_cons, List.length_nil, strOf, s_rValue, s_rMul, s_rAdd, s_rNorm, dm_raw, dm_N0, dz, dl, dx, dcn, vL_N0n, vI_N0, Int.natAbs_natCast, decide_eq_true_eq, decide_eq_false_iff_not] at *
  case refine_1.refine_1.refine_1 => rw [hM]; exact N0_zero
  case refine_1.refine_1.refine_2.refine_1 => rw [hJ]; rfl
  all_goals
    have hJi := hJ i
    have hJn : (J i).toNat = i := by rw [hJ]; exact Int.toNat_natCast i
    have hJ0 : 0 ≤ J i := by rw [hJ]; exact Int.natCast_nonneg i
    have hJt : J i < (t.size : Int) ↔ i < t.size := by rw [hJ]; exact Int.ofNat_lt
    have hJ1 : i < t.size → IntKind.i64.wrap (J i + 1) = J (i + 1) := fun h => by rw [hJ, hJ, IntWalk.i64_in _ (by omega)]; rfl
    have hMn : (M i).natAbs = vat t i := by rw [hM]; exact Int.natAbs_natCast _
    have hv := vat_in hb (show i ≤ t.size by omega) ht
  case refine_2.refine_1.refine_1 => exact ⟨hJ0, hc_⟩
  case refine_2.refine_1.refine_2.refine_1.refine_2.refine_1 => exact ⟨by rw [hM]; exact hv.1, okC_ten⟩
  case refine_2.refine_1.refine_2.refine_1.refine_2.refine_2.refine_1 => exact ⟨hJ0, hc_⟩
  case refine_2.refine_1.refine_2.refine_1.refine_2.refine_2.refine_2.refine_1 =>
    rename_i hc2_
    rw [hJn, ← byt_list] at hc2_ ⊢
    have hx := dig_of hb (hJt.1 hc_) hc2_
    rw [hMn, dig_wrap hx]
    exact ⟨hv.2.1, okC_dig (by omega)⟩
  case refine_2.refine_1.refine_2.refine_1.refine_2.refine_2.refine_2.refine_2.refine_1 => exact (by rw [hK]; exact hJt.1 hc_ : i < K)
  case refine_2.refine_1.refine_2.refine_1.refine_2.refine_2.refine_2.refine_2.refine_2.refine_1.refine_1 =>
    rename_i hc2_
    rw [hJn, ← byt_list] at hc2_ ⊢
    have hx := dig_of hb (hJt.1 hc_) hc2_
    refine N0_sl ?_
    rw [hM, Int.natAbs_natCast, Int.natAbs_natCast, hMn]
    exact vat_step hx
  case refine_2.refine_1.refine_2.refine_1.refine_2.refine_2.refine_2.refine_2.refine_2.refine_1.refine_2.refine_1 => rw [hJ1 (hJt.1 hc_)]
  case refine_2.refine_1.refine_2.refine_2.refine_1 => exact (by rw [hK]; exact hJt.1 hc_ : i < K)
  case refine_2.refine_1.refine_2.refine_2.refine_2.refine_1.refine_1 =>
    rename_i hc2_
    rw [hJn, ← byt_list] at hc2_
    refine N0_sl ?_
    rw [hM, Int.natAbs_natCast, hMn, vat, if_pos (sign_of hc2_)]
  case refine_2.refine_1.refine_2.refine_2.refine_2.refine_1.refine_2.refine_1 => rw [hJ1 (hJt.1 hc_)]
  all_goals
    have hiK : i = t.size := by
      have h9 : ¬i < t.size := fun h => absurd (hJt.2 h) (by assumption)
      omega
    have oM : okC (N0.ln (M i)) (N0.lm (M i)) := by rw [hM]; exact hv.1
  case refine_2.refine_2.refine_1.refine_1 => exact ⟨by decide, hc_⟩
  case refine_2.refine_2.refine_1.refine_2.refine_1 => exact oM
  case refine_2.refine_2.refine_1.refine_2.refine_2 =>
    rename_i hc2_
    rw [vI_mk, hMn, hiK, ← neg_of (by omega)]; exact hQ
  case refine_2.refine_2.refine_2.refine_1 => exact oM
  case refine_2.refine_2.refine_2.refine_2 =>
    rename_i hc2_
    rw [vI_mk, hMn, hiK, ← neg_no (by simpa using hc2_)]; exact hQ
set_option maxRecDepth 100000 in
set_option maxHeartbeats 16000000 in
theorem good_rParse : Good Tryd.prog (GD [0]) N0 7 s_rParse := by
  refine goodD (l := [0]) (tab := [(17, s_rDigits), (18, s_rValue)]) (shs := [(17, .one (.i .i64)), (18, .agg [.I])]) rfl ⟨(good_rDigits.toD (l := [0]) (by decide)), good_rValue, trivial⟩ Tryd.f7 (by kernel_rfl) (by kernel_rfl) (by kernel_rfl) (fun ds hp F A Q hF hA hQ => ⟨0, ?_⟩)
  obtain ⟨t, rfl, ht⟩ := rparse_arg hp
  clear hp
  rcases frm_three t with ⟨hf, hs, hb⟩ | ⟨hf, hs, hb⟩ | ⟨hf, hs⟩
  · have e0 : byt t 0 = (t.data.toList.getD (Int.toNat 0) 0).toNat := byt_list t 0
    have e1 : byt t 1 = (t.data.toList.getD (Int.toNat 1) 0).toNat := byt_list t 1
    obtain ⟨d, hd⟩ : ∃ d, dgn (t.extract (Int.toNat 1) ((t.size : Nat) : Int).toNat) = d := ⟨_, rfl⟩
    have hC : Cut t 1 d := by rw [← hd]; exact cut_is (t := t) (f := 1) (by omega)
    have hle := hC.le
    have hcz : (t.extract (Int.toNat 1) ((t.size : Nat) : Int).toNat).size = t.size - 1 := cut_size (t := t) (f := 1) (by omega)
    have hm : t.size ≤ maxLen := Nat.le_trans ht (by decide)
    have hm2 : t.size - 1 ≤ maxLen := by omega
    have w1 : IntKind.i64.wrap (1 + (d : Int)) = ((1 + d : Nat) : Int) := by rw [IntWalk.i64_in _ (by omega)]; omega
    have w2 : IntKind.i64.wrap (1 + 1) = 2 := rfl
    have w3 : IntKind.i64.wrap (1 + 400) = 401 := rfl
    have s0 : ((0 : Int) < ((t.size : Nat) : Int)) = True := eq_true (by omega)
    have b0 : ((((t.data.toList.getD (Int.toNat 0) 0).toNat : Int) : Int) == 45) = true := beq_iff_eq.2 (by omega)
    rcases doc_seven hf (by omega) hC with ⟨k1, k2, hfau⟩ | ⟨k1, k2, hfau⟩ | ⟨k1, k2, k3, hfau⟩ | ⟨k1, k2, k3, k4, hfau⟩ | ⟨k1, k2, k3, hfau⟩ | ⟨k1, k2, k3, k4, hfau⟩ | ⟨k1, k2, k3, k4, hfau⟩
    · have d0 : (((d : Nat) : Int) == 0) = true := beq_iff_eq.2 (by omega)
      have fs : ((1 : Int) == ((t.size : Nat) : Int)) = true := beq_iff_eq.2 (by omega)
      cbv
      repeat' (first | with_reducible refine And.intro ?_ ?_ | (with_reducible refine safe_lift hA ?_; kernel_rfl) | (intro hc_; (first | (with_reducible exfalso; clear hQ; subst hF hA; (simp only [fnOf, find, std, reduceIte, Nat.reduceEqDiff, sp1, sp2, a1, a2, FnSpec.out, Shape.build, leafs, leafCells, tups, oneOf, List.cons_append, List.nil_append, List.length_cons, List.length_nil, strOf, s_rParse, s_rDigits, s_rValue, dm_raw, dm_N0, dz, dcn, vI_N0, sameI_N0, eq_self, Bool.not_eq_eq_eq_not, decide_eq_true_eq, decide_eq_false_iff_not, not_true_eq_false, not_false_eq_true, decide_true, decide_false, Bool.true_and, Bool.and_true, Bool.not_true, Bool.not_false, beq_self_eq_true, Bool.true_eq_false, Bool.false_eq_true, reduceCtorEq, gt_iff_lt, ge_iff_le, true_and, and_true, and_self, Bool.and_self, Int.reduceNeg, Int.reduceEq, Int.reduceLT, Int.reduceLE, Int.reduceBEq, vI_N0, hd, hcz, w1, w2, w3, s0, b0, d0, fs] at hc_; done)) | (clear hc_; cbv))))
      all_goals subst hF hA
      all_goals (try simp only [fnOf, find, std, reduceIte, Nat.reduceEqDiff, sp1, sp2, a1, a2, FnSpec.out, Shape.build, leafs, leafCells, tups, oneOf, List.cons_append, List.nil_append, List.length_cons, List.length_nil, strOf, s_rParse, s_rDigits, s_rValue, dm_raw, dm_N0, dz, dcn, vI_N0, sameI_N0, eq_self, Bool.not_eq_eq_eq_not, decide_eq_true_eq, decide_eq_false_iff_not, not_true_eq_false, not_false_eq_true, decide_true, decide_false, Bool.true_and, Bool.and_true, Bool.not_true, Bool.not_false, beq_self_eq_true, Bool.true_eq_false, Bool.false_eq_true, reduceCtorEq, gt_iff_lt, ge_iff_le, true_and, and_true, and_self, Bool.and_self, Int.reduceNeg, Int.reduceEq, Int.reduceLT, Int.reduceLE, Int.reduceBEq, vI_N0, hd, hcz, w1, w2, w3, s0, b0, d0, fs] at hQ ⊢)
      all_goals (first | exact hm2 | with_reducible assumption | exact par_no hfau (by decide) hQ rfl | exact par_no hfau (by decide) hQ (by omega) | (refine ⟨?_, ?_⟩ <;> omega) | (refine ⟨?_, ?_, ?_⟩ <;> omega) | omega)
    · have d0 : (((d : Nat) : Int) == 0) = true := beq_iff_eq.2 (by omega)
      have fs : ((1 : Int) == ((t.size : Nat) : Int)) = false := beq_eq_false_iff_ne.2 (by omega)
      cbv
      repeat' (first | with_reducible refine And.intro ?_ ?_ | (with_reducible refine safe_lift hA ?_; kernel_rfl) | (intro hc_; (first | (with_reducible exfalso; clear hQ; subst hF hA; (simp only [fnOf, find, std, reduceIte, Nat.reduceEqDiff, sp1, sp2, a1, a2, FnSpec.out, Shape.build, leafs, leafCells, tups, oneOf, List.cons_append, List.nil_append, List.length_cons, List.length_nil, strOf, s_rParse, s_rDigits, s_rValue, dm_raw, dm_N0, dz, dcn, vI_N0, sameI_N0, eq_self, Bool.not_eq_eq_eq_not, decide_eq_true_eq, decide_eq_false_iff_not, not_true_eq_false, not_false_eq_true, decide_true, decide_false, Bool.true_and, Bool.and_true, Bool.not_true, Bool.not_false, beq_self_eq_true, Bool.true_eq_false, Bool.false_eq_true, reduceCtorEq, gt_iff_lt, ge_iff_le, true_and, and_true, and_self, Bool.and_self, Int.reduceNeg, Int.reduceEq, Int.reduceLT, Int.reduceLE, Int.reduceBEq, vI_N0, hd, hcz, w1, w2, w3, s0, b0, d0, fs] at hc_; done)) | (clear hc_; cbv))))
      all_goals subst hF hA
      all_goals (try simp only [fnOf, find, std, reduceIte, Nat.reduceEqDiff, sp1, sp2, a1, a2, FnSpec.out, Shape.build, leafs, leafCells, tups, oneOf, List.cons_append, List.nil_append, List.length_cons, List.length_nil, strOf, s_rParse, s_rDigits, s_rValue, dm_raw, dm_N0, dz, dcn, vI_N0, sameI_N0, eq_self, Bool.not_eq_eq_eq_not, decide_eq_true_eq, decide_eq_false_iff_not, not_true_eq_false, not_false_eq_true, decide_true, decide_false, Bool.true_and, Bool.and_true, Bool.not_true, Bool.not_false, beq_self_eq_true, Bool.true_eq_false, Bool.false_eq_true, reduceCtorEq, gt_iff_lt, ge_iff_le, true_and, and_true, and_self, Bool.and_self, Int.reduceNeg, Int.reduceEq, Int.reduceLT, Int.reduceLE, Int.reduceBEq, vI_N0, hd, hcz, w1, w2, w3, s0, b0, d0, fs] at hQ ⊢)
      all_goals (first | exact hm2 | with_reducible assumption | exact par_no hfau (by decide) hQ rfl | exact par_no hfau (by decide) hQ (by omega) | (refine ⟨?_, ?_⟩ <;> omega) | (refine ⟨?_, ?_, ?_⟩ <;> omega) | omega)
    · have d0 : (((d : Nat) : Int) == 0) = false := beq_eq_false_iff_ne.2 (by omega)
      have b1 : ((((t.data.toList.getD (Int.toNat 1) 0).toNat : Int) : Int) == 48) = true := beq_iff_eq.2 (by omega)
      cbv
      repeat' (first | with_reducible refine And.intro ?_ ?_ | (with_reducible refine safe_lift hA ?_; kernel_rfl) | (intro hc_; (first | (with_reducible exfalso; clear hQ; subst hF hA; (simp only [fnOf, find, std, reduceIte, Nat.reduceEqDiff, sp1, sp2, a1, a2, FnSpec.out, Shape.build, leafs, leafCells, tups, oneOf, List.cons_append, List.nil_append, List.length_cons, List.length_nil, strOf, s_rParse, s_rDigits, s_rValue, dm_raw, dm_N0, dz, dcn, vI_N0, sameI_N0, eq_self, Bool.not_eq_eq_eq_not, decide_eq_true_eq, decide_eq_false_iff_not, not_true_eq_false, not_false_eq_true, decide_true, decide_false, Bool.true_and, Bool.and_true, Bool.not_true, Bool.not_false, beq_self_eq_true, Bool.true_eq_false, Bool.false_eq_true, reduceCtorEq, gt_iff_lt, ge_iff_le, true_and, and_true, and_self, Bool.and_self, Int.reduceNeg, Int.reduceEq, Int.reduceLT, Int.reduceLE, Int.reduceBEq, vI_N0, hd, hcz, w1, w2, w3, s0, b0, d0, b1] at hc_; done)) | (clear hc_; cbv))))
      all_goals subst hF hA
      all_goals (try simp only [fnOf, find, std, reduceIte, Nat.reduceEqDiff, sp1, sp2, a1, a2, FnSpec.out, Shape.build, leafs, leafCells, tups, oneOf, List.cons_append, List.nil_append, List.length_cons, List.length_nil, strOf, s_rParse, s_rDigits, s_rValue, dm_raw, dm_N0, dz, dcn, vI_N0, sameI_N0, eq_self, Bool.not_eq_eq_eq_not, decide_eq_true_eq, decide_eq_false_iff_not, not_true_eq_false, not_false_eq_true, decide_true, decide_false, Bool.true_and, Bool.and_true, Bool.not_true, Bool.not_false, beq_self_eq_true, Bool.true_eq_false, Bool.false_eq_true, reduceCtorEq, gt_iff_lt, ge_iff_le, true_and, and_true, and_self, Bool.and_self, Int.reduceNeg, Int.reduceEq, Int.reduceLT, Int.reduceLE, Int.reduceBEq, vI_N0, hd, hcz, w1, w2, w3, s0, b0, d0, b1] at hQ ⊢)
      all_goals (first | exact hm2 | with_reducible assumption | exact par_no hfau (by decide) hQ rfl | exact par_no hfau (by decide) hQ (by omega) | (refine ⟨?_, ?_⟩ <;> omega) | (refine ⟨?_, ?_, ?_⟩ <;> omega) | omega)
    · exfalso; omega
    · have d0 : (((d : Nat) : Int) == 0) = false := beq_eq_false_iff_ne.2 (by omega)
      have b1 : ((((t.data.toList.getD (Int.toNat 1) 0).toNat : Int) : Int) == 48) = false := beq_eq_false_iff_ne.2 (by omega)
      have d4 : ((400 : Int) < (d : Int)) = True := eq_true (by omega)
      cbv
      repeat' (first | with_reducible refine And.intro ?_ ?_ | (with_reducible refine safe_lift hA ?_; kernel_rfl) | (intro hc_; (first | (with_reducible exfalso; clear hQ; subst hF hA; (simp only [fnOf, find, std, reduceIte, Nat.reduceEqDiff, sp1, sp2, a1, a2, FnSpec.out, Shape.build, leafs, leafCells, tups, oneOf, List.cons_append, List.nil_append, List.length_cons, List.length_nil, strOf, s_rParse, s_rDigits, s_rValue, dm_raw, dm_N0, dz, dcn, vI_N0, sameI_N0, eq_self, Bool.not_eq_eq_eq_not, decide_eq_true_eq, decide_eq_false_iff_not, not_true_eq_false, not_false_eq_true, decide_true, decide_false, Bool.true_and, Bool.and_true, Bool.not_true, Bool.not_false, beq_self_eq_true, Bool.true_eq_false, Bool.false_eq_true, reduceCtorEq, gt_iff_lt, ge_iff_le, true_and, and_true, and_self, Bool.and_self, Int.reduceNeg, Int.reduceEq, Int.reduceLT, Int.reduceLE, Int.reduceBEq, vI_N0, hd, hcz, w1, w2, w3, s0, b0, d0, b1, d4] at hc_; done)) | (clear hc_; cbv))))
      all_goals subst hF hA
      all_goals (try simp only [fnOf, find, std, reduceIte, Nat.reduceEqDiff, sp1, sp2, a1, a2, FnSpec.out, Shape.build, leafs, leafCells, tups, oneOf, List.cons_append, List.nil_append, List.length_cons, List.length_nil, strOf, s_rParse, s_rDigits, s_rValue, dm_raw, dm_N0, dz, dcn, vI_N0, sameI_N0, eq_self, Bool.not_eq_eq_eq_not, decide_eq_true_eq, decide_eq_false_iff_not, not_true_eq_false, not_false_eq_true, decide_true, decide_false, Bool.true_and, Bool.and_true, Bool.not_true, Bool.not_false, beq_self_eq_true, Bool.true_eq_false, Bool.false_eq_true, reduceCtorEq, gt_iff_lt, ge_iff_le, true_and, and_true, and_self, Bool.and_self, Int.reduceNeg, Int.reduceEq, Int.reduceLT, Int.reduceLE, Int.reduceBEq, vI_N0, hd, hcz, w1, w2, w3, s0, b0, d0, b1, d4] at hQ ⊢)
      all_goals (first | exact hm2 | with_reducible assumption | exact par_no hfau (by decide) hQ rfl | exact par_no hfau (by decide) hQ (by omega) | (refine ⟨?_, ?_⟩ <;> omega) | (refine ⟨?_, ?_, ?_⟩ <;> omega) | omega)
    · have d0 : (((d : Nat) : Int) == 0) = false := beq_eq_false_iff_ne.2 (by omega)
      have b1 : ((((t.data.toList.getD (Int.toNat 1) 0).toNat : Int) : Int) == 48) = false := beq_eq_false_iff_ne.2 (by omega)
      have d4 : ((400 : Int) < (d : Int)) = False := eq_false (by omega)
      have l1 : (((1 + d : Nat) : Int) < ((t.size : Nat) : Int)) = True := eq_true (by omega)
      cbv
      repeat' (first | with_reducible refine And.intro ?_ ?_ | (with_reducible refine safe_lift hA ?_; kernel_rfl) | (intro hc_; (first | (with_reducible exfalso; clear hQ; subst hF hA; (simp only [fnOf, find, std, reduceIte, Nat.reduceEqDiff, sp1, sp2, a1, a2, FnSpec.out, Shape.build, leafs, leafCells, tups, oneOf, List.cons_append, List.nil_append, List.length_cons, List.length_nil, strOf, s_rParse, s_rDigits, s_rValue, dm_raw, dm_N0, dz, dcn, vI_N0, sameI_N0, eq_self, Bool.not_eq_eq_eq_not, decide_eq_true_eq, decide_eq_false_iff_not, not_true_eq_false, not_false_eq_true, decide_true, decide_false, Bool.true_and, Bool.and_true, Bool.not_true, Bool.not_false, beq_self_eq_true, Bool.true_eq_false, Bool.false_eq_true, reduceCtorEq, gt_iff_lt, ge_iff_le, true_and, and_true, and_self, Bool.and_self, Int.reduceNeg, Int.reduceEq, Int.reduceLT, Int.reduceLE, Int.reduceBEq, vI_N0, hd, hcz, w1, w2, w3, s0, b0, d0, b1, d4, l1] at hc_; done)) | (clear hc_; cbv))))
      all_goals subst hF hA
      all_goals (try simp only [fnOf, find, std, reduceIte, Nat.reduceEqDiff, sp1, sp2, a1, a2, FnSpec.out, Shape.build, leafs, leafCells, tups, oneOf, List.cons_append, List.nil_append, List.length_cons, List.length_nil, strOf, s_rParse, s_rDigits, s_rValue, dm_raw, dm_N0, dz, dcn, vI_N0, sameI_N0, eq_self, Bool.not_eq_eq_eq_not, decide_eq_true_eq, decide_eq_false_iff_not, not_true_eq_false, not_false_eq_true, decide_true, decide_false, Bool.true_and, Bool.and_true, Bool.not_true, Bool.not_false, beq_self_eq_true, Bool.true_eq_false, Bool.false_eq_true, reduceCtorEq, gt_iff_lt, ge_iff_le, true_and, and_true, and_self, Bool.and_self, Int.reduceNeg, Int.reduceEq, Int.reduceLT, Int.reduceLE, Int.reduceBEq, vI_N0, hd, hcz, w1, w2, w3, s0, b0, d0, b1, d4, l1] at hQ ⊢)
      all_goals (first | exact hm2 | with_reducible assumption | exact par_no hfau (by decide) hQ rfl | exact par_no hfau (by decide) hQ (by omega) | (refine ⟨?_, ?_⟩ <;> omega) | (refine ⟨?_, ?_, ?_⟩ <;> omega) | omega)
    · have d0 : (((d : Nat) : Int) == 0) = false := beq_eq_false_iff_ne.2 (by omega)
      have b1 : ((((t.data.toList.getD (Int.toNat 1) 0).toNat : Int) : Int) == 48) = false := beq_eq_false_iff_ne.2 (by omega)
      have d4 : ((400 : Int) < (d : Int)) = False := eq_false (by omega)
      have l1 : (((1 + d : Nat) : Int) < ((t.size : Nat) : Int)) = False := eq_false (by omega)
      obtain ⟨hall, hval⟩ := cut_all hf hC k4
      cbv
      repeat' (first | with_reducible refine And.intro ?_ ?_ | (with_reducible refine safe_lift hA ?_; kernel_rfl) | (intro hc_; (first | (with_reducible exfalso; clear hQ; subst hF hA; (simp only [fnOf, find, std, reduceIte, Nat.reduceEqDiff, sp1, sp2, a1, a2, FnSpec.out, Shape.build, leafs, leafCells, tups, oneOf, List.cons_append, List.nil_append, List.length_cons, List.length_nil, strOf, s_rParse, s_rDigits, s_rValue, dm_raw, dm_N0, dz, dcn, vI_N0, sameI_N0, eq_self, Bool.not_eq_eq_eq_not, decide_eq_true_eq, decide_eq_false_iff_not, not_true_eq_false, not_false_eq_true, decide_true, decide_false, Bool.true_and, Bool.and_true, Bool.not_true, Bool.not_false, beq_self_eq_true, Bool.true_eq_false, Bool.false_eq_true, reduceCtorEq, gt_iff_lt, ge_iff_le, true_and, and_true, and_self, Bool.and_self, Int.reduceNeg, Int.reduceEq, Int.reduceLT, Int.reduceLE, Int.reduceBEq, vI_N0, hd, hcz, w1, w2, w3, s0, b0, d0, b1, d4, l1] at hc_; done)) | (clear hc_; cbv))))
      all_goals subst hF hA
      all_goals (try simp only [fnOf, find, std, reduceIte, Nat.reduceEqDiff, sp1, sp2, a1, a2, FnSpec.out, Shape.build, leafs, leafCells, tups, oneOf, List.cons_append, List.nil_append, List.length_cons, List.length_nil, strOf, s_rParse, s_rDigits, s_rValue, dm_raw, dm_N0, dz, dcn, vI_N0, sameI_N0, eq_self, Bool.not_eq_eq_eq_not, decide_eq_true_eq, decide_eq_false_iff_not, not_true_eq_false, not_false_eq_true, decide_true, decide_false, Bool.true_and, Bool.and_true, Bool.not_true, Bool.not_false, beq_self_eq_true, Bool.true_eq_false, Bool.false_eq_true, reduceCtorEq, gt_iff_lt, ge_iff_le, true_and, and_true, and_self, Bool.and_self, Int.reduceNeg, Int.reduceEq, Int.reduceLT, Int.reduceLE, Int.reduceBEq, vI_N0, hd, hcz, w1, w2, w3, s0, b0, d0, b1, d4, l1] at hQ ⊢)
      all_goals (first | exact ⟨ht, hall⟩ | exact ht | exact hall | exact hm2 | with_reducible assumption | exact par_yes hfau hval hQ | (refine ⟨?_, ?_⟩ <;> omega) | (refine ⟨?_, ?_, ?_⟩ <;> omega) | omega)
  · have e0 : byt t 0 = (t.data.toList.getD (Int.toNat 0) 0).toNat := byt_list t 0
    have e1 : byt t 0 = (t.data.toList.getD (Int.toNat 0) 0).toNat := byt_list t 0
    obtain ⟨d, hd⟩ : ∃ d, dgn (t.extract (Int.toNat 0) ((t.size : Nat) : Int).toNat) = d := ⟨_, rfl⟩
    have hC : Cut t 0 d := by rw [← hd]; exact cut_is (t := t) (f := 0) (by omega)
    have hle := hC.le
    have hcz : (t.extract (Int.toNat 0) ((t.size : Nat) : Int).toNat).size = t.size - 0 := cut_size (t := t) (f := 0) (by omega)
    have hm : t.size ≤ maxLen := Nat.le_trans ht (by decide)
    have hm2 : t.size - 0 ≤ maxLen := by omega
    have w1 : IntKind.i64.wrap (0 + (d : Int)) = ((0 + d : Nat) : Int) := by rw [IntWalk.i64_in _ (by omega)]; omega
    have w2 : IntKind.i64.wrap (0 + 1) = 1 := rfl
    have w3 : IntKind.i64.wrap (0 + 400) = 400 := rfl
    have s0 : ((0 : Int) < ((t.size : Nat) : Int)) = True := eq_true (by omega)
    have b0 : ((((t.data.toList.getD (Int.toNat 0) 0).toNat : Int) : Int) == 45) = false := beq_eq_false_iff_ne.2 (by omega)
    rcases doc_seven hf (by omega) hC with ⟨k1, k2, hfau⟩ | ⟨k1, k2, hfau⟩ | ⟨k1, k2, k3, hfau⟩ | ⟨k1, k2, k3, k4, hfau⟩ | ⟨k1, k2, k3, hfau⟩ | ⟨k1, k2, k3, k4, hfau⟩ | ⟨k1, k2, k3, k4, hfau⟩
    · have d0 : (((d : Nat) : Int) == 0) = true := beq_iff_eq.2 (by omega)
      have fs : ((0 : Int) == ((t.size : Nat) : Int)) = true := beq_iff_eq.2 (by omega)
      cbv
      repeat' (first | with_reducible refine And.intro ?_ ?_ | (with_reducible refine safe_lift hA ?_; kernel_rfl) | (intro hc_; (first | (with_reducible exfalso; clear hQ; subst hF hA; (simp only [fnOf, find, std, reduceIte, Nat.reduceEqDiff, sp1, sp2, a1, a2, FnSpec.out, Shape.build, leafs, leafCells, tups, oneOf, List.cons_append, List.nil_append, List.length_cons, List.length_nil, strOf, s_rParse, s_rDigits, s_rValue, dm_raw, dm_N0, dz, dcn, vI_N0, sameI_N0, eq_self, Bool.not_eq_eq_eq_not, decide_eq_true_eq, decide_eq_false_iff_not, not_true_eq_false, not_false_eq_true, decide_true, decide_false, Bool.true_and, Bool.and_true, Bool.not_true, Bool.not_false, beq_self_eq_true, Bool.true_eq_false, Bool.false_eq_true, reduceCtorEq, gt_iff_lt, ge_iff_le, true_and, and_true, and_self, Bool.and_self, Int.reduceNeg, Int.reduceEq, Int.reduceLT, Int.reduceLE, Int.reduceBEq, vI_N0, hd, hcz, w1, w2, w3, s0, b0, d0, fs] at hc_; done)) | (clear hc_; cbv))))
      all_goals subst hF hA
      all_goals (try simp only [fnOf, find, std, reduceIte, Nat.reduceEqDiff, sp1, sp2, a1, a2, FnSpec.out, Shape.build, leafs, leafCells, tups, oneOf, List.cons_append, List.nil_append, List.length_cons, List.length_nil, strOf, s_rParse, s_rDigits, s_rValue, dm_raw, dm_N0, dz, dcn, vI_N0, sameI_N0, eq_self, Bool.not_eq_eq_eq_not, decide_eq_true_eq, decide_eq_false_iff_not, not_true_eq_false, not_false_eq_true, decide_true, decide_false, Bool.true_and, Bool.and_true, Bool.not_true, Bool.not_false, beq_self_eq_true, Bool.true_eq_false, Bool.false_eq_true, reduceCtorEq, gt_iff_lt, ge_iff_le, true_and, and_true, and_self, Bool.and_self, Int.reduceNeg, Int.reduceEq, Int.reduceLT, Int.reduceLE, Int.reduceBEq, vI_N0, hd, hcz, w1, w2, w3, s0, b0, d0, fs] at hQ ⊢)
      all_goals (first | exact hm2 | with_reducible assumption | exact par_no hfau (by decide) hQ rfl | exact par_no hfau (by decide) hQ (by omega) | (refine ⟨?_, ?_⟩ <;> omega) | (refine ⟨?_, ?_, ?_⟩ <;> omega) | omega)
    · have d0 : (((d : Nat) : Int) == 0) = true := beq_iff_eq.2 (by omega)
      have fs : ((0 : Int) == ((t.size : Nat) : Int)) = false := beq_eq_false_iff_ne.2 (by omega)
      cbv
      repeat' (first | with_reducible refine And.intro ?_ ?_ | (with_reducible refine safe_lift hA ?_; kernel_rfl) | (intro hc_; (first | (with_reducible exfalso; clear hQ; subst hF hA; (simp only [fnOf, find, std, reduceIte, Nat.reduceEqDiff, sp1, sp2, a1, a2, FnSpec.out, Shape.build, leafs, leafCells, tups, oneOf, List.cons_append, List.nil_append, List.length_cons, List.length_nil, strOf, s_rParse, s_rDigits, s_rValue, dm_raw, dm_N0, dz, dcn, vI_N0, sameI_N0, eq_self, Bool.not_eq_eq_eq_not, decide_eq_true_eq, decide_eq_false_iff_not, not_true_eq_false, not_false_eq_true, decide_true, decide_false, Bool.true_and, Bool.and_true, Bool.not_true, Bool.not_false, beq_self_eq_true, Bool.true_eq_false, Bool.false_eq_true, reduceCtorEq, gt_iff_lt, ge_iff_le, true_and, and_true, and_self, Bool.and_self, Int.reduceNeg, Int.reduceEq, Int.reduceLT, Int.reduceLE, Int.reduceBEq, vI_N0, hd, hcz, w1, w2, w3, s0, b0, d0, fs] at hc_; done)) | (clear hc_; cbv))))
      all_goals subst hF hA
      all_goals (try simp only [fnOf, find, std, reduceIte, Nat.reduceEqDiff, sp1, sp2, a1, a2, FnSpec.out, Shape.build, leafs, leafCells, tups, oneOf, List.cons_append, List.nil_append, List.length_cons, List.length_nil, strOf, s_rParse, s_rDigits, s_rValue, dm_raw, dm_N0, dz, dcn, vI_N0, sameI_N0, eq_self, Bool.not_eq_eq_eq_not, decide_eq_true_eq, decide_eq_false_iff_not, not_true_eq_false, not_false_eq_true, decide_true, decide_false, Bool.true_and, Bool.and_true, Bool.not_true, Bool.not_false, beq_self_eq_true, Bool.true_eq_false, Bool.false_eq_true, reduceCtorEq, gt_iff_lt, ge_iff_le, true_and, and_true, and_self, Bool.and_self, Int.reduceNeg, Int.reduceEq, Int.reduceLT, Int.reduceLE, Int.reduceBEq, vI_N0, hd, hcz, w1, w2, w3, s0, b0, d0, fs] at hQ ⊢)
      all_goals (first | exact hm2 | with_reducible assumption | exact par_no hfau (by decide) hQ rfl | exact par_no hfau (by decide) hQ (by omega) | (refine ⟨?_, ?_⟩ <;> omega) | (refine ⟨?_, ?_, ?_⟩ <;> omega) | omega)
    · exfalso; omega
    · have d0 : (((d : Nat) : Int) == 0) = false := beq_eq_false_iff_ne.2 (by omega)
      have b1 : ((((t.data.toList.getD (Int.toNat 0) 0).toNat : Int) : Int) == 48) = true := beq_iff_eq.2 (by omega)
      have d1 : ((1 : Int) < (d : Int)) = True := eq_true (by omega)
      cbv
      repeat' (first | with_reducible refine And.intro ?_ ?_ | (with_reducible refine safe_lift hA ?_; kernel_rfl) | (intro hc_; (first | (with_reducible exfalso; clear hQ; subst hF hA; (simp only [fnOf, find, std, reduceIte, Nat.reduceEqDiff, sp1, sp2, a1, a2, FnSpec.out, Shape.build, leafs, leafCells, tups, oneOf, List.cons_append, List.nil_append, List.length_cons, List.length_nil, strOf, s_rParse, s_rDigits, s_rValue, dm_raw, dm_N0, dz, dcn, vI_N0, sameI_N0, eq_self, Bool.not_eq_eq_eq_not, decide_eq_true_eq, decide_eq_false_iff_not, not_true_eq_false, not_false_eq_true, decide_true, decide_false, Bool.true_and, Bool.and_true, Bool.not_true, Bool.not_false, beq_self_eq_true, Bool.true_eq_false, Bool.false_eq_true, reduceCtorEq, gt_iff_lt, ge_iff_le, true_and, and_true, and_self, Bool.and_self, Int.reduceNeg, Int.reduceEq, Int.reduceLT, Int.reduceLE, Int.reduceBEq, vI_N0, hd, hcz, w1, w2, w3, s0, b0, d0, b1, d1] at hc_; done)) | (clear hc_; cbv))))
      all_goals subst hF hA
      all_goals (try simp only [fnOf, find, std, reduceIte, Nat.reduceEqDiff, sp1, sp2, a1, a2, FnSpec.out, Shape.build, leafs, leafCells, tups, oneOf, List.cons_append, List.nil_append, List.length_cons, List.length_nil, strOf, s_rParse, s_rDigits, s_rValue, dm_raw, dm_N0, dz, dcn, vI_N0, sameI_N0, eq_self, Bool.not_eq_eq_eq_not, decide_eq_true_eq, decide_eq_false_iff_not, not_true_eq_false, not_false_eq_true, decide_true, decide_false, Bool.true_and, Bool.and_true, Bool.not_true, Bool.not_false, beq_self_eq_true, Bool.true_eq_false, Bool.false_eq_true, reduceCtorEq, gt_iff_lt, ge_iff_le, true_and, and_true, and_self, Bool.and_self, Int.reduceNeg, Int.reduceEq, Int.reduceLT, Int.reduceLE, Int.reduceBEq, vI_N0, hd, hcz, w1, w2, w3, s0, b0, d0, b1, d1] at hQ ⊢)
      all_goals (first | exact hm2 | with_reducible assumption | exact par_no hfau (by decide) hQ rfl | exact par_no hfau (by decide) hQ (by omega) | (refine ⟨?_, ?_⟩ <;> omega) | (refine ⟨?_, ?_, ?_⟩ <;> omega) | omega)
    · have d0 : (((d : Nat) : Int) == 0) = false := beq_eq_false_iff_ne.2 (by omega)
      rcases Nat.decEq (byt t 0) 48 with hn | hn
      · have b1 : ((((t.data.toList.getD (Int.toNat 0) 0).toNat : Int) : Int) == 48) = false := beq_eq_false_iff_ne.2 (by omega)
        have d4 : ((400 : Int) < (d : Int)) = True := eq_true (by omega)
        cbv
        repeat' (first | with_reducible refine And.intro ?_ ?_ | (with_reducible refine safe_lift hA ?_; kernel_rfl) | (intro hc_; (first | (with_reducible exfalso; clear hQ; subst hF hA; (simp only [fnOf, find, std, reduceIte, Nat.reduceEqDiff, sp1, sp2, a1, a2, FnSpec.out, Shape.build, leafs, leafCells, tups, oneOf, List.cons_append, List.nil_append, List.length_cons, List.length_nil, strOf, s_rParse, s_rDigits, s_rValue, dm_raw, dm_N0, dz, dcn, vI_N0, sameI_N0, eq_self, Bool.not_eq_eq_eq_not, decide_eq_true_eq, decide_eq_false_iff_not, not_true_eq_false, not_false_eq_true, decide_true, decide_false, Bool.true_and, Bool.and_true, Bool.not_true, Bool.not_false, beq_self_eq_true, Bool.true_eq_false, Bool.false_eq_true, reduceCtorEq, gt_iff_lt, ge_iff_le, true_and, and_true, and_self, Bool.and_self, Int.reduceNeg, Int.reduceEq, Int.reduceLT, Int.reduceLE, Int.reduceBEq, vI_N0, hd, hcz, w1, w2, w3, s0, b0, d0, b1, d4] at hc_; done)) | (clear hc_; cbv))))
        all_goals subst hF hA
        all_goals (try simp only [fnOf, find, std, reduceIte, Nat.reduceEqDiff, sp1, sp2, a1, a2, FnSpec.out, Shape.build, leafs, leafCells, tups, oneOf, List.cons_append, List.nil_append, List.length_cons, List.length_nil, strOf, s_rParse, s_rDigits, s_rValue, dm_raw, dm_N0, dz, dcn, vI_N0, sameI_N0, eq_self, Bool.not_eq_eq_eq_not, decide_eq_true_eq, decide_eq_false_iff_not, not_true_eq_false, not_false_eq_true, decide_true, decide_false, Bool.true_and, Bool.and_true, Bool.not_true, Bool.not_false, beq_self_eq_true, Bool.true_eq_false, Bool.false_eq_true, reduceCtorEq, gt_iff_lt, ge_iff_le, true_and, and_true, and_self, Bool.and_self, Int.reduceNeg, Int.reduceEq, Int.reduceLT, Int.reduceLE, Int.reduceBEq, vI_N0, hd, hcz, w1, w2, w3, s0, b0, d0, b1, d4] at hQ ⊢)
        all_goals (first | exact hm2 | with_reducible assumption | exact par_no hfau (by decide) hQ rfl | exact par_no hfau (by decide) hQ (by omega) | (refine ⟨?_, ?_⟩ <;> omega) | (refine ⟨?_, ?_, ?_⟩ <;> omega) | omega)
      · have b1 : ((((t.data.toList.getD (Int.toNat 0) 0).toNat : Int) : Int) == 48) = true := beq_iff_eq.2 (by omega)
        have d1 : ((1 : Int) < (d : Int)) = False := eq_false (by omega)
        have d4 : ((400 : Int) < (d : Int)) = True := eq_true (by omega)
        cbv
        repeat' (first | with_reducible refine And.intro ?_ ?_ | (with_reducible refine safe_lift hA ?_; kernel_rfl) | (intro hc_; (first | (with_reducible exfalso; clear hQ; subst hF hA; (simp only [fnOf, find, std, reduceIte, Nat.reduceEqDiff, sp1, sp2, a1, a2, FnSpec.out, Shape.build, leafs, leafCells, tups, oneOf, List.cons_append, List.nil_append, List.length_cons, List.length_nil, strOf, s_rParse, s_rDigits, s_rValue, dm_raw, dm_N0, dz, dcn, vI_N0, sameI_N0, eq_self, Bool.not_eq_eq_eq_not, decide_eq_true_eq, decide_eq_false_iff_not, not_true_eq_false, not_false_eq_true, decide_true, decide_false, Bool.true_and, Bool.and_true, Bool.not_true, Bool.not_false, beq_self_eq_true, Bool.true_eq_false, Bool.false_eq_true, reduceCtorEq, gt_iff_lt, ge_iff_le, true_and, and_true, and_self, Bool.and_self, Int.reduceNeg, Int.reduceEq, Int.reduceLT, Int.reduceLE, Int.reduceBEq, vI_N0, hd, hcz, w1, w2, w3, s0, b0, d0, b1, d1, d4] at hc_; done)) | (clear hc_; cbv))))
        all_goals subst hF hA
        all_goals (try simp only [fnOf, find, std, reduceIte, Nat.reduceEqDiff, sp1, sp2, a1, a2, FnSpec.out, Shape.build, leafs, leafCells, tups, oneOf, List.cons_append, List.nil_append, List.length_cons, List.length_nil, strOf, s_rParse, s_rDigits, s_rValue, dm_raw, dm_N0, dz, dcn, vI_N0, sameI_N0, eq_self, Bool.not_eq_eq_eq_not, decide_eq_true_eq, decide_eq_false_iff_not, not_true_eq_false, not_false_eq_true, decide_true, decide_false, Bool.true_and, Bool.and_true, Bool.not_true, Bool.not_false, beq_self_eq_true, Bool.true_eq_false, Bool.false_eq_true, reduceCtorEq, gt_iff_lt, ge_iff_le, true_and, and_true, and_self, Bool.and_self, Int.reduceNeg, Int.reduceEq, Int.reduceLT, Int.reduceLE, Int.reduceBEq, vI_N0, hd, hcz, w1, w2, w3, s0, b0, d0, b1, d1, d4] at hQ ⊢)
        all_goals (first | exact hm2 | with_reducible assumption | exact par_no hfau (by decide) hQ rfl | exact par_no hfau (by decide) hQ (by omega) | (refine ⟨?_, ?_⟩ <;> omega) | (refine ⟨?_, ?_, ?_⟩ <;> omega) | omega)
    · have d0 : (((d : Nat) : Int) == 0) = false := beq_eq_false_iff_ne.2 (by omega)
      rcases Nat.decEq (byt t 0) 48 with hn | hn
      · have b1 : ((((t.data.toList.getD (Int.toNat 0) 0).toNat : Int) : Int) == 48) = false := beq_eq_false_iff_ne.2 (by omega)
        have d4 : ((400 : Int) < (d : Int)) = False := eq_false (by omega)
        have l1 : (((0 + d : Nat) : Int) < ((t.size : Nat) : Int)) = True := eq_true (by omega)
        cbv
        repeat' (first | with_reducible refine And.intro ?_ ?_ | (with_reducible refine safe_lift hA ?_; kernel_rfl) | (intro hc_; (first | (with_reducible exfalso; clear hQ; subst hF hA; (simp only [fnOf, find, std, reduceIte, Nat.reduceEqDiff, sp1, sp2, a1, a2, FnSpec.out, Shape.build, leafs, leafCells, tups, oneOf, List.cons_append, List.nil_append, List.length_cons, List.length_nil, strOf, s_rParse, s_rDigits, s_rValue, dm_raw, dm_N0, dz, dcn, vI_N0, sameI_N0, eq_self, Bool.not_eq_eq_eq_not, decide_eq_true_eq, decide_eq_false_iff_not, not_true_eq_false, not_false_eq_true, decide_true, decide_false, Bool.true_and, Bool.and_true, Bool.not_true, Bool.not_false, beq_self_eq_true, Bool.true_eq_false, Bool.false_eq_true, reduceCtorEq, gt_iff_lt, ge_iff_le, true_and, and_true, and_self, Bool.and_self, Int.reduceNeg, Int.reduceEq, Int.reduceLT, Int.reduceLE, Int.reduceBEq, vI_N0, hd, hcz, w1, w2, w3, s0, b0, d0, b1, d4, l1] at hc_; done)) | (clear hc_; cbv))))
        all_goals subst hF hA
        all_goals (try simp only [fnOf, find, std, reduceIte, Nat.reduceEqDiff, sp1, sp2, a1, a2, FnSpec.out, Shape.build, leafs, leafCells, tups, oneOf, List.cons_append, List.nil_append, List.length_cons, List.length_nil, strOf, s_rParse, s_rDigits, s_rValue, dm_raw, dm_N0, dz, dcn, vI_N0, sameI_N0, eq_self, Bool.not_eq_eq_eq_not, decide_eq_true_eq, decide_eq_false_iff_not, not_true_eq_false, not_false_eq_true, decide_true, decide_false, Bool.true_and, Bool.and_true, Bool.not_true, Bool.not_false, beq_self_eq_true, Bool.true_eq_false, Bool.false_eq_true, reduceCtorEq, gt_iff_lt, ge_iff_le, true_and, and_true, and_self, Bool.and_self, Int.reduceNeg, Int.reduceEq, Int.reduceLT, Int.reduceLE, Int.reduceBEq, vI_N0, hd, hcz, w1, w2, w3, s0, b0, d0, b1, d4, l1] at hQ ⊢)
        all_goals (first | exact hm2 | with_reducible assumption | exact par_no hfau (by decide) hQ rfl | exact par_no hfau (by decide) hQ (by omega) | (refine ⟨?_, ?_⟩ <;> omega) | (refine ⟨?_, ?_, ?_⟩ <;> omega) | omega)
      · have b1 : ((((t.data.toList.getD (Int.toNat 0) 0).toNat : Int) : Int) == 48) = true := beq_iff_eq.2 (by omega)
        have d1 : ((1 : Int) < (d : Int)) = False := eq_false (by omega)
        have d4 : ((400 : Int) < (d : Int)) = False := eq_false (by omega)
        have l1 : (((0 + d : Nat) : Int) < ((t.size : Nat) : Int)) = True := eq_true (by omega)
        cbv
        repeat' (first | with_reducible refine And.intro ?_ ?_ | (with_reducible refine safe_lift hA ?_; kernel_rfl) | (intro hc_; (first | (with_reducible exfalso; clear hQ; subst hF hA; (simp only [fnOf, find, std, reduceIte, Nat.reduceEqDiff, sp1, sp2, a1, a2, FnSpec.out, Shape.build, leafs, leafCells, tups, oneOf, List.cons_append, List.nil_append, List.length_cons, List.length_nil, strOf, s_rParse, s_rDigits, s_rValue, dm_raw, dm_N0, dz, dcn, vI_N0, sameI_N0, eq_self, Bool.not_eq_eq_eq_not, decide_eq_true_eq, decide_eq_false_iff_not, not_true_eq_false, not_false_eq_true, decide_true, decide_false, Bool.true_and, Bool.and_true, Bool.not_true, Bool.not_false, beq_self_eq_true, Bool.true_eq_false, Bool.false_eq_true, reduceCtorEq, gt_iff_lt, ge_iff_le, true_and, and_true, and_self, Bool.and_self, Int.reduceNeg, Int.reduceEq, Int.reduceLT, Int.reduceLE, Int.reduceBEq, vI_N0, hd, hcz, w1, w2, w3, s0, b0, d0, b1, d1, d4, l1] at hc_; done)) | (clear hc_; cbv))))
        all_goals subst hF hA
        all_goals (try simp only [fnOf, find, std, reduceIte, Nat.reduceEqDiff, sp1, sp2, a1, a2, FnSpec.out, Shape.build, leafs, leafCells, tups, oneOf, List.cons_append, List.nil_append, List.length_cons, List.length_nil, strOf, s_rParse, s_rDigits, s_rValue, dm_raw, dm_N0, dz, dcn, vI_N0, sameI_N0, eq_self, Bool.not_eq_eq_eq_not, decide_eq_true_eq, decide_eq_false_iff_not, not_true_eq_false, not_false_eq_true, decide_true, decide_false, Bool.true_and, Bool.and_true, Bool.not_true, Bool.not_false, beq_self_eq_true, Bool.true_eq_false, Bool.false_eq_true, reduceCtorEq, gt_iff_lt, ge_iff_le, true_and, and_true, and_self, Bool.and_self, Int.reduceNeg, Int.reduceEq, Int.reduceLT, Int.reduceLE, Int.reduceBEq, vI_N0, hd, hcz, w1, w2, w3, s0, b0, d0, b1, d1, d4, l1] at hQ ⊢)
        all_goals (first | exact hm2 | with_reducible assumption | exact par_no hfau (by decide) hQ rfl | exact par_no hfau (by decide) hQ (by omega) | (refine ⟨?_, ?_⟩ <;> omega) | (refine ⟨?_, ?_, ?_⟩ <;> omega) | omega)
    · have d0 : (((d : Nat) : Int) == 0) = false := beq_eq_false_iff_ne.2 (by omega)
      rcases Nat.decEq (byt t 0) 48 with hn | hn
      · have b1 : ((((t.data.toList.getD (Int.toNat 0) 0).toNat : Int) : Int) == 48) = false := beq_eq_false_iff_ne.2 (by omega)
        have d4 : ((400 : Int) < (d : Int)) = False := eq_false (by omega)
        have l1 : (((0 + d : Nat) : Int) < ((t.size : Nat) : Int)) = False := eq_false (by omega)
        obtain ⟨hall, hval⟩ := cut_all hf hC k4
        cbv
        repeat' (first | with_reducible refine And.intro ?_ ?_ | (with_reducible refine safe_lift hA ?_; kernel_rfl) | (intro hc_; (first | (with_reducible exfalso; clear hQ; subst hF hA; (simp only [fnOf, find, std, reduceIte, Nat.reduceEqDiff, sp1, sp2, a1, a2, FnSpec.out, Shape.build, leafs, leafCells, tups, oneOf, List.cons_append, List.nil_append, List.length_cons, List.length_nil, strOf, s_rParse, s_rDigits, s_rValue, dm_raw, dm_N0, dz, dcn, vI_N0, sameI_N0, eq_self, Bool.not_eq_eq_eq_not, decide_eq_true_eq, decide_eq_false_iff_not, not_true_eq_false, not_false_eq_true, decide_true, decide_false, Bool.true_and, Bool.and_true, Bool.not_true, Bool.not_false, beq_self_eq_true, Bool.true_eq_false, Bool.false_eq_true, reduceCtorEq, gt_iff_lt, ge_iff_le, true_and, and_true, and_self, Bool.and_self, Int.reduceNeg, Int.reduceEq, Int.reduceLT, Int.reduceLE, Int.reduceBEq, vI_N0, hd, hcz, w1, w2, w3, s0, b0, d0, b1, d4, l1] at hc_; done)) | (clear hc_; cbv))))
        all_goals subst hF hA
        all_goals (try simp only [fnOf, find, std, reduceIte, Nat.reduceEqDiff, sp1, sp2, a1, a2, FnSpec.out, Shape.build, leafs, leafCells, tups, oneOf, List.cons_append, List.nil_append, List.length_cons, List.length_nil, strOf, s_rParse, s_rDigits, s_rValue, dm_raw, dm_N0, dz, dcn, vI_N0, sameI_N0, eq_self, Bool.not_eq_eq_eq_not, decide_eq_true_eq, decide_eq_false_iff_not, not_true_eq_false, not_false_eq_true, decide_true, decide_false, Bool.true_and, Bool.and_true, Bool.not_true, Bool.not_false, beq_self_eq_true, Bool.true_eq_false, Bool.false_eq_true, reduceCtorEq, gt_iff_lt, ge_iff_le, true_and, and_true, and_self, Bool.and_self, Int.reduceNeg, Int.reduceEq, Int.reduceLT, Int.reduceLE, Int.reduceBEq, vI_N0, hd, hcz, w1, w2, w3, s0, b0, d0, b1, d4, l1] at hQ ⊢)
        all_goals (first | exact ⟨ht, hall⟩ | exact ht | exact hall | exact hm2 | with_reducible assumption | exact par_yes hfau hval hQ | (refine ⟨?_, ?_⟩ <;> omega) | (refine ⟨?_, ?_, ?_⟩ <;> omega) | omega)
      · have b1 : ((((t.data.toList.getD (Int.toNat 0) 0).toNat : Int) : Int) == 48) = true := beq_iff_eq.2 (by omega)
        have d1 : ((1 : Int) < (d : Int)) = False := eq_false (by omega)
        have d4 : ((400 : Int) < (d : Int)) = False := eq_false (by omega)
        have l1 : (((0 + d : Nat) : Int) < ((t.size : Nat) : Int)) = False := eq_false (by omega)
        obtain ⟨hall, hval⟩ := cut_all hf hC k4
        cbv
        repeat' (first | with_reducible refine And.intro ?_ ?_ | (with_reducible refine safe_lift hA ?_; kernel_rfl) | (intro hc_; (first | (with_reducible exfalso; clear hQ; subst hF hA; (simp only [fnOf, find, std, reduceIte, Nat.reduceEqDiff, sp1, sp2, a1, a2, FnSpec.out, Shape.build, leafs, leafCells, tups, oneOf, List.cons_append, List.nil_append, List.length_cons, List.length_nil, strOf, s_rParse, s_rDigits, s_rValue, dm_raw, dm_N0, dz, dcn, vI_N0, sameI_N0, eq_self, Bool.not_eq_eq_eq_not, decide_eq_true_eq, decide_eq_false_iff_not, not_true_eq_false, not_false_eq_true, decide_true, decide_false, Bool.true_and, Bool.and_true, Bool.not_true, Bool.not_false, beq_self_eq_true, Bool.true_eq_false, Bool.false_eq_true, reduceCtorEq, gt_iff_lt, ge_iff_le, true_and, and_true, and_self, Bool.and_self, Int.reduceNeg, Int.reduceEq, Int.reduceLT, Int.reduceLE, Int.reduceBEq, vI_N0, hd, hcz, w1, w2, w3, s0, b0, d0, b1, d1, d4, l1] at hc_; done)) | (clear hc_; cbv))))
        all_goals subst hF hA
        all_goals (try simp only [fnOf, find, std, reduceIte, Nat.reduceEqDiff, sp1, sp2, a1, a2, FnSpec.out, Shape.build, leafs, leafCells, tups, oneOf, List.cons_append, List.nil_append, List.length_cons, List.length_nil, strOf, s_rParse, s_rDigits, s_rValue, dm_raw, dm_N0, dz, dcn, vI_N0, sameI_N0, eq_self, Bool.not_eq_eq_eq_not, decide_eq_true_eq, decide_eq_false_iff_not, not_true_eq_false, not_false_eq_true, decide_true, decide_false, Bool.true_and, Bool.and_true, Bool.not_true, Bool.not_false, beq_self_eq_true, Bool.true_eq_false, Bool.false_eq_true, reduceCtorEq, gt_iff_lt, ge_iff_le, true_and, and_true, and_self, Bool.and_self, Int.reduceNeg, Int.reduceEq, Int.reduceLT, Int.reduceLE, Int.reduceBEq, vI_N0, hd, hcz, w1, w2, w3, s0, b0, d0, b1, d1, d4, l1] at hQ ⊢)
        all_goals (first | exact ⟨ht, hall⟩ | exact ht | exact hall | exact hm2 | with_reducible assumption | exact par_yes hfau hval hQ | (refine ⟨?_, ?_⟩ <;> omega) | (refine ⟨?_, ?_, ?_⟩ <;> omega) | omega)
  · have e0 : byt t 0 = (t.data.toList.getD (Int.toNat 0) 0).toNat := byt_list t 0
    have e1 : byt t 0 = (t.data.toList.getD (Int.toNat 0) 0).toNat := byt_list t 0
    obtain ⟨d, hd⟩ : ∃ d, dgn (t.extract (Int.toNat 0) ((t.size : Nat) : Int).toNat) = d := ⟨_, rfl⟩
    have hC : Cut t 0 d := by rw [← hd]; exact cut_is (t := t) (f := 0) (by omega)
    have hle := hC.le
    have hcz : (t.extract (Int.toNat 0) ((t.size : Nat) : Int).toNat).size = t.size - 0 := cut_size (t := t) (f := 0) (by omega)
    have hm : t.size ≤ maxLen := Nat.le_trans ht (by decide)
    have hm2 : t.size - 0 ≤ maxLen := by omega
    have w1 : IntKind.i64.wrap (0 + (d : Int)) = ((0 + d : Nat) : Int) := by rw [IntWalk.i64_in _ (by omega)]; omega
    have w2 : IntKind.i64.wrap (0 + 1) = 1 := rfl
    have w3 : IntKind.i64.wrap (0 + 400) = 400 := rfl
    have s0 : ((0 : Int) < ((t.size : Nat) : Int)) = False := eq_false (by omega)
    rcases doc_seven hf (by omega) hC with ⟨k1, k2, hfau⟩ | ⟨k1, k2, hfau⟩ | ⟨k1, k2, k3, hfau⟩ | ⟨k1, k2, k3, k4, hfau⟩ | ⟨k1, k2, k3, hfau⟩ | ⟨k1, k2, k3, k4, hfau⟩ | ⟨k1, k2, k3, k4, hfau⟩
    · have d0 : (((d : Nat) : Int) == 0) = true := beq_iff_eq.2 (by omega)
      have fs : ((0 : Int) == ((t.size : Nat) : Int)) = true := beq_iff_eq.2 (by omega)
      cbv
      repeat' (first | with_reducible refine And.intro ?_ ?_ | (with_reducible refine safe_lift hA ?_; kernel_rfl) | (intro hc_; (first | (with_reducible exfalso; clear hQ; subst hF hA; (simp only [fnOf, find, std, reduceIte, Nat.reduceEqDiff, sp1, sp2, a1, a2, FnSpec.out, Shape.build, leafs, leafCells, tups, oneOf, List.cons_append, List.nil_append, List.length_cons, List.length_nil, strOf, s_rParse, s_rDigits, s_rValue, dm_raw, dm_N0, dz, dcn, vI_N0, sameI_N0, eq_self, Bool.not_eq_eq_eq_not, decide_eq_true_eq, decide_eq_false_iff_not, not_true_eq_false, not_false_eq_true, decide_true, decide_false, Bool.true_and, Bool.and_true, Bool.not_true, Bool.not_false, beq_self_eq_true, Bool.true_eq_false, Bool.false_eq_true, reduceCtorEq, gt_iff_lt, ge_iff_le, true_and, and_true, and_self, Bool.and_self, Int.reduceNeg, Int.reduceEq, Int.reduceLT, Int.reduceLE, Int.reduceBEq, vI_N0, hd, hcz, w1, w2, w3, s0, d0, fs] at hc_; done)) | (clear hc_; cbv))))
      all_goals subst hF hA
      all_goals (try simp only [fnOf, find, std, reduceIte, Nat.reduceEqDiff, sp1, sp2, a1, a2, FnSpec.out, Shape.build, leafs, leafCells, tups, oneOf, List.cons_append, List.nil_append, List.length_cons, List.length_nil, strOf, s_rParse, s_rDigits, s_rValue, dm_raw, dm_N0, dz, dcn, vI_N0, sameI_N0, eq_self, Bool.not_eq_eq_eq_not, decide_eq_true_eq, decide_eq_false_iff_not, not_true_eq_false, not_false_eq_true, decide_true, decide_false, Bool.true_and, Bool.and_true, Bool.not_true, Bool.not_false, beq_self_eq_true, Bool.true_eq_false, Bool.false_eq_true, reduceCtorEq, gt_iff_lt, ge_iff_le, true_and, and_true, and_self, Bool.and_self, Int.reduceNeg, Int.reduceEq, Int.reduceLT, Int.reduceLE, Int.reduceBEq, vI_N0, hd, hcz, w1, w2, w3, s0, d0, fs] at hQ ⊢)
      all_goals (first | exact hm2 | with_reducible assumption | exact par_no hfau (by decide) hQ rfl | exact par_no hfau (by decide) hQ (by omega) | (refine ⟨?_, ?_⟩ <;> omega) | (refine ⟨?_, ?_, ?_⟩ <;> omega) | omega)
    · exfalso; omega
    · exfalso; omega
    · exfalso; omega
    · exfalso; omega
    · exfalso; omega
    · exfalso; omega
end Go.Proofs.YtgmencbhkkcpiaaDoor.Ev
