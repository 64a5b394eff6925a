/- Plain facts on numbers in limbs (lists of digits to the base 2^32): values, digits, canonical digits. No program is named here. -/
namespace Go.Proofs.YtopkndkicdgafaaDoor

def Bs : Nat := 4294967296
theorem Bs_eq : Bs = 4294967296 := rfl
theorem Bs_pos : 0 < Bs := by rw [Bs_eq]; omega

/-- The digit at i; noughts above. -/
def dig (xs : List Nat) (i : Nat) : Nat := xs.getD i 0
/-- The value of the first k digits. -/
def vt (d : Nat → Nat) : Nat → Nat
  | 0 => 0
  | k + 1 => vt d k + Bs ^ k * d k
def val (xs : List Nat) : Nat := vt (dig xs) xs.length
def Ok (xs : List Nat) : Prop := ∀ i, dig xs i < Bs

theorem dig_over {xs : List Nat} {i : Nat} (h : xs.length ≤ i) : dig xs i = 0 := by
  unfold dig; rw [List.getD_eq_getElem?_getD, List.getElem?_eq_none h]; rfl
theorem dig_get {xs : List Nat} {i : Nat} (h : i < xs.length) : dig xs i = xs[i] := by
  unfold dig; rw [List.getD_eq_getElem?_getD, List.getElem?_eq_getElem h]; rfl
theorem dig_set {xs : List Nat} {i x : Nat} (h : i < xs.length) (j : Nat) : dig (xs.set i x) j = if j = i then x else dig xs j := by
  unfold dig
  rw [List.getD_eq_getElem?_getD, List.getD_eq_getElem?_getD, List.getElem?_set]
  by_cases e : j = i
  · subst e; simp [h]
  · rw [if_neg (fun c => e c.symm), if_neg e]
theorem Ok.of_mem {xs : List Nat} (h : ∀ x ∈ xs, x < Bs) : Ok xs := by
  intro i
  by_cases hi : i < xs.length
  · rw [dig_get hi]; exact h _ (List.getElem_mem hi)
  · rw [dig_over (by omega)]; exact Bs_pos
theorem Ok.mem {xs : List Nat} (h : Ok xs) : ∀ x ∈ xs, x < Bs := by
  intro x hx
  obtain ⟨i, hi, rfl⟩ := List.getElem_of_mem hx
  rw [← dig_get hi]; exact h i
theorem Ok.set {xs : List Nat} (h : Ok xs) {i x : Nat} (hi : i < xs.length) (hx : x < Bs) : Ok (xs.set i x) := by
  intro j; rw [dig_set hi]; split
  · exact hx
  · exact h j
theorem Ok.zeros (n : Nat) : Ok (List.replicate n 0) := by
  apply Ok.of_mem; intro x hx; rw [List.mem_replicate] at hx; rw [hx.2]; exact Bs_pos
theorem dig_zeros (n i : Nat) : dig (List.replicate n 0) i = 0 := by
  unfold dig; rw [List.getD_eq_getElem?_getD, List.getElem?_replicate]; split <;> rfl
theorem dig_nil (i : Nat) : dig [] i = 0 := by unfold dig; simp
theorem dig_take (xs : List Nat) (n i : Nat) : dig (xs.take n) i = if i < n then dig xs i else 0 := by
  unfold dig; rw [List.getD_eq_getElem?_getD, List.getD_eq_getElem?_getD, List.getElem?_take]; split <;> simp_all
theorem dig_drop (xs : List Nat) (n i : Nat) : dig (xs.drop n) i = dig xs (n + i) := by
  unfold dig; rw [List.getD_eq_getElem?_getD, List.getD_eq_getElem?_getD, List.getElem?_drop]
theorem Ok.take {xs : List Nat} (h : Ok xs) (n : Nat) : Ok (xs.take n) := by
  intro i; rw [dig_take]; split
  · exact h i
  · exact Bs_pos
theorem Ok.drop {xs : List Nat} (h : Ok xs) (n : Nat) : Ok (xs.drop n) := by intro i; rw [dig_drop]; exact h _
theorem dig_cons_zero (x : Nat) (xs : List Nat) : dig (x :: xs) 0 = x := rfl
theorem dig_cons_succ (x : Nat) (xs : List Nat) (i : Nat) : dig (x :: xs) (i + 1) = dig xs i := by simp [dig]
theorem list_ext_dig {xs ys : List Nat} (hl : xs.length = ys.length) (h : ∀ i, i < xs.length → dig xs i = dig ys i) : xs = ys := by
  apply List.ext_getElem hl
  intro i h1 h2
  rw [← dig_get h1, ← dig_get h2]; exact h i h1

theorem vt_congr {d e : Nat → Nat} : ∀ k, (∀ i, i < k → d i = e i) → vt d k = vt e k
  | 0, _ => rfl
  | k + 1, h => by
    unfold vt
    rw [vt_congr k (fun i hi => h i (by omega)), h k (by omega)]
theorem vt_add (d : Nat → Nat) (m : Nat) : ∀ k, vt d (m + k) = vt d m + Bs ^ m * vt (fun i => d (m + i)) k
  | 0 => by simp [vt]
  | k + 1 => by
    show vt d (m + k) + Bs ^ (m + k) * d (m + k) = vt d m + Bs ^ m * (vt (fun i => d (m + i)) k + Bs ^ k * d (m + k))
    rw [vt_add d m k, Nat.pow_add, Nat.mul_add, Nat.mul_assoc, Nat.add_assoc]
theorem vt_zero {d : Nat → Nat} : ∀ k, (∀ i, i < k → d i = 0) → vt d k = 0
  | 0, _ => rfl
  | k + 1, h => by
    unfold vt
    rw [vt_zero k (fun i hi => h i (by omega)), h k (by omega)]; rfl
theorem vt_lt {d : Nat → Nat} : ∀ k, (∀ i, i < k → d i < Bs) → vt d k < Bs ^ k
  | 0, _ => by simp [vt]
  | k + 1, h => by
    unfold vt
    have h1 := vt_lt k (fun i hi => h i (by omega))
    have h2 := h k (by omega)
    have h3 : Bs ^ k * (d k + 1) ≤ Bs ^ k * Bs := Nat.mul_le_mul (Nat.le_refl _) h2
    rw [Nat.mul_add, Nat.mul_one] at h3
    rw [Nat.pow_succ]; omega
theorem vt_le {d : Nat → Nat} {m k : Nat} (h : m ≤ k) : vt d m ≤ vt d k := by
  obtain ⟨j, rfl⟩ : ∃ j, k = m + j := ⟨k - m, by omega⟩
  rw [vt_add]; exact Nat.le_add_right _ _
theorem val_eq_vt {xs : List Nat} {k : Nat} (h : xs.length ≤ k) : vt (dig xs) k = val xs := by
  obtain ⟨j, rfl⟩ : ∃ j, k = xs.length + j := ⟨k - xs.length, by omega⟩
  rw [vt_add, vt_zero j (fun i _ => dig_over (by omega))]; rfl
theorem val_lt {xs : List Nat} (h : Ok xs) : val xs < Bs ^ xs.length := vt_lt _ fun i _ => h i
theorem val_nil : val [] = 0 := rfl
theorem val_cons (x : Nat) (xs : List Nat) : val (x :: xs) = x + Bs * val xs := by
  have h : val (x :: xs) = vt (dig (x :: xs)) (1 + xs.length) := by unfold val; rw [List.length_cons, Nat.add_comm]
  rw [h, vt_add]
  have e1 : vt (dig (x :: xs)) 1 = x := by simp [vt, dig_cons_zero]
  rw [e1, Nat.pow_one, vt_congr (e := dig xs) xs.length (fun i _ => by rw [Nat.add_comm]; exact dig_cons_succ x xs i)]
  rfl
theorem val_single (x : Nat) : val [x] = x := by rw [val_cons, val_nil]; omega
theorem val_zeros (n : Nat) : val (List.replicate n 0) = 0 := vt_zero _ fun i _ => dig_zeros n i
theorem vt_take (xs : List Nat) (k : Nat) : vt (dig xs) k = val (xs.take k) := by
  by_cases h : k ≤ xs.length
  · unfold val
    rw [List.length_take, Nat.min_eq_left h]
    exact vt_congr k fun i hi => by rw [dig_take, if_pos hi]
  · rw [List.take_of_length_le (by omega)]; exact val_eq_vt (by omega)
/-- a number is its lowest k digits and the others above. -/
theorem val_split (xs : List Nat) (k : Nat) : val xs = vt (dig xs) k + Bs ^ k * val (xs.drop k) := by
  by_cases h : k ≤ xs.length
  · have e : val xs = vt (dig xs) (k + (xs.drop k).length) := by rw [val_eq_vt (by rw [List.length_drop]; omega)]
    rw [e, vt_add]; unfold val
    rw [vt_congr (e := dig (xs.drop k)) _ (fun i _ => (dig_drop xs k i).symm)]
  · rw [List.drop_eq_nil_of_le (by omega), val_nil, Nat.mul_zero, Nat.add_zero, val_eq_vt (by omega)]
theorem dig_of_val_zero {xs : List Nat} (h : val xs = 0) (i : Nat) : dig xs i = 0 := by
  have h1 := val_split xs (i + 1)
  have h2 : vt (dig xs) (i + 1) = vt (dig xs) i + Bs ^ i * dig xs i := rfl
  have h3 : Bs ^ i * dig xs i = 0 := by omega
  rcases Nat.mul_eq_zero.1 h3 with h4 | h4
  · have : 0 < Bs ^ i := Nat.pow_pos Bs_pos
    omega
  · exact h4
theorem val_drop_succ (xs : List Nat) (i : Nat) : val (xs.drop i) = dig xs i + Bs * val (xs.drop (i + 1)) := by
  by_cases h : i < xs.length
  · rw [List.drop_eq_getElem_cons h, val_cons, dig_get h]
  · rw [List.drop_eq_nil_of_le (by omega), List.drop_eq_nil_of_le (by omega), dig_over (by omega), val_nil, Nat.mul_zero]
/-- the digit out of the value. -/
theorem dig_val {xs : List Nat} (h : Ok xs) (i : Nat) : dig xs i = val xs / Bs ^ i % Bs := by
  have h1 := val_split xs i
  have h2 : vt (dig xs) i < Bs ^ i := vt_lt i fun j _ => h j
  have h3 : val xs / Bs ^ i = val (xs.drop i) := by
    rw [h1, Nat.add_mul_div_left _ _ (Nat.pow_pos Bs_pos), Nat.div_eq_of_lt h2, Nat.zero_add]
  rw [h3, val_drop_succ, Nat.add_mul_mod_self_left, Nat.mod_eq_of_lt (h i)]
theorem val_drop {xs : List Nat} (h : Ok xs) (i : Nat) : val (xs.drop i) = val xs / Bs ^ i := by
  have h1 := val_split xs i
  have h2 : vt (dig xs) i < Bs ^ i := vt_lt i fun j _ => h j
  rw [h1, Nat.add_mul_div_left _ _ (Nat.pow_pos Bs_pos), Nat.div_eq_of_lt h2, Nat.zero_add]
theorem vt_mod {xs : List Nat} (h : Ok xs) (i : Nat) : vt (dig xs) i = val xs % Bs ^ i := by
  have h1 := val_split xs i
  have h2 : vt (dig xs) i < Bs ^ i := vt_lt i fun j _ => h j
  rw [h1, Nat.add_mul_mod_self_left, Nat.mod_eq_of_lt h2]
theorem eq_of_val {xs ys : List Nat} (hx : Ok xs) (hy : Ok ys) (hl : xs.length = ys.length) (h : val xs = val ys) : xs = ys := by
  apply list_ext_dig hl
  intro i _
  rw [dig_val hx, dig_val hy, h]

/-- the canonical digits of n. -/
def lim (n : Nat) : List Nat := if _h : n = 0 then [] else n % Bs :: lim (n / Bs)
  termination_by n
  decreasing_by exact Nat.div_lt_self (by omega) (by rw [Bs_eq]; omega)
theorem lim_zero : lim 0 = [] := by rw [lim]; simp
theorem lim_pos {n : Nat} (h : n ≠ 0) : lim n = n % Bs :: lim (n / Bs) := by rw [lim]; simp [h]
theorem val_lim (n : Nat) : val (lim n) = n := by
  induction n using Nat.strongRecOn with
  | _ n ih =>
    by_cases h : n = 0
    · subst h; rw [lim_zero, val_nil]
    · rw [lim_pos h, val_cons, ih _ (Nat.div_lt_self (by omega) (by rw [Bs_eq]; omega))]
      exact Nat.mod_add_div n Bs
theorem ok_lim (n : Nat) : Ok (lim n) := by
  apply Ok.of_mem
  induction n using Nat.strongRecOn with
  | _ n ih =>
    by_cases h : n = 0
    · subst h; rw [lim_zero]; intro x hx; cases hx
    · rw [lim_pos h]
      intro x hx
      rcases List.mem_cons.1 hx with rfl | hx
      · exact Nat.mod_lt _ Bs_pos
      · exact ih _ (Nat.div_lt_self (by omega) (by rw [Bs_eq]; omega)) x hx
theorem lim_nil_iff {n : Nat} : lim n = [] ↔ n = 0 := by
  constructor
  · intro h; rw [← val_lim n, h, val_nil]
  · rintro rfl; exact lim_zero
/-- how many digits n has. -/
def ln (n : Nat) : Nat := (lim n).length
theorem ln_zero : ln 0 = 0 := by unfold ln; rw [lim_zero]; rfl
theorem ln_pos {n : Nat} (h : n ≠ 0) : ln n = ln (n / Bs) + 1 := by unfold ln; rw [lim_pos h]; rfl
theorem ln_zero_iff {n : Nat} : ln n = 0 ↔ n = 0 := by unfold ln; rw [List.length_eq_zero_iff]; exact lim_nil_iff
theorem lt_pow_ln (n : Nat) : n < Bs ^ ln n := by
  have := val_lt (ok_lim n); rw [val_lim] at this; exact this
theorem pow_ln_le {n : Nat} (h : n ≠ 0) : Bs ^ (ln n - 1) ≤ n := by
  induction n using Nat.strongRecOn with
  | _ n ih =>
    rw [ln_pos h, Nat.add_sub_cancel]
    by_cases h0 : n / Bs = 0
    · rw [h0, ln_zero]; simpa using (by omega : 1 ≤ n)
    · have h1 := ih _ (Nat.div_lt_self (by omega) (by rw [Bs_eq]; omega)) h0
      have h2 : ln (n / Bs) = (ln (n / Bs) - 1) + 1 := by
        have : ln (n / Bs) ≠ 0 := fun e => h0 (ln_zero_iff.1 e)
        omega
      rw [h2, Nat.pow_succ]
      exact Nat.le_trans (Nat.mul_le_mul h1 (Nat.le_refl _)) (Nat.div_mul_le_self n Bs)
theorem ln_le_of_lt {n k : Nat} (h : n < Bs ^ k) : ln n ≤ k := by
  by_cases h0 : n = 0
  · subst h0; rw [ln_zero]; omega
  · have h1 := pow_ln_le h0
    have h2 : Bs ^ (ln n - 1) < Bs ^ k := by omega
    have h3 : ln n - 1 < k := (Nat.pow_lt_pow_iff_right (by rw [Bs_eq]; omega)).1 h2
    omega
theorem lt_ln_of_le {n k : Nat} (h : Bs ^ k ≤ n) : k < ln n := by
  have h1 := lt_pow_ln n
  exact (Nat.pow_lt_pow_iff_right (by rw [Bs_eq]; omega)).1 (Nat.lt_of_le_of_lt h h1)
theorem ln_mono {m n : Nat} (h : m ≤ n) : ln m ≤ ln n := ln_le_of_lt (Nat.lt_of_le_of_lt h (lt_pow_ln n))
theorem top_lim {n : Nat} (h : n ≠ 0) : dig (lim n) (ln n - 1) ≠ 0 := by
  intro h0
  have hl : ln n ≠ 0 := fun e => h (ln_zero_iff.1 e)
  have h1 : val (lim n) = vt (dig (lim n)) (ln n - 1 + 1) := by rw [Nat.sub_add_cancel (by omega)]; rfl
  rw [val_lim] at h1
  have h2 : vt (dig (lim n)) (ln n - 1 + 1) = vt (dig (lim n)) (ln n - 1) + Bs ^ (ln n - 1) * dig (lim n) (ln n - 1) := rfl
  rw [h0, Nat.mul_zero, Nat.add_zero] at h2
  have h3 : vt (dig (lim n)) (ln n - 1) < Bs ^ (ln n - 1) := vt_lt _ fun i _ => ok_lim n i
  have := pow_ln_le h
  omega
/-- trimmed: the canonical digits are the list without the noughts on top. -/
theorem lim_take {xs : List Nat} (hx : Ok xs) {n : Nat} (hn : n ≤ xs.length) (hz : ∀ j, n ≤ j → j < xs.length → dig xs j = 0) (ht : n = 0 ∨ dig xs (n - 1) ≠ 0) : ln (val xs) = n ∧ lim (val xs) = xs.take n := by
  have hv : val xs = vt (dig xs) n := by
    have h := val_split xs n
    have h0 : val (xs.drop n) = 0 := vt_zero _ fun i hi => by
      rw [dig_drop]; rw [List.length_drop] at hi; exact hz _ (by omega) (by omega)
    rw [h0] at h; omega
  have hl : ln (val xs) = n := by
    rcases Nat.eq_zero_or_pos n with rfl | hn0
    · rw [hv]; exact ln_zero
    · have ht : dig xs (n - 1) ≠ 0 := by exact ht.resolve_left (by omega)
      have h1 : ln (val xs) ≤ n := ln_le_of_lt (by rw [hv]; exact vt_lt _ fun i _ => hx i)
      have h3 : n - 1 < ln (val xs) := by
        apply lt_ln_of_le
        rw [hv, show n = n - 1 + 1 from by omega]
        show Bs ^ (n - 1 + 1 - 1) ≤ vt (dig xs) (n - 1) + Bs ^ (n - 1) * dig xs (n - 1)
        rw [Nat.add_sub_cancel]
        have h4 : Bs ^ (n - 1) * 1 ≤ Bs ^ (n - 1) * dig xs (n - 1) := Nat.mul_le_mul (Nat.le_refl _) (by omega)
        omega
      omega
  refine ⟨hl, eq_of_val (ok_lim _) (hx.take n) ?_ ?_⟩
  · rw [List.length_take, Nat.min_eq_left hn]; exact hl
  · rw [val_lim, ← vt_take, hv]
theorem ln_val_le {xs : List Nat} (hx : Ok xs) : ln (val xs) ≤ xs.length := ln_le_of_lt (val_lt hx)
theorem lim_val_take {xs : List Nat} (hx : Ok xs) : lim (val xs) = xs.take (ln (val xs)) := by
  have h := ln_val_le hx
  apply eq_of_val (ok_lim _) (hx.take _)
  · rw [List.length_take, Nat.min_eq_left h]; rfl
  · rw [val_lim, ← vt_take, vt_mod hx, Nat.mod_eq_of_lt (lt_pow_ln _)]
theorem dig_top_val {xs : List Nat} (hx : Ok xs) (h : val xs ≠ 0) : dig xs (ln (val xs) - 1) ≠ 0 := by
  have h1 := top_lim h
  rw [lim_val_take hx, dig_take] at h1
  split at h1
  · exact h1
  · exact absurd rfl h1
theorem dig_above_val {xs : List Nat} (hx : Ok xs) {j : Nat} (h : ln (val xs) ≤ j) : dig xs j = 0 := by
  have h2 : val xs < Bs ^ j := Nat.lt_of_lt_of_le (lt_pow_ln _) (Nat.pow_le_pow_right Bs_pos h)
  rw [dig_val hx, Nat.div_eq_of_lt h2, Nat.zero_mod]
theorem lim_of_canon {xs : List Nat} (hx : Ok xs) (ht : xs = [] ∨ dig xs (xs.length - 1) ≠ 0) : lim (val xs) = xs := by
  have h := (lim_take hx (Nat.le_refl _) (fun j h1 h2 => by omega) (by
    rcases ht with rfl | ht
    · exact .inl rfl
    · exact .inr ht)).2
  rw [List.take_length] at h; exact h
theorem lim_single {x : Nat} (h0 : x ≠ 0) (h : x < Bs) : lim x = [x] := by
  rw [lim_pos h0, Nat.mod_eq_of_lt h, Nat.div_eq_of_lt h, lim_zero]
theorem lim_inj {m n : Nat} (h : lim m = lim n) : m = n := by rw [← val_lim m, h, val_lim]

/-- order by lengths. -/
theorem lt_of_ln_lt {m n : Nat} (h : ln m < ln n) : m < n := by
  apply Nat.lt_of_not_le; intro c; have := ln_mono c; omega
/-- order by the topmost digit that differs. -/
theorem vt_lt_of_top {d e : Nat → Nat} {i k : Nat} (hd : ∀ j, d j < Bs) (hi : i < k) (heq : ∀ j, i < j → j < k → d j = e j) (hlt : d i < e i) : vt d k < vt e k := by
  obtain ⟨j, rfl⟩ : ∃ j, k = i + 1 + j := ⟨k - (i + 1), by omega⟩
  rw [vt_add d (i + 1), vt_add e (i + 1), vt_congr (e := fun n => e (i + 1 + n)) j (fun n hn => heq _ (by omega) (by omega))]
  have h1 : vt d (i + 1) = vt d i + Bs ^ i * d i := rfl
  have h2 : vt e (i + 1) = vt e i + Bs ^ i * e i := rfl
  have h3 : vt d i < Bs ^ i := vt_lt i fun n _ => hd n
  have h4 : Bs ^ i * (d i + 1) ≤ Bs ^ i * e i := Nat.mul_le_mul (Nat.le_refl _) hlt
  rw [Nat.mul_add, Nat.mul_one] at h4
  omega
/-- -1, 0, 1 as Go's Cmp tells it. -/
def cmpN (m n : Nat) : Int := if m < n then -1 else if m = n then 0 else 1
theorem cmpN_lt {m n : Nat} (h : m < n) : cmpN m n = -1 := by unfold cmpN; rw [if_pos h]
theorem cmpN_eq {m n : Nat} (h : m = n) : cmpN m n = 0 := by unfold cmpN; rw [if_neg (by omega), if_pos h]
theorem cmpN_gt {m n : Nat} (h : n < m) : cmpN m n = 1 := by unfold cmpN; rw [if_neg (by omega), if_neg (by omega)]
theorem cmpN_self (m : Nat) : cmpN m m = 0 := cmpN_eq rfl
theorem cmpN_range (m n : Nat) : -1 ≤ cmpN m n ∧ cmpN m n ≤ 1 := by unfold cmpN; split <;> (try split) <;> omega
theorem cmpN_neg_iff (m n : Nat) : cmpN m n < 0 ↔ m < n := by unfold cmpN; split <;> (try split) <;> omega
theorem cmpN_swap (m n : Nat) : cmpN n m = -cmpN m n := by
  unfold cmpN
  rcases Nat.lt_trichotomy m n with h | h | h
  · rw [if_neg (by omega), if_neg (by omega), if_pos h]; rfl
  · subst h; simp
  · rw [if_pos h, if_neg (by omega), if_neg (by omega)]

/-- how many bits n has. -/
def nb (n : Nat) : Nat := if n = 0 then 0 else n.log2 + 1
theorem nb_zero : nb 0 = 0 := rfl
theorem nb_pos {n : Nat} (h : n ≠ 0) : nb n = n.log2 + 1 := by unfold nb; rw [if_neg h]
theorem lt_pow_nb (n : Nat) : n < 2 ^ nb n := by
  unfold nb; split
  · subst_vars; simp
  · exact Nat.lt_log2_self
theorem pow_nb_le {n : Nat} (h : n ≠ 0) : 2 ^ (nb n - 1) ≤ n := by rw [nb_pos h]; simpa using Nat.log2_self_le h
theorem nb_le_of_lt {n k : Nat} (h : n < 2 ^ k) : nb n ≤ k := by
  by_cases h0 : n = 0
  · subst h0; rw [nb_zero]; omega
  · have h1 := pow_nb_le h0
    have h3 : nb n - 1 < k := (Nat.pow_lt_pow_iff_right (by omega)).1 (Nat.lt_of_le_of_lt h1 h)
    omega
theorem lt_nb_of_le {n k : Nat} (h : 2 ^ k ≤ n) : k < nb n := (Nat.pow_lt_pow_iff_right (by omega)).1 (Nat.lt_of_le_of_lt h (lt_pow_nb n))
theorem nb_mono {m n : Nat} (h : m ≤ n) : nb m ≤ nb n := nb_le_of_lt (Nat.lt_of_le_of_lt h (lt_pow_nb n))
theorem nb_zero_iff {n : Nat} : nb n = 0 ↔ n = 0 := by
  constructor
  · intro h; have := lt_pow_nb n; rw [h] at this; simpa using this
  · rintro rfl; rfl
theorem nb_unique {n k : Nat} (h1 : n < 2 ^ (k + 1)) (h2 : 2 ^ k ≤ n) : nb n = k + 1 := by
  have a := nb_le_of_lt h1
  have b := lt_nb_of_le h2
  omega
theorem nb_half {n : Nat} (h : n ≠ 0) : nb n = nb (n / 2) + 1 := by
  by_cases h1 : n / 2 = 0
  · rw [h1, nb_zero]; have : n = 1 := by omega
    subst this; rfl
  · rw [nb_pos h1]
    apply nb_unique
    · have := Nat.lt_log2_self (n := n / 2)
      rw [Nat.pow_succ]; omega
    · have := Nat.log2_self_le h1
      rw [Nat.pow_succ]; omega
/-- bits of a number that is joined out of two. -/
theorem nb_join {t r k : Nat} (ht : t ≠ 0) (hr : r < 2 ^ k) : nb (t * 2 ^ k + r) = nb t + k := by
  have h1 := lt_pow_nb t
  have h2 := pow_nb_le ht
  have h3 : nb t ≠ 0 := fun e => ht (nb_zero_iff.1 e)
  rw [show nb t + k = (nb t - 1 + k) + 1 from by omega]
  apply nb_unique
  · rw [show nb t - 1 + k + 1 = nb t + k from by omega, Nat.pow_add]
    have : (t + 1) * 2 ^ k ≤ 2 ^ nb t * 2 ^ k := Nat.mul_le_mul h1 (Nat.le_refl _)
    rw [Nat.add_mul, Nat.one_mul] at this; omega
  · rw [Nat.pow_add]
    have : 2 ^ (nb t - 1) * 2 ^ k ≤ t * 2 ^ k := Nat.mul_le_mul h2 (Nat.le_refl _)
    omega
theorem nb_mul_pow {n : Nat} (h : n ≠ 0) (k : Nat) : nb (n * 2 ^ k) = nb n + k := by
  have := nb_join (t := n) (r := 0) (k := k) h (Nat.two_pow_pos k); simpa using this

/-- how many of the lowest bits are 0. -/
def tz (n : Nat) : Nat := if _h : n = 0 then 0 else if n % 2 = 1 then 0 else tz (n / 2) + 1
  termination_by n
  decreasing_by omega
theorem tz_zero : tz 0 = 0 := by rw [tz]; simp
theorem tz_odd {n : Nat} (h : n % 2 = 1) : tz n = 0 := by rw [tz]; simp [h]
theorem tz_even {n : Nat} (h0 : n ≠ 0) (h : n % 2 = 0) : tz n = tz (n / 2) + 1 := by rw [tz]; simp [h0, h]
theorem tz_of (k m : Nat) : tz (2 ^ k * (2 * m + 1)) = k := by
  induction k with
  | zero => rw [tz_odd]; omega
  | succ k ih =>
    have hp : 0 < 2 ^ k := Nat.two_pow_pos k
    have e : 2 ^ (k + 1) * (2 * m + 1) = 2 * (2 ^ k * (2 * m + 1)) := by rw [Nat.pow_succ, Nat.mul_comm (2 ^ k) 2, Nat.mul_assoc]
    rw [tz_even, e, Nat.mul_div_cancel_left _ (by omega), ih]
    · rw [e]; exact Nat.mul_ne_zero (by omega) (Nat.mul_ne_zero (by omega) (by omega))
    · rw [e]; omega
theorem tz_spec {n : Nat} (h : n ≠ 0) : ∃ m, n = 2 ^ tz n * (2 * m + 1) := by
  induction n using Nat.strongRecOn with
  | _ n ih =>
    by_cases h1 : n % 2 = 1
    · exact ⟨n / 2, by rw [tz_odd h1]; omega⟩
    · obtain ⟨m, hm⟩ := ih (n / 2) (by omega) (by omega)
      refine ⟨m, ?_⟩
      rw [tz_even h (by omega), Nat.pow_succ, Nat.mul_comm (2 ^ tz (n / 2)) 2, Nat.mul_assoc, ← hm]; omega
theorem tz_mul_pow {n : Nat} (h : n ≠ 0) (k : Nat) : tz (n * 2 ^ k) = tz n + k := by
  obtain ⟨m, hm⟩ := tz_spec h
  have e : n * 2 ^ k = 2 ^ (tz n + k) * (2 * m + 1) := by
    conv => lhs; rw [hm]
    rw [Nat.pow_add]; grind
  rw [e, tz_of]
theorem tz_lt_of_lt {n k : Nat} (h0 : n ≠ 0) (h : n < 2 ^ k) : tz n < k := by
  obtain ⟨m, hm⟩ := tz_spec h0
  have h1 : 2 ^ tz n * 1 ≤ 2 ^ tz n * (2 * m + 1) := Nat.mul_le_mul (Nat.le_refl _) (by omega)
  rw [← hm] at h1
  exact (Nat.pow_lt_pow_iff_right (a := 2) (by omega)).1 (by omega)
theorem Bs_pow : Bs = 2 ^ 32 := by rw [Bs_eq]
theorem Bs_pow_eq (k : Nat) : Bs ^ k = 2 ^ (32 * k) := by rw [Bs_pow, ← Nat.pow_mul]
end Go.Proofs.YtopkndkicdgafaaDoor
