import Derived.Test.YtnjjfakjnkhhjaaGreatDoorRows
import Derived.WalkKit
import Derived.WalkSpells
import Derived.WalkLawsBesides
import Derived.Lib.Hide
import Derived.Laws.BitsAllLaws
import Derived.Lib.BitFns
import Derived.Lib.TrailingZeros
import Derived.Lib.Strings
import Derived.Lib.Slices
import Derived.Lib.Small
import Derived.Lib.Walk
import Derived.BigQuiet
import Derived.Deep.QuietTactic
import Derived.Test.YtnjjfakjnkhhjaaGreatDoorShelf
import Derived.Deep.RegionWith
import Derived.BigRegion
set_option maxHeartbeats 1000000
set_option linter.all false
namespace Go.Proofs.YtnjjfakjnkhhjaaGreatDoor
def Bs : Nat := 4294967296
theorem Bs_eq : Bs = 4294967296 := rfl
theorem Bs_pos : 0 < Bs := by rw [Bs_eq]; omega
def dig (xs : List Nat) (i : Nat) : Nat := xs.getD i 0
def vt (d : Nat → Nat) : Nat → Nat
 | 0 => 0
 | k + 1 => vt d k + Bs ^ k * d k
def val (xs : List Nat) : Nat := vt (dig xs) xs.length
def Ok (xs : List Nat) : Prop := ∀ i, dig xs i < Bs
theorem dig_over {xs : List Nat} {i : Nat} (h : xs.length ≤ i) : dig xs i = 0 := by
 unfold dig; rw [List.getD_eq_getElem?_getD, List.getElem?_eq_none h]; rfl
theorem dig_get {xs : List Nat} {i : Nat} (h : i < xs.length) : dig xs i = xs[i] := by
 unfold dig; rw [List.getD_eq_getElem?_getD, List.getElem?_eq_getElem h]; rfl
theorem dig_set {xs : List Nat} {i x : Nat} (h : i < xs.length) (j : Nat) : dig (xs.set i x) j = if j = i then x else dig xs j := by
 unfold dig
 rw [List.getD_eq_getElem?_getD, List.getD_eq_getElem?_getD, List.getElem?_set]
 by_cases e : j = i
 ·subst e; simp [h]
 ·rw [if_neg (fun c => e c.symm), if_neg e]
theorem Ok.of_mem {xs : List Nat} (h : ∀ x ∈ xs, x < Bs) : Ok xs := by
 intro i
 by_cases hi : i < xs.length
 ·rw [dig_get hi]; exact h _ (List.getElem_mem hi)
 ·rw [dig_over (by omega)]; exact Bs_pos
theorem Ok.mem {xs : List Nat} (h : Ok xs) : ∀ x ∈ xs, x < Bs := by
 intro x hx
 obtain ⟨i, hi, rfl⟩ := List.getElem_of_mem hx
 rw [← dig_get hi]; exact h i
theorem Ok.set {xs : List Nat} (h : Ok xs) {i x : Nat} (hi : i < xs.length) (hx : x < Bs) : Ok (xs.set i x) := by
 intro j; rw [dig_set hi]; split
 ·exact hx
 ·exact h j
theorem Ok.zeros (n : Nat) : Ok (List.replicate n 0) := by
 apply Ok.of_mem; intro x hx; rw [List.mem_replicate] at hx; rw [hx.2]; exact Bs_pos
theorem dig_zeros (n i : Nat) : dig (List.replicate n 0) i = 0 := by
 unfold dig; rw [List.getD_eq_getElem?_getD, List.getElem?_replicate]; split <;> rfl
theorem dig_nil (i : Nat) : dig [] i = 0 := by unfold dig; simp
theorem dig_take (xs : List Nat) (n i : Nat) : dig (xs.take n) i = if i < n then dig xs i else 0 := by
 unfold dig; rw [List.getD_eq_getElem?_getD, List.getD_eq_getElem?_getD, List.getElem?_take]; split <;> simp_all
theorem dig_drop (xs : List Nat) (n i : Nat) : dig (xs.drop n) i = dig xs (n + i) := by
 unfold dig; rw [List.getD_eq_getElem?_getD, List.getD_eq_getElem?_getD, List.getElem?_drop]
theorem Ok.take {xs : List Nat} (h : Ok xs) (n : Nat) : Ok (xs.take n) := by
 intro i; rw [dig_take]; split
 ·exact h i
 ·exact Bs_pos
theorem Ok.drop {xs : List Nat} (h : Ok xs) (n : Nat) : Ok (xs.drop n) := by intro i; rw [dig_drop]; exact h _
theorem dig_cons_zero (x : Nat) (xs : List Nat) : dig (x :: xs) 0 = x := rfl
theorem dig_cons_succ (x : Nat) (xs : List Nat) (i : Nat) : dig (x :: xs) (i + 1) = dig xs i := by simp [dig]
theorem list_ext_dig {xs ys : List Nat} (hl : xs.length = ys.length) (h : ∀ i, i < xs.length → dig xs i = dig ys i) : xs = ys := by
 apply List.ext_getElem hl
 intro i h1 h2
 rw [← dig_get h1, ← dig_get h2]; exact h i h1
theorem vt_congr {d e : Nat → Nat} : ∀ k, (∀ i, i < k → d i = e i) → vt d k = vt e k
 | 0, _ => rfl
 | k + 1, h => by
  unfold vt
  rw [vt_congr k (fun i hi => h i (by omega)), h k (by omega)]
theorem vt_add (d : Nat → Nat) (m : Nat) : ∀ k, vt d (m + k) = vt d m + Bs ^ m * vt (fun i => d (m + i)) k
 | 0 => by simp [vt]
 | k + 1 => by
  show vt d (m + k) + Bs ^ (m + k) * d (m + k) = vt d m + Bs ^ m * (vt (fun i => d (m + i)) k + Bs ^ k * d (m + k))
  rw [vt_add d m k, Nat.pow_add, Nat.mul_add, Nat.mul_assoc, Nat.add_assoc]
theorem vt_zero {d : Nat → Nat} : ∀ k, (∀ i, i < k → d i = 0) → vt d k = 0
 | 0, _ => rfl
 | k + 1, h => by
  unfold vt
  rw [vt_zero k (fun i hi => h i (by omega)), h k (by omega)]; rfl
theorem vt_lt {d : Nat → Nat} : ∀ k, (∀ i, i < k → d i < Bs) → vt d k < Bs ^ k
 | 0, _ => by simp [vt]
 | k + 1, h => by
  unfold vt
  have h1 := vt_lt k (fun i hi => h i (by omega))
  have h2 := h k (by omega)
  have h3 : Bs ^ k * (d k + 1) ≤ Bs ^ k * Bs := Nat.mul_le_mul (Nat.le_refl _) h2
  rw [Nat.mul_add, Nat.mul_one] at h3
  rw [Nat.pow_succ]; omega
theorem val_eq_vt {xs : List Nat} {k : Nat} (h : xs.length ≤ k) : vt (dig xs) k = val xs := by
 obtain ⟨j, rfl⟩ : ∃ j, k = xs.length + j := ⟨k - xs.length, by omega⟩
 rw [vt_add, vt_zero j (fun i _ => dig_over (by omega))]; rfl
theorem val_lt {xs : List Nat} (h : Ok xs) : val xs < Bs ^ xs.length := vt_lt _ fun i _ => h i
theorem val_nil : val [] = 0 := rfl
theorem val_cons (x : Nat) (xs : List Nat) : val (x :: xs) = x + Bs * val xs := by
 have h : val (x :: xs) = vt (dig (x :: xs)) (1 + xs.length) := by unfold val; rw [List.length_cons, Nat.add_comm]
 rw [h, vt_add]
 have e1 : vt (dig (x :: xs)) 1 = x := by simp [vt, dig_cons_zero]
 rw [e1, Nat.pow_one, vt_congr (e := dig xs) xs.length (fun i _ => by rw [Nat.add_comm]; exact dig_cons_succ x xs i)]
 rfl
theorem val_single (x : Nat) : val [x] = x := by rw [val_cons, val_nil]; omega
theorem val_zeros (n : Nat) : val (List.replicate n 0) = 0 := vt_zero _ fun i _ => dig_zeros n i
theorem vt_take (xs : List Nat) (k : Nat) : vt (dig xs) k = val (xs.take k) := by
 by_cases h : k ≤ xs.length
 ·unfold val
  rw [List.length_take, Nat.min_eq_left h]
  exact vt_congr k fun i hi => by rw [dig_take, if_pos hi]
 ·rw [List.take_of_length_le (by omega)]; exact val_eq_vt (by omega)
theorem val_split (xs : List Nat) (k : Nat) : val xs = vt (dig xs) k + Bs ^ k * val (xs.drop k) := by
 by_cases h : k ≤ xs.length
 ·have e : val xs = vt (dig xs) (k + (xs.drop k).length) := by rw [val_eq_vt (by rw [List.length_drop]; omega)]
  rw [e, vt_add]; unfold val
  rw [vt_congr (e := dig (xs.drop k)) _ (fun i _ => (dig_drop xs k i).symm)]
 ·rw [List.drop_eq_nil_of_le (by omega), val_nil, Nat.mul_zero, Nat.add_zero, val_eq_vt (by omega)]
theorem val_drop_succ (xs : List Nat) (i : Nat) : val (xs.drop i) = dig xs i + Bs * val (xs.drop (i + 1)) := by
 by_cases h : i < xs.length
 ·rw [List.drop_eq_getElem_cons h, val_cons, dig_get h]
 ·rw [List.drop_eq_nil_of_le (by omega), List.drop_eq_nil_of_le (by omega), dig_over (by omega), val_nil, Nat.mul_zero]
theorem dig_val {xs : List Nat} (h : Ok xs) (i : Nat) : dig xs i = val xs / Bs ^ i % Bs := by
 have h1 := val_split xs i
 have h2 : vt (dig xs) i < Bs ^ i := vt_lt i fun j _ => h j
 have h3 : val xs / Bs ^ i = val (xs.drop i) := by
  rw [h1, Nat.add_mul_div_left _ _ (Nat.pow_pos Bs_pos), Nat.div_eq_of_lt h2, Nat.zero_add]
 rw [h3, val_drop_succ, Nat.add_mul_mod_self_left, Nat.mod_eq_of_lt (h i)]
theorem val_drop {xs : List Nat} (h : Ok xs) (i : Nat) : val (xs.drop i) = val xs / Bs ^ i := by
 have h1 := val_split xs i
 have h2 : vt (dig xs) i < Bs ^ i := vt_lt i fun j _ => h j
 rw [h1, Nat.add_mul_div_left _ _ (Nat.pow_pos Bs_pos), Nat.div_eq_of_lt h2, Nat.zero_add]
theorem vt_mod {xs : List Nat} (h : Ok xs) (i : Nat) : vt (dig xs) i = val xs % Bs ^ i := by
 have h1 := val_split xs i
 have h2 : vt (dig xs) i < Bs ^ i := vt_lt i fun j _ => h j
 rw [h1, Nat.add_mul_mod_self_left, Nat.mod_eq_of_lt h2]
theorem eq_of_val {xs ys : List Nat} (hx : Ok xs) (hy : Ok ys) (hl : xs.length = ys.length) (h : val xs = val ys) : xs = ys := by
 apply list_ext_dig hl
 intro i _
 rw [dig_val hx, dig_val hy, h]
def lim (n : Nat) : List Nat := if _h : n = 0 then [] else n % Bs :: lim (n / Bs)
 termination_by n
 decreasing_by exact Nat.div_lt_self (by omega) (by rw [Bs_eq]; omega)
theorem lim_zero : lim 0 = [] := by rw [lim]; simp
theorem lim_pos {n : Nat} (h : n ≠ 0) : lim n = n % Bs :: lim (n / Bs) := by rw [lim]; simp [h]
theorem val_lim (n : Nat) : val (lim n) = n := by
 induction n using Nat.strongRecOn with
 | _ n ih =>
  by_cases h : n = 0
  ·subst h; rw [lim_zero, val_nil]
  ·rw [lim_pos h, val_cons, ih _ (Nat.div_lt_self (by omega) (by rw [Bs_eq]; omega))]
   exact Nat.mod_add_div n Bs
theorem ok_lim (n : Nat) : Ok (lim n) := by
 apply Ok.of_mem
 induction n using Nat.strongRecOn with
 | _ n ih =>
  by_cases h : n = 0
  ·subst h; rw [lim_zero]; intro x hx; cases hx
  ·rw [lim_pos h]
   intro x hx
   rcases List.mem_cons.1 hx with rfl | hx
   ·exact Nat.mod_lt _ Bs_pos
   ·exact ih _ (Nat.div_lt_self (by omega) (by rw [Bs_eq]; omega)) x hx
theorem lim_nil_iff {n : Nat} : lim n = [] ↔ n = 0 := by
 constructor
 ·intro h; rw [← val_lim n, h, val_nil]
 ·rintro rfl; exact lim_zero
def ln (n : Nat) : Nat := (lim n).length
theorem ln_zero : ln 0 = 0 := by unfold ln; rw [lim_zero]; rfl
theorem ln_pos {n : Nat} (h : n ≠ 0) : ln n = ln (n / Bs) + 1 := by unfold ln; rw [lim_pos h]; rfl
theorem ln_zero_iff {n : Nat} : ln n = 0 ↔ n = 0 := by unfold ln; rw [List.length_eq_zero_iff]; exact lim_nil_iff
theorem lt_pow_ln (n : Nat) : n < Bs ^ ln n := by
 have := val_lt (ok_lim n); rw [val_lim] at this; exact this
theorem pow_ln_le {n : Nat} (h : n ≠ 0) : Bs ^ (ln n - 1) ≤ n := by
 induction n using Nat.strongRecOn with
 | _ n ih =>
  rw [ln_pos h, Nat.add_sub_cancel]
  by_cases h0 : n / Bs = 0
  ·rw [h0, ln_zero]; simpa using (by omega : 1 ≤ n)
  ·have h1 := ih _ (Nat.div_lt_self (by omega) (by rw [Bs_eq]; omega)) h0
   have h2 : ln (n / Bs) = (ln (n / Bs) - 1) + 1 := by
    have : ln (n / Bs) ≠ 0 := fun e => h0 (ln_zero_iff.1 e)
    omega
   rw [h2, Nat.pow_succ]
   exact Nat.le_trans (Nat.mul_le_mul h1 (Nat.le_refl _)) (Nat.div_mul_le_self n Bs)
theorem ln_le_of_lt {n k : Nat} (h : n < Bs ^ k) : ln n ≤ k := by
 by_cases h0 : n = 0
 ·subst h0; rw [ln_zero]; omega
 ·have h1 := pow_ln_le h0
  have h2 : Bs ^ (ln n - 1) < Bs ^ k := by omega
  have h3 : ln n - 1 < k := (Nat.pow_lt_pow_iff_right (by rw [Bs_eq]; omega)).1 h2
  omega
theorem lt_ln_of_le {n k : Nat} (h : Bs ^ k ≤ n) : k < ln n := by
 have h1 := lt_pow_ln n
 exact (Nat.pow_lt_pow_iff_right (by rw [Bs_eq]; omega)).1 (Nat.lt_of_le_of_lt h h1)
theorem ln_mono {m n : Nat} (h : m ≤ n) : ln m ≤ ln n := ln_le_of_lt (Nat.lt_of_le_of_lt h (lt_pow_ln n))
theorem top_lim {n : Nat} (h : n ≠ 0) : dig (lim n) (ln n - 1) ≠ 0 := by
 intro h0
 have hl : ln n ≠ 0 := fun e => h (ln_zero_iff.1 e)
 have h1 : val (lim n) = vt (dig (lim n)) (ln n - 1 + 1) := by rw [Nat.sub_add_cancel (by omega)]; rfl
 rw [val_lim] at h1
 have h2 : vt (dig (lim n)) (ln n - 1 + 1) = vt (dig (lim n)) (ln n - 1) + Bs ^ (ln n - 1) * dig (lim n) (ln n - 1) := rfl
 rw [h0, Nat.mul_zero, Nat.add_zero] at h2
 have h3 : vt (dig (lim n)) (ln n - 1) < Bs ^ (ln n - 1) := vt_lt _ fun i _ => ok_lim n i
 have := pow_ln_le h
 omega
theorem lim_take {xs : List Nat} (hx : Ok xs) {n : Nat} (hn : n ≤ xs.length) (hz : ∀ j, n ≤ j → j < xs.length → dig xs j = 0) (ht : n = 0 ∨ dig xs (n - 1) ≠ 0) : ln (val xs) = n ∧ lim (val xs) = xs.take n := by
 have hv : val xs = vt (dig xs) n := by
  have h := val_split xs n
  have h0 : val (xs.drop n) = 0 := vt_zero _ fun i hi => by
   rw [dig_drop]; rw [List.length_drop] at hi; exact hz _ (by omega) (by omega)
  rw [h0] at h; omega
 have hl : ln (val xs) = n := by
  rcases Nat.eq_zero_or_pos n with rfl | hn0
  ·rw [hv]; exact ln_zero
  ·have ht : dig xs (n - 1) ≠ 0 := by exact ht.resolve_left (by omega)
   have h1 : ln (val xs) ≤ n := ln_le_of_lt (by rw [hv]; exact vt_lt _ fun i _ => hx i)
   have h3 : n - 1 < ln (val xs) := by
    apply lt_ln_of_le
    rw [hv, show n = n - 1 + 1 from by omega]
    show Bs ^ (n - 1 + 1 - 1) ≤ vt (dig xs) (n - 1) + Bs ^ (n - 1) * dig xs (n - 1)
    rw [Nat.add_sub_cancel]
    have h4 : Bs ^ (n - 1) * 1 ≤ Bs ^ (n - 1) * dig xs (n - 1) := Nat.mul_le_mul (Nat.le_refl _) (by omega)
    omega
   omega
 refine ⟨hl, eq_of_val (ok_lim _) (hx.take n) ?_ ?_⟩
 ·rw [List.length_take, Nat.min_eq_left hn]; exact hl
 ·rw [val_lim, ← vt_take, hv]
theorem ln_val_le {xs : List Nat} (hx : Ok xs) : ln (val xs) ≤ xs.length := ln_le_of_lt (val_lt hx)
theorem lim_val_take {xs : List Nat} (hx : Ok xs) : lim (val xs) = xs.take (ln (val xs)) := by
 have h := ln_val_le hx
 apply eq_of_val (ok_lim _) (hx.take _)
 ·rw [List.length_take, Nat.min_eq_left h]; rfl
 ·rw [val_lim, ← vt_take, vt_mod hx, Nat.mod_eq_of_lt (lt_pow_ln _)]
theorem lim_single {x : Nat} (h0 : x ≠ 0) (h : x < Bs) : lim x = [x] := by
 rw [lim_pos h0, Nat.mod_eq_of_lt h, Nat.div_eq_of_lt h, lim_zero]
theorem lt_of_ln_lt {m n : Nat} (h : ln m < ln n) : m < n := by
 apply Nat.lt_of_not_le; intro c; have := ln_mono c; omega
theorem vt_lt_of_top {d e : Nat → Nat} {i k : Nat} (hd : ∀ j, d j < Bs) (hi : i < k) (heq : ∀ j, i < j → j < k → d j = e j) (hlt : d i < e i) : vt d k < vt e k := by
 obtain ⟨j, rfl⟩ : ∃ j, k = i + 1 + j := ⟨k - (i + 1), by omega⟩
 rw [vt_add d (i + 1), vt_add e (i + 1), vt_congr (e := fun n => e (i + 1 + n)) j (fun n hn => heq _ (by omega) (by omega))]
 have h1 : vt d (i + 1) = vt d i + Bs ^ i * d i := rfl
 have h2 : vt e (i + 1) = vt e i + Bs ^ i * e i := rfl
 have h3 : vt d i < Bs ^ i := vt_lt i fun n _ => hd n
 have h4 : Bs ^ i * (d i + 1) ≤ Bs ^ i * e i := Nat.mul_le_mul (Nat.le_refl _) hlt
 rw [Nat.mul_add, Nat.mul_one] at h4
 omega
def cmpN (m n : Nat) : Int := if m < n then -1 else if m = n then 0 else 1
theorem cmpN_lt {m n : Nat} (h : m < n) : cmpN m n = -1 := by unfold cmpN; rw [if_pos h]
theorem cmpN_eq {m n : Nat} (h : m = n) : cmpN m n = 0 := by unfold cmpN; rw [if_neg (by omega), if_pos h]
theorem cmpN_gt {m n : Nat} (h : n < m) : cmpN m n = 1 := by unfold cmpN; rw [if_neg (by omega), if_neg (by omega)]
theorem cmpN_self (m : Nat) : cmpN m m = 0 := cmpN_eq rfl
theorem cmpN_neg_iff (m n : Nat) : cmpN m n < 0 ↔ m < n := by unfold cmpN; split <;> (try split) <;> omega
def nb (n : Nat) : Nat := if n = 0 then 0 else n.log2 + 1
theorem nb_zero : nb 0 = 0 := rfl
theorem nb_pos {n : Nat} (h : n ≠ 0) : nb n = n.log2 + 1 := by unfold nb; rw [if_neg h]
theorem lt_pow_nb (n : Nat) : n < 2 ^ nb n := by
 unfold nb; split
 ·subst_vars; simp
 ·exact Nat.lt_log2_self
theorem pow_nb_le {n : Nat} (h : n ≠ 0) : 2 ^ (nb n - 1) ≤ n := by rw [nb_pos h]; simpa using Nat.log2_self_le h
theorem nb_le_of_lt {n k : Nat} (h : n < 2 ^ k) : nb n ≤ k := by
 by_cases h0 : n = 0
 ·subst h0; rw [nb_zero]; omega
 ·have h1 := pow_nb_le h0
  have h3 : nb n - 1 < k := (Nat.pow_lt_pow_iff_right (by omega)).1 (Nat.lt_of_le_of_lt h1 h)
  omega
theorem lt_nb_of_le {n k : Nat} (h : 2 ^ k ≤ n) : k < nb n := (Nat.pow_lt_pow_iff_right (by omega)).1 (Nat.lt_of_le_of_lt h (lt_pow_nb n))
theorem nb_zero_iff {n : Nat} : nb n = 0 ↔ n = 0 := by
 constructor
 ·intro h; have := lt_pow_nb n; rw [h] at this; simpa using this
 ·rintro rfl; rfl
theorem nb_unique {n k : Nat} (h1 : n < 2 ^ (k + 1)) (h2 : 2 ^ k ≤ n) : nb n = k + 1 := by
 have a := nb_le_of_lt h1
 have b := lt_nb_of_le h2
 omega
theorem nb_half {n : Nat} (h : n ≠ 0) : nb n = nb (n / 2) + 1 := by
 by_cases h1 : n / 2 = 0
 ·rw [h1, nb_zero]; have : n = 1 := by omega
  subst this; rfl
 ·rw [nb_pos h1]
  apply nb_unique
  ·have := Nat.lt_log2_self (n := n / 2)
   rw [Nat.pow_succ]; omega
  ·have := Nat.log2_self_le h1
   rw [Nat.pow_succ]; omega
theorem nb_join {t r k : Nat} (ht : t ≠ 0) (hr : r < 2 ^ k) : nb (t * 2 ^ k + r) = nb t + k := by
 have h1 := lt_pow_nb t
 have h2 := pow_nb_le ht
 have h3 : nb t ≠ 0 := fun e => ht (nb_zero_iff.1 e)
 rw [show nb t + k = (nb t - 1 + k) + 1 from by omega]
 apply nb_unique
 ·rw [show nb t - 1 + k + 1 = nb t + k from by omega, Nat.pow_add]
  have : (t + 1) * 2 ^ k ≤ 2 ^ nb t * 2 ^ k := Nat.mul_le_mul h1 (Nat.le_refl _)
  rw [Nat.add_mul, Nat.one_mul] at this; omega
 ·rw [Nat.pow_add]
  have : 2 ^ (nb t - 1) * 2 ^ k ≤ t * 2 ^ k := Nat.mul_le_mul h2 (Nat.le_refl _)
  omega
theorem nb_mul_pow {n : Nat} (h : n ≠ 0) (k : Nat) : nb (n * 2 ^ k) = nb n + k := by
 have := nb_join (t := n) (r := 0) (k := k) h (Nat.two_pow_pos k); simpa using this
def tz (n : Nat) : Nat := if _h : n = 0 then 0 else if n % 2 = 1 then 0 else tz (n / 2) + 1
 termination_by n
 decreasing_by omega
theorem tz_zero : tz 0 = 0 := by rw [tz]; simp
theorem tz_odd {n : Nat} (h : n % 2 = 1) : tz n = 0 := by rw [tz]; simp [h]
theorem tz_even {n : Nat} (h0 : n ≠ 0) (h : n % 2 = 0) : tz n = tz (n / 2) + 1 := by rw [tz]; simp [h0, h]
theorem tz_of (k m : Nat) : tz (2 ^ k * (2 * m + 1)) = k := by
 induction k with
 | zero => rw [tz_odd]; omega
 | succ k ih =>
  have hp : 0 < 2 ^ k := Nat.two_pow_pos k
  have e : 2 ^ (k + 1) * (2 * m + 1) = 2 * (2 ^ k * (2 * m + 1)) := by rw [Nat.pow_succ, Nat.mul_comm (2 ^ k) 2, Nat.mul_assoc]
  rw [tz_even, e, Nat.mul_div_cancel_left _ (by omega), ih]
  ·rw [e]; exact Nat.mul_ne_zero (by omega) (Nat.mul_ne_zero (by omega) (by omega))
  ·rw [e]; omega
theorem tz_spec {n : Nat} (h : n ≠ 0) : ∃ m, n = 2 ^ tz n * (2 * m + 1) := by
 induction n using Nat.strongRecOn with
 | _ n ih =>
  by_cases h1 : n % 2 = 1
  ·exact ⟨n / 2, by rw [tz_odd h1]; omega⟩
  ·obtain ⟨m, hm⟩ := ih (n / 2) (by omega) (by omega)
   refine ⟨m, ?_⟩
   rw [tz_even h (by omega), Nat.pow_succ, Nat.mul_comm (2 ^ tz (n / 2)) 2, Nat.mul_assoc, ← hm]; omega
theorem tz_mul_pow {n : Nat} (h : n ≠ 0) (k : Nat) : tz (n * 2 ^ k) = tz n + k := by
 obtain ⟨m, hm⟩ := tz_spec h
 have e : n * 2 ^ k = 2 ^ (tz n + k) * (2 * m + 1) := by
  conv => lhs; rw [hm]
  rw [Nat.pow_add]; grind
 rw [e, tz_of]
theorem tz_lt_of_lt {n k : Nat} (h0 : n ≠ 0) (h : n < 2 ^ k) : tz n < k := by
 obtain ⟨m, hm⟩ := tz_spec h0
 have h1 : 2 ^ tz n * 1 ≤ 2 ^ tz n * (2 * m + 1) := Nat.mul_le_mul (Nat.le_refl _) (by omega)
 rw [← hm] at h1
 exact (Nat.pow_lt_pow_iff_right (a := 2) (by omega)).1 (by omega)
theorem Bs_pow : Bs = 2 ^ 32 := by rw [Bs_eq]
theorem Bs_pow_eq (k : Nat) : Bs ^ k = 2 ^ (32 * k) := by rw [Bs_pow, ← Nat.pow_mul]
end Go.Proofs.YtnjjfakjnkhhjaaGreatDoor
namespace Go.Proofs.YtnjjfakjnkhhjaaGreatDoor
open Go.RowKit
abbrev d32 (x : Nat) : Value := .int .u32 (x : Int)
def Lm (w : World) (A : Option Addr) (n c : Nat) (xs : List Nat) : Prop :=
 (xs.length = n ∧ n ≤ c ∧ n ≤ 1000000000000) ∧ Ok xs ∧ (0 < n → ∃ b o, A = some ⟨b, o, none⟩ ∧ b < w.heap.size ∧ ∀ j, j < n → w.cell? ⟨b, o + j, none⟩ = some (d32 (dig xs j)))
section
variable {w w' : World} {A : Option Addr} {n c : Nat} {xs : List Nat}
theorem Lm.len (h : Lm w A n c xs) : xs.length = n := h.1.1
theorem Lm.ok (h : Lm w A n c xs) : Ok xs := h.2.1
theorem Lm.cap (h : Lm w A n c xs) : n ≤ c := h.1.2.1
theorem Lm.big (h : Lm w A n c xs) : n ≤ 1000000000000 := h.1.2.2
theorem Lm.at_ (h : Lm w A n c xs) {k : Nat} (hk : k < n) : ∃ b o, A = some ⟨b, o, none⟩ ∧ b < w.heap.size ∧ ∀ j, j < n → w.cell? ⟨b, o + j, none⟩ = some (d32 (dig xs j)) := h.2.2 (by omega)
theorem Lm.nil (w : World) : Lm w none 0 0 [] := ⟨⟨rfl, Nat.le_refl _, by omega⟩, fun i => by rw [dig_nil]; exact Bs_pos, fun h => absurd h (by omega)⟩
theorem Lm.keep (h : Lm w A n c xs) (hs : w.heap.size ≤ w'.heap.size) (hk : ∀ b o, b < w.heap.size → w'.cell? ⟨b, o, none⟩ = w.cell? ⟨b, o, none⟩) : Lm w' A n c xs :=
 ⟨h.1, h.2.1, fun hn => by
  obtain ⟨b, o, e, hb, hc⟩ := h.2.2 hn
  exact ⟨b, o, e, by omega, fun j hj => (hk _ _ hb).trans (hc j hj)⟩⟩
theorem Lm.below {B : Nat} (h : Lm w A n c xs) (hb : Below B w w') (hB : w.heap.size ≤ B) : Lm w' A n c xs := h.keep hb.size fun b o h => hb.cell (p := ⟨b, o, none⟩) (by show b < B; omega)
theorem Lm.bel (h : Lm w A n c xs) (hb : Below w.heap.size w w') : Lm w' A n c xs := h.below hb (Nat.le_refl _)
theorem Lm.take (h : Lm w A n c xs) {m : Nat} (hm : m ≤ n) : Lm w A m c (xs.take m) := by
 refine ⟨⟨by rw [List.length_take, h.len]; omega, by have := h.cap; omega, by have := h.big; omega⟩, h.ok.take m, fun hn => ?_⟩
 obtain ⟨b, o, e, hb, hc⟩ := h.2.2 (by omega)
 exact ⟨b, o, e, hb, fun j hj => by rw [dig_take, if_pos hj]; exact hc j (by omega)⟩
theorem Lm.under (h : Lm w A n c xs) : 0 < n → ∀ b o, A = some ⟨b, o, none⟩ → b < w.heap.size := by
 intro hn b o e
 obtain ⟨b', o', e', hb, _⟩ := h.2.2 hn
 rw [e'] at e
 injection e with e
 injection e with e1
 omega
theorem Lm.cut (h : Lm w A n c xs) : Lm w A (ln (val xs)) c (lim (val xs)) := by
 rw [lim_val_take h.ok]
 exact h.take (by have := ln_val_le h.ok; rw [h.len] at this; exact this)
end
end Go.Proofs.YtnjjfakjnkhhjaaGreatDoor
namespace Go.Proofs.YtnjjfakjnkhhjaaGreatDoor
open Go
def brw (x y d : Nat) : Nat := if x < y + d then 1 else 0
theorem brw_le (x y d : Nat) : brw x y d ≤ 1 := by unfold brw; split <;> omega
theorem top31 (n : Nat) (h : n < 4294967296) : n / 2147483648 = if n.testBit 31 then 1 else 0 := by
 rw [Nat.testBit_eq_decide_div_mod_eq]
 have : n / 2147483648 < 2 := by omega
 have e : n / 2 ^ 31 % 2 = n / 2147483648 := by omega
 rw [e]
 rcases (by omega : n / 2147483648 = 0 ∨ n / 2147483648 = 1) with h0 | h0 <;> rw [h0] <;> rfl
theorem bit31 (n : Nat) (h : n < 4294967296) : n.testBit 31 = decide (2147483648 ≤ n) := by
 rw [Nat.testBit_eq_decide_div_mod_eq, Bool.eq_iff_iff, decide_eq_true_iff, decide_eq_true_iff]; omega
theorem not32 (x : Nat) (h : x < 4294967296) : bits .xor .u32 IntKind.u32.max (x : Int) = ((4294967295 ^^^ x : Nat) : Int) := u32_xor_nat 4294967295 x (by omega) h
theorem not32_lt (x : Nat) (h : x < 4294967296) : 4294967295 ^^^ x < 4294967296 := Nat.xor_lt_two_pow (n := 32) (by omega) h
theorem borrow (x y d : Nat) (hx : x < 4294967296) (hy : y < 4294967296) (hd : d ≤ 1) :
  bits .or .u32 (bits .and .u32 (bits .xor .u32 IntKind.u32.max (x : Int)) (y : Int)) (bits .and .u32 (bits .xor .u32 IntKind.u32.max (bits .xor .u32 (x : Int) (y : Int))) (((x : Int) - y - d) % 4294967296)) / 2147483648 = ((brw x y d : Nat) : Int) := by
 obtain ⟨D, hD⟩ : ∃ D : Nat, D = (x + 4294967296 - y - d) % 4294967296 := ⟨_, rfl⟩
 have hDi : ((x : Int) - y - d) % 4294967296 = (D : Int) := by rw [hD]; omega
 have hDl : D < 4294967296 := by rw [hD]; omega
 have hxy : x ^^^ y < 4294967296 := Nat.xor_lt_two_pow (n := 32) hx hy
 have h1 : (4294967295 ^^^ x) &&& y < 4294967296 := Nat.and_lt_two_pow (n := 32) _ hy
 have h2 : (4294967295 ^^^ (x ^^^ y)) &&& D < 4294967296 := Nat.and_lt_two_pow (n := 32) _ hDl
 rw [hDi, u32_xor_nat x y hx hy, not32 x hx, not32 _ hxy, u32_and_nat _ _ (not32_lt x hx) hy, u32_and_nat _ _ (not32_lt _ hxy) hDl, u32_or_nat _ _ h1 h2]
 have h3 : ((4294967295 ^^^ x) &&& y) ||| ((4294967295 ^^^ (x ^^^ y)) &&& D) < 4294967296 := Nat.or_lt_two_pow (n := 32) h1 h2
 have h4 := top31 _ h3
 have hM : Nat.testBit 4294967295 31 = true := by decide
 rw [Nat.testBit_or, Nat.testBit_and, Nat.testBit_and, Nat.testBit_xor, Nat.testBit_xor, Nat.testBit_xor, hM, bit31 x hx, bit31 y hy, bit31 D hDl] at h4
 have h5 : ((((4294967295 ^^^ x) &&& y) ||| ((4294967295 ^^^ (x ^^^ y)) &&& D) : Nat) : Int) / 2147483648 = (((((4294967295 ^^^ x) &&& y) ||| ((4294967295 ^^^ (x ^^^ y)) &&& D)) / 2147483648 : Nat) : Int) := rfl
 rw [h5, h4]
 unfold brw
 by_cases c1 : 2147483648 ≤ x <;> by_cases c2 : 2147483648 ≤ y <;> by_cases c3 : 2147483648 ≤ D <;> simp [c1, c2, c3] <;> (try split) <;> omega
theorem join64 (hi lo : Nat) (h1 : hi < 4294967296) (h2 : lo < 4294967296) : bits .or .u64 ((hi : Int) * 4294967296) (lo : Int) = ((hi * Bs + lo : Nat) : Int) := by
 have e : ((hi : Int) * 4294967296) = ((hi * 4294967296 : Nat) : Int) := by omega
 rw [e, u64_or_nat _ _ (by omega) (by omega), nat_join 32 (hi * 4294967296) lo (by omega) (by omega)]; rfl
theorem libLen (n : Nat) (h : n < 2 ^ 64) : Lib.bitLen n = nb n := by
 induction n using Nat.strongRecOn with
 | _ n ih =>
  by_cases h0 : n = 0
  ·subst h0; rfl
  ·rw [Lib.bitLen_half n h0 h, ih (n / 2) (by omega) (by omega), nb_half h0]; omega
theorem nb_shift (x k : Nat) (h : x / 2 ^ k ≠ 0) : nb x = nb (x / 2 ^ k) + k := by
 have := nb_join (t := x / 2 ^ k) (r := x % 2 ^ k) (k := k) h (Nat.mod_lt _ (Nat.two_pow_pos k))
 rw [Nat.div_add_mod'] at this; exact this
theorem mul_lt_big {d y : Nat} (hd : d < Bs) (hy : y < Bs) : d * y ≤ 18446744065119617025 := by
 rw [Bs_eq] at hd hy
 have : d * y ≤ 4294967295 * 4294967295 := Nat.mul_le_mul (by omega) (by omega)
 omega
end Go.Proofs.YtnjjfakjnkhhjaaGreatDoor
namespace Go.Proofs.YtnjjfakjnkhhjaaGreatDoor
open Go.RowKit
theorem ret_slice {A : Option Addr} {m m' c : Nat} (h : m = m') : Ending.returned (.slice A m c) = .returned (.slice A m' c) := by rw [h]
theorem ret_int {k : IntKind} {a b : Int} (h : a = b) : Ending.returned (.int k a) = .returned (.int k b) := by rw [h]
theorem ret_bool {a b : Bool} (h : a = b) : Ending.returned (.bool a) = .returned (.bool b) := by rw [h]
theorem tup_ints {k l : IntKind} {a a' b b' : Int} (h : a = a') (h2 : b = b') : Ending.returned (.tuple #[.int k a, .int l b]) = .returned (.tuple #[.int k a', .int l b']) := by rw [h, h2]
theorem q_add {P : Program} {f : FuncId} {args : Array Value} {w : World} {a n : Nat} {v : Value}
  (h : Calls P f args (w.drewN (a + n)) fun e w' => e = .returned v ∧ w.drewN (a + n) = w') : Calls P f args (w.drewN (a + n)) fun e w'' => e = .returned v ∧ ∃ m, w'' = w.drewN (a + m) :=
 h.mono fun _ _ ⟨he, hm⟩ => ⟨he, n, hm.symm⟩
theorem cut_any (w : World) (A : Option Addr) (n c : Nat) (xs : List Nat) (h : Lm w A n c xs) :
  Calls Tryz.prog 208 #[.slice A n c] w fun e w' => e = .returned (.slice A (ln (val xs)) c) ∧ w = w' := by
 have hlen := Lib.hid h.len
 have hcap := h.cap
 have hnn := h.big
 go_enter Tryz.func208, Tryz.ntmps208
 go_wp2
 go_loop [3] (fun t => ∃ m : Nat, m ≤ n ∧ (∀ j, m ≤ j → j < n → dig xs j = 0) ∧ t = .int .i64 m) (fun t => (intOf t).toNat)
 case atStart => exact ⟨n, Nat.le_refl _, fun j h1 h2 => by omega, rfl⟩
 case round =>
  obtain ⟨m, hm, hz0, rfl⟩ := hrel
  have hz := Lib.hid hz0
  clear hz0
  by_cases hp : 0 < m
  ·obtain ⟨b, o, rfl, hb, hc0⟩ := h.at_ (k := m - 1) (by omega)
   have hc := hc0 (m - 1) (by omega)
   clear hc0
   by_cases hd : dig xs (m - 1) = 0
   ·rw [hd] at hc
    have hd' := Lib.hid hd
    clear hd
    go_wp2
    refine ⟨⟨m - 1, by omega, fun j h1 h2 => ?_, by congr 1; omega⟩, by simp [intOf]; omega⟩
    rcases Nat.lt_or_ge j m with h3 | h3
    ·rw [show j = m - 1 from by omega]; exact hd'.out
    ·exact hz.out j h3 h2
   ·go_wp2
    go_ret
    exact ⟨ret_slice (lim_take h.ok (by rw [hlen.out]; exact hm) (fun j h1 h2 => hz.out j h1 (by rw [hlen.out] at h2; exact h2)) (.inr hd)).1.symm, rfl⟩
  ·go_wp2
   go_ret
   exact ⟨ret_slice (lim_take h.ok (by rw [hlen.out]; exact hm) (fun j h1 h2 => hz.out j h1 (by rw [hlen.out] at h2; exact h2)) (.inl (by omega))).1.symm, rfl⟩
theorem cut_lm (w : World) (A : Option Addr) (n c : Nat) (xs : List Nat) (h : Lm w A n c xs) :
  Calls Tryz.prog 208 #[.slice A n c] w fun e w' => ∃ m, e = .returned (.slice A m c) ∧ Lm w A m c (lim (val xs)) ∧ m ≤ n ∧ w = w' :=
 (cut_any w A n c xs h).mono fun _ _ ⟨he, hw⟩ => ⟨_, he, h.cut, by have := ln_val_le h.ok; rw [h.len] at this; exact this, hw⟩
theorem at_any (w : World) (A : Option Addr) (n c : Nat) (xs : List Nat) (i : Nat) (h : Lm w A n c xs) (_hi : i ≤ 2000000000000) :
  Calls Tryz.prog 234 #[.slice A n c, .int .i64 i] w fun e w' => e = .returned (d32 (dig xs i)) ∧ w = w' := by
 have hcap := h.cap
 have hbig := h.big
 by_cases hlt : i < n
 ·obtain ⟨b, o, rfl, hb, hc0⟩ := h.at_ hlt
  have hc := hc0 i hlt
  clear hc0
  go_enter Tryz.func234, Tryz.ntmps234
  go_wp2
  go_ret
  exact ⟨rfl, rfl⟩
 ·have hz : dig xs i = 0 := dig_over (by rw [h.len]; omega)
  rw [hz]
  clear hz
  go_enter Tryz.func234, Tryz.ntmps234
  go_wp2
  go_ret
  exact ⟨rfl, rfl⟩
theorem add32_any (w : World) (x y d : Nat) (hx : x < Bs) (hy : y < Bs) (hd : d < Bs) :
  Calls Tryz.prog 233 #[d32 x, d32 y, d32 d] w fun e w' => e = .returned (.tuple #[d32 ((x + y + d) % Bs), d32 ((x + y + d) / Bs)]) ∧ w = w' := by
 rw [Bs_eq] at hx hy hd
 go_enter Tryz.func233, Tryz.ntmps233
 go_wp2
 go_ret2
 refine ⟨tup_ints ?_ ?_, rfl⟩ <;> (rw [Bs_eq]; omega)
theorem sub32_any (w : World) (x y d : Nat) (hx : x < Bs) (hy : y < Bs) (hd : d ≤ 1) :
  Calls Tryz.prog 235 #[d32 x, d32 y, d32 d] w fun e w' => e = .returned (.tuple #[d32 ((x + Bs - y - d) % Bs), d32 (brw x y d)]) ∧ w = w' := by
 rw [Bs_eq] at hx hy
 go_enter Tryz.func235, Tryz.ntmps235
 go_wp2
 go_ret2
 refine ⟨tup_ints ?_ (borrow x y d hx hy hd), rfl⟩
 rw [Bs_eq]; omega
theorem div32_any (w : World) (hi lo y : Nat) (hx : hi < y) (hl : lo < Bs) (hy : y < Bs) :
  Calls Tryz.prog 247 #[d32 hi, d32 lo, d32 y] w fun e w' => e = .returned (.tuple #[d32 ((hi * Bs + lo) / y), d32 ((hi * Bs + lo) % y)]) ∧ ∃ nq, w' = w.drewN nq := by
 rw [Bs_eq] at hl hy
 have hj := join64 hi lo (by omega) hl
 have hz : hi * Bs + lo < 18446744073709551616 := by rw [Bs_eq]; omega
 generalize hZ : hi * Bs + lo = Z at *
 have HZ := Lib.hid hZ
 clear hZ
 go_enter Tryz.func247, Tryz.ntmps247
 go_wp2
 go_quiet (fail)
 go_wp2
 go_ret2
 have h1 : Z / y < 4294967296 := by
  rw [Nat.div_lt_iff_lt_mul (by omega), ← HZ.out, Bs_eq]
  have : (hi + 1) * 4294967296 ≤ y * 4294967296 := Nat.mul_le_mul hx (Nat.le_refl _)
  rw [Nat.mul_comm 4294967296 y]; omega
 have h2 : Z % y < y := Nat.mod_lt _ (by omega)
 refine ⟨tup_ints ?_ ?_, ⟨_, rfl⟩⟩
 ·rw [show ((Z : Int) / (y : Int)) = ((Z / y : Nat) : Int) from rfl, IntKind.wrap_u64]
  generalize Z / y = q at *; omega
 ·rw [show ((Z : Int) % (y : Int)) = ((Z % y : Nat) : Int) from rfl]
  generalize Z % y = q at *; omega
theorem compare_int (w : World) (x y : Nat) : Calls Tryz.prog 150 #[.int .i64 x, .int .i64 y] w fun e w' => e = .returned (.int .i64 (cmpN x y)) ∧ w = w' := by
 rcases Nat.lt_trichotomy x y with h | h | h
 ·rw [cmpN_lt h]
  go_enter Tryz.func150, Tryz.ntmps150
  go_wp2
  go_ret
  exact ⟨rfl, rfl⟩
 ·subst h
  rw [cmpN_self]
  go_enter Tryz.func150, Tryz.ntmps150
  go_wp2
  go_ret
  exact ⟨rfl, rfl⟩
 ·rw [cmpN_gt h]
  go_enter Tryz.func150, Tryz.ntmps150
  go_wp2
  go_ret
  exact ⟨rfl, rfl⟩
theorem compare_u32 (w : World) (x y : Nat) : Calls Tryz.prog 211 #[.int .u32 x, .int .u32 y] w fun e w' => e = .returned (.int .i64 (cmpN x y)) ∧ w = w' := by
 rcases Nat.lt_trichotomy x y with h | h | h
 ·rw [cmpN_lt h]
  go_enter Tryz.func211, Tryz.ntmps211
  go_wp2
  go_ret
  exact ⟨rfl, rfl⟩
 ·subst h
  rw [cmpN_self]
  go_enter Tryz.func211, Tryz.ntmps211
  go_wp2
  go_ret
  exact ⟨rfl, rfl⟩
 ·rw [cmpN_gt h]
  go_enter Tryz.func211, Tryz.ntmps211
  go_wp2
  go_ret
  exact ⟨rfl, rfl⟩
def heldN (n : Int) : Nat := (min (max n 0) 100000).toNat
theorem heldN_le (n : Int) : heldN n ≤ 100000 := by unfold heldN; omega
theorem heldN_cast (n : Int) : (heldN n : Int) = min (max n 0) 100000 := by unfold heldN; omega
theorem held_any (w : World) (n : Int) : Calls Tryz.prog 243 #[.int .i64 n] w fun e w' => e = .returned (.int .i64 (heldN n)) ∧ w = w' := by
 go_enter Tryz.func243, Tryz.ntmps243
 go_wp2
 go_ret
 exact ⟨ret_int (heldN_cast n).symm, rfl⟩
end Go.Proofs.YtnjjfakjnkhhjaaGreatDoor
namespace Go.Proofs.YtnjjfakjnkhhjaaGreatDoor
open Go.RowKit
def Own (w : World) (g : Nat) (L : List Nat) : Prop := w.heap[g]? = some (.cells (L.map d32).toArray 124 (0, 0))
section
variable {w w' : World} {g : Nat} {L : List Nat}
theorem Own.lt (h : Own w g L) : g < w.heap.size := by
 apply Nat.lt_of_not_le; intro c; unfold Own at h; rw [Array.getElem?_eq_none c] at h; cases h
theorem Own.cell (h : Own w g L) {i : Nat} (hi : i < L.length) : w.cell? ⟨g, i, none⟩ = some (d32 (dig L i)) := by
 rw [cell_of_row w g i _ _ _ h, dig_get hi]; simp [hi]
theorem Own.free (h : Own w g L) (i : Nat) : w.frozen? ⟨g, i, none⟩ = false := by
 unfold Own at h; simp [World.frozen?, h]
theorem Own.set_ (h : Own w g L) (i x : Nat) : Own (w.setCell ⟨g, i, none⟩ (d32 x)) g (L.set i x) := by
 unfold Own at h ⊢
 simp [World.setCell, Array.getElem?_modify, h]
theorem Own.far (h : Own w g L) {p : Addr} (hp : g ≠ p.block) (u : Value) : Own (w.setCell p u) g L := (Below.heap_setCell w p u g hp).trans h
theorem Own.alloc (h : Own w g L) (o : Obj) : Own (w.alloc o) g L := (Below.heap_alloc w o g h.lt).trans h
theorem Own.below {B : Nat} (h : Own w g L) (hb : Below B w w') (hg : g < B) : Own w' g L := (hb.block g hg).trans h
theorem Own.bel (h : Own w g L) (hb : Below w.heap.size w w') : Own w' g L := h.below hb h.lt
theorem Own.list (w : World) (L : List Nat) : Own (w.alloc (.cells (L.map d32).toArray 124)) w.heap.size L := heap_alloc_new w _
theorem Own.lm (h : Own w g L) (hO : Ok L) (hl : L.length ≤ 1000000000000) : Lm w (some ⟨g, 0, none⟩) L.length L.length L :=
 ⟨⟨rfl, Nat.le_refl _, hl⟩, hO, fun _ => ⟨g, 0, rfl, h.lt, fun j hj => by rw [Nat.zero_add]; exact h.cell hj⟩⟩
end
theorem Lm.far {w : World} {A : Option Addr} {n c : Nat} {xs : List Nat} (h : Lm w A n c xs) {p : Addr} (hp : ∀ b o, A = some ⟨b, o, none⟩ → 0 < n → b ≠ p.block) (u : Value) : Lm (w.setCell p u) A n c xs :=
 ⟨h.1, h.2.1, fun hn => by
  obtain ⟨b, o, e, hb, hc⟩ := h.2.2 hn
  refine ⟨b, o, e, by simpa [World.setCell] using hb, fun j hj => ?_⟩
  rw [World.cell?_of_block (w := w) (a := ⟨b, o + j, none⟩) (Below.heap_setCell w p u b (hp b o e hn))]
  exact hc j hj⟩
structure Oth (g : Nat) (w w' : World) : Prop where
 os : w'.os = w.os
 tape : w'.tape = w.tape
 output : w'.output = w.output
 size : w'.heap.size = w.heap.size
 block : ∀ k, k ≠ g → w'.heap[k]? = w.heap[k]?
theorem Oth.refl (g : Nat) (w : World) : Oth g w w := ⟨rfl, rfl, rfl, rfl, fun _ _ => rfl⟩
theorem Oth.trans {g : Nat} {a b c : World} (h : Oth g a b) (k : Oth g b c) : Oth g a c :=
 ⟨k.os.trans h.os, k.tape.trans h.tape, k.output.trans h.output, k.size.trans h.size, fun i hi => (k.block i hi).trans (h.block i hi)⟩
theorem Oth.setCell {g : Nat} {a w : World} (h : Oth g a w) (i : Nat) (u : Value) : Oth g a (w.setCell ⟨g, i, none⟩ u) :=
 h.trans ⟨rfl, rfl, rfl, by simp [World.setCell], fun k hk => Below.heap_setCell _ _ _ _ hk⟩
theorem Oth.drewN {g : Nat} {a w : World} (h : Oth g a w) (n : Nat) : Oth g a (w.drewN n) := h.trans ⟨rfl, rfl, rfl, rfl, fun _ _ => rfl⟩
theorem Oth.cell {g : Nat} {w w' : World} (h : Oth g w w') {p : Addr} (hp : p.block ≠ g) : w'.cell? p = w.cell? p := World.cell?_of_block (w := w) (h.block p.block hp)
theorem Oth.below {g B : Nat} {w w' : World} (h : Oth g w w') (hB : B ≤ g) : Below B w w' := ⟨h.os, h.tape, h.output, Nat.le_of_eq h.size.symm, fun k hk => h.block k (by omega)⟩
theorem Own.oth {w w' : World} {g g' : Nat} {L : List Nat} (h : Own w g' L) (ho : Oth g w w') (hg : g' ≠ g) : Own w' g' L := (ho.block g' hg).trans h
theorem Lm.oth {w w' : World} {g : Nat} {A : Option Addr} {n c : Nat} {xs : List Nat} (h : Lm w A n c xs) (ho : Oth g w w') (hA : 0 < n → ∀ b o, A = some ⟨b, o, none⟩ → b ≠ g) : Lm w' A n c xs :=
 ⟨h.1, h.2.1, fun hn => by
  obtain ⟨b, o, e, hb, hc⟩ := h.2.2 hn
  exact ⟨b, o, e, by rw [ho.size]; exact hb, fun j hj => (ho.cell (p := ⟨b, o + j, none⟩) (hA hn b o e)).trans (hc j hj)⟩⟩
theorem Tryz.info124 : (Tryz.prog.info? 124).map (fun i => (i.zero, i.size, i.bytes)) = some (some (.int .u32 0), 1, 4) := by kernel_rfl
theorem wpList_make_u32 (w : World) {ops : Array Oper} {rest : List Oper} {o : Oper} {a : Act} {Q : Exit → Act → World → Prop}
  (hg : o.guard = none) (l c : Operand) (hop : o.op = Op.makeSlice 22 l c) (kl kc : IntKind) (L C : Int) (n : Nat) (hl : a.eval l = .int kl L) (hc : a.eval c = .int kc C)
  (hL : L = (n : Int)) (hC : C = (n : Int)) (hn : n ≤ 10000000000000)
  (hK : ∀ w', Own w' w.heap.size (List.replicate n 0) → Below w.heap.size w w' → w'.heap.size = w.heap.size + 1 → wpList Tryz.prog ops Q rest (a.put o.dst (.slice (some ⟨w.heap.size, 0, none⟩) n n)) w') :
  wpList Tryz.prog ops Q (o :: rest) a w := by
 obtain ⟨i, hi, hz0, hz1, hz2⟩ := info_parts Tryz.info124
 refine wpList_plain hg fun K hK' => ?_
 have hrun := run_make (P := Tryz.prog) w 22 124 i (.int .u32 0) Tryz.underlying22 hi hz0 kl kc (n : Int) (n : Int) (by omega) (Int.le_refl _) (by rw [hz2]; omega) (by omega)
 subst hL; subst hC
 unfold Oper.wp
 rw [Int.toNat_natCast] at hrun
 simp [execOp, hop, hl, hc, hrun, Result.andThen]
 refine hK' _ _ (hK _ ?_ ((Below.refl _ _).alloc (Nat.le_refl _) _) (by simp))
 unfold Own
 rw [hz1, heap_alloc_new]
 have hm : madeCells (Value.int .u32 0).cells (n * 1) = ((List.replicate n 0).map d32).toArray := by
  apply Array.ext
  ·simp [madeCells]
  ·intro j h1 h2
   simp [madeCells, Value.cells, Nat.mod_one]
 rw [hm]
def Fr (A : Option Addr) (k : Nat) : Prop := A = none ∨ ∃ g o, A = some ⟨g, o, none⟩ ∧ k ≤ g
theorem Fr.mono {A : Option Addr} {k l : Nat} (h : Fr A k) (hl : l ≤ k) : Fr A l := by
 rcases h with h | ⟨g, o, h, hg⟩
 ·exact .inl h
 ·exact .inr ⟨g, o, h, Nat.le_trans hl hg⟩
theorem run_append_lm (w : World) (ty : TypeId) (A : Option Addr) (m c : Nat) (xs : List Nat) (h : Lm w A m c xs) :
  ∃ A' c' w', (Builtin.append_ #[22, 22] ty #[.slice none 0 0, .slice A m c]).run Tryz.prog w = .ok (.slice A' m c') w' ∧ Lm w' A' m c' xs ∧ Below w.heap.size w w' ∧ Fr A' w.heap.size := by
 obtain ⟨i, hi, hz0, hz1, hz2⟩ := info_parts Tryz.info124
 have hlen := h.len
 have hbig := h.big
 by_cases h0 : m = 0
 ·subst h0
  have hxs : xs = [] := List.eq_nil_of_length_eq_zero hlen
  subst hxs
  rcases A with _ | a
  ·refine ⟨none, 0, w, ?_, Lm.nil w, Below.refl _ _, .inl rfl⟩
   simp [Builtin.append_, run_underlying Tryz.underlying22, sizeOf, typeInfo, hi, Builtin.lenOf, Builtin.firstCells]
  ·obtain ⟨v', w', hrun, _, hg, hiff⟩ := run_append_own (P := Tryz.prog) w w.heap.size 22 ty 124 i (.int .u32 0) 1 4 Tryz.underlying22 hi hz0 hz1 hz2 rfl (by omega) (.slice none 0 0) 0 [] ⟨by simp, .inl ⟨rfl, rfl⟩⟩ a 0 c [] rfl (by simp) (by simp) (by simp [maxLen]) (by omega) (Nat.le_refl _)
   obtain rfl := hiff.2 ⟨rfl, rfl⟩
   exact ⟨none, 0, w', hrun, Lm.nil _, (Below.refl _ _).grown hg (Nat.le_refl _) (fun k hk => by simp [Value.ownBlock] at hk), .inl rfl⟩
 ·obtain ⟨b, o, rfl, hb, hc⟩ := h.at_ (k := 0) (by omega)
  obtain ⟨v', w', hrun, hown, hg, hiff⟩ := run_append_own (P := Tryz.prog) w w.heap.size 22 ty 124 i (.int .u32 0) 1 4 Tryz.underlying22 hi hz0 hz1 hz2 rfl (by omega) (.slice none 0 0) 0 [] ⟨by simp, .inl ⟨rfl, rfl⟩⟩ ⟨b, o, none⟩ m c (xs.map d32) (by simp [hlen])
   (fun j u hu => by
     rw [List.getElem?_map] at hu
     by_cases hj : j < xs.length
     ·rw [List.getElem?_eq_getElem hj] at hu
      simp at hu
      subst hu
      have := hc j (by omega)
      rw [dig_get hj] at this
      have e : (⟨b, o, none⟩ : Addr).add j = ⟨b, o + j, none⟩ := by unfold Addr.add; split <;> simp_all
      rw [e]; exact this
     ·rw [List.getElem?_eq_none (by omega)] at hu; simp at hu)
   (fun u hu => by rw [List.mem_map] at hu; obtain ⟨x, _, rfl⟩ := hu; rfl) (by simp only [maxLen]; omega) (by omega) (Nat.le_refl _)
  rcases hown.2 with ⟨_, h1⟩ | ⟨g, cap, cur, rfl, hge, hh, hnc, hcm, hcs, hct⟩
  ·omega
  ·rw [Nat.zero_add] at hrun hnc hct
   refine ⟨_, cap, w', hrun, ⟨⟨hlen, hnc, hbig⟩, h.ok, fun _ => ⟨g, 0, rfl, ?_, fun j hj => ?_⟩⟩, (Below.refl _ _).grown hg (Nat.le_refl _) (fun k hk => by simp [Value.ownBlock] at hk), .inr ⟨g, 0, rfl, hge⟩⟩
   ·apply Nat.lt_of_not_le; intro cc; rw [Array.getElem?_eq_none cc] at hh; cases hh
   ·rw [cell_of_row w' g _ _ _ _ hh, Nat.zero_add]
    have h2 : (cur.toList.take (m * 1))[j]? = some (d32 (dig xs j)) := by
     rw [hct, List.nil_append, List.getElem?_map, dig_get (by omega), List.getElem?_eq_getElem (by omega)]; rfl
    rw [List.getElem?_take, if_pos (by omega)] at h2
    simpa using h2
theorem wpList_append_lm (w : World) {ops : Array Oper} {rest : List Oper} {o : Oper} {a : Act} {Q : Exit → Act → World → Prop}
  (hg : o.guard = none) (s x : Operand) (ho : o.op = .call { callee := .builtin .append, args := #[s, x], argTypes := #[22, 22] })
  (hs : a.eval s = .slice none 0 0) (A : Option Addr) (m c : Nat) (xs : List Nat) (hx : a.eval x = .slice A m c) (h : Lm w A m c xs)
  (hK : ∀ A' c' w', Lm w' A' m c' xs → Below w.heap.size w w' → Fr A' w.heap.size → wpList Tryz.prog ops Q rest (a.put o.dst (.slice A' m c')) w') :
  wpList Tryz.prog ops Q (o :: rest) a w := by
 obtain ⟨A', c', w', hrun, hl, hb, hfr⟩ := run_append_lm w o.type A m c xs h
 refine wpList_plain hg fun K hK' => ?_
 unfold Oper.wp execOp
 simp only [ho, resolve, invoke, builtin, Sem.run_bind, Sem.run_pure, Result.andThen_ok, List.map_toArray, List.map_cons, List.map_nil, hs, hx, hrun]
 exact hK' _ _ (hK A' c' w' hl hb hfr)
end Go.Proofs.YtnjjfakjnkhhjaaGreatDoor
namespace Go.Proofs.YtnjjfakjnkhhjaaGreatDoor
open Go.RowKit
theorem len32_any (w : World) (x : Nat) (hx : x < Bs) : Calls Tryz.prog 209 #[d32 x] w fun e w' => e = .returned (.int .i64 (nb x)) ∧ w = w' := by
 rw [Bs_eq] at hx
 refine (Tryz.bits_Len32 x w (by omega) (by omega)).mono fun e w' h => ?_
 rw [Int.toNat_natCast, libLen x (by omega)] at h
 exact ⟨h.1, h.2.symm⟩
theorem lz32_any (w : World) (x : Nat) (hx : x < Bs) : Calls Tryz.prog 248 #[d32 x] w fun e w' => e = .returned (.int .i64 ((32 - nb x : Nat) : Int)) ∧ w = w' := by
 have hb : nb x ≤ 32 := nb_le_of_lt (by rw [← Bs_pow]; exact hx)
 rw [Bs_eq] at hx
 refine (Tryz.bits_LeadingZeros32 x w (by omega) (by omega)).mono fun e w' h => ?_
 rw [Int.toNat_natCast, libLen x (by omega)] at h
 exact ⟨by rw [h.1]; exact ret_int (by omega), h.2.symm⟩
def Tab (w : World) : Prop := ∀ j, j < 32 → w.cell? ⟨4, j, none⟩ = some (.int .u8 (Lib.deBruijn32tab.getD j 0 : Nat))
theorem Tab.below {B : Nat} {w w' : World} (h : Tab w) (hb : Below B w w') (hB : 4 < B) : Tab w' := fun j hj => by
 rw [hb.cell (p := ⟨_, j, none⟩) hB]; exact h j hj
theorem Tab.lt {w : World} (h : Tab w) : 4 < w.heap.size := by
 have h0 := h 0 (by omega)
 apply Nat.lt_of_not_le
 intro c
 unfold World.cell? at h0
 rw [Array.getElem?_eq_none c] at h0
 cases h0
theorem Tab.bel {w w' : World} (h : Tab w) (hb : Below w.heap.size w w') : Tab w' := h.below hb h.lt
theorem tz_lib (x : Nat) (h0 : x ≠ 0) (h : x < 2 ^ 32) : Lib.ctz 32 x = tz x := by
 obtain ⟨m, hm, _⟩ := Lib.ctzFrom_spec 32 x (by omega) h
 have e : Lib.ctz 32 x = Lib.ctzFrom 32 x := by simp [Lib.ctz, h0]
 rw [e]; conv => rhs; rw [hm]
 rw [tz_of]
theorem tz32_core (w : World) (x k idx : Nat) (hx0 : ((x : Int) == 0) = false)
  (key : bits BinOp.and IntKind.u32 (x : Int) (-(x : Int) % 4294967296) * 125613361 % 4294967296 / 134217728 = (idx : Int))
  (hi : idx < 32) (hk : k < 32) (hcell : w.cell? ⟨4, idx, none⟩ = some (.int .u8 k)) :
  Calls Tryz.prog 212 #[d32 x] w fun e w' => e = .returned (.int .i64 k) ∧ w = w' := by
 go_enter Tryz.func212, Tryz.ntmps212
 go_wp2_with (simp only [key])
 go_ret
 exact ⟨rfl, rfl⟩
theorem key32 (q : Nat) : (q : Int) * 125613361 % 4294967296 / 134217728 = ((q * 125613361 % 4294967296 / 134217728 : Nat) : Int) := by
 have h : (q : Int) * 125613361 = ((q * 125613361 : Nat) : Int) := rfl
 rw [h, Int.natCast_ediv, Int.natCast_emod]; rfl
theorem tz32_any (w : World) (x : Nat) (hx : x < Bs) (h0 : x ≠ 0) (hT : Tab w) : Calls Tryz.prog 212 #[d32 x] w fun e w' => e = .returned (.int .i64 (tz x)) ∧ w = w' := by
 rw [Bs_eq] at hx
 obtain ⟨h1, h2⟩ := Lib.lowest_bit 32 x h0 hx
 rw [tz_lib x h0 hx] at h1 h2
 obtain ⟨h3, h4⟩ := Lib.deBruijn32_at (tz x) h2
 have hp : 2 ^ tz x < 4294967296 := Nat.pow_lt_pow_right (by omega) h2
 have e1 : bits BinOp.and IntKind.u32 (x : Int) (-(x : Int) % 4294967296) = ((2 ^ tz x : Nat) : Int) := by
  rw [show -(x : Int) % 4294967296 = ((4294967296 - x : Nat) : Int) from by omega, u32_and_nat _ _ hx (by omega)]
  exact congrArg _ h1
 refine tz32_core w x (tz x) (2 ^ tz x * 125613361 % 4294967296 / 134217728) (by simpa using h0) ?_ h3 h2 ?_
 ·rw [e1]
  exact key32 _
 ·rw [hT _ h3, h4]
end Go.Proofs.YtnjjfakjnkhhjaaGreatDoor
namespace Go.Proofs.YtnjjfakjnkhhjaaGreatDoor
open Go.RowKit
def Tells (w : World) (N len : Nat) (e : Ending) (w' : World) : Prop := ∃ A m c, e = .returned (.slice A m c) ∧ Lm w' A m c (lim N) ∧ m ≤ len ∧ Below w.heap.size w w'
theorem sum_step {B vL P s c x y c' vx vy : Nat} (h : vL + P * c = vx + vy) (h2 : s + B * c' = x + y + c) : vL + P * s + P * B * c' = (vx + P * x) + (vy + P * y) := by
 have : P * (s + B * c') = P * (x + y + c) := by rw [h2]
 grind
def SumAt (X Y k c : Nat) (L : List Nat) : Prop := Ok L ∧ c ≤ 1 ∧ vt (dig L) k + Bs ^ k * c = vt (dig (lim X)) k + vt (dig (lim Y)) k
theorem SumAt.step {X Y k c : Nat} {L : List Nat} (h : SumAt X Y k c L) (hk : k < L.length) :
  SumAt X Y (k + 1) ((dig (lim X) k + dig (lim Y) k + c) / Bs) (L.set k ((dig (lim X) k + dig (lim Y) k + c) % Bs)) := by
 obtain ⟨hO, hc, he⟩ := h
 have h1 := ok_lim X k
 have h2 := ok_lim Y k
 refine ⟨hO.set hk (Nat.mod_lt _ Bs_pos), ?_, ?_⟩
 ·rw [Bs_eq] at *; omega
 ·show vt (dig (L.set k _)) k + Bs ^ k * dig (L.set k _) k + _ = _
  rw [vt_congr (e := dig L) k (fun i hi => by rw [dig_set hk, if_neg (by omega)]), dig_set hk, if_pos rfl, Nat.pow_succ]
  exact sum_step he (Nat.mod_add_div _ _)
theorem SumAt.fin {X Y k d : Nat} {L : List Nat} (h : SumAt X Y k d L) (h1 : ln X ≤ k) (h2 : ln Y ≤ k) (hL : L.length = k + 1) : Ok (L.set k d) ∧ val (L.set k d) = X + Y := by
 obtain ⟨hO, hc, he⟩ := h
 have hk : k < L.length := by omega
 refine ⟨hO.set hk (by rw [Bs_eq]; omega), ?_⟩
 rw [val_eq_vt h1, val_eq_vt h2, val_lim, val_lim] at he
 rw [← he]
 show vt (dig (L.set k d)) (L.set k d).length = _
 rw [List.length_set, hL]
 show vt (dig (L.set k d)) k + Bs ^ k * dig (L.set k d) k = _
 rw [vt_congr (e := dig L) k (fun i hi => by rw [dig_set hk, if_neg (by omega)]), dig_set hk, if_pos rfl]
theorem lim_le_len {X m N : Nat} (h : (lim X).length = m) (hm : m ≤ N) : ln X ≤ N := by unfold ln; omega
theorem add_any (w : World) (A : Option Addr) (n c : Nat) (xs : List Nat) (A' : Option Addr) (n' c' : Nat) (ys : List Nat) (h : Lm w A n c xs) (h' : Lm w A' n' c' ys) (hn : n ≤ 10000000000) (hn' : n' ≤ 10000000000) :
  Calls Tryz.prog 215 #[.slice A n c, .slice A' n' c'] w (Tells w (val xs + val ys) (max n n' + 1)) := by
 generalize hX : val xs = X
 generalize hY : val ys = Y
 have HX := Lib.hid hX
 have HY := Lib.hid hY
 clear hX hY
 go_enter Tryz.func215, Tryz.ntmps215
 go_wp2_with fail
 refine (cut_lm w A n c xs h).mono ?_
 rintro e w1 ⟨m, rfl, hm, hmn, rfl⟩
 rw [HX.out] at hm
 go_wp2_with fail
 refine (cut_lm w A' n' c' ys h').mono ?_
 rintro e w1 ⟨m', rfl, hm', hmn', rfl⟩
 rw [HY.out] at hm'
 obtain ⟨N, hN1, hN2, hN3, hN4⟩ : ∃ N : Nat, max (m : Int) (m' : Int) = (N : Int) ∧ m ≤ N ∧ m' ≤ N ∧ N ≤ max n n' := ⟨max m m', by omega, by omega, by omega, by omega⟩
 go_wp2_with
  (at_make
   refine wpList_make_u32 _ rfl _ _ rfl .i64 .i64 _ _ (N + 1) rfl rfl ?_ ?_ ?_ ?_
   ·omega
   ·omega
   ·omega
   intro w1 hown hb1 hs1)
 go_loopw [7, 22] (fun cr ix wr => ∃ (k d : Nat) (L : List Nat), k ≤ N ∧ ix = .int .i64 k ∧ cr = d32 d ∧ L.length = N + 1 ∧ Own wr w.heap.size L ∧ SumAt X Y k d L ∧ Below w.heap.size w wr) (fun _ ix _ => N - (intOf ix).toNat)
 case atStart => exact ⟨0, 0, _, Nat.zero_le _, rfl, rfl, by simp, hown, ⟨Ok.zeros _, by omega, rfl⟩, hb1⟩
 case round =>
  obtain ⟨k, d, L, hk, rfl, rfl, hL0, hO, hS, hB⟩ := hrel
  have hL := Lib.hid hL0
  clear hL0 hown hb1 hs1
  have hlm := hm.bel hB
  have hlm' := hm'.bel hB
  by_cases hlt : k < N
  ·have hc := hO.cell (i := k) (by rw [hL.out]; omega)
   have hf := hO.free k
   have hd : d < Bs := by have := hS.2.1; rw [Bs_eq]; omega
   go_wp2_with fail
   refine (at_any _ A m c (lim X) k hlm (by omega)).mono ?_
   rintro e w' ⟨rfl, rfl⟩
   go_wp2_with fail
   refine (at_any _ A' m' c' (lim Y) k hlm' (by omega)).mono ?_
   rintro e w' ⟨rfl, rfl⟩
   go_wp2_with fail
   refine (add32_any _ _ _ _ (ok_lim X k) (ok_lim Y k) hd).mono ?_
   rintro e w' ⟨rfl, rfl⟩
   go_wp2
   go_roundw
   case rel => exact ⟨k + 1, _, _, by omega, by go_num, rfl, by simpa using hL.out, hO.set_ k _, hS.step (by rw [hL.out]; omega), hB.setCell (Nat.le_refl _) _⟩
   case measure => simp [intOf]; omega
  ·obtain rfl : k = N := by omega
   have hc := hO.cell (i := k) (by rw [hL.out]; omega)
   have hf := hO.free k
   have hv := hS.fin (lim_le_len hm.len hN2) (lim_le_len hm'.len hN3) hL.out
   have HV := Lib.hid hv.2
   have hO2 := hO.set_ k d
   have hok := hv.1
   clear hv
   have hB2 := hB.setCell (p := ⟨w.heap.size, k, none⟩) (Nat.le_refl _) (d32 d)
   have hlen2 : (L.set k d).length = k + 1 := by simpa using hL.out
   have hl := hO2.lm hok (by omega)
   rw [hlen2] at hl
   have HL2 := Lib.hid hlen2
   clear hlen2
   go_wp2_with fail
   refine (cut_lm _ _ _ _ _ hl).mono ?_
   rintro e w' ⟨q, rfl, hq, hqn, rfl⟩
   go_wp2
   go_ret
   exact ⟨_, q, _, rfl, by rw [HV.out] at hq; exact hq, by omega, hB2⟩
def TellsF (w : World) (N len : Nat) (e : Ending) (w' : World) : Prop := ∃ A m c, e = .returned (.slice A m c) ∧ Lm w' A m c (lim N) ∧ m ≤ len ∧ Below w.heap.size w w' ∧ Fr A w.heap.size
theorem TellsF.tells {w : World} {N len : Nat} {e : Ending} {w' : World} (h : TellsF w N len e w') : Tells w N len e w' := by
 obtain ⟨A, m, c, h1, h2, h3, h4, _⟩ := h; exact ⟨A, m, c, h1, h2, h3, h4⟩
theorem trim_fr (w : World) (A : Option Addr) (n c : Nat) (xs : List Nat) (h : Lm w A n c xs) :
  Calls Tryz.prog 190 #[.slice A n c] w (TellsF w (val xs) n) := by
 go_enter Tryz.func190, Tryz.ntmps190
 go_wp2_with fail
 refine (cut_lm w A n c xs h).mono ?_
 rintro e w1 ⟨m, rfl, hm, hmn, rfl⟩
 go_wp2_with
  (at_builtin
   refine wpList_append_lm _ rfl _ _ rfl rfl A m c _ rfl hm ?_
   intro A' c' w' hl hb hfr)
 go_ret
 exact ⟨A', m, c', rfl, hl, hmn, hb, hfr⟩
theorem trim_any (w : World) (A : Option Addr) (n c : Nat) (xs : List Nat) (h : Lm w A n c xs) :
  Calls Tryz.prog 190 #[.slice A n c] w (Tells w (val xs) n) := (trim_fr w A n c xs h).mono fun _ _ h => h.tells
end Go.Proofs.YtnjjfakjnkhhjaaGreatDoor
namespace Go.Proofs.YtnjjfakjnkhhjaaGreatDoor
open Go.RowKit
theorem Lm.drew {w : World} {A : Option Addr} {n c : Nat} {xs : List Nat} (h : Lm w A n c xs) : Lm w.drew A n c xs := h
theorem Own.drew {w : World} {g : Nat} {L : List Nat} (h : Own w g L) : Own w.drew g L := h
theorem st {P : Program} {f : FuncId} {args : Array Value} {w : World} {v : Value} (h : Calls P f args w fun e w' => e = .returned v ∧ w = w') : Calls P f args w fun e w'' => e = .returned v ∧ w'' = w :=
 h.mono fun _ _ ⟨he, hm⟩ => ⟨he, hm.symm⟩
theorem Lm.drewN {w : World} {A : Option Addr} {n c : Nat} {xs : List Nat} (h : Lm w A n c xs) (k : Nat) : Lm (w.drewN k) A n c xs := h
theorem val_lim_lt {X Y m j : Nat} (h1 : ln X = m) (h2 : ln Y = m) (hj : j < m) (ha : ∀ i, j < i → i < m → dig (lim X) i = dig (lim Y) i) (hlt : dig (lim X) j < dig (lim Y) j) : X < Y := by
 have := vt_lt_of_top (d := dig (lim X)) (e := dig (lim Y)) (ok_lim X) hj ha hlt
 rw [val_eq_vt (Nat.le_of_eq h1), val_eq_vt (Nat.le_of_eq h2), val_lim, val_lim] at this
 exact this
theorem val_lim_eq {X Y m : Nat} (h1 : ln X = m) (h2 : ln Y = m) (ha : ∀ i, i < m → dig (lim X) i = dig (lim Y) i) : X = Y := by
 have := vt_congr m ha
 rw [val_eq_vt (Nat.le_of_eq h1), val_eq_vt (Nat.le_of_eq h2), val_lim, val_lim] at this
 exact this
theorem cmp_any (w : World) (A : Option Addr) (n c : Nat) (xs : List Nat) (A' : Option Addr) (n' c' : Nat) (ys : List Nat) (h : Lm w A n c xs) (h' : Lm w A' n' c' ys) :
  Calls Tryz.prog 185 #[.slice A n c, .slice A' n' c'] w fun e w' => e = .returned (.int .i64 (cmpN (val xs) (val ys))) ∧ ∃ nq, w' = w.drewN nq := by
 generalize hX : val xs = X
 generalize hY : val ys = Y
 have HX := Lib.hid hX
 have HY := Lib.hid hY
 clear hX hY
 go_enter Tryz.func185, Tryz.ntmps185
 go_wp2_with fail
 refine (cut_lm w A n c xs h).mono ?_
 rintro e w1 ⟨m, rfl, hm, hmn, rfl⟩
 rw [HX.out] at hm
 go_wp2_with fail
 refine (cut_lm w A' n' c' ys h').mono ?_
 rintro e w1 ⟨m', rfl, hm', hmn', rfl⟩
 rw [HY.out] at hm'
 have hbig := hm.big
 have hbig' := hm'.big
 have Hlen : Hid (ln X = m) := hm.len
 have Hlen' : Hid (ln Y = m') := hm'.len
 by_cases hne : m < m' ∨ m' < m
 ·have hne' : ((m : Int) != (m' : Int)) = true := by rw [bne_iff_ne]; omega
  go_wp2_with fail
  refine (compare_int _ m m').mono ?_
  rintro e w' ⟨rfl, rfl⟩
  go_wp2
  go_ret
  refine ⟨ret_int ?_, 0, rfl⟩
  rcases hne with hne | hne
  ·rw [cmpN_lt hne, cmpN_lt (lt_of_ln_lt (by rw [Hlen.out, Hlen'.out]; exact hne))]
  ·rw [cmpN_gt hne, cmpN_gt (lt_of_ln_lt (by rw [Hlen.out, Hlen'.out]; exact hne))]
 ·obtain rfl : m = m' := by omega
  clear hne
  go_wp2_with fail
  go_loopw [5] (fun ix wr => ∃ (t : Int) (nq : Nat), -1 ≤ t ∧ t < m ∧ ix = .int .i64 t ∧ (∀ i : Nat, t < i → i < m → dig (lim X) i = dig (lim Y) i) ∧ wr = w.drewN nq) (fun ix _ => (intOf ix + 1).toNat)
  case atStart => exact ⟨(m : Int) - 1, 0, by omega, by omega, rfl, fun i h1 h2 => by omega, rfl⟩
  case round =>
   obtain ⟨t, nq, ht1, ht2, rfl, ha, rfl⟩ := hrel
   have HA := Lib.hid ha
   clear ha
   by_cases h0 : 0 ≤ t
   ·obtain ⟨j, rfl⟩ := Int.eq_ofNat_of_zero_le h0
    have hjm : j < m := by omega
    obtain ⟨b, o, rfl, hb, hc0⟩ := hm.at_ hjm
    obtain ⟨b', o', rfl, hb', hc0'⟩ := hm'.at_ hjm
    have hc := hc0 j hjm
    have hc' := hc0' j hjm
    clear hc0 hc0'
    by_cases hd : dig (lim X) j = dig (lim Y) j
    ·have hd' := Lib.hid hd
     rw [hd] at hc
     clear hd
     go_wp2
     go_quiet (fail)
     go_wp2
     go_roundw
     case rel => exact ⟨(j : Int) - 1, _, by omega, by omega, rfl, fun i h1 h2 => by
      rcases Nat.lt_or_ge j i with h3 | h3
      ·exact HA.out i (by omega) h2
      ·rw [show i = j from by omega]; exact hd'.out, rfl⟩
     case measure => simp [intOf]
    ·have hne : ((dig (lim X) j : Int) != (dig (lim Y) j : Int)) = true := by rw [bne_iff_ne]; omega
     have HD := Lib.hid hd
     clear hd
     go_wp2
     go_quiet (fail)
     go_wp2_with fail
     go_quiet ((go_at_call 211; exact q_add (compare_u32 _ _ _)))
     go_wp2
     go_ret
     refine ⟨ret_int ?_, _, by rw [World.drewN_drewN, World.drewN_drewN]⟩
     rcases Nat.lt_or_gt_of_ne HD.out with hl | hl
     ·rw [cmpN_lt hl, cmpN_lt (val_lim_lt Hlen.out Hlen'.out hjm (fun i h1 h2 => HA.out i (by omega) h2) hl)]
     ·rw [cmpN_gt hl, cmpN_gt (val_lim_lt Hlen'.out Hlen.out hjm (fun i h1 h2 => (HA.out i (by omega) h2).symm) hl)]
   ·obtain rfl : t = -1 := by omega
    go_wp2
    go_ret
    refine ⟨ret_int (cmpN_eq (val_lim_eq Hlen.out Hlen'.out (fun i h1 => HA.out i (by omega) h1))).symm, nq, rfl⟩
end Go.Proofs.YtnjjfakjnkhhjaaGreatDoor
namespace Go.Proofs.YtnjjfakjnkhhjaaGreatDoor
open Go.RowKit
def TellsSub (w : World) (M N len : Nat) (e : Ending) (w' : World) : Prop :=
 (M < N ∧ e = .returned (.tuple #[.slice none 0 0, .bool false]) ∧ Below w.heap.size w w') ∨
 (N ≤ M ∧ ∃ A m c, e = .returned (.tuple #[.slice A m c, .bool true]) ∧ Lm w' A m c (lim (M - N)) ∧ m ≤ len ∧ Below w.heap.size w w')
theorem dif_step {B vL P s c x y c' vx vy : Nat} (h : vL + vy = vx + P * c) (h2 : s + y + c = x + B * c') : vL + P * s + (vy + P * y) = (vx + P * x) + P * B * c' := by
 have : P * (s + y + c) = P * (x + B * c') := by rw [h2]
 grind
def DifAt (X Y k c : Nat) (L : List Nat) : Prop := Ok L ∧ c ≤ 1 ∧ vt (dig L) k + vt (dig (lim Y)) k = vt (dig (lim X)) k + Bs ^ k * c
theorem DifAt.step {X Y k c : Nat} {L : List Nat} (h : DifAt X Y k c L) (hk : k < L.length) :
  DifAt X Y (k + 1) (brw (dig (lim X) k) (dig (lim Y) k) c) (L.set k ((dig (lim X) k + Bs - dig (lim Y) k - c) % Bs)) := by
 obtain ⟨hO, hc, he⟩ := h
 have h1 := ok_lim X k
 have h2 := ok_lim Y k
 refine ⟨hO.set hk (Nat.mod_lt _ Bs_pos), brw_le _ _ _, ?_⟩
 show vt (dig (L.set k _)) k + Bs ^ k * dig (L.set k _) k + (vt (dig (lim Y)) k + Bs ^ k * dig (lim Y) k) = _
 rw [vt_congr (e := dig L) k (fun i hi => by rw [dig_set hk, if_neg (by omega)]), dig_set hk, if_pos rfl, Nat.pow_succ]
 refine dif_step he ?_
 unfold brw
 rw [Bs_eq] at *
 split <;> omega
theorem DifAt.fin {X Y k d : Nat} {L : List Nat} (h : DifAt X Y k d L) (h1 : ln X = k) (hYX : Y ≤ X) (hL : L.length = k) : Ok L ∧ val L = X - Y := by
 obtain ⟨hO, hc, he⟩ := h
 refine ⟨hO, ?_⟩
 have h2 : ln Y ≤ k := by rw [← h1]; exact ln_mono hYX
 rw [val_eq_vt (Nat.le_of_eq h1), val_eq_vt h2, val_lim, val_lim] at he
 have hv : vt (dig L) k = val L := val_eq_vt (Nat.le_of_eq hL)
 have hlt : val L < Bs ^ k := by rw [← hL]; exact val_lt hO
 rw [hv] at he
 have hd : d = 0 := by
  rcases Nat.lt_or_ge d 1 with h0 | h0
  ·omega
  ·obtain rfl : d = 1 := by omega
   rw [Nat.mul_one] at he; omega
 subst hd
 rw [Nat.mul_zero] at he; omega
theorem sub_any (w : World) (A : Option Addr) (n c : Nat) (xs : List Nat) (A' : Option Addr) (n' c' : Nat) (ys : List Nat) (h : Lm w A n c xs) (h' : Lm w A' n' c' ys) :
  Calls Tryz.prog 216 #[.slice A n c, .slice A' n' c'] w (TellsSub w (val xs) (val ys) n) := by
 generalize hX : val xs = X
 generalize hY : val ys = Y
 have HX := Lib.hid hX
 have HY := Lib.hid hY
 clear hX hY
 go_enter Tryz.func216, Tryz.ntmps216
 go_wp2_with fail
 refine (cut_lm w A n c xs h).mono ?_
 rintro e w1 ⟨m, rfl, hm, hmn, rfl⟩
 rw [HX.out] at hm
 go_wp2_with fail
 refine (cut_lm w A' n' c' ys h').mono ?_
 rintro e w1 ⟨m', rfl, hm', hmn', rfl⟩
 rw [HY.out] at hm'
 have hbig := hm.big
 have Hlen : Hid (ln X = m) := hm.len
 go_wp2_with fail
 refine (cmp_any w A m c _ A' m' c' _ hm hm').mono ?_
 rw [val_lim, val_lim]
 rintro e w0 ⟨rfl, nq, hw0⟩
 have hb0 : Below w.heap.size w w0 := by rw [hw0]; exact below_drewN (Below.refl _ _) nq
 have hm0 : Lm w0 A m c (lim X) := by rw [hw0]; exact hm.drewN nq
 have hm0' : Lm w0 A' m' c' (lim Y) := by rw [hw0]; exact hm'.drewN nq
 have hsz : w0.heap.size = w.heap.size := by rw [hw0]; rfl
 have HSZ := Lib.hid hsz
 clear hw0 hsz hm hm'
 by_cases hlt : X < Y
 ·rw [cmpN_lt hlt]
  go_wp2
  go_ret2
  exact .inl ⟨hlt, rfl, hb0⟩
 ·have hge : 0 ≤ cmpN X Y := by have := cmpN_neg_iff X Y; omega
  generalize cmpN X Y = q at *
  have HLT := Lib.hid hlt
  clear hlt
  go_wp2_with
   (at_make
    refine wpList_make_u32 _ rfl _ _ rfl .i64 .i64 _ _ m rfl rfl ?_ ?_ ?_ ?_
    ·rfl
    ·rfl
    ·omega
    intro w1 hown hb1 hs1)
  have hb1' : Below w.heap.size w w1 := hb0.trans (hb1.mono (by rw [HSZ.out]; exact Nat.le_refl _))
  have hm1 := hm0.bel hb1
  have hm1' := hm0'.bel hb1
  go_loopw [7, 22] (fun cr ix wr => ∃ (k d : Nat) (L : List Nat), k ≤ m ∧ ix = .int .i64 k ∧ cr = d32 d ∧ L.length = m ∧ Own wr w0.heap.size L ∧ DifAt X Y k d L ∧ Below w0.heap.size w0 wr) (fun _ ix _ => m - (intOf ix).toNat)
  case atStart => exact ⟨0, 0, _, Nat.zero_le _, rfl, rfl, by simp, hown, ⟨Ok.zeros _, by omega, rfl⟩, hb1⟩
  case round =>
   obtain ⟨k, d, L, hk, rfl, rfl, hL0, hO, hS, hB⟩ := hrel
   have hL := Lib.hid hL0
   clear hL0 hown hb1 hs1 hb1' hm1 hm1'
   have hlm := hm0.bel hB
   have hlm' := hm0'.bel hB
   by_cases hlt : k < m
   ·obtain ⟨b, o, rfl, hb, hc0⟩ := hlm.at_ hlt
    have hc := hO.cell (i := k) (by rw [hL.out]; omega)
    have hf := hO.free k
    have hx := hc0 k hlt
    clear hc0
    have hd : d ≤ 1 := hS.2.1
    go_wp2
    go_region_with (first
     | (go_at_call 234; refine (at_any _ A' m' c' (lim Y) k hlm'.drew (by omega)).mono ?_; rintro e w' ⟨rfl, rfl⟩)
     | (go_at_call 235; refine (sub32_any _ _ _ _ (ok_lim X k) (ok_lim Y k) hd).mono ?_; rintro e w' ⟨rfl, rfl⟩))
    all_goals go_wp2
    all_goals
     go_roundw
     case rel => exact ⟨k + 1, _, _, by omega, by go_num, rfl, by simpa using hL.out, hO.drew.set_ k _, hS.step (by rw [hL.out]; omega), hB.drew.setCell (Nat.le_refl _) _⟩
     case measure => simp [intOf]; omega
   ·obtain rfl : k = m := by omega
    have hv := hS.fin Hlen.out (by have := HLT.out; omega) hL.out
    have HV := Lib.hid hv.2
    have hl := hO.lm hv.1 (by rw [hL.out]; omega)
    clear hv
    rw [hL.out] at hl
    go_wp2_with fail
    refine (cut_lm _ _ _ _ _ hl).mono ?_
    rintro e w' ⟨r, rfl, hr, hrn, rfl⟩
    go_wp2
    go_ret2
    refine .inr ⟨by have := HLT.out; omega, _, r, _, rfl, by rw [HV.out] at hr; exact hr, by omega, ?_⟩
    exact hb0.trans (hB.mono (by rw [HSZ.out]; exact Nat.le_refl _))
end Go.Proofs.YtnjjfakjnkhhjaaGreatDoor
namespace Go.Proofs.YtnjjfakjnkhhjaaGreatDoor
open Go.RowKit
def AddT (L : List Nat) (i d : Nat) (ys : List Nat) (k cr : Nat) (L' : List Nat) : Prop :=
 L'.length = L.length ∧ Ok L' ∧ cr < Bs ∧ (∀ j, j < i ∨ i + k ≤ j → dig L' j = dig L j) ∧
  vt (fun j => dig L' (i + j)) k + Bs ^ k * cr = vt (fun j => dig L (i + j)) k + d * vt (dig ys) k
theorem addt_step {B vL P s c p d y c' vl vy : Nat} (h : vL + P * c = vl + d * vy) (h2 : s + B * c' = c + (d * y + p)) : vL + P * s + P * B * c' = (vl + P * p) + d * (vy + P * y) := by
 have : P * (s + B * c') = P * (c + (d * y + p)) := by rw [h2]
 grind
theorem AddT.step {L L' ys : List Nat} {i d k cr : Nat} (h : AddT L i d ys k cr L') (hd : d < Bs) (hy : Ok ys) (hk : i + k < L.length) :
  AddT L i d ys (k + 1) ((cr + (d * dig ys k + dig L' (i + k))) / Bs) (L'.set (i + k) ((cr + (d * dig ys k + dig L' (i + k))) % Bs)) := by
 obtain ⟨hl, hO, hc, hj, he⟩ := h
 have hkl : i + k < L'.length := by omega
 have hP := mul_lt_big hd (hy k)
 have hp := hO (i + k)
 refine ⟨by simpa using hl, hO.set hkl (Nat.mod_lt _ Bs_pos), ?_, fun j hjj => ?_, ?_⟩
 ·generalize d * dig ys k = P at *
  rw [Nat.div_lt_iff_lt_mul Bs_pos]
  rw [Bs_eq] at *; omega
 ·rw [dig_set hkl, if_neg (by omega)]; exact hj j (by omega)
 ·show vt (fun j => dig (L'.set (i + k) _) (i + j)) k + Bs ^ k * dig (L'.set (i + k) _) (i + k) + _ = _
  rw [vt_congr (e := fun j => dig L' (i + j)) k (fun j hj => by show dig (L'.set _ _) (i + j) = dig L' (i + j); rw [dig_set hkl, if_neg (by omega)]), dig_set hkl, if_pos rfl, Nat.pow_succ]
  refine addt_step he ?_
  show _ = cr + (d * dig ys k + dig L (i + k))
  rw [← hj (i + k) (by omega)]
  exact Nat.mod_add_div _ _
theorem addTimes_any (w : World) (g i n cp : Nat) (L : List Nat) (A : Option Addr) (c : Nat) (ys : List Nat) (d : Nat) (hO : Own w g L) (hL : Ok L) (hi : i + n ≤ L.length) (hcp : n ≤ cp) (h : Lm w A n c ys)
  (hA : 0 < n → ∀ b o, A = some ⟨b, o, none⟩ → b < g) (hd : d < Bs) :
  Calls Tryz.prog 214 #[.slice (some ⟨g, i, none⟩) n cp, .slice A n c, d32 d] w fun e w' => ∃ cr L', e = .returned (d32 cr) ∧ AddT L i d ys n cr L' ∧ Own w' g L' ∧ Below g w w' ∧ w'.heap.size = w.heap.size := by
 have hn := h.big
 have Hy := h.ok
 have hd' : d < 4294967296 := hd
 have HI := Lib.hid hi
 clear hi
 go_enter Tryz.func214, Tryz.ntmps214
 go_wp2
 go_loopw [7, 12] (fun cv ix wr => ∃ (k cr : Nat) (L' : List Nat), k ≤ n ∧ ix = .int .i64 k ∧ cv = .int .u64 cr ∧ AddT L i d ys k cr L' ∧ Own wr g L' ∧ Below g w wr ∧ wr.heap.size = w.heap.size) (fun _ ix _ => n - (intOf ix).toNat)
 case atStart => exact ⟨0, 0, L, Nat.zero_le _, rfl, rfl, ⟨rfl, hL, by rw [Bs_eq]; omega, fun j _ => rfl, rfl⟩, hO, Below.refl _ _, rfl⟩
 case round =>
  obtain ⟨k, cr, L', hk, rfl, rfl, hT, hO', hB, hs⟩ := hrel
  have HS := Lib.hid hs
  clear hs
  have hcr : cr < 4294967296 := hT.2.2.1
  by_cases hlt : k < n
  ·obtain ⟨b, o, rfl, hb, hc0⟩ := h.at_ hlt
   have hbg := hA (by omega) b o rfl
   have hy0 : wr.cell? ⟨b, o + k, none⟩ = some (d32 (dig ys k)) := (hB.cell (p := ⟨b, o + k, none⟩) hbg).trans (hc0 k hlt)
   clear hc0 hA hbg
   have hc := hO'.cell (i := i + k) (by rw [hT.1]; have := HI.out; omega)
   have hf := hO'.free (i + k)
   have hPb := mul_lt_big hd (Hy k)
   have hP : (d : Int) * (dig ys k : Int) = ((d * dig ys k : Nat) : Int) := rfl
   obtain ⟨P, hPe⟩ : ∃ P, P = d * dig ys k := ⟨_, rfl⟩
   rw [← hPe] at hP hPb
   have hyk : dig ys k < 4294967296 := Hy k
   have hpk : dig L' (i + k) < 4294967296 := hT.2.1 (i + k)
   have HPE := Lib.hid hPe
   clear hPe
   have hst := hT.step hd Hy (by have := HI.out; omega)
   rw [← HPE.out] at hst
   have HST := Lib.hid hst
   clear hst
   have hTc := Lib.hid hT
   clear hT
   go_wp2
   go_roundw
   case rel =>
    have e1 : ((cr : Int) + ((P : Int) + (dig L' (i + k) : Int))) % 4294967296 = (((cr + (P + dig L' (i + k))) % Bs : Nat) : Int) := by rw [Bs_eq]; omega
    have e2 : ((cr : Int) + ((P : Int) + (dig L' (i + k) : Int))) / 4294967296 = (((cr + (P + dig L' (i + k))) / Bs : Nat) : Int) := by rw [Bs_eq]; omega
    refine ⟨k + 1, _, _, by omega, by go_num, by rw [e2], HST.out, by rw [e1]; exact hO'.set_ _ _, hB.setCell (Nat.le_refl _) _, ?_⟩
    rw [← HS.out]; simp [World.setCell]
   case measure => simp [intOf]; omega
  ·obtain rfl : k = n := by omega
   have hTc := Lib.hid hT
   clear hT
   go_wp2
   go_ret
   exact ⟨cr, L', ret_int (by omega), hTc.out, hO', hB, HS.out⟩
def MulAt (X Y lb k : Nat) (L : List Nat) : Prop := Ok L ∧ (∀ j, k + lb ≤ j → dig L j = 0) ∧ vt (dig L) (k + lb) = vt (dig (lim X)) k * Y
theorem mul_row {P Q part part' carry x Y v vx : Nat} (h : part' + Q * carry = part + x * Y) (h2 : v + P * part = vx * Y) : v + P * part' + P * Q * carry = (vx + P * x) * Y := by
 have : P * (part' + Q * carry) = P * (part + x * Y) := by rw [h]
 grind
theorem MulAt.step {X Y lb k cr : Nat} {L L' : List Nat} (h : MulAt X Y lb k L) (hlb : ln Y = lb) (hT : AddT L k (dig (lim X) k) (lim Y) lb cr L') (hk : k + lb < L.length) : MulAt X Y lb (k + 1) (L'.set (k + lb) cr) := by
 obtain ⟨hO, hz, he⟩ := h
 obtain ⟨hl, hO', hc, hj, ht⟩ := hT
 have hkl : k + lb < L'.length := by omega
 rw [val_eq_vt (Nat.le_of_eq hlb), val_lim] at ht
 refine ⟨hO'.set hkl hc, fun j hjj => ?_, ?_⟩
 ·rw [dig_set hkl, if_neg (by omega), hj j (by omega)]; exact hz j (by omega)
 ·rw [show k + 1 + lb = (k + lb) + 1 from by omega]
  show vt (dig (L'.set (k + lb) cr)) (k + lb) + Bs ^ (k + lb) * dig (L'.set (k + lb) cr) (k + lb) = _
  rw [vt_congr (e := dig L') (k + lb) (fun j hj2 => by rw [dig_set hkl, if_neg (by omega)]), dig_set hkl, if_pos rfl, vt_add, Nat.pow_add]
  rw [vt_add] at he
  rw [vt_congr (e := dig L) k (fun j hj2 => hj j (by omega))]
  exact mul_row ht he
theorem MulAt.fin {X Y lb k : Nat} {L : List Nat} (h : MulAt X Y lb k L) (h1 : ln X = k) (hl : L.length = k + lb) : val L = X * Y := by
 obtain ⟨_, _, he⟩ := h
 rw [val_eq_vt (Nat.le_of_eq h1), val_lim] at he
 unfold val; rw [hl]; exact he
theorem mul_any (w : World) (A : Option Addr) (n c : Nat) (xs : List Nat) (A' : Option Addr) (n' c' : Nat) (ys : List Nat) (h : Lm w A n c xs) (h' : Lm w A' n' c' ys) (hn : n ≤ 10000000000) (hn' : n' ≤ 10000000000) :
  Calls Tryz.prog 189 #[.slice A n c, .slice A' n' c'] w (Tells w (val xs * val ys) (n + n')) := by
 generalize hX : val xs = X
 generalize hY : val ys = Y
 have HX := Lib.hid hX
 have HY := Lib.hid hY
 clear hX hY
 go_enter Tryz.func189, Tryz.ntmps189
 go_wp2_with fail
 refine (cut_lm w A n c xs h).mono ?_
 rintro e w1 ⟨m, rfl, hm, hmn, rfl⟩
 rw [HX.out] at hm
 go_wp2_with fail
 refine (cut_lm w A' n' c' ys h').mono ?_
 rintro e w1 ⟨m', rfl, hm', hmn', rfl⟩
 rw [HY.out] at hm'
 have Hlen : Hid (ln X = m) := hm.len
 have Hlen' : Hid (ln Y = m') := hm'.len
 go_wp2_with
  (at_make
   refine wpList_make_u32 _ rfl _ _ rfl .i64 .i64 _ _ (m + m') rfl rfl ?_ ?_ ?_ ?_
   ·omega
   ·omega
   ·omega
   intro w1 hown hb1 hs1)
 go_loopw [20] (fun ix wr => ∃ (k : Nat) (L : List Nat), k ≤ m ∧ ix = .int .i64 k ∧ L.length = m + m' ∧ Own wr w.heap.size L ∧ MulAt X Y m' k L ∧ Below w.heap.size w wr) (fun ix _ => m - (intOf ix).toNat)
 case atStart => exact ⟨0, _, Nat.zero_le _, rfl, by simp, hown, ⟨Ok.zeros _, fun j _ => dig_zeros _ _, by rw [vt_zero _ (fun j _ => dig_zeros _ _)]; simp [vt]⟩, hb1⟩
 case round =>
  obtain ⟨k, L, hk, rfl, hL0, hO, hS, hB⟩ := hrel
  have hL := Lib.hid hL0
  clear hL0 hown hb1 hs1
  have hlm := hm.bel hB
  have hlm' := hm'.bel hB
  by_cases hlt : k < m
  ·obtain ⟨b, o, rfl, hb, hc0⟩ := hlm.at_ hlt
   have hx := hc0 k hlt
   clear hc0
   have hnm : m + m' ≤ 20000000000 := by omega
   go_wp2_with fail
   refine (addTimes_any wr w.heap.size k m' (m + m' - k) L A' c' (lim Y) (dig (lim X) k) hO hS.1 (by rw [hL.out]; omega) (by omega) hlm' (hm'.under) (ok_lim X k)).mono ?_
   rintro e w2 ⟨cr, L2, rfl, hT, hO2, hB2, hs2⟩
   have HSZ := Lib.hid hs2
   clear hs2
   have hl2 : L2.length = m + m' := by rw [hT.1]; exact hL.out
   have hc2 := hO2.cell (i := k + m') (by rw [hl2]; omega)
   have hf2 := hO2.free (k + m')
   have HL2 := Lib.hid hl2
   have hst := Lib.hid (hS.step Hlen'.out hT (by rw [hL.out]; omega))
   clear hl2 hT
   go_wp2
   go_roundw
   case rel => exact ⟨k + 1, _, by omega, by go_num, by simpa using HL2.out, hO2.set_ _ _, hst.out, (hB.trans hB2).setCell (Nat.le_refl _) _⟩
   case measure => simp [intOf]; omega
  ·obtain rfl : k = m := by omega
   have hv := hS.fin Hlen.out hL.out
   have HV := Lib.hid hv
   have hl := hO.lm hS.1 (by rw [hL.out]; omega)
   clear hv
   rw [hL.out] at hl
   go_wp2_with fail
   refine (cut_lm _ _ _ _ _ hl).mono ?_
   rintro e w' ⟨r, rfl, hr, hrn, rfl⟩
   go_wp2
   go_ret
   exact ⟨_, r, _, rfl, by rw [HV.out] at hr; exact hr, by omega, hB⟩
end Go.Proofs.YtnjjfakjnkhhjaaGreatDoor
namespace Go.Proofs.YtnjjfakjnkhhjaaGreatDoor
open Go.RowKit
def sumsT : List Int := [2, 0, 3, 1, 0, 1, 3, 0, 2]
def productsT : List Int := [1, 0, -1, 0, 0, 0, -1, 0, 1]
def SumsT (w : World) : Prop := ∀ k, k < 9 → w.cell? ⟨3, k, none⟩ = some (.int .i64 (sumsT.getD k 0))
def ProductsT (w : World) : Prop := ∀ k, k < 9 → w.cell? ⟨2, k, none⟩ = some (.int .i64 (productsT.getD k 0))
theorem SumsT.bel {w w' : World} (h : SumsT w) (hb : Below w.heap.size w w') : SumsT w' := fun k hk => (hb.cell (p := ⟨_, k, none⟩) (World.block_lt_of_cell? w _ (h k hk))).trans (h k hk)
theorem ProductsT.bel {w w' : World} (h : ProductsT w) (hb : Below w.heap.size w w') : ProductsT w' := fun k hk => (hb.cell (p := ⟨_, k, none⟩) (World.block_lt_of_cell? w _ (h k hk))).trans (h k hk)
end Go.Proofs.YtnjjfakjnkhhjaaGreatDoor
