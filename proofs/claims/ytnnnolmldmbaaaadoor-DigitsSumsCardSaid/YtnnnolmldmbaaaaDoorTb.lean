/- Texts of numbers, read again. -/
import Derived.Test.YtnnnolmldmbaaaaDoorEt3
namespace Go.Proofs.YtnnnolmldmbaaaaDoor.Ev
open Go Go.RowKit
set_option linter.unusedSimpArgs false
set_option linter.unusedVariables false
/-- the number of a list of digits. -/
def lval : List UInt8 → Nat := fun l => l.foldl (fun v x => v * 10 + (x.toNat - 48)) 0
theorem lval_fold (l : List UInt8) : ∀ v, l.foldl (fun v x => v * 10 + (x.toNat - 48)) v = v * 10 ^ l.length + lval l := by
  induction l with
  | nil => intro v; simp [lval]
  | cons x l ih =>
    intro v
    unfold lval
    simp only [List.foldl_cons, List.length_cons]
    rw [ih, ih, Nat.pow_succ]
    simp only [Nat.zero_mul, Nat.zero_add, Nat.add_mul, Nat.add_assoc]
    congr 1
    rw [Nat.mul_assoc, Nat.mul_comm 10]
theorem lval_cons (x : UInt8) (l : List UInt8) : lval (x :: l) = (x.toNat - 48) * 10 ^ l.length + lval l := by
  show l.foldl _ (0 * 10 + (x.toNat - 48)) = _
  rw [lval_fold, Nat.zero_mul, Nat.zero_add]
theorem lval_snoc (l : List UInt8) (x : UInt8) : lval (l ++ [x]) = lval l * 10 + (x.toNat - 48) := by unfold lval; rw [List.foldl_append]; rfl
def Dig (l : List UInt8) : Prop := ∀ x ∈ l, 48 ≤ x.toNat ∧ x.toNat ≤ 57
theorem lval_lt {l : List UInt8} (h : Dig l) : lval l < 10 ^ l.length := by
  induction l with
  | nil => simp [lval]
  | cons x l ih =>
    have h1 := h x (by simp)
    have h2 := ih fun y hy => h y (by simp [hy])
    rw [lval_cons, List.length_cons, Nat.pow_succ]
    have h3 : (x.toNat - 48) * 10 ^ l.length ≤ 9 * 10 ^ l.length := Nat.mul_le_mul_right _ (by omega)
    omega
theorem dch_dig {d : Nat} (h : d < 10) : (dch d).toNat = 48 + d := by
  unfold dch
  rw [if_pos h, UInt8.toNat_ofNat']
  omega
theorem dch_of {x : UInt8} (h : 48 ≤ x.toNat ∧ x.toNat ≤ 57) : dch (x.toNat - 48) = x := by
  apply UInt8.toNat.inj
  rw [dch_dig (by omega)]; omega
theorem low_dig (N : Nat) : ∀ k, Dig (low 10 N k)
  | 0 => fun x hx => by cases hx
  | k + 1 => fun x hx => by
    rw [low] at hx
    rcases List.mem_cons.1 hx with rfl | hx
    · rw [dch_dig (Nat.mod_lt _ (by decide))]
      have := Nat.mod_lt (N / 10 ^ k) (show 10 > 0 by decide)
      omega
    · exact low_dig N k x hx
theorem lval_low (N : Nat) : ∀ k, lval (low 10 N k) = N % 10 ^ k
  | 0 => by simp [low, lval, Nat.mod_one]
  | k + 1 => by
    rw [low, lval_cons, dch_dig (Nat.mod_lt _ (by decide)), low_len, lval_low N k, Nat.add_sub_cancel_left, Nat.pow_succ, Nat.mod_mul, Nat.mul_comm, Nat.add_comm]
theorem low_lval {l : List UInt8} (h : Dig l) : low 10 (lval l) l.length = l := by
  induction l with
  | nil => rfl
  | cons x l ih =>
    have h1 := h x (by simp)
    have hl : Dig l := fun y hy => h y (by simp [hy])
    have h2 := lval_lt hl
    have hp : 0 < 10 ^ l.length := Nat.pow_pos (by decide)
    rw [List.length_cons, low, lval_cons]
    have e1 : ((x.toNat - 48) * 10 ^ l.length + lval l) / 10 ^ l.length = x.toNat - 48 := by
      rw [Nat.add_comm, Nat.add_mul_div_right _ _ hp, Nat.div_eq_of_lt h2, Nat.zero_add]
    have e2 : ((x.toNat - 48) * 10 ^ l.length + lval l) % 10 ^ l.length = lval l := by
      rw [Nat.add_comm, Nat.add_mul_mod_self_right, Nat.mod_eq_of_lt h2]
    rw [e1, Nat.mod_eq_of_lt (by omega), dch_of h1, ← low_mod (by decide) (Nat.le_refl _), e2, ih hl]
/-- a list of digits that is a number's text. -/
def Wr (l : List UInt8) : Prop := Dig l ∧ l ≠ [] ∧ (l.length = 1 ∨ (l.headD 0).toNat ≠ 48)
theorem tx0_lval {l : List UInt8} (h : Wr l) : tx0 10 (lval l) = l := by
  obtain ⟨h1, h2, h3⟩ := h
  match l, h2 with
  | x :: l, _ =>
  have hx := h1 x (by simp)
  have hl : Dig l := fun y hy => h1 y (by simp [hy])
  unfold tx0
  by_cases h0 : x.toNat = 48
  · have hn : l = [] := by
      rcases h3 with h3 | h3
      · simpa using h3
      · exact absurd h0 h3
    subst hn
    have e : lval [x] = 0 := by rw [lval_cons, h0]; rfl
    rw [if_pos e]
    congr 1
    exact (UInt8.toNat.inj (by rw [h0]; rfl)).symm
  · have hp : 10 ^ l.length ≤ lval (x :: l) := by
      rw [lval_cons]
      have : 1 * 10 ^ l.length ≤ (x.toNat - 48) * 10 ^ l.length := Nat.mul_le_mul_right _ (by omega)
      omega
    have hp0 : 0 < 10 ^ l.length := Nat.pow_pos (by decide)
    have hlt := lval_lt h1
    rw [if_neg (by omega)]
    have hnd : nd 10 (lval (x :: l)) = (x :: l).length := by
      have a := (nd_le (b := 10) (by decide)).2 hlt
      have b := (nd_lt (b := 10) (by decide) (k := l.length)).2 hp
      rw [List.length_cons] at a ⊢
      omega
    unfold txt
    rw [hnd, low_lval h1]
theorem tx0_wr (N : Nat) : Wr (tx0 10 N) := by
  unfold tx0
  split
  · exact ⟨fun x hx => by simp at hx; subst hx; decide, by simp, .inl rfl⟩
  · rename_i h
    have hn := nd_pos (b := 10) (by decide) h
    unfold txt
    refine ⟨low_dig _ _, ?_, .inr ?_⟩
    · intro h2
      have := congrArg List.length h2
      rw [low_len] at this
      simp at this; omega
    · rw [hn, low]
      show (dch _).toNat ≠ 48
      rw [dch_dig (Nat.mod_lt _ (by decide))]
      have a : 10 ^ nd 10 (N / 10) ≤ N := (nd_lt (b := 10) (by decide)).1 (by omega)
      have b : N < 10 ^ (nd 10 (N / 10) + 1) := (nd_le (b := 10) (by decide)).1 (by omega)
      have hp : 0 < 10 ^ nd 10 (N / 10) := Nat.pow_pos (by decide)
      have c : 1 ≤ N / 10 ^ nd 10 (N / 10) := (Nat.le_div_iff_mul_le hp).2 (by omega)
      have d : N / 10 ^ nd 10 (N / 10) < 10 := (Nat.div_lt_iff_lt_mul hp).2 (by rw [Nat.pow_succ] at b; omega)
      rw [Nat.mod_eq_of_lt d]; omega
theorem lval_tx0 (N : Nat) : lval (tx0 10 N) = N := by
  unfold tx0
  split
  · rename_i h; subst h; rfl
  · unfold txt
    rw [lval_low]
    exact Nat.mod_eq_of_lt ((nd_le (b := 10) (by decide)).1 (Nat.le_refl _))
theorem tx0_len {N k : Nat} (h : N < 10 ^ k) (hk : 1 ≤ k) : (tx0 10 N).length ≤ k := by
  unfold tx0
  split
  · simpa using hk
  · unfold txt; rw [low_len]; exact (nd_le (b := 10) (by decide)).2 h
/-- a text with a sign ahead or not. -/
def sgT (s : Bool) (l : List UInt8) : ByteArray := ⟨((if s then [45] else []) ++ l).toArray⟩
theorem sgT_size (s : Bool) (l : List UInt8) : (sgT s l).size = (if s then 1 else 0) + l.length := by
  unfold sgT
  show (List.toArray _).size = _
  rw [List.size_toArray]; cases s <;> simp <;> omega
theorem sgT_neg {s : Bool} {l : List UInt8} (h : (l.headD 0).toNat ≠ 45) : neg1 (sgT s l) = s := by
  unfold neg1 sgT
  cases s
  · match l with
    | [] => rfl
    | x :: l =>
      show Lib.hasPrefix (x :: l) [45] = false
      have hx : ¬x = 45 := fun e => h (by rw [e]; rfl)
      show ((45 : UInt8) == x && _) = false
      rw [show ((45 : UInt8) == x) = false from beq_eq_false_iff_ne.2 (fun e => hx e.symm)]
      rfl
  · rfl
theorem sgT_frm {s : Bool} {l : List UInt8} (h : (l.headD 0).toNat ≠ 45) : frm (sgT s l) = if s then 1 else 0 := by
  unfold frm
  have := sgT_neg (s := s) h
  unfold neg1 at this
  rw [this]
theorem sgT_bdy {s : Bool} {l : List UInt8} (h : (l.headD 0).toNat ≠ 45) : bdy (sgT s l) = ⟨l.toArray⟩ := by
  have hn := sgT_neg (s := s) h
  unfold neg1 at hn
  unfold bdy Lib.trimPrefix
  rw [hn]
  cases s <;> rfl
theorem nv_lval (l : List UInt8) : nv ⟨l.toArray⟩ l.length = lval l := by
  have key : ∀ k, k ≤ l.length → nv ⟨l.toArray⟩ k = lval (l.take k) := by
    intro k
    induction k with
    | zero => intro _; rfl
    | succ k ih =>
      intro hk
      rw [nv, ih (by omega), List.take_add_one, List.getElem?_eq_getElem (by omega)]
      show _ = lval (l.take k ++ [l[k]])
      rw [lval_snoc]
      congr 2
      unfold byt
      simp [Array.getD, show k < l.length by omega]
  rw [key _ (Nat.le_refl _), List.take_length]
theorem sgT_zs {s : Bool} {l : List UInt8} (h : (l.headD 0).toNat ≠ 45) : zs (sgT s l) = sgn s (lval l) := by
  unfold zs
  rw [sgT_neg h, sgT_bdy h]
  show sgn s (nv ⟨l.toArray⟩ l.toArray.size) = _
  rw [List.size_toArray, nv_lval]
theorem byt_sgT (s : Bool) (l : List UInt8) (j : Nat) : byt (sgT s l) ((if s then 1 else 0) + j) = (l.getD j 0).toNat := by
  unfold byt sgT
  cases s <;> simp [Array.getD, List.getD, Nat.add_comm] <;> (split <;> simp_all [List.getElem?_eq_none])
theorem stb_sgT (s : Bool) (l : List UInt8) (j : Nat) : stb (sgT s l) (if s then 1 else 0) ((if s then 1 else 0) + j) =
    if (l.getD j 0).toNat < 48 ∨ 57 < (l.getD j 0).toNat then false else if 400 ≤ j then false else if j = 0 then decide ((l.getD 0 0).toNat ≠ 48) || !s else decide ((l.getD 0 0).toNat ≠ 48) := by
  have h1 := byt_sgT s l j
  have h2 := byt_sgT s l 0
  rw [Nat.add_zero] at h2
  unfold stb
  rw [h1, h2, Nat.add_sub_cancel_left]
  by_cases hj : j = 0
  · subst hj; cases s <;> simp
  · have : ¬(if s then 1 else 0) + j = (if s then 1 else 0) := by omega
    rw [if_neg hj, if_neg this]
theorem head_getD (l : List UInt8) : l.headD 0 = l.getD 0 0 := by cases l <;> rfl
/-- where a text of digits, with one byte more or not, stops being a number. -/
theorem fau_sgT {s : Bool} {l : List UInt8} (h : Wr l) (hl : l.length ≤ 300) (h0 : s = true → (l.headD 0).toNat ≠ 48) : fau (sgT s l) = ((sgT s l).size, 0) := by
  obtain ⟨h1, h2, h3⟩ := h
  have hd : (l.headD 0).toNat ≠ 45 := by
    match l, h2 with
    | x :: l, _ => have := h1 x (by simp); show x.toNat ≠ 45; omega
  have hf := sgT_frm (s := s) hd
  have hsz := sgT_size s l
  have hlen : 0 < l.length := List.length_pos_iff.2 h2
  refine fau_is (.inr ⟨fun j hj1 hj2 => ?_, rfl, ?_⟩)
  · rw [hf] at hj1 ⊢
    obtain ⟨i, rfl⟩ : ∃ i, j = (if s then 1 else 0) + i := ⟨j - (if s then 1 else 0), by omega⟩
    rw [hsz] at hj2
    rw [stb_sgT]
    have hi : i < l.length := by omega
    have hb := h1 (l.getD i 0) (by rw [List.getD_eq_getElem?_getD, List.getElem?_eq_getElem hi]; exact List.getElem_mem hi)
    rw [if_neg (by omega), if_neg (by omega)]
    rw [head_getD] at h0 h3
    split
    · cases s
      · simp
      · rw [decide_eq_true (h0 rfl)]; rfl
    · rcases h3 with h3 | h3
      · omega
      · exact decide_eq_true h3
  · rw [if_neg (by rw [hf, hsz]; omega)]
theorem snoc_getD (l : List UInt8) (c : UInt8) {i : Nat} (h : i < l.length) : (l ++ [c]).getD i 0 = l.getD i 0 := by
  rw [List.getD_eq_getElem?_getD, List.getD_eq_getElem?_getD, List.getElem?_append_left h]
theorem fau_snoc {s : Bool} {l : List UInt8} {c : UInt8} (h : Wr l) (hl : l.length ≤ 300) (h0 : s = true → (l.headD 0).toNat ≠ 48) (hc : (c.toNat < 48 ∨ 57 < c.toNat) ∨ (l.headD 0).toNat = 48) : fau (sgT s (l ++ [c])) = ((sgT s l).size, 14) := by
  obtain ⟨h1, h2, h3⟩ := h
  have hlen : 0 < l.length := List.length_pos_iff.2 h2
  have hd0 : ((l ++ [c]).headD 0) = l.headD 0 := by rw [head_getD, head_getD, snoc_getD l c hlen]
  have hd : ((l ++ [c]).headD 0).toNat ≠ 45 := by
    rw [hd0]
    match l, h2 with
    | x :: l, _ => have := h1 x (by simp); show x.toNat ≠ 45; omega
  have hf := sgT_frm (s := s) hd
  have hsz := sgT_size s l
  have hsz2 := sgT_size s (l ++ [c])
  rw [List.length_append] at hsz2
  have e1 : [c].length = 1 := rfl
  have hat : (l ++ [c]).getD l.length 0 = c := by simp [List.getD]
  have h00 : (l ++ [c]).getD 0 0 = l.getD 0 0 := snoc_getD l c hlen
  rw [head_getD] at h0 h3 hc
  refine fau_is (.inl ⟨by omega, by rw [hf, hsz]; omega, fun j hj1 hj2 => ?_, ?_, rfl⟩)
  · rw [hf] at hj1 ⊢
    obtain ⟨i, rfl⟩ : ∃ i, j = (if s then 1 else 0) + i := ⟨j - (if s then 1 else 0), by omega⟩
    rw [stb_sgT]
    have hi : i < l.length := by omega
    have hb := h1 (l.getD i 0) (by rw [List.getD_eq_getElem?_getD, List.getElem?_eq_getElem hi]; exact List.getElem_mem hi)
    rw [snoc_getD l c hi, h00, if_neg (by omega), if_neg (by omega)]
    split
    · cases s
      · simp
      · rw [decide_eq_true (h0 rfl)]; rfl
    · rcases h3 with h3 | h3
      · omega
      · exact decide_eq_true h3
  · rw [hf, hsz, stb_sgT, hat, h00]
    rcases hc with hc | hc
    · rw [if_pos hc]
    · split
      · rfl
      · rw [if_neg (by omega), if_neg (by omega), hc]; rfl
theorem snoc_wr {l : List UInt8} {c : UInt8} (h : Wr l) (h0 : (l.headD 0).toNat ≠ 48) (hc : 48 ≤ c.toNat ∧ c.toNat ≤ 57) : Wr (l ++ [c]) ∧ ((l ++ [c]).headD 0).toNat ≠ 48 := by
  have hlen : 0 < l.length := List.length_pos_iff.2 h.2.1
  have hd0 : ((l ++ [c]).headD 0) = l.headD 0 := by rw [head_getD, head_getD, snoc_getD l c hlen]
  refine ⟨⟨fun x hx => ?_, by simp, .inr (by rw [hd0]; exact h0)⟩, by rw [hd0]; exact h0⟩
  rcases List.mem_append.1 hx with hx | hx
  · exact h.1 x hx
  · simp at hx; subst hx; exact hc
theorem ntx_sgT (z : Int) : ntx 10 z = sgT (decide (z < 0)) (tx0 10 z.natAbs) := by
  unfold ntx sgT
  by_cases h : z < 0 <;> simp [h]
theorem head_tx0 {N : Nat} (h : N ≠ 0) : ((tx0 10 N).headD 0).toNat ≠ 48 := by
  intro h2
  have hw := tx0_wr N
  rcases hw.2.2 with h3 | h3
  · match hl : tx0 10 N, h3 with
    | [x], _ =>
      have := lval_tx0 N
      rw [hl] at this h2
      have hx : x.toNat = 48 := h2
      rw [lval_cons, hx] at this
      exact h this.symm
  · exact h3 h2
theorem wr45 {l : List UInt8} (h : Wr l) : (l.headD 0).toNat ≠ 45 := by
  match l, h.2.1 with
  | x :: l, _ => have := h.1 x (by simp); show x.toNat ≠ 45; omega
theorem pow512 : ∀ k : Nat, k = 4 → ((2 : Nat) ^ 128) ^ k < 10 ^ 156 := by
  intro k hk
  have h := Nat.pow_lt_pow_left (n := k) (show (2 : Nat) ^ 128 < 10 ^ 39 by decide) (by omega)
  rw [← Nat.pow_mul 10, hk] at h
  rw [hk]; exact h
theorem fit156 {Z : Int} (h : Fit Z 512) : Z.natAbs < 10 ^ 156 := by
  refine Nat.lt_trans h ?_
  have := pow512 4 rfl
  rw [← Nat.pow_mul] at this
  have e : (512 : Nat) = 128 * 4 := rfl
  rw [e]
  exact this
theorem pow_B (k m n B : Nat) (hk : k = m + n) (hB : B = 2 ^ n) : 2 ^ k = 2 ^ m * B := by rw [hk, Nat.pow_add, hB]
theorem fit520 {a b : Int} (h : Fit a 512) (hb : b.natAbs ≤ a.natAbs * 10 + 9) : Fit b 520 := by
  unfold Fit at *
  obtain ⟨B, hB⟩ : ∃ B : Nat, B = 2 ^ 512 := ⟨_, rfl⟩
  rw [← hB] at h
  rw [pow_B 520 8 512 B rfl hB]
  omega
/-- a number's text, read again: all of it, and that number. -/
theorem back1 {Z : Int} (h : Fit Z 512) : fau (ntx 10 Z) = ((ntx 10 Z).size, 0) ∧ zs (ntx 10 Z) = Z ∧ (ntx 10 Z).size ≤ 160 := by
  have hw := tx0_wr Z.natAbs
  have hl : (tx0 10 Z.natAbs).length ≤ 156 := tx0_len (fit156 h) (by decide)
  rw [ntx_sgT]
  refine ⟨fau_sgT hw (by omega) fun hs => head_tx0 (by have := of_decide_eq_true hs; omega), ?_, by rw [sgT_size]; split <;> omega⟩
  rw [sgT_zs (wr45 hw), lval_tx0]
  by_cases hz : Z < 0
  · rw [decide_eq_true hz, sgn_true]; omega
  · rw [decide_eq_false hz, sgn_false]; omega
theorem snoc_sgT (s : Bool) (l : List UInt8) (c : UInt8) : sgT s l ++ ⟨#[c]⟩ = sgT s (l ++ [c]) := by
  unfold sgT
  apply ByteArray.ext
  rw [ByteArray.data_append]
  simp
/-- with one byte more: no number, or another one. -/
theorem back2 {Z : Int} (h : Fit Z 512) (c : UInt8) : (fau (ntx 10 Z ++ ⟨#[c]⟩) = ((ntx 10 Z).size, 14)) ∨
    (fau (ntx 10 Z ++ ⟨#[c]⟩) = ((ntx 10 Z).size + 1, 0) ∧ (48 ≤ c.toNat ∧ c.toNat ≤ 57) ∧ ntx 10 (zs (ntx 10 Z ++ ⟨#[c]⟩)) = ntx 10 Z ++ ⟨#[c]⟩ ∧ Fit (zs (ntx 10 Z ++ ⟨#[c]⟩)) 520) := by
  have hw := tx0_wr Z.natAbs
  have hl : (tx0 10 Z.natAbs).length ≤ 156 := tx0_len (fit156 h) (by decide)
  have hs0 : decide (Z < 0) = true → ((tx0 10 Z.natAbs).headD 0).toNat ≠ 48 := fun hs => head_tx0 (by have := of_decide_eq_true hs; omega)
  rw [ntx_sgT Z, snoc_sgT]
  by_cases hc : (c.toNat < 48 ∨ 57 < c.toNat) ∨ ((tx0 10 Z.natAbs).headD 0).toNat = 48
  · exact .inl (fau_snoc hw (by omega) hs0 hc)
  · right
    have hcd : 48 ≤ c.toNat ∧ c.toNat ≤ 57 := by omega
    have hh : ((tx0 10 Z.natAbs).headD 0).toNat ≠ 48 := fun k => hc (.inr k)
    obtain ⟨w1, w2⟩ := snoc_wr hw hh hcd
    have hlen : (tx0 10 Z.natAbs ++ [c]).length = (tx0 10 Z.natAbs).length + 1 := by simp
    have hzs := sgT_zs (s := decide (Z < 0)) (wr45 w1)
    have hv : lval (tx0 10 Z.natAbs ++ [c]) = Z.natAbs * 10 + (c.toNat - 48) := by rw [lval_snoc, lval_tx0]
    have hN : Z.natAbs ≠ 0 := fun k => hh (by rw [k]; rfl)
    refine ⟨?_, hcd, ?_, ?_⟩
    · rw [fau_sgT w1 (by omega) fun _ => w2, sgT_size, sgT_size, hlen]; rfl
    · rw [hzs, hv, ntx_sgT]
      by_cases hz : Z < 0
      · rw [decide_eq_true hz, sgn_true, decide_eq_true (by omega), ← hv, Int.natAbs_neg, Int.natAbs_natCast, tx0_lval w1]
      · rw [decide_eq_false hz, sgn_false, decide_eq_false (by omega), ← hv, Int.natAbs_natCast, tx0_lval w1]
    · rw [hzs, hv]
      refine fit520 h ?_
      rw [sgn_natAbs]
      clear h
      omega
end Go.Proofs.YtnnnolmldmbaaaaDoor.Ev
