/- Texts of numbers, read again. -/
import Derived.Test.YtgmencbhkkcpiaaDoorEt3
namespace Go.Proofs.YtgmencbhkkcpiaaDoor.Ev
open Go Go.RowKit
set_option linter.unusedSimpArgs false
set_option linter.unusedVariables false
/-- the number of a list of digits. -/
def lval : List UInt8 → Nat := fun l => l.foldl (fun v x => v * 10 + (x.toNat - 48)) 0
theorem lval_fold (l : List UInt8) : ∀ v, l.foldl (fun v x => v * 10 + (x.toNat - 48)) v = v * 10 ^ l.length + lval l := by
  induction l with
  | nil => intro v; simp [lval]
  | cons x l ih =>
    intro v
    unfold lval
    simp only [List.foldl_cons, List.length_cons]
    rw [ih, ih, Nat.pow_succ]
    simp only [Nat.zero_mul, Nat.zero_add, Nat.add_mul, Nat.add_assoc]
    congr 1
    rw [Nat.mul_assoc, Nat.mul_comm 10]
theorem lval_cons (x : UInt8) (l : List UInt8) : lval (x :: l) = (x.toNat - 48) * 10 ^ l.length + lval l := by
  show l.foldl _ (0 * 10 + (x.toNat - 48)) = _
  rw [lval_fold, Nat.zero_mul, Nat.zero_add]
theorem lval_snoc (l : List UInt8) (x : UInt8) : lval (l ++ [x]) = lval l * 10 + (x.toNat - 48) := by unfold lval; rw [List.foldl_append]; rfl
def Dig (l : List UInt8) : Prop := ∀ x ∈ l, 48 ≤ x.toNat ∧ x.toNat ≤ 57
theorem lval_lt {l : List UInt8} (h : Dig l) : lval l < 10 ^ l.length := by
  induction l with
  | nil => simp [lval]
  | cons x l ih =>
    have h1 := h x (by simp)
    have h2 := ih fun y hy => h y (by simp [hy])
    rw [lval_cons, List.length_cons, Nat.pow_succ]
    have h3 : (x.toNat - 48) * 10 ^ l.length ≤ 9 * 10 ^ l.length := Nat.mul_le_mul_right _ (by omega)
    omega
theorem dch_dig {d : Nat} (h : d < 10) : (dch d).toNat = 48 + d := by
  unfold dch
  rw [if_pos h, UInt8.toNat_ofNat']
  omega
theorem dch_of {x : UInt8} (h : 48 ≤ x.toNat ∧ x.toNat ≤ 57) : dch (x.toNat - 48) = x := by
  apply UInt8.toNat.inj
  rw [dch_dig (by omega)]; omega
theorem low_lval {l : List UInt8} (h : Dig l) : low 10 (lval l) l.length = l := by
  induction l with
  | nil => rfl
  | cons x l ih =>
    have h1 := h x (by simp)
    have hl : Dig l := fun y hy => h y (by simp [hy])
    have h2 := lval_lt hl
    have hp : 0 < 10 ^ l.length := Nat.pow_pos (by decide)
    rw [List.length_cons, low, lval_cons]
    have e1 : ((x.toNat - 48) * 10 ^ l.length + lval l) / 10 ^ l.length = x.toNat - 48 := by
      rw [Nat.add_comm, Nat.add_mul_div_right _ _ hp, Nat.div_eq_of_lt h2, Nat.zero_add]
    have e2 : ((x.toNat - 48) * 10 ^ l.length + lval l) % 10 ^ l.length = lval l := by
      rw [Nat.add_comm, Nat.add_mul_mod_self_right, Nat.mod_eq_of_lt h2]
    rw [e1, Nat.mod_eq_of_lt (by omega), dch_of h1, ← low_mod (by decide) (Nat.le_refl _), e2, ih hl]
/-- a list of digits that is a number's text. -/
def Wr (l : List UInt8) : Prop := Dig l ∧ l ≠ [] ∧ (l.length = 1 ∨ (l.headD 0).toNat ≠ 48)
theorem tx0_lval {l : List UInt8} (h : Wr l) : tx0 10 (lval l) = l := by
  obtain ⟨h1, h2, h3⟩ := h
  match l, h2 with
  | x :: l, _ =>
  have hx := h1 x (by simp)
  have hl : Dig l := fun y hy => h1 y (by simp [hy])
  unfold tx0
  by_cases h0 : x.toNat = 48
  · have hn : l = [] := by
      rcases h3 with h3 | h3
      · simpa using h3
      · exact absurd h0 h3
    subst hn
    have e : lval [x] = 0 := by rw [lval_cons, h0]; rfl
    rw [if_pos e]
    congr 1
    exact (UInt8.toNat.inj (by rw [h0]; rfl)).symm
  · have hp : 10 ^ l.length ≤ lval (x :: l) := by
      rw [lval_cons]
      have : 1 * 10 ^ l.length ≤ (x.toNat - 48) * 10 ^ l.length := Nat.mul_le_mul_right _ (by omega)
      omega
    have hp0 : 0 < 10 ^ l.length := Nat.pow_pos (by decide)
    have hlt := lval_lt h1
    rw [if_neg (by omega)]
    have hnd : nd 10 (lval (x :: l)) = (x :: l).length := by
      have a := (nd_le (b := 10) (by decide)).2 hlt
      have b := (nd_lt (b := 10) (by decide) (k := l.length)).2 hp
      rw [List.length_cons] at a ⊢
      omega
    unfold txt
    rw [hnd, low_lval h1]
theorem tx0_len {N k : Nat} (h : N < 10 ^ k) (hk : 1 ≤ k) : (tx0 10 N).length ≤ k := by
  unfold tx0
  split
  · simpa using hk
  · unfold txt; rw [low_len]; exact (nd_le (b := 10) (by decide)).2 h
/-- a text with a sign ahead or not. -/
def sgT (s : Bool) (l : List UInt8) : ByteArray := ⟨((if s then [45] else []) ++ l).toArray⟩
theorem sgT_size (s : Bool) (l : List UInt8) : (sgT s l).size = (if s then 1 else 0) + l.length := by
  unfold sgT
  show (List.toArray _).size = _
  rw [List.size_toArray]; cases s <;> simp <;> omega
theorem sgT_neg {s : Bool} {l : List UInt8} (h : (l.headD 0).toNat ≠ 45) : neg1 (sgT s l) = s := by
  unfold neg1 sgT
  cases s
  · match l with
    | [] => rfl
    | x :: l =>
      show Lib.hasPrefix (x :: l) [45] = false
      have hx : ¬x = 45 := fun e => h (by rw [e]; rfl)
      show ((45 : UInt8) == x && _) = false
      rw [show ((45 : UInt8) == x) = false from beq_eq_false_iff_ne.2 (fun e => hx e.symm)]
      rfl
  · rfl
theorem sgT_frm {s : Bool} {l : List UInt8} (h : (l.headD 0).toNat ≠ 45) : frm (sgT s l) = if s then 1 else 0 := by
  unfold frm
  have := sgT_neg (s := s) h
  unfold neg1 at this
  rw [this]
theorem sgT_bdy {s : Bool} {l : List UInt8} (h : (l.headD 0).toNat ≠ 45) : bdy (sgT s l) = ⟨l.toArray⟩ := by
  have hn := sgT_neg (s := s) h
  unfold neg1 at hn
  unfold bdy Lib.trimPrefix
  rw [hn]
  cases s <;> rfl
theorem nv_lval (l : List UInt8) : nv ⟨l.toArray⟩ l.length = lval l := by
  have key : ∀ k, k ≤ l.length → nv ⟨l.toArray⟩ k = lval (l.take k) := by
    intro k
    induction k with
    | zero => intro _; rfl
    | succ k ih =>
      intro hk
      rw [nv, ih (by omega), List.take_add_one, List.getElem?_eq_getElem (by omega)]
      show _ = lval (l.take k ++ [l[k]])
      rw [lval_snoc]
      congr 2
      unfold byt
      simp [Array.getD, show k < l.length by omega]
  rw [key _ (Nat.le_refl _), List.take_length]
theorem sgT_zs {s : Bool} {l : List UInt8} (h : (l.headD 0).toNat ≠ 45) : zs (sgT s l) = sgn s (lval l) := by
  unfold zs
  rw [sgT_neg h, sgT_bdy h]
  show sgn s (nv ⟨l.toArray⟩ l.toArray.size) = _
  rw [List.size_toArray, nv_lval]
theorem byt_sgT (s : Bool) (l : List UInt8) (j : Nat) : byt (sgT s l) ((if s then 1 else 0) + j) = (l.getD j 0).toNat := by
  unfold byt sgT
  cases s <;> simp [Array.getD, List.getD, Nat.add_comm] <;> (split <;> simp_all [List.getElem?_eq_none])
theorem stb_sgT (s : Bool) (l : List UInt8) (j : Nat) : stb (sgT s l) (if s then 1 else 0) ((if s then 1 else 0) + j) =
    if (l.getD j 0).toNat < 48 ∨ 57 < (l.getD j 0).toNat then false else if 400 ≤ j then false else if j = 0 then decide ((l.getD 0 0).toNat ≠ 48) || !s else decide ((l.getD 0 0).toNat ≠ 48) := by
  have h1 := byt_sgT s l j
  have h2 := byt_sgT s l 0
  rw [Nat.add_zero] at h2
  unfold stb
  rw [h1, h2, Nat.add_sub_cancel_left]
  by_cases hj : j = 0
  · subst hj; cases s <;> simp
  · have : ¬(if s then 1 else 0) + j = (if s then 1 else 0) := by omega
    rw [if_neg hj, if_neg this]
theorem head_getD (l : List UInt8) : l.headD 0 = l.getD 0 0 := by cases l <;> rfl
theorem ntx_sgT (z : Int) : ntx 10 z = sgT (decide (z < 0)) (tx0 10 z.natAbs) := by
  unfold ntx sgT
  by_cases h : z < 0 <;> simp [h]
theorem wr45 {l : List UInt8} (h : Wr l) : (l.headD 0).toNat ≠ 45 := by
  match l, h.2.1 with
  | x :: l, _ => have := h.1 x (by simp); show x.toNat ≠ 45; omega
end Go.Proofs.YtgmencbhkkcpiaaDoor.Ev
