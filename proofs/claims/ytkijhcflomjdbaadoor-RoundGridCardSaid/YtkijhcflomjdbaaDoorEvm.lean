/- Limbs and numbers with a sign as data. -/
import Derived.Test.YtkijhcflomjdbaaDoorEvb
import Derived.Test.YtkijhcflomjdbaaDoorWa
namespace Go.Proofs.YtkijhcflomjdbaaDoor.Ev
open Go Go.RowKit
set_option linter.unusedSimpArgs false
set_option linter.unusedVariables false
def u32s (xs : List Nat) : List D := xs.map fun x : Nat => D.int .u32 (x : Int)
def num1 : D → Nat | .int _ n => n.toNat | _ => 0
def nums (cs : List D) : List Nat := cs.map num1
theorem nums_u32s (xs : List Nat) : nums (u32s xs) = xs := by
  unfold nums u32s
  rw [List.map_map]
  induction xs with
  | nil => rfl
  | cons x xs ih => simp only [List.map_cons, Function.comp, num1, Int.toNat_natCast] at ih ⊢; rw [ih]
/-- numbers as data. -/
def N0 : Nums := ⟨fun z => decide (z < 0), fun z => ln z.natAbs, fun z => u32s (lim z.natAbs)⟩
/-- limbs that can be worked with. -/
def okC (n : Nat) (cs : List D) : Prop := cs = u32s (nums cs) ∧ cs.length = n ∧ Ok (nums cs) ∧ n ≤ 100000
def vI (s : Bool) (cs : List D) : Int := sgn s (val (nums cs))
def vL (cs : List D) : Int := (val (nums cs) : Nat)
theorem vI_N0 (z : Int) : vI (N0.neg z) (N0.lm z) = z := by
  unfold vI N0
  dsimp only
  rw [nums_u32s]; exact sgn_lim z
theorem vL_N0 (z : Int) : vL (N0.lm z) = z.natAbs := by
  unfold vL N0
  dsimp only
  rw [nums_u32s, val_lim]
theorem okC_N0 {z : Int} (h : ln z.natAbs ≤ 100000) : okC (N0.ln z) (N0.lm z) := by
  unfold okC N0
  dsimp only
  rw [nums_u32s]
  exact ⟨rfl, by unfold u32s ln; rw [List.length_map], ok_lim _, h⟩
theorem okC_ln {n : Nat} {cs : List D} (h : okC n cs) : ln (val (nums cs)) ≤ n := by
  obtain ⟨_, h1, h2, _⟩ := h
  have := ln_val_le h2
  unfold nums at this ⊢
  rw [List.length_map] at this
  omega
theorem denC_nums {w : World} {X : Nat → Prop} {b : Nat} : ∀ {xs : List Nat} {o : Nat}, denC w X b o (u32s xs) → ∀ j, j < xs.length → w.cell? ⟨b, o + j, none⟩ = some (d32 (dig xs j))
  | [], _, _, j, hj => by cases hj
  | x :: xs, o, h, j, hj => by
    simp only [u32s, List.map_cons, denC, den] at h
    obtain ⟨⟨v, hc, _, rfl⟩, h2⟩ := h
    cases j with
    | zero => exact hc
    | succ j =>
      have := denC_nums (xs := xs) h2 j (by simpa using hj)
      rw [show o + (j + 1) = o + 1 + j by omega, dig_cons_succ]; exact this
theorem nums_denC {w : World} {X : Nat → Prop} {b : Nat} : ∀ {xs : List Nat} {o : Nat}, (∀ j, j < xs.length → w.cell? ⟨b, o + j, none⟩ = some (d32 (dig xs j))) → denC w X b o (u32s xs)
  | [], _, _ => by simp only [u32s, List.map_nil, denC]
  | x :: xs, o, h => by
    simp only [u32s, List.map_cons, denC, den]
    refine ⟨⟨_, h 0 (by simp), rfl, rfl⟩, nums_denC (xs := xs) fun j hj => ?_⟩
    have := h (j + 1) (by simpa using hj)
    rwa [show o + (j + 1) = o + 1 + j by omega, dig_cons_succ] at this
theorem lm_of_den {w : World} {X : Nat → Prop} {ρ : Nat → Option Nat} {n : Nat} {cs : List D} {v : Value} (h : okC n cs) (hd : den ⟨w, X, ρ⟩ (.sl n cs) v) : ∃ A c, v = .slice A n c ∧ Lm w A n c (nums cs) := by
  obtain ⟨h1, h2, h3, h4⟩ := h
  simp only [den] at hd
  obtain ⟨A, c, rfl, hn, hb⟩ := hd
  have hl : (nums cs).length = n := by unfold nums; rw [List.length_map]; exact h2
  refine ⟨A, c, rfl, ⟨hl, hn, by omega⟩, h3, fun h0 => ?_⟩
  obtain ⟨b, o, rfl, hlt, _, hc⟩ := hb (by omega)
  rw [h1] at hc
  refine ⟨b, o, rfl, hlt, fun j hj => denC_nums hc j (by omega)⟩
theorem den_of_lm {w : World} {X : Nat → Prop} {ρ : Nat → Option Nat} {A : Option Addr} {n c N : Nat} (h : Lm w A n c (lim N)) (hX : OwnOk w X) : den ⟨w, X, ρ⟩ (.sl (ln N) (u32s (lim N))) (.slice A n c) := by
  have hl : ln N = n := h.len
  simp only [den]
  refine ⟨A, c, by rw [hl], by rw [hl]; exact h.cap, fun h0 => ?_⟩
  have hn : 0 < n := by unfold u32s at h0; rw [List.length_map] at h0; unfold ln at hl; omega
  obtain ⟨b, o, rfl, hlt, hc⟩ := h.at_ hn
  refine ⟨b, o, rfl, hlt, fun hx => (hX b hx).2 o _ (hc 0 hn), nums_denC fun j hj => hc j ?_⟩
  unfold ln at hl; omega
theorem own_bel {w w' : World} {X : Nat → Prop} (h : OwnOk w X) (hb : Below w.heap.size w w') : OwnOk w' X := fun b hx => by
  obtain ⟨h1, h2⟩ := h b hx
  refine ⟨Nat.lt_of_lt_of_le h1 hb.size, fun o n => ?_⟩
  rw [hb.cell (p := ⟨b, o, none⟩) h1]; exact h2 o n
/-- the whole number z, as it is told. -/
def dI (z : Int) : D := .agg [.bool (N0.neg z), .sl (N0.ln z) (N0.lm z)]
def dL (N : Nat) : D := .sl (N0.ln N) (N0.lm N)
theorem dI_den {w : World} {X : Nat → Prop} {ρ : Nat → Option Nat} {A : Option Addr} {n c : Nat} {z : Int} (h : Lm w A n c (lim z.natAbs)) (hX : OwnOk w X) : den ⟨w, X, ρ⟩ (dI z) (.agg #[.bool (decide (z < 0)), .slice A n c]) := by
  unfold dI
  rw [den_agg]
  refine ⟨_, rfl, ?_⟩
  simp only [denL]
  exact ⟨_, _, rfl, by simp only [den]; rfl, _, _, rfl, den_of_lm h hX, rfl⟩
theorem tellsI {w w' : World} {X : Nat → Prop} {z : Int} {len : Nat} {e : Ending} (h : TellsI w z len e w') (hX : OwnOk w X) : ∃ v d, e = .returned v ∧ d = dI z ∧ den ⟨w', X, fun _ => none⟩ d v ∧ Below w.heap.size w w' := by
  obtain ⟨A, m, c, rfl, hl, _, hb⟩ := h
  exact ⟨_, _, rfl, rfl, dI_den hl (own_bel hX hb), hb⟩
theorem tellsL {w w' : World} {X : Nat → Prop} {N len : Nat} {e : Ending} (h : Tells w N len e w') (hX : OwnOk w X) : ∃ v d, e = .returned v ∧ d = dL N ∧ den ⟨w', X, fun _ => none⟩ d v ∧ Below w.heap.size w w' := by
  obtain ⟨A, m, c, rfl, hl, _, hb⟩ := h
  exact ⟨_, _, rfl, rfl, den_of_lm (by rw [Int.natAbs_natCast]; exact hl) (own_bel hX hb), hb⟩
theorem tellsi {w w' : World} {X : Nat → Prop} {z : Int} {k : IntKind} {e : Ending} (h : e = .returned (.int k z) ∧ Below w.heap.size w w') : ∃ v d, e = .returned v ∧ d = .int k z ∧ den ⟨w', X, fun _ => none⟩ d v ∧ Below w.heap.size w w' :=
  ⟨_, _, h.1, rfl, by simp only [den], h.2⟩
theorem tellsb {w w' : World} {X : Nat → Prop} {t : Bool} {e : Ending} (h : e = .returned (.bool t) ∧ Below w.heap.size w w') : ∃ v d, e = .returned v ∧ d = .bool t ∧ den ⟨w', X, fun _ => none⟩ d v ∧ Below w.heap.size w w' :=
  ⟨_, _, h.1, rfl, by simp only [den], h.2⟩
/-- arguments, one by one. -/
theorem argI {w : World} {X : Nat → Prop} {s : Bool} {n : Nat} {cs ds : List D} {vs : List Value} (h : denL ⟨w, X, fun _ => none⟩ (.agg [.bool s, .sl n cs] :: ds) vs) (hc : okC n cs) :
    ∃ A c us, vs = .agg #[.bool s, .slice A n c] :: us ∧ Lm w A n c (nums cs) ∧ denL ⟨w, X, fun _ => none⟩ ds us := by
  simp only [denL] at h
  obtain ⟨v, us, rfl, h1, h2⟩ := h
  rw [den_agg] at h1
  obtain ⟨ws, rfl, h1⟩ := h1
  simp only [denL] at h1
  obtain ⟨v1, u1, he, hb, v2, u2, rfl, hs, rfl⟩ := h1
  rw [den_bool] at hb
  subst hb
  obtain ⟨A, c, rfl, hl⟩ := lm_of_den hc hs
  have : ws = #[.bool s, .slice A n c] := by apply Array.ext'; simpa using he
  subst this
  exact ⟨A, c, us, rfl, hl, h2⟩
theorem argL {w : World} {X : Nat → Prop} {n : Nat} {cs ds : List D} {vs : List Value} (h : denL ⟨w, X, fun _ => none⟩ (.sl n cs :: ds) vs) (hc : okC n cs) :
    ∃ A c us, vs = .slice A n c :: us ∧ Lm w A n c (nums cs) ∧ denL ⟨w, X, fun _ => none⟩ ds us := by
  simp only [denL] at h
  obtain ⟨v, us, rfl, h1, h2⟩ := h
  obtain ⟨A, c, rfl, hl⟩ := lm_of_den hc h1
  exact ⟨A, c, us, rfl, hl, h2⟩
theorem argi {w : World} {X : Nat → Prop} {k : IntKind} {z : Int} {ds : List D} {vs : List Value} (h : denL ⟨w, X, fun _ => none⟩ (.int k z :: ds) vs) :
    ∃ us, vs = .int k z :: us ∧ denL ⟨w, X, fun _ => none⟩ ds us := by
  simp only [denL] at h
  obtain ⟨v, us, rfl, h1, h2⟩ := h
  simp only [den] at h1
  subst h1
  exact ⟨us, rfl, h2⟩
theorem arg0 {E : Env} {vs : List Value} (h : denL E [] vs) : vs = [] := by simpa only [denL] using h
end Go.Proofs.YtkijhcflomjdbaaDoor.Ev
