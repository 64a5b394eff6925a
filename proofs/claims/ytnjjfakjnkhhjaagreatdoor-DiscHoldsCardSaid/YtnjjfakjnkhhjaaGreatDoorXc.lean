import Derived.Test.YtnjjfakjnkhhjaaGreatDoorEvb
import Derived.Test.YtnjjfakjnkhhjaaGreatDoorWa
import Derived.Test.YtnjjfakjnkhhjaaGreatDoorLa
import Derived.Test.YtnjjfakjnkhhjaaGreatDoorLb
import Derived.Test.YtnjjfakjnkhhjaaGreatDoorRg
import Derived.Test.YtnjjfakjnkhhjaaGreatDoorRe
set_option linter.all false
namespace Go.Proofs.YtnjjfakjnkhhjaaGreatDoor.Ev
open Go Go.RowKit
def u32s (xs : List Nat) : List D := xs.map fun x : Nat => D.int .u32 (x : Int)
def num1 : D → Nat | .int _ n => n.toNat | _ => 0
def nums (cs : List D) : List Nat := cs.map num1
theorem nums_u32s (xs : List Nat) : nums (u32s xs) = xs := by
 unfold nums u32s
 rw [List.map_map]
 induction xs with
 | nil => rfl
 | cons x xs ih => simp only [List.map_cons, Function.comp, num1, Int.toNat_natCast] at ih ⊢; rw [ih]
def N0 : Nums := ⟨fun z => decide (z < 0), fun z => ln z.natAbs, fun z => u32s (lim z.natAbs)⟩
def okC (n : Nat) (cs : List D) : Prop := cs = u32s (nums cs) ∧ cs.length = n ∧ Ok (nums cs) ∧ n ≤ 100000
def vI (s : Bool) (cs : List D) : Int := sgn s (val (nums cs))
def vL (cs : List D) : Int := (val (nums cs) : Nat)
theorem vI_N0 (z : Int) : vI (N0.neg z) (N0.lm z) = z := by
 unfold vI N0
 dsimp only
 rw [nums_u32s]; exact sgn_lim z
theorem vL_N0 (z : Int) : vL (N0.lm z) = z.natAbs := by
 unfold vL N0
 dsimp only
 rw [nums_u32s, val_lim]
theorem okC_N0 {z : Int} (h : ln z.natAbs ≤ 100000) : okC (N0.ln z) (N0.lm z) := by
 unfold okC N0
 dsimp only
 rw [nums_u32s]
 exact ⟨rfl, by unfold u32s ln; rw [List.length_map], ok_lim _, h⟩
theorem okC_ln {n : Nat} {cs : List D} (h : okC n cs) : ln (val (nums cs)) ≤ n := by
 obtain ⟨_, h1, h2, _⟩ := h
 have := ln_val_le h2
 unfold nums at this ⊢
 rw [List.length_map] at this
 omega
theorem denC_nums {w : World} {X : Nat → Prop} {b : Nat} : ∀ {xs : List Nat} {o : Nat}, denC w X b o (u32s xs) → ∀ j, j < xs.length → w.cell? ⟨b, o + j, none⟩ = some (d32 (dig xs j))
 | [], _, _, j, hj => by cases hj
 | x :: xs, o, h, j, hj => by
  simp only [u32s, List.map_cons, denC, den] at h
  obtain ⟨⟨v, hc, _, rfl⟩, h2⟩ := h
  cases j with
  | zero => exact hc
  | succ j =>
   have := denC_nums (xs := xs) h2 j (by simpa using hj)
   rw [show o + (j + 1) = o + 1 + j by omega, dig_cons_succ]; exact this
theorem nums_denC {w : World} {X : Nat → Prop} {b : Nat} : ∀ {xs : List Nat} {o : Nat}, (∀ j, j < xs.length → w.cell? ⟨b, o + j, none⟩ = some (d32 (dig xs j))) → denC w X b o (u32s xs)
 | [], _, _ => by simp only [u32s, List.map_nil, denC]
 | x :: xs, o, h => by
  simp only [u32s, List.map_cons, denC, den]
  refine ⟨⟨_, h 0 (by simp), rfl, rfl⟩, nums_denC (xs := xs) fun j hj => ?_⟩
  have := h (j + 1) (by simpa using hj)
  rwa [show o + (j + 1) = o + 1 + j by omega, dig_cons_succ] at this
theorem lm_of_den {w : World} {X : Nat → Prop} {ρ : Nat → Option Nat} {n : Nat} {cs : List D} {v : Value} (h : okC n cs) (hd : den ⟨w, X, ρ⟩ (.sl n cs) v) : ∃ A c, v = .slice A n c ∧ Lm w A n c (nums cs) := by
 obtain ⟨h1, h2, h3, h4⟩ := h
 simp only [den] at hd
 obtain ⟨A, c, rfl, hn, hb⟩ := hd
 have hl : (nums cs).length = n := by unfold nums; rw [List.length_map]; exact h2
 refine ⟨A, c, rfl, ⟨hl, hn, by omega⟩, h3, fun h0 => ?_⟩
 obtain ⟨b, o, rfl, hlt, _, hc⟩ := hb (by omega)
 rw [h1] at hc
 refine ⟨b, o, rfl, hlt, fun j hj => denC_nums hc j (by omega)⟩
theorem den_of_lm {w : World} {X : Nat → Prop} {ρ : Nat → Option Nat} {A : Option Addr} {n c N : Nat} (h : Lm w A n c (lim N)) (hX : OwnOk w X) : den ⟨w, X, ρ⟩ (.sl (ln N) (u32s (lim N))) (.slice A n c) := by
 have hl : ln N = n := h.len
 simp only [den]
 refine ⟨A, c, by rw [hl], by rw [hl]; exact h.cap, fun h0 => ?_⟩
 have hn : 0 < n := by unfold u32s at h0; rw [List.length_map] at h0; unfold ln at hl; omega
 obtain ⟨b, o, rfl, hlt, hc⟩ := h.at_ hn
 refine ⟨b, o, rfl, hlt, fun hx => (hX b hx).2 o _ (hc 0 hn), nums_denC fun j hj => hc j ?_⟩
 unfold ln at hl; omega
theorem own_bel {w w' : World} {X : Nat → Prop} (h : OwnOk w X) (hb : Below w.heap.size w w') : OwnOk w' X := fun b hx => by
 obtain ⟨h1, h2⟩ := h b hx
 refine ⟨Nat.lt_of_lt_of_le h1 hb.size, fun o n => ?_⟩
 rw [hb.cell (p := ⟨b, o, none⟩) h1]; exact h2 o n
def dI (z : Int) : D := .agg [.bool (N0.neg z), .sl (N0.ln z) (N0.lm z)]
def dL (N : Nat) : D := .sl (N0.ln N) (N0.lm N)
theorem dI_den {w : World} {X : Nat → Prop} {ρ : Nat → Option Nat} {A : Option Addr} {n c : Nat} {z : Int} (h : Lm w A n c (lim z.natAbs)) (hX : OwnOk w X) : den ⟨w, X, ρ⟩ (dI z) (.agg #[.bool (decide (z < 0)), .slice A n c]) := by
 unfold dI
 rw [den_agg]
 refine ⟨_, rfl, ?_⟩
 simp only [denL]
 exact ⟨_, _, rfl, by simp only [den]; rfl, _, _, rfl, den_of_lm h hX, rfl⟩
theorem tellsI {w w' : World} {X : Nat → Prop} {z : Int} {len : Nat} {e : Ending} (h : TellsI w z len e w') (hX : OwnOk w X) : ∃ v d, e = .returned v ∧ d = dI z ∧ den ⟨w', X, fun _ => none⟩ d v ∧ Below w.heap.size w w' := by
 obtain ⟨A, m, c, rfl, hl, _, hb⟩ := h
 exact ⟨_, _, rfl, rfl, dI_den hl (own_bel hX hb), hb⟩
theorem tellsL {w w' : World} {X : Nat → Prop} {N len : Nat} {e : Ending} (h : Tells w N len e w') (hX : OwnOk w X) : ∃ v d, e = .returned v ∧ d = dL N ∧ den ⟨w', X, fun _ => none⟩ d v ∧ Below w.heap.size w w' := by
 obtain ⟨A, m, c, rfl, hl, _, hb⟩ := h
 exact ⟨_, _, rfl, rfl, den_of_lm (by rw [Int.natAbs_natCast]; exact hl) (own_bel hX hb), hb⟩
theorem tellsi {w w' : World} {X : Nat → Prop} {z : Int} {k : IntKind} {e : Ending} (h : e = .returned (.int k z) ∧ Below w.heap.size w w') : ∃ v d, e = .returned v ∧ d = .int k z ∧ den ⟨w', X, fun _ => none⟩ d v ∧ Below w.heap.size w w' :=
 ⟨_, _, h.1, rfl, by simp only [den], h.2⟩
theorem tellsb {w w' : World} {X : Nat → Prop} {t : Bool} {e : Ending} (h : e = .returned (.bool t) ∧ Below w.heap.size w w') : ∃ v d, e = .returned v ∧ d = .bool t ∧ den ⟨w', X, fun _ => none⟩ d v ∧ Below w.heap.size w w' :=
 ⟨_, _, h.1, rfl, by simp only [den], h.2⟩
theorem argI {w : World} {X : Nat → Prop} {s : Bool} {n : Nat} {cs ds : List D} {vs : List Value} (h : denL ⟨w, X, fun _ => none⟩ (.agg [.bool s, .sl n cs] :: ds) vs) (hc : okC n cs) :
  ∃ A c us, vs = .agg #[.bool s, .slice A n c] :: us ∧ Lm w A n c (nums cs) ∧ denL ⟨w, X, fun _ => none⟩ ds us := by
 simp only [denL] at h
 obtain ⟨v, us, rfl, h1, h2⟩ := h
 rw [den_agg] at h1
 obtain ⟨ws, rfl, h1⟩ := h1
 simp only [denL] at h1
 obtain ⟨v1, u1, he, hb, v2, u2, rfl, hs, rfl⟩ := h1
 rw [den_bool] at hb
 subst hb
 obtain ⟨A, c, rfl, hl⟩ := lm_of_den hc hs
 have : ws = #[.bool s, .slice A n c] := by apply Array.ext'; simpa using he
 subst this
 exact ⟨A, c, us, rfl, hl, h2⟩
theorem argL {w : World} {X : Nat → Prop} {n : Nat} {cs ds : List D} {vs : List Value} (h : denL ⟨w, X, fun _ => none⟩ (.sl n cs :: ds) vs) (hc : okC n cs) :
  ∃ A c us, vs = .slice A n c :: us ∧ Lm w A n c (nums cs) ∧ denL ⟨w, X, fun _ => none⟩ ds us := by
 simp only [denL] at h
 obtain ⟨v, us, rfl, h1, h2⟩ := h
 obtain ⟨A, c, rfl, hl⟩ := lm_of_den hc h1
 exact ⟨A, c, us, rfl, hl, h2⟩
theorem argi {w : World} {X : Nat → Prop} {k : IntKind} {z : Int} {ds : List D} {vs : List Value} (h : denL ⟨w, X, fun _ => none⟩ (.int k z :: ds) vs) :
  ∃ us, vs = .int k z :: us ∧ denL ⟨w, X, fun _ => none⟩ ds us := by
 simp only [denL] at h
 obtain ⟨v, us, rfl, h1, h2⟩ := h
 simp only [den] at h1
 subst h1
 exact ⟨us, rfl, h2⟩
theorem arg0 {E : Env} {vs : List Value} (h : denL E [] vs) : vs = [] := by simpa only [denL] using h
end Go.Proofs.YtnjjfakjnkhhjaaGreatDoor.Ev
namespace Go.Proofs.YtnjjfakjnkhhjaaGreatDoor.Ev
open Go Go.RowKit
def dm : D → Int | .agg (.bool s :: .sl _ cs :: _) => vI s cs | _ => 0
def dz : D → Int | .int _ z => z | _ => 0
def dl : D → Int | .sl _ cs => vL cs | _ => 0
def dcs : D → Bool × List Nat | .agg (.bool s :: .sl _ cs :: _) => (s, nums cs) | _ => (false, [])
def dcn : D → Nat | .agg (.bool _ :: .sl n _ :: _) => n | _ => 0
def okI : D → Prop | .agg [.bool _, .sl n cs] => okC n cs | _ => False
def okL : D → Prop | .sl n cs => okC n cs | _ => False
def isi (k : IntKind) : D → Prop | .int k' _ => k' = k | _ => False
def a1 {α : Type} (x0 : α) (f : D → Nat → α) (ds : List D) (i : Nat) : α := match ds with | [x] => f x i | _ => x0
def a2 {α : Type} (x0 : α) (f : D → D → Nat → α) (ds : List D) (i : Nat) : α := match ds with | [x, y] => f x y i | _ => x0
def sp1 (sh : Shape) (p : D → Prop) (z : D → Nat → Int) (b : D → Nat → Bool) : FnSpec :=
 ⟨sh, fun ds => match ds with | [x] => p x | _ => False, a1 0 z, a1 false b, fun _ _ => 0, fun _ _ => []⟩
def sp2 (sh : Shape) (p : D → D → Prop) (z : D → D → Nat → Int) (b : D → D → Nat → Bool) : FnSpec :=
 ⟨sh, fun ds => match ds with | [x, y] => p x y | _ => False, a2 0 z, a2 false b, fun _ _ => 0, fun _ _ => []⟩
theorem sp1_arg {sh : Shape} {p : D → Prop} {z : List D → Nat → Int} {b : List D → Nat → Bool} {n : List D → Nat → Nat} {c : List D → Nat → List D} {ds : List D} (h : FnSpec.p ⟨sh, fun ds => match ds with | [x] => p x | _ => False, z, b, n, c⟩ ds) : ∃ x, ds = [x] ∧ p x := by
 match ds, h with
 | [x], h => exact ⟨x, rfl, h⟩
theorem sp2_arg {sh : Shape} {p : D → D → Prop} {z : List D → Nat → Int} {b : List D → Nat → Bool} {n : List D → Nat → Nat} {c : List D → Nat → List D} {ds : List D} (h : FnSpec.p ⟨sh, fun ds => match ds with | [x, y] => p x y | _ => False, z, b, n, c⟩ ds) : ∃ x y, ds = [x, y] ∧ p x y := by
 match ds, h with
 | [x, y], h => exact ⟨x, y, rfl, h⟩
theorem okI_arg {x : D} (h : okI x) : ∃ s n cs, x = .agg [.bool s, .sl n cs] ∧ okC n cs := by
 match x, h with
 | .agg [.bool s, .sl n cs], h => exact ⟨s, n, cs, rfl, h⟩
theorem okL_arg {x : D} (h : okL x) : ∃ n cs, x = .sl n cs ∧ okC n cs := by
 match x, h with
 | .sl n cs, h => exact ⟨n, cs, rfl, h⟩
theorem isi_arg {k : IntKind} {x : D} (h : isi k x) : ∃ z, x = .int k z := by
 match x, h with
 | .int k' z, h => exact ⟨z, by rw [show k' = k from h]⟩
variable {G : World → Prop}
theorem s_L {f : Nat} {n : Nat} {cs : List D} {R : D → Prop} (hc : okC n cs)
  (h : ∀ X w A c, G w → OwnOk w X → Lm w A n c (nums cs) → Calls Tryz.prog f #[.slice A n c] w fun e w' => ∃ v d, e = .returned v ∧ R d ∧ den ⟨w', X, fun _ => none⟩ d v ∧ Below w.heap.size w w') : Sound Tryz.prog G f [.sl n cs] R := by
 intro X w vs hG hX hd
 obtain ⟨A, c, us, rfl, hl, hd⟩ := argL hd hc
 obtain rfl := arg0 hd
 exact h X w A c hG hX hl
theorem s_LL {f : Nat} {n m : Nat} {cs es : List D} {R : D → Prop} (hc : okC n cs) (he : okC m es)
  (h : ∀ X w A c A' c', G w → OwnOk w X → Lm w A n c (nums cs) → Lm w A' m c' (nums es) → Calls Tryz.prog f #[.slice A n c, .slice A' m c'] w fun e w' => ∃ v d, e = .returned v ∧ R d ∧ den ⟨w', X, fun _ => none⟩ d v ∧ Below w.heap.size w w') : Sound Tryz.prog G f [.sl n cs, .sl m es] R := by
 intro X w vs hG hX hd
 obtain ⟨A, c, us, rfl, hl, hd⟩ := argL hd hc
 obtain ⟨A', c', us', rfl, hl', hd⟩ := argL hd he
 obtain rfl := arg0 hd
 exact h X w A c A' c' hG hX hl hl'
theorem s_Ii {f : Nat} {s : Bool} {n : Nat} {cs : List D} {k : IntKind} {z : Int} {R : D → Prop} (hc : okC n cs)
  (h : ∀ X w A c, G w → OwnOk w X → Lm w A n c (nums cs) → Calls Tryz.prog f #[.agg #[.bool s, .slice A n c], .int k z] w fun e w' => ∃ v d, e = .returned v ∧ R d ∧ den ⟨w', X, fun _ => none⟩ d v ∧ Below w.heap.size w w') : Sound Tryz.prog G f [.agg [.bool s, .sl n cs], .int k z] R := by
 intro X w vs hG hX hd
 obtain ⟨A, c, us, rfl, hl, hd⟩ := argI hd hc
 obtain ⟨us', rfl, hd2⟩ := argi hd
 obtain rfl := arg0 hd2
 exact h X w A c hG hX hl
theorem s_Li {f : Nat} {n : Nat} {cs : List D} {k : IntKind} {z : Int} {R : D → Prop} (hc : okC n cs)
  (h : ∀ X w A c, G w → OwnOk w X → Lm w A n c (nums cs) → Calls Tryz.prog f #[.slice A n c, .int k z] w fun e w' => ∃ v d, e = .returned v ∧ R d ∧ den ⟨w', X, fun _ => none⟩ d v ∧ Below w.heap.size w w') : Sound Tryz.prog G f [.sl n cs, .int k z] R := by
 intro X w vs hG hX hd
 obtain ⟨A, c, us, rfl, hl, hd⟩ := argL hd hc
 obtain ⟨us', rfl, hd2⟩ := argi hd
 obtain rfl := arg0 hd2
 exact h X w A c hG hX hl
theorem tw {w w' : World} {X : Nat → Prop} {k : IntKind} {z : Int} {e : Ending} (h : e = .returned (.int k z) ∧ w = w') : ∃ v d, e = .returned v ∧ d = .int k z ∧ den ⟨w', X, fun _ => none⟩ d v ∧ Below w.heap.size w w' := by
 obtain ⟨rfl, rfl⟩ := h
 exact tellsi ⟨rfl, Below.refl _ _⟩
theorem rtrimT2 (w : World) (A : Option Addr) (n c : Nat) (xs : List Nat) (h : Lm w A n c xs) :
  Calls Tryz.prog 146 #[.slice A n c] w (Tells w (val xs) n) :=
 (rtrim_any w A n c xs h).mono fun e w' ⟨he, hw⟩ => by subst hw; exact ⟨A, _, c, he, h.cut, Nat.le_trans (ln_val_le h.ok) (Nat.le_of_eq h.len), Below.refl _ _⟩
theorem tellsSub {w w' : World} {X : Nat → Prop} {M N len : Nat} {e : Ending} (h : TellsSub w M N len e w') (hX : OwnOk w X) : ∃ v d, e = .returned v ∧ d = .tup [dL (M - N), .bool (decide (N ≤ M))] ∧ den ⟨w', X, fun _ => none⟩ d v ∧ Below w.heap.size w w' := by
 rcases h with ⟨hlt, rfl, hb⟩ | ⟨hle, A, m, c, rfl, hl, _, hb⟩
 ·refine ⟨_, _, rfl, rfl, ?_, hb⟩
  rw [show M - N = 0 by omega, decide_eq_false (by omega)]
  simp only [den, denL]
  refine ⟨_, rfl, _, _, rfl, ?_, _, _, rfl, rfl, rfl⟩
  exact den_of_lm (N := 0) (by rw [lim_zero]; exact Lm.nil _) (own_bel hX hb)
 ·refine ⟨_, _, rfl, rfl, ?_, hb⟩
  rw [decide_eq_true hle]
  simp only [den, denL]
  refine ⟨_, rfl, _, _, rfl, ?_, _, _, rfl, rfl, rfl⟩
  exact den_of_lm hl (own_bel hX hb)
theorem tellsDiv {w w' : World} {X : Nat → Prop} {M N len len' : Nat} {e : Ending} (h : TellsDiv w M N len len' e w') (hX : OwnOk w X) : ∃ v d, e = .returned v ∧ d = .tup [dL (M / N), dL (if N = 0 then 0 else M % N), .bool (decide (N ≠ 0))] ∧ den ⟨w', X, fun _ => none⟩ d v ∧ Below w.heap.size w w' := by
 rcases h with ⟨h0, rfl, hb⟩ | ⟨h0, A, m, c, A', m', c', rfl, hl, hl', _, _, hb⟩
 ·refine ⟨_, _, rfl, rfl, ?_, hb⟩
  rw [decide_eq_false (by omega), if_pos h0, h0, Nat.div_zero]
  simp only [den, denL]
  refine ⟨_, rfl, _, _, rfl, ?_, _, _, rfl, ?_, _, _, rfl, rfl, rfl⟩
  ·exact den_of_lm (N := 0) (by rw [lim_zero]; exact Lm.nil _) (own_bel hX hb)
  ·exact den_of_lm (N := 0) (by rw [lim_zero]; exact Lm.nil _) (own_bel hX hb)
 ·refine ⟨_, _, rfl, rfl, ?_, hb⟩
  rw [decide_eq_true h0, if_neg h0]
  simp only [den, denL]
  exact ⟨_, rfl, _, _, rfl, den_of_lm hl (own_bel hX hb), _, _, rfl, den_of_lm hl' (own_bel hX hb), _, _, rfl, rfl, rfl⟩
theorem callable {f : Nat} (h : (Tryz.prog.funcs[f]?).any (fun fn => !(fn.name == "runtime.NumGoroutine") && fn.body.isSome) = true) : Callable Tryz.prog f := by
 cases hf : Tryz.prog.funcs[f]? with
 | none => rw [hf] at h; cases h
 | some fn =>
  rw [hf] at h
  simp only [Option.any_some, Bool.and_eq_true, Bool.not_eq_true'] at h
  cases hb : fn.body with
  | none => rw [hb] at h; cases h.2
  | some c => exact ⟨fn, c, hf, h.1, hb⟩
def s_wNorm : FnSpec := sp1 (.agg [.I]) okI (fun x _ => dm x) (fun _ _ => false)
def s_wNeg : FnSpec := sp1 (.agg [.I]) okI (fun x _ => -dm x) (fun _ _ => false)
def s_wSign : FnSpec := sp1 (.one (.i .i64)) okI (fun x _ => sg (dm x)) (fun _ _ => false)
def s_wOf : FnSpec := sp1 (.agg [.I]) (fun x => isi .i64 x ∧ -9223372036854775808 ≤ dz x ∧ dz x ≤ 9223372036854775807) (fun x _ => dz x) (fun _ _ => false)
def s_wCmp : FnSpec := sp2 (.one (.i .i64)) (fun x y => okI x ∧ okI y) (fun x y _ => sg (dm x - dm y)) (fun _ _ _ => false)
def s_wAdd : FnSpec := sp2 (.agg [.I]) (fun x y => okI x ∧ okI y) (fun x y _ => dm x + dm y) (fun _ _ _ => false)
def s_wMul : FnSpec := sp2 (.agg [.I]) (fun x y => okI x ∧ okI y) (fun x y _ => dm x * dm y) (fun _ _ _ => false)
def s_wShr : FnSpec := sp2 (.agg [.I]) (fun x y => okI x ∧ isi .i64 y) (fun x y _ => dm x / 2 ^ heldN (dz y)) (fun _ _ _ => false)
def s_nBits : FnSpec := sp1 (.one (.i .i64)) okL (fun x _ => (nb (dl x).toNat : Nat)) (fun _ _ => false)
theorem good_nBits : Good Tryz.prog G N0 182 s_nBits := by
 refine ⟨callable (by kernel_rfl), fun ds hp => ?_⟩
 obtain ⟨x, rfl, hx⟩ := sp1_arg hp
 obtain ⟨n, cs, rfl, hc⟩ := okL_arg hx
 refine s_L hc fun X w A c hG hX hl => ?_
 have hn := hc.2.2.2
 exact (bits_any w A n c (nums cs) hl).mono fun _ _ h => tw h
def s_nLow : FnSpec := sp1 (.one (.i .i64)) okL (fun x _ => (tz (dl x).toNat : Nat)) (fun _ _ => false)
theorem good_nLow (hT : ∀ w, G w → Tab w) : Good Tryz.prog G N0 186 s_nLow := by
 refine ⟨callable (by kernel_rfl), fun ds hp => ?_⟩
 obtain ⟨x, rfl, hx⟩ := sp1_arg hp
 obtain ⟨n, cs, rfl, hc⟩ := okL_arg hx
 refine s_L hc fun X w A c hG hX hl => ?_
 have hn := hc.2.2.2
 exact (low_any w A n c (nums cs) hl (hT w hG)).mono fun _ _ h => tw h
def s_rNorm : FnSpec := sp1 (.agg [.I]) okI (fun x _ => dm x) (fun _ _ => false)
def s_rNeg : FnSpec := sp1 (.agg [.I]) okI (fun x _ => -dm x) (fun _ _ => false)
def s_rSign : FnSpec := sp1 (.one (.i .i64)) okI (fun x _ => sg (dm x)) (fun _ _ => false)
def s_rOf : FnSpec := sp1 (.agg [.I]) (fun x => isi .i64 x ∧ -9223372036854775808 ≤ dz x ∧ dz x ≤ 9223372036854775807) (fun x _ => dz x) (fun _ _ => false)
def s_rBits : FnSpec := sp1 (.one (.i .i64)) okL (fun x _ => (nb (dl x).toNat : Nat)) (fun _ _ => false)
theorem good_rBits : Good Tryz.prog G N0 168 s_rBits := by
 refine ⟨callable (by kernel_rfl), fun ds hp => ?_⟩
 obtain ⟨x, rfl, hx⟩ := sp1_arg hp
 obtain ⟨n, cs, rfl, hc⟩ := okL_arg hx
 refine s_L hc fun X w A c hG hX hl => ?_
 have hn := hc.2.2.2
 exact (rbits_any w A n c (nums cs) hl).mono fun _ _ h => tw h
def s_rLow : FnSpec := sp1 (.one (.i .i64)) okL (fun x _ => (tz (dl x).toNat : Nat)) (fun _ _ => false)
theorem good_rLow : Good Tryz.prog G N0 93 s_rLow := by
 refine ⟨callable (by kernel_rfl), fun ds hp => ?_⟩
 obtain ⟨x, rfl, hx⟩ := sp1_arg hp
 obtain ⟨n, cs, rfl, hc⟩ := okL_arg hx
 refine s_L hc fun X w A c hG hX hl => ?_
 have hn := hc.2.2.2
 exact (rlow_any w A n c (nums cs) hl).mono fun _ _ h => tw h
def s_rShr : FnSpec := sp2 (.one .L) (fun x y => okL x ∧ isi .i64 y) (fun x y _ => ((dl x).toNat / 2 ^ heldN (dz y) : Nat)) (fun _ _ _ => false)
theorem good_rShr : Good Tryz.prog G N0 94 s_rShr := by
 refine ⟨callable (by kernel_rfl), fun ds hp => ?_⟩
 obtain ⟨x, y, rfl, hx, hy⟩ := sp2_arg hp
 obtain ⟨n, cs, rfl, hc⟩ := okL_arg hx
 obtain ⟨k, rfl⟩ := isi_arg hy
 refine s_Li hc fun X w A c hG hX hl => ?_
 have hn := hc.2.2.2
 exact (rshr_any w A n c (nums cs) k hl (by omega)).mono fun _ _ h => (fun h => tellsL h hX) h
def s_rShl : FnSpec := sp2 (.one .L) (fun x y => okL x ∧ isi .i64 y) (fun x y _ => ((dl x).toNat * 2 ^ heldN (dz y) : Nat)) (fun _ _ _ => false)
theorem good_rShl : Good Tryz.prog G N0 169 s_rShl := by
 refine ⟨callable (by kernel_rfl), fun ds hp => ?_⟩
 obtain ⟨x, y, rfl, hx, hy⟩ := sp2_arg hp
 obtain ⟨n, cs, rfl, hc⟩ := okL_arg hx
 obtain ⟨k, rfl⟩ := isi_arg hy
 refine s_Li hc fun X w A c hG hX hl => ?_
 have hn := hc.2.2.2
 exact (rshl_any w A n c (nums cs) k hl (by omega)).mono fun _ _ h => (fun h => tellsL h hX) h
def s_rTrim : FnSpec := sp1 (.one .L) okL (fun x _ => dl x) (fun _ _ => false)
theorem good_rTrim : Good Tryz.prog G N0 146 s_rTrim := by
 refine ⟨callable (by kernel_rfl), fun ds hp => ?_⟩
 obtain ⟨x, rfl, hx⟩ := sp1_arg hp
 obtain ⟨n, cs, rfl, hc⟩ := okL_arg hx
 refine s_L hc fun X w A c hG hX hl => ?_
 have hn := hc.2.2.2
 exact (rtrimT2 w A n c (nums cs) hl).mono fun _ _ h => (fun h => tellsL h hX) h
def s_rSub : FnSpec := sp2 (.tup [(false, [.L]), (false, [.b])]) (fun x y => okL x ∧ okL y) (fun x y _ => ((dl x).toNat - (dl y).toNat : Nat)) (fun x y _ => decide ((dl y).toNat ≤ (dl x).toNat))
theorem good_rSub : Good Tryz.prog G N0 191 s_rSub := by
 refine ⟨callable (by kernel_rfl), fun ds hp => ?_⟩
 obtain ⟨x, y, rfl, hx, hy⟩ := sp2_arg hp
 obtain ⟨n, cs, rfl, hc⟩ := okL_arg hx
 obtain ⟨m, es, rfl, he⟩ := okL_arg hy
 refine s_LL hc he fun X w A c A' c' hG hX hl hl' => ?_
 have hn := hc.2.2.2
 have hm := he.2.2.2
 exact (rsub_any w A n c (nums cs) A' m c' (nums es) hl hl').mono fun _ _ h => (fun h => tellsSub h hX) h
def s_rAdd : FnSpec := sp2 (.one .L) (fun x y => okL x ∧ okL y) (fun x y _ => ((dl x).toNat + (dl y).toNat : Nat)) (fun _ _ _ => false)
theorem good_rAdd : Good Tryz.prog G N0 172 s_rAdd := by
 refine ⟨callable (by kernel_rfl), fun ds hp => ?_⟩
 obtain ⟨x, y, rfl, hx, hy⟩ := sp2_arg hp
 obtain ⟨n, cs, rfl, hc⟩ := okL_arg hx
 obtain ⟨m, es, rfl, he⟩ := okL_arg hy
 refine s_LL hc he fun X w A c A' c' hG hX hl hl' => ?_
 have hn := hc.2.2.2
 have hm := he.2.2.2
 exact (radd_any w A n c (nums cs) A' m c' (nums es) hl hl' (by omega) (by omega)).mono fun _ _ h => (fun h => tellsL h hX) h
def s_rMul : FnSpec := sp2 (.one .L) (fun x y => okL x ∧ okL y) (fun x y _ => ((dl x).toNat * (dl y).toNat : Nat)) (fun _ _ _ => false)
theorem good_rMul : Good Tryz.prog G N0 144 s_rMul := by
 refine ⟨callable (by kernel_rfl), fun ds hp => ?_⟩
 obtain ⟨x, y, rfl, hx, hy⟩ := sp2_arg hp
 obtain ⟨n, cs, rfl, hc⟩ := okL_arg hx
 obtain ⟨m, es, rfl, he⟩ := okL_arg hy
 refine s_LL hc he fun X w A c A' c' hG hX hl hl' => ?_
 have hn := hc.2.2.2
 have hm := he.2.2.2
 exact (rmul_any w A n c (nums cs) A' m c' (nums es) hl hl' (by omega) (by omega)).mono fun _ _ h => (fun h => tellsL h hX) h
def s_rDiv : FnSpec := sp2 (.tup [(false, [.L]), (false, [.L]), (false, [.b])]) (fun x y => okL x ∧ okL y) (fun x y i => match i with | 0 => ((dl x).toNat / (dl y).toNat : Nat) | _ => (if (dl y).toNat = 0 then 0 else (dl x).toNat % (dl y).toNat : Nat)) (fun x y _ => decide ((dl y).toNat ≠ 0))
theorem good_rDiv : Good Tryz.prog G N0 237 s_rDiv := by
 refine ⟨callable (by kernel_rfl), fun ds hp => ?_⟩
 obtain ⟨x, y, rfl, hx, hy⟩ := sp2_arg hp
 obtain ⟨n, cs, rfl, hc⟩ := okL_arg hx
 obtain ⟨m, es, rfl, he⟩ := okL_arg hy
 refine s_LL hc he fun X w A c A' c' hG hX hl hl' => ?_
 have hn := hc.2.2.2
 have hm := he.2.2.2
 exact (rdiv_any w A n c (nums cs) A' m c' (nums es) hl hl' (by omega) (by omega)).mono fun _ _ h => (fun h => tellsDiv h hX) h
def s_rSame : FnSpec := sp2 (.one .b) (fun x y => okL x ∧ okL y) (fun _ _ _ => 0) (fun x y _ => match x, y with | .sl _ cs, .sl _ es => decide (nums cs = nums es) | _, _ => false)
theorem good_rSame : Good Tryz.prog G N0 166 s_rSame := by
 refine ⟨callable (by kernel_rfl), fun ds hp => ?_⟩
 obtain ⟨x, y, rfl, hx, hy⟩ := sp2_arg hp
 obtain ⟨n, cs, rfl, hc⟩ := okL_arg hx
 obtain ⟨m, es, rfl, he⟩ := okL_arg hy
 refine s_LL hc he fun X w A c A' c' hG hX hl hl' => ?_
 have hn := hc.2.2.2
 have hm := he.2.2.2
 exact (rsame_bel w A n c (nums cs) A' m c' (nums es) hl hl' rfl).mono fun _ _ h => tellsb h
end Go.Proofs.YtnjjfakjnkhhjaaGreatDoor.Ev
namespace Go.Proofs.YtnjjfakjnkhhjaaGreatDoor.Ev
open Go Go.RowKit
def tis : List (Nat × TI) := [
 (24, ⟨2, .agg #[.bool false, .slice none 0 0], .struct [(0, 4), (1, 22)], 32⟩),
 (26, ⟨3, .agg #[.bool false, .slice none 0 0, .int .i64 0], .struct [(0, 24), (2, 3)], 40⟩),
 (3, ⟨1, .int .i64 0, .intk .i64, 8⟩),
 (2, ⟨1, .int .i64 0, .intk .i64, 8⟩),
 (5, ⟨1, .int .u8 0, .intk .u8, 1⟩),
 (86, ⟨1, .int .i8 0, .intk .i8, 1⟩),
 (66, ⟨1, .int .i16 0, .intk .i16, 2⟩),
 (124, ⟨1, .int .u32 0, .intk .u32, 4⟩),
 (123, ⟨1, .int .u64 0, .intk .u64, 8⟩),
 (4, ⟨1, .bool false, .boolk, 1⟩),
 (9, ⟨1, .string ⟨#[]⟩, .str, 16⟩),
 (22, ⟨1, .slice none 0 0, .slice 124, 24⟩),
 (178, ⟨4, .agg #[.int .i64 0, .int .i64 0, .int .i64 0, .int .i64 0], .array 4 2, 32⟩),
 (179, ⟨8, .agg #[.int .i64 0, .int .i64 0, .int .i64 0, .int .i64 0, .int .i64 0, .int .i64 0, .int .i64 0, .int .i64 0], .array 2 178, 64⟩),
 (180, ⟨24, .agg #[.int .i64 0, .int .i64 0, .int .i64 0, .int .i64 0, .int .i64 0, .int .i64 0, .int .i64 0, .int .i64 0, .int .i64 0, .int .i64 0, .int .i64 0, .int .i64 0, .int .i64 0, .int .i64 0, .int .i64 0, .int .i64 0, .int .i64 0, .int .i64 0, .int .i64 0, .int .i64 0, .int .i64 0, .int .i64 0, .int .i64 0, .int .i64 0], .array 3 179, 192⟩),
 (140, ⟨1, .int .i64 0, .intk .i64, 8⟩),
 (187, ⟨1, .slice none 0 0, .slice 22, 24⟩),
 (21, ⟨1, .int .i32 0, .intk .i32, 4⟩),
 (52, ⟨6, .agg #[.bool false, .slice none 0 0, .int .i64 0, .bool false, .slice none 0 0, .int .i64 0], .struct [(0, 26), (3, 26)], 80⟩),
 (28, ⟨6, .agg #[.bool false, .slice none 0 0, .int .i64 0, .bool false, .slice none 0 0, .int .i64 0], .struct [(0, 26), (3, 26)], 80⟩),
 (54, ⟨12, .agg #[.bool false, .slice none 0 0, .int .i64 0, .bool false, .slice none 0 0, .int .i64 0, .bool false, .slice none 0 0, .int .i64 0, .bool false, .slice none 0 0, .int .i64 0], .struct [(0, 52), (6, 52)], 160⟩),
 (30, ⟨9, .agg #[.bool false, .slice none 0 0, .int .i64 0, .bool false, .slice none 0 0, .int .i64 0, .bool false, .slice none 0 0, .int .i64 0], .struct [(0, 28), (6, 26)], 120⟩),
 (158, ⟨12, .agg #[.bool false, .slice none 0 0, .int .i64 0, .bool false, .slice none 0 0, .int .i64 0, .bool false, .slice none 0 0, .int .i64 0, .bool false, .slice none 0 0, .int .i64 0], .array 2 52, 160⟩),
 (137, ⟨2, .agg #[.int .i64 0, .int .i64 0], .struct [(0, 3), (1, 3)], 16⟩),
 (138, ⟨6, .agg #[.int .i64 0, .int .i64 0, .int .i64 0, .int .i64 0, .int .i64 0, .int .i64 0], .array 3 137, 48⟩),
 (101, ⟨6, .agg #[.bool false, .slice none 0 0, .int .i64 0, .bool false, .slice none 0 0, .int .i64 0], .array 2 26, 80⟩),
 (129, ⟨3, .agg #[.int .i64 0, .int .i64 0, .int .i64 0], .array 3 3, 24⟩),
 (130, ⟨9, .agg #[.int .i64 0, .int .i64 0, .int .i64 0, .int .i64 0, .int .i64 0, .int .i64 0, .int .i64 0, .int .i64 0, .int .i64 0], .array 3 129, 72⟩)]
def ti (t : Nat) : Option TI := findT t tis
 where findT (t : Nat) : List (Nat × TI) → Option TI
 | [] => none
 | p :: ps => if t = p.1 then some p.2 else findT t ps
theorem tis_nil : ∀ p ∈ ([] : List (Nat × TI)), TI.ok Tryz.prog p.1 p.2 := fun _ h => by cases h
theorem tis_cons {p : Nat × TI} {ps : List (Nat × TI)} (h1 : (Tryz.prog.info? p.1).map (fun j => (j.size, j.zero)) = some (p.2.size, some p.2.zv)) (h2 : shapeOf Tryz.prog p.1 = p.2.k) (h3 : p.2.k ≠ .other) (h4 : (Tryz.prog.info? p.1).map (·.bytes) = some p.2.bytes) (h : ∀ p ∈ ps, TI.ok Tryz.prog p.1 p.2) : ∀ q ∈ p :: ps, TI.ok Tryz.prog q.1 q.2 := fun q hq => by
 rcases List.mem_cons.1 hq with rfl | hq
 ·exact ⟨h1, h2, h3, h4⟩
 ·exact h q hq
theorem tis_ok : ∀ p ∈ tis, TI.ok Tryz.prog p.1 p.2 := by
 unfold tis
 repeat' (refine tis_cons (by kernel_rfl) (by kernel_rfl) (by simp) (by kernel_rfl) ?_)
 exact tis_nil
theorem ti_ok (t : Nat) (i : TI) (h : ti t = some i) : TI.ok Tryz.prog t i := by
 have key : ∀ l : List (Nat × TI), (∀ p ∈ l, TI.ok Tryz.prog p.1 p.2) → ti.findT t l = some i → TI.ok Tryz.prog t i := by
  intro l
  induction l with
  | nil => intro _ h; cases h
  | cons p ps ih =>
   intro hl h
   simp only [ti.findT] at h
   split at h
   ·rename_i ht; cases h; rw [ht]; exact hl p (by simp)
   ·exact ih (fun q hq => hl q (by simp [hq])) h
 exact key tis tis_ok h
def tabD (k : IntKind) (l : List Int) : List D := l.map fun z => .int k z
def TabAt (w : World) (g : Nat) (k : IntKind) (l : List Int) : Prop := ∀ j, j < l.length → w.cell? ⟨g, j, none⟩ = some (.int k (l.getD j 0))
theorem tab_GT {w : World} {g : Nat} {k : IntKind} {l : List Int} (h : TabAt w g k l) : GT w g (tabD k l) := by
 refine ⟨l.map fun z => .int k z, fun E => ?_, fun j v hj => ?_⟩
 ·have key : ∀ l : List Int, denL E (tabD k l) (l.map fun z => .int k z) := fun l => by
   unfold tabD
   induction l with
   | nil => simp [denL]
   | cons z l ih => simp only [List.map_cons, denL, den]; exact ⟨_, _, rfl, rfl, ih⟩
  exact key l
 ·simp only [List.getElem?_map, Option.map_eq_some_iff] at hj
  obtain ⟨z, hz, rfl⟩ := hj
  have hlt : j < l.length := lt_get hz
  rw [h j hlt, List.getD_eq_getElem?_getD, hz]; rfl
theorem TabAt.bel {w w' : World} {g : Nat} {k : IntKind} {l : List Int} (h : TabAt w g k l) (hb : Below w.heap.size w w') : TabAt w' g k l := fun j hj => by
 have hc := h j hj
 have hlt : g < w.heap.size := World.block_lt_of_cell? w ⟨g, j, none⟩ hc
 rw [hb.cell (p := ⟨g, j, none⟩) hlt]; exact hc
def ordersL : List Int := [2, -1, -1, 1, 0, -1, 1, 1, 2]
def outwardL : List Int := [1, 1, 1, 1, 0, 0, 0, 0, 0, 0, 0, 0, 1, 1, 1, 1, 0, 0, 1, 1, 0, 0, 1, 1]
def deBruijnL : List Int := Lib.deBruijn32tab.map Int.ofNat
def termsL : List Int := [0, 1, 1, 0, 1, 1]
def gts : List (Nat × Nat × IntKind × List Int) := [
 (4, 0, .u8, deBruijnL),
 (0, 1, .i64, ordersL),
 (3, 2, .i64, sumsT),
 (2, 3, .i64, productsT),
 (5, 4, .i64, outwardL),
 (1, 7, .i64, termsL)]
def TabV (w : World) (g : Nat) (l : List Value) : Prop := ∀ j v, l[j]? = some v → w.cell? ⟨g, j, none⟩ = some v
theorem tabV_GT {w : World} {g : Nat} {l : List Value} (h : TabV w g l) : GT w g (l.map ofConst) := ⟨l, fun E => den_consts E l, h⟩
theorem TabV.bel {w w' : World} {g : Nat} {l : List Value} (h : TabV w g l) (hb : Below w.heap.size w w') : TabV w' g l := fun j v hj => by
 have hc := h j v hj
 have hlt : g < w.heap.size := World.block_lt_of_cell? w ⟨g, j, none⟩ hc
 rw [hb.cell (p := ⟨g, j, none⟩) hlt]; exact hc
def gxs : List (Nat × Nat × List Value) := []
structure Laid (r : Nat) (w : World) : Prop where
 n : ∀ p ∈ gts, p.2.1 = r → TabAt w p.1 p.2.2.1 p.2.2.2
 x : ∀ p ∈ gxs, p.2.1 = r → TabV w p.1 p.2.2
structure GWL (l : List Nat) (w : World) : Prop where
 h : ∀ r, l.contains r = true → Laid r w
theorem Laid.bel {r : Nat} {w w' : World} (hb : Below w.heap.size w w') (h : Laid r w) : Laid r w' := ⟨fun p hp hr => TabAt.bel (h.n p hp hr) hb, fun p hp hr => TabV.bel (h.x p hp hr) hb⟩
theorem GWL.bel (l : List Nat) (w w' : World) (hb : Below w.heap.size w w') (h : GWL l w) : GWL l w' := ⟨fun r hr => (h.h r hr).bel hb⟩
theorem GWL.mono {l l' : List Nat} (hl : l.all (l'.contains ·) = true) {w : World} (h : GWL l' w) : GWL l w := ⟨fun r hr => h.h r (List.all_eq_true.1 hl r (List.contains_iff_mem.1 hr))⟩
theorem GWL.nil {w : World} : GWL [] w := ⟨fun r hr => by cases hr⟩
theorem GWL.cons {r : Nat} {l : List Nat} {w : World} (h1 : Laid r w) (h : GWL l w) : GWL (r :: l) w := ⟨fun q hq => by
 rcases List.mem_cons.1 (List.contains_iff_mem.1 hq) with rfl | hq
 ·exact h1
 ·exact h.h q (List.contains_iff_mem.2 hq)⟩
theorem laid_one {r : Nat} {w : World} {p : Nat × Nat × IntKind × List Int} (hf : gts.filter (fun p => p.2.1 == r) = [p]) (h : TabAt w p.1 p.2.2.1 p.2.2.2) (hx : gxs.filter (fun p => p.2.1 == r) = [] := by rfl) : Laid r w := ⟨fun q hq hr => by
 have hm : q ∈ gts.filter (fun p => p.2.1 == r) := List.mem_filter.2 ⟨hq, by rw [hr]; exact beq_self_eq_true r⟩
 rw [hf, List.mem_singleton] at hm
 rw [hm]; exact h, fun q hq hr => by
 have hm : q ∈ gxs.filter (fun p => p.2.1 == r) := List.mem_filter.2 ⟨hq, by rw [hr]; exact beq_self_eq_true r⟩
 rw [hx] at hm; exact (List.not_mem_nil hm).elim⟩
theorem laid_at {r : Nat} {l : List Nat} {w : World} {p : Nat × Nat × IntKind × List Int} (h : GWL l w) (hl : l.contains r = true) (hf : gts.filter (fun p => p.2.1 == r) = [p]) : TabAt w p.1 p.2.2.1 p.2.2.2 := by
 have hm : p ∈ gts.filter (fun p => p.2.1 == r) := by rw [hf]; simp
 have := List.mem_filter.1 hm
 exact (h.h r hl).n p this.1 (by simpa using this.2)
theorem tab_at {l : List Nat} {w : World} (h : GWL l w) (hl : l.contains 0 = true) : Tab w := fun j hj => by
 have hc := laid_at h hl (p := (4, 0, .u8, deBruijnL)) rfl j hj
 have h32 : Lib.deBruijn32tab.length = 32 := rfl
 rw [hc]
 congr 2
 unfold deBruijnL
 dsimp only
 rw [List.getD_eq_getElem?_getD, List.getD_eq_getElem?_getD, List.getElem?_map, List.getElem?_eq_getElem (by rw [h32]; exact hj)]
 rfl
theorem laid_tab {w : World} (h : Tab w) : TabAt w 4 .u8 deBruijnL := fun j hj => by
 have h32 : Lib.deBruijn32tab.length = 32 := rfl
 have hl : deBruijnL.length = 32 := rfl
 rw [hl] at hj
 rw [h j hj]
 congr 2
 unfold deBruijnL
 rw [List.getD_eq_getElem?_getD, List.getD_eq_getElem?_getD, List.getElem?_map, List.getElem?_eq_getElem (by rw [h32]; exact hj)]
 rfl
theorem sums_at {l : List Nat} {w : World} (h : GWL l w) (hl : l.contains 2 = true) : SumsT w := laid_at h hl (p := (3, 2, .i64, sumsT)) rfl
theorem products_at {l : List Nat} {w : World} (h : GWL l w) (hl : l.contains 3 = true) : ProductsT w := laid_at h hl (p := (2, 3, .i64, productsT)) rfl
theorem Good.mono {P : Program} {G G' : World → Prop} {N : Nums} {f : Nat} {s : FnSpec} (h : Good P G N f s) (hg : ∀ w, G' w → G w) : Good P G' N f s :=
 ⟨h.1, fun ds hp X w vs hG => h.2 ds hp X w vs (hg w hG)⟩
theorem Good.lift {l l' : List Nat} {f : Nat} {s : FnSpec} (h : Good Tryz.prog (GWL l) N0 f s) (hl : l.all (l'.contains ·) = true) : Good Tryz.prog (GWL l') N0 f s := h.mono fun _ => GWL.mono hl
def gxIn (l : List Nat) (g : Nat) : List (Nat × Nat × List Value) → Option (List D)
 | [] => none
 | p :: ps => match g == p.1 && l.contains p.2.1 with | true => some (p.2.2.map ofConst) | false => gxIn l g ps
def gtL (l : List Nat) (g : Nat) : Option (List D) := gtIn l g gts
 where gtIn (l : List Nat) (g : Nat) : List (Nat × Nat × IntKind × List Int) → Option (List D)
 | [] => gxIn l g gxs
 | p :: ps => match g == p.1 && l.contains p.2.1 with | true => some (tabD p.2.2.1 p.2.2.2) | false => gtIn l g ps
theorem gtL_ok {l : List Nat} (w : World) (h : GWL l w) (g : Nat) (cs : List D) (hg : gtL l g = some cs) : GT w g cs := by
 have key : ∀ ps : List (Nat × Nat × IntKind × List Int), (∀ p ∈ ps, p ∈ gts) → gtL.gtIn l g ps = some cs → GT w g cs := by
  intro ps
  induction ps with
  | nil =>
   intro _ hg
   have kx : ∀ qs : List (Nat × Nat × List Value), (∀ p ∈ qs, p ∈ gxs) → gxIn l g qs = some cs → GT w g cs := by
    intro qs
    induction qs with
    | nil => intro _ h; cases h
    | cons p ps ih =>
     intro hp hg
     simp only [gxIn] at hg
     split at hg
     ·rename_i hh
      simp only [Bool.and_eq_true, beq_iff_eq] at hh
      cases hg
      rw [hh.1]
      exact tabV_GT ((h.h _ hh.2).x p (hp p (by simp)) rfl)
     ·exact ih (fun q hq => hp q (by simp [hq])) hg
   exact kx gxs (fun p hp => hp) hg
  | cons p ps ih =>
   intro hp hg
   simp only [gtL.gtIn] at hg
   split at hg
   ·rename_i hh
    simp only [Bool.and_eq_true, beq_iff_eq] at hh
    cases hg
    rw [hh.1]
    exact tab_GT ((h.h _ hh.2).n p (hp p (by simp)) rfl)
   ·exact ih (fun q hq => hp q (by simp [hq])) hg
 exact key gts (fun p hp => hp) hg
theorem safe_true {A : Alg} (hA : A = std) {l : List Oper} {n : Nat} (h : safe l n = true) : (A.safe l n = true) = True := by subst hA; exact eq_true h
theorem safe_lift {A : Alg} (hA : A = std) {l : List Oper} {n : Nat} (h : safe l n = true) : A.safe l n = true := by subst hA; exact h
theorem mixed : Tryz.prog.follows .mixedOrders = true := by kernel_rfl
theorem goodL {l : List Nat} {tab : List (Nat × FnSpec)} {shs : List (Nat × Shape)} (hs : tab.map (fun p => (p.1, p.2.sh)) = shs) (hg : Goods Tryz.prog (GWL l) N0 tab)
  {f : Nat} (fn : Func) (hf : Tryz.prog.funcs[f]? = some fn) (hn : (fn.name == "runtime.NumGoroutine") = false) (hb : fn.body.isSome = true) {s : FnSpec}
  (h : ∀ ds, s.p ds → ∀ (F : Ltr) (A : Alg) (Q : Post), F = fnOf N0 tab → A = std → Q.R (s.out N0 ds) → ∃ fuel, ev (mkCtx ti (gtL l) shs F A) fuel (fn.body.getD .skip) (start fn.ntmps ds) (ends (mkCtx ti (gtL l) shs F A) fn.results.toList Q.R)) : Good Tryz.prog (GWL l) N0 f s := by
 obtain ⟨c, hc⟩ := Option.isSome_iff_exists.1 hb
 refine good_of ti_ok gtL_ok (GWL.bel l) mixed tab shs hs hg hf hn hc rfl rfl fun ds hp F A Q hF hA hQ => ?_
 have := h ds hp F A Q hF hA hQ
 rw [hc] at this
 exact this
theorem goodO {l : List Nat} {tab : List (Nat × FnSpec)} {shs : List (Nat × Shape)} (hs : tab.map (fun p => (p.1, p.2.sh)) = shs) (hg : GoodsS Tryz.prog (GWL l) N0 tab)
  {f : Nat} (fn : Func) (hf : Tryz.prog.funcs[f]? = some fn) (hn : (fn.name == "runtime.NumGoroutine") = false) (hb : fn.body.isSome = true) {s : FnSpec}
  (h : ∀ ds, s.p ds → ∀ (F : Ltr) (A : Alg) (Q : Post), F = fnOf N0 tab → A = std → Q.R (s.out N0 ds) → ∃ fuel, ev (mkCtxO ti (gtL l) shs F A) fuel (fn.body.getD .skip) (start fn.ntmps ds) (ends (mkCtxO ti (gtL l) shs F A) fn.results.toList Q.R)) : GoodS Tryz.prog (GWL l) N0 f s := by
 obtain ⟨c, hc⟩ := Option.isSome_iff_exists.1 hb
 refine goodS_of ti_ok gtL_ok (GWL.bel l) mixed tab shs hs hg hf hn hc rfl rfl fun ds hp F A Q hF hA hQ => ?_
 have := h ds hp F A Q hF hA hQ
 rw [hc] at this
 exact this
theorem gn {G : World → Prop} : Goods Tryz.prog G N0 [] := trivial
theorem gc {G : World → Prop} {f : Nat} {s : FnSpec} {tab : List (Nat × FnSpec)} (h : Good Tryz.prog G N0 f s) (t : Goods Tryz.prog G N0 tab) : Goods Tryz.prog G N0 ((f, s) :: tab) := ⟨h, t⟩
theorem gl {l l' : List Nat} {f : Nat} {s : FnSpec} {tab : List (Nat × FnSpec)} (h : Good Tryz.prog (GWL l) N0 f s) (hl : l.all (l'.contains ·) = true) (t : Goods Tryz.prog (GWL l') N0 tab) : Goods Tryz.prog (GWL l') N0 ((f, s) :: tab) := ⟨h.lift hl, t⟩
theorem goodM (k : Nat) {l : List Nat} {tab : List (Nat × FnSpec)} (hg : Goods Tryz.prog (GWL l) N0 tab) {f : Nat} (fn : Func) (hf : Tryz.prog.funcs[f]? = some fn) (hn : (!(fn.name == "runtime.NumGoroutine") && fn.body.isSome) = true) {s : FnSpec}
  (h : ∀ ds, s.p ds → ∀ (F : Ltr) (A : Alg) (Q : Post), F = fnOf N0 tab → A = std → Q.R (s.out N0 ds) → ev (mkCtx ti (gtL l) (tab.map fun p => (p.1, p.2.sh)) F A) k (fn.body.getD .skip) (start fn.ntmps ds) (ends (mkCtx ti (gtL l) (tab.map fun p => (p.1, p.2.sh)) F A) fn.results.toList Q.R)) : Good Tryz.prog (GWL l) N0 f s := by
 rw [Bool.and_eq_true, Bool.not_eq_true'] at hn
 exact goodL rfl hg fn hf hn.1 hn.2 fun ds hp F A Q hF hA hQ => ⟨k, h ds hp F A Q hF hA hQ⟩
end Go.Proofs.YtnjjfakjnkhhjaaGreatDoor.Ev
