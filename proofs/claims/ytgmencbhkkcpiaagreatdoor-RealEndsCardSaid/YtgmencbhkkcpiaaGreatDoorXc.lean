/- Limbs and numbers with a sign as data. -/
import Derived.Test.YtgmencbhkkcpiaaGreatDoorEvb
import Derived.Test.YtgmencbhkkcpiaaGreatDoorWa
import Derived.Test.YtgmencbhkkcpiaaGreatDoorRl
import Derived.Test.YtgmencbhkkcpiaaGreatDoorRt
import Derived.Test.YtgmencbhkkcpiaaGreatDoorRN
import Derived.Test.YtgmencbhkkcpiaaGreatDoorLb
import Derived.Test.YtgmencbhkkcpiaaGreatDoorRg
import Derived.Test.YtgmencbhkkcpiaaGreatDoorRe
import Derived.IntWalk
namespace Go.Proofs.YtgmencbhkkcpiaaGreatDoor.Ev
open Go Go.RowKit
set_option linter.unusedSimpArgs false
set_option linter.unusedVariables false
def u32s (xs : List Nat) : List D := xs.map fun x : Nat => D.int .u32 (x : Int)
def num1 : D → Nat | .int _ n => n.toNat | _ => 0
def nums (cs : List D) : List Nat := cs.map num1
theorem nums_u32s (xs : List Nat) : nums (u32s xs) = xs := by
  unfold nums u32s
  rw [List.map_map]
  induction xs with
  | nil => rfl
  | cons x xs ih => simp only [List.map_cons, Function.comp, num1, Int.toNat_natCast] at ih ⊢; rw [ih]
/-- numbers as data. -/
def N0 : Nums := ⟨fun z => decide (z < 0), fun z => ln z.natAbs, fun z => u32s (lim z.natAbs)⟩
/-- limbs that can be worked with. -/
def okC (n : Nat) (cs : List D) : Prop := cs = u32s (nums cs) ∧ cs.length = n ∧ Ok (nums cs) ∧ n ≤ 100000
def vI (s : Bool) (cs : List D) : Int := sgn s (val (nums cs))
def vL (cs : List D) : Int := (val (nums cs) : Nat)
theorem vI_N0 (z : Int) : vI (N0.neg z) (N0.lm z) = z := by
  unfold vI N0
  dsimp only
  rw [nums_u32s]; exact sgn_lim z
theorem vL_N0 (z : Int) : vL (N0.lm z) = z.natAbs := by
  unfold vL N0
  dsimp only
  rw [nums_u32s, val_lim]
theorem okC_N0 {z : Int} (h : ln z.natAbs ≤ 100000) : okC (N0.ln z) (N0.lm z) := by
  unfold okC N0
  dsimp only
  rw [nums_u32s]
  exact ⟨rfl, by unfold u32s ln; rw [List.length_map], ok_lim _, h⟩
theorem okC_ln {n : Nat} {cs : List D} (h : okC n cs) : ln (val (nums cs)) ≤ n := by
  obtain ⟨_, h1, h2, _⟩ := h
  have := ln_val_le h2
  unfold nums at this ⊢
  rw [List.length_map] at this
  omega
theorem denC_nums {w : World} {X : Nat → Prop} {b : Nat} : ∀ {xs : List Nat} {o : Nat}, denC w X b o (u32s xs) → ∀ j, j < xs.length → w.cell? ⟨b, o + j, none⟩ = some (d32 (dig xs j))
  | [], _, _, j, hj => by cases hj
  | x :: xs, o, h, j, hj => by
    simp only [u32s, List.map_cons, denC, den] at h
    obtain ⟨⟨v, hc, _, rfl⟩, h2⟩ := h
    cases j with
    | zero => exact hc
    | succ j =>
      have := denC_nums (xs := xs) h2 j (by simpa using hj)
      rw [show o + (j + 1) = o + 1 + j by omega, dig_cons_succ]; exact this
theorem nums_denC {w : World} {X : Nat → Prop} {b : Nat} : ∀ {xs : List Nat} {o : Nat}, (∀ j, j < xs.length → w.cell? ⟨b, o + j, none⟩ = some (d32 (dig xs j))) → denC w X b o (u32s xs)
  | [], _, _ => by simp only [u32s, List.map_nil, denC]
  | x :: xs, o, h => by
    simp only [u32s, List.map_cons, denC, den]
    refine ⟨⟨_, h 0 (by simp), rfl, rfl⟩, nums_denC (xs := xs) fun j hj => ?_⟩
    have := h (j + 1) (by simpa using hj)
    rwa [show o + (j + 1) = o + 1 + j by omega, dig_cons_succ] at this
theorem lm_of_den {w : World} {X : Nat → Prop} {ρ : Nat → Option Nat} {n : Nat} {cs : List D} {v : Value} (h : okC n cs) (hd : den ⟨w, X, ρ⟩ (.sl n cs) v) : ∃ A c, v = .slice A n c ∧ Lm w A n c (nums cs) := by
  obtain ⟨h1, h2, h3, h4⟩ := h
  simp only [den] at hd
  obtain ⟨A, c, rfl, hn, hb⟩ := hd
  have hl : (nums cs).length = n := by unfold nums; rw [List.length_map]; exact h2
  refine ⟨A, c, rfl, ⟨hl, hn, by omega⟩, h3, fun h0 => ?_⟩
  obtain ⟨b, o, rfl, hlt, _, hc⟩ := hb (by omega)
  rw [h1] at hc
  refine ⟨b, o, rfl, hlt, fun j hj => denC_nums hc j (by omega)⟩
theorem den_of_lm {w : World} {X : Nat → Prop} {ρ : Nat → Option Nat} {A : Option Addr} {n c N : Nat} (h : Lm w A n c (lim N)) (hX : OwnOk w X) : den ⟨w, X, ρ⟩ (.sl (ln N) (u32s (lim N))) (.slice A n c) := by
  have hl : ln N = n := h.len
  simp only [den]
  refine ⟨A, c, by rw [hl], by rw [hl]; exact h.cap, fun h0 => ?_⟩
  have hn : 0 < n := by unfold u32s at h0; rw [List.length_map] at h0; unfold ln at hl; omega
  obtain ⟨b, o, rfl, hlt, hc⟩ := h.at_ hn
  refine ⟨b, o, rfl, hlt, fun hx => (hX b hx).2 o _ (hc 0 hn), nums_denC fun j hj => hc j ?_⟩
  unfold ln at hl; omega
theorem own_bel {w w' : World} {X : Nat → Prop} (h : OwnOk w X) (hb : Below w.heap.size w w') : OwnOk w' X := fun b hx => by
  obtain ⟨h1, h2⟩ := h b hx
  refine ⟨Nat.lt_of_lt_of_le h1 hb.size, fun o n => ?_⟩
  rw [hb.cell (p := ⟨b, o, none⟩) h1]; exact h2 o n
/-- the whole number z, as it is told. -/
def dI (z : Int) : D := .agg [.bool (N0.neg z), .sl (N0.ln z) (N0.lm z)]
def dL (N : Nat) : D := .sl (N0.ln N) (N0.lm N)
theorem dI_den {w : World} {X : Nat → Prop} {ρ : Nat → Option Nat} {A : Option Addr} {n c : Nat} {z : Int} (h : Lm w A n c (lim z.natAbs)) (hX : OwnOk w X) : den ⟨w, X, ρ⟩ (dI z) (.agg #[.bool (decide (z < 0)), .slice A n c]) := by
  unfold dI
  rw [den_agg]
  refine ⟨_, rfl, ?_⟩
  simp only [denL]
  exact ⟨_, _, rfl, by simp only [den]; rfl, _, _, rfl, den_of_lm h hX, rfl⟩
theorem tellsI {w w' : World} {X : Nat → Prop} {z : Int} {len : Nat} {e : Ending} (h : TellsI w z len e w') (hX : OwnOk w X) : ∃ v d, e = .returned v ∧ d = dI z ∧ den ⟨w', X, fun _ => none⟩ d v ∧ Below w.heap.size w w' := by
  obtain ⟨A, m, c, rfl, hl, _, hb⟩ := h
  exact ⟨_, _, rfl, rfl, dI_den hl (own_bel hX hb), hb⟩
theorem tellsL {w w' : World} {X : Nat → Prop} {N len : Nat} {e : Ending} (h : Tells w N len e w') (hX : OwnOk w X) : ∃ v d, e = .returned v ∧ d = dL N ∧ den ⟨w', X, fun _ => none⟩ d v ∧ Below w.heap.size w w' := by
  obtain ⟨A, m, c, rfl, hl, _, hb⟩ := h
  exact ⟨_, _, rfl, rfl, den_of_lm (by rw [Int.natAbs_natCast]; exact hl) (own_bel hX hb), hb⟩
theorem tellsi {w w' : World} {X : Nat → Prop} {z : Int} {k : IntKind} {e : Ending} (h : e = .returned (.int k z) ∧ Below w.heap.size w w') : ∃ v d, e = .returned v ∧ d = .int k z ∧ den ⟨w', X, fun _ => none⟩ d v ∧ Below w.heap.size w w' :=
  ⟨_, _, h.1, rfl, by simp only [den], h.2⟩
theorem tellsb {w w' : World} {X : Nat → Prop} {t : Bool} {e : Ending} (h : e = .returned (.bool t) ∧ Below w.heap.size w w') : ∃ v d, e = .returned v ∧ d = .bool t ∧ den ⟨w', X, fun _ => none⟩ d v ∧ Below w.heap.size w w' :=
  ⟨_, _, h.1, rfl, by simp only [den], h.2⟩
/-- arguments, one by one. -/
theorem argI {w : World} {X : Nat → Prop} {s : Bool} {n : Nat} {cs ds : List D} {vs : List Value} (h : denL ⟨w, X, fun _ => none⟩ (.agg [.bool s, .sl n cs] :: ds) vs) (hc : okC n cs) :
    ∃ A c us, vs = .agg #[.bool s, .slice A n c] :: us ∧ Lm w A n c (nums cs) ∧ denL ⟨w, X, fun _ => none⟩ ds us := by
  simp only [denL] at h
  obtain ⟨v, us, rfl, h1, h2⟩ := h
  rw [den_agg] at h1
  obtain ⟨ws, rfl, h1⟩ := h1
  simp only [denL] at h1
  obtain ⟨v1, u1, he, hb, v2, u2, rfl, hs, rfl⟩ := h1
  rw [den_bool] at hb
  subst hb
  obtain ⟨A, c, rfl, hl⟩ := lm_of_den hc hs
  have : ws = #[.bool s, .slice A n c] := by apply Array.ext'; simpa using he
  subst this
  exact ⟨A, c, us, rfl, hl, h2⟩
theorem argL {w : World} {X : Nat → Prop} {n : Nat} {cs ds : List D} {vs : List Value} (h : denL ⟨w, X, fun _ => none⟩ (.sl n cs :: ds) vs) (hc : okC n cs) :
    ∃ A c us, vs = .slice A n c :: us ∧ Lm w A n c (nums cs) ∧ denL ⟨w, X, fun _ => none⟩ ds us := by
  simp only [denL] at h
  obtain ⟨v, us, rfl, h1, h2⟩ := h
  obtain ⟨A, c, rfl, hl⟩ := lm_of_den hc h1
  exact ⟨A, c, us, rfl, hl, h2⟩
theorem argi {w : World} {X : Nat → Prop} {k : IntKind} {z : Int} {ds : List D} {vs : List Value} (h : denL ⟨w, X, fun _ => none⟩ (.int k z :: ds) vs) :
    ∃ us, vs = .int k z :: us ∧ denL ⟨w, X, fun _ => none⟩ ds us := by
  simp only [denL] at h
  obtain ⟨v, us, rfl, h1, h2⟩ := h
  simp only [den] at h1
  subst h1
  exact ⟨us, rfl, h2⟩
theorem arg0 {E : Env} {vs : List Value} (h : denL E [] vs) : vs = [] := by simpa only [denL] using h
end Go.Proofs.YtgmencbhkkcpiaaGreatDoor.Ev
/- What the functions of layers 1 and 2 ask and tell, as data. -/
namespace Go.Proofs.YtgmencbhkkcpiaaGreatDoor.Ev
open Go Go.RowKit
set_option linter.unusedSimpArgs false
set_option linter.unusedVariables false
def dm : D → Int | .agg (.bool s :: .sl _ cs :: _) => vI s cs | _ => 0
def dz : D → Int | .int _ z => z | _ => 0
def dl : D → Int | .sl _ cs => vL cs | _ => 0
def dcs : D → Bool × List Nat | .agg (.bool s :: .sl _ cs :: _) => (s, nums cs) | _ => (false, [])
def dcn : D → Nat | .agg (.bool _ :: .sl n _ :: _) => n | _ => 0
def okI : D → Prop | .agg [.bool _, .sl n cs] => okC n cs | _ => False
def okL : D → Prop | .sl n cs => okC n cs | _ => False
def isi (k : IntKind) : D → Prop | .int k' _ => k' = k | _ => False
def a1 {α : Type} (x0 : α) (f : D → Nat → α) (ds : List D) (i : Nat) : α := match ds with | [x] => f x i | _ => x0
def a2 {α : Type} (x0 : α) (f : D → D → Nat → α) (ds : List D) (i : Nat) : α := match ds with | [x, y] => f x y i | _ => x0
def sp1 (sh : Shape) (p : D → Prop) (z : D → Nat → Int) (b : D → Nat → Bool) : FnSpec :=
  ⟨sh, fun ds => match ds with | [x] => p x | _ => False, a1 0 z, a1 false b, fun _ _ => 0, fun _ _ => []⟩
def sp2 (sh : Shape) (p : D → D → Prop) (z : D → D → Nat → Int) (b : D → D → Nat → Bool) : FnSpec :=
  ⟨sh, fun ds => match ds with | [x, y] => p x y | _ => False, a2 0 z, a2 false b, fun _ _ => 0, fun _ _ => []⟩
theorem sp1_arg {sh : Shape} {p : D → Prop} {z : List D → Nat → Int} {b : List D → Nat → Bool} {n : List D → Nat → Nat} {c : List D → Nat → List D} {ds : List D} (h : FnSpec.p ⟨sh, fun ds => match ds with | [x] => p x | _ => False, z, b, n, c⟩ ds) : ∃ x, ds = [x] ∧ p x := by
  match ds, h with
  | [x], h => exact ⟨x, rfl, h⟩
theorem sp2_arg {sh : Shape} {p : D → D → Prop} {z : List D → Nat → Int} {b : List D → Nat → Bool} {n : List D → Nat → Nat} {c : List D → Nat → List D} {ds : List D} (h : FnSpec.p ⟨sh, fun ds => match ds with | [x, y] => p x y | _ => False, z, b, n, c⟩ ds) : ∃ x y, ds = [x, y] ∧ p x y := by
  match ds, h with
  | [x, y], h => exact ⟨x, y, rfl, h⟩
theorem okI_arg {x : D} (h : okI x) : ∃ s n cs, x = .agg [.bool s, .sl n cs] ∧ okC n cs := by
  match x, h with
  | .agg [.bool s, .sl n cs], h => exact ⟨s, n, cs, rfl, h⟩
theorem okL_arg {x : D} (h : okL x) : ∃ n cs, x = .sl n cs ∧ okC n cs := by
  match x, h with
  | .sl n cs, h => exact ⟨n, cs, rfl, h⟩
theorem isi_arg {k : IntKind} {x : D} (h : isi k x) : ∃ z, x = .int k z := by
  match x, h with
  | .int k' z, h => exact ⟨z, by rw [show k' = k from h]⟩
variable {G : World → Prop}
theorem s_I {f : Nat} {s : Bool} {n : Nat} {cs : List D} {R : D → Prop} (hc : okC n cs)
    (h : ∀ X w A c, G w → OwnOk w X → Lm w A n c (nums cs) → Calls Tryz.prog f #[.agg #[.bool s, .slice A n c]] w fun e w' => ∃ v d, e = .returned v ∧ R d ∧ den ⟨w', X, fun _ => none⟩ d v ∧ Below w.heap.size w w') : Sound Tryz.prog G f [.agg [.bool s, .sl n cs]] R := by
  intro X w vs hG hX hd
  obtain ⟨A, c, us, rfl, hl, hd⟩ := argI hd hc
  obtain rfl := arg0 hd
  exact h X w A c hG hX hl
theorem s_L {f : Nat} {n : Nat} {cs : List D} {R : D → Prop} (hc : okC n cs)
    (h : ∀ X w A c, G w → OwnOk w X → Lm w A n c (nums cs) → Calls Tryz.prog f #[.slice A n c] w fun e w' => ∃ v d, e = .returned v ∧ R d ∧ den ⟨w', X, fun _ => none⟩ d v ∧ Below w.heap.size w w') : Sound Tryz.prog G f [.sl n cs] R := by
  intro X w vs hG hX hd
  obtain ⟨A, c, us, rfl, hl, hd⟩ := argL hd hc
  obtain rfl := arg0 hd
  exact h X w A c hG hX hl
theorem s_i {f : Nat} {k : IntKind} {z : Int} {R : D → Prop}
    (h : ∀ X w, G w → OwnOk w X → Calls Tryz.prog f #[.int k z] w fun e w' => ∃ v d, e = .returned v ∧ R d ∧ den ⟨w', X, fun _ => none⟩ d v ∧ Below w.heap.size w w') : Sound Tryz.prog G f [.int k z] R := by
  intro X w vs hG hX hd
  obtain ⟨us, rfl, hd2⟩ := argi hd
  obtain rfl := arg0 hd2
  exact h X w hG hX
theorem s_II {f : Nat} {s t : Bool} {n m : Nat} {cs es : List D} {R : D → Prop} (hc : okC n cs) (he : okC m es)
    (h : ∀ X w A c A' c', G w → OwnOk w X → Lm w A n c (nums cs) → Lm w A' m c' (nums es) → Calls Tryz.prog f #[.agg #[.bool s, .slice A n c], .agg #[.bool t, .slice A' m c']] w fun e w' => ∃ v d, e = .returned v ∧ R d ∧ den ⟨w', X, fun _ => none⟩ d v ∧ Below w.heap.size w w') : Sound Tryz.prog G f [.agg [.bool s, .sl n cs], .agg [.bool t, .sl m es]] R := by
  intro X w vs hG hX hd
  obtain ⟨A, c, us, rfl, hl, hd⟩ := argI hd hc
  obtain ⟨A', c', us', rfl, hl', hd⟩ := argI hd he
  obtain rfl := arg0 hd
  exact h X w A c A' c' hG hX hl hl'
theorem s_LL {f : Nat} {n m : Nat} {cs es : List D} {R : D → Prop} (hc : okC n cs) (he : okC m es)
    (h : ∀ X w A c A' c', G w → OwnOk w X → Lm w A n c (nums cs) → Lm w A' m c' (nums es) → Calls Tryz.prog f #[.slice A n c, .slice A' m c'] w fun e w' => ∃ v d, e = .returned v ∧ R d ∧ den ⟨w', X, fun _ => none⟩ d v ∧ Below w.heap.size w w') : Sound Tryz.prog G f [.sl n cs, .sl m es] R := by
  intro X w vs hG hX hd
  obtain ⟨A, c, us, rfl, hl, hd⟩ := argL hd hc
  obtain ⟨A', c', us', rfl, hl', hd⟩ := argL hd he
  obtain rfl := arg0 hd
  exact h X w A c A' c' hG hX hl hl'
theorem s_Ii {f : Nat} {s : Bool} {n : Nat} {cs : List D} {k : IntKind} {z : Int} {R : D → Prop} (hc : okC n cs)
    (h : ∀ X w A c, G w → OwnOk w X → Lm w A n c (nums cs) → Calls Tryz.prog f #[.agg #[.bool s, .slice A n c], .int k z] w fun e w' => ∃ v d, e = .returned v ∧ R d ∧ den ⟨w', X, fun _ => none⟩ d v ∧ Below w.heap.size w w') : Sound Tryz.prog G f [.agg [.bool s, .sl n cs], .int k z] R := by
  intro X w vs hG hX hd
  obtain ⟨A, c, us, rfl, hl, hd⟩ := argI hd hc
  obtain ⟨us', rfl, hd2⟩ := argi hd
  obtain rfl := arg0 hd2
  exact h X w A c hG hX hl
theorem s_Li {f : Nat} {n : Nat} {cs : List D} {k : IntKind} {z : Int} {R : D → Prop} (hc : okC n cs)
    (h : ∀ X w A c, G w → OwnOk w X → Lm w A n c (nums cs) → Calls Tryz.prog f #[.slice A n c, .int k z] w fun e w' => ∃ v d, e = .returned v ∧ R d ∧ den ⟨w', X, fun _ => none⟩ d v ∧ Below w.heap.size w w') : Sound Tryz.prog G f [.sl n cs, .int k z] R := by
  intro X w vs hG hX hd
  obtain ⟨A, c, us, rfl, hl, hd⟩ := argL hd hc
  obtain ⟨us', rfl, hd2⟩ := argi hd
  obtain rfl := arg0 hd2
  exact h X w A c hG hX hl
theorem tw {w w' : World} {X : Nat → Prop} {k : IntKind} {z : Int} {e : Ending} (h : e = .returned (.int k z) ∧ w = w') : ∃ v d, e = .returned v ∧ d = .int k z ∧ den ⟨w', X, fun _ => none⟩ d v ∧ Below w.heap.size w w' := by
  obtain ⟨rfl, rfl⟩ := h
  exact tellsi ⟨rfl, Below.refl _ _⟩
theorem callable {f : Nat} (h : (Tryz.prog.funcs[f]?).any (fun fn => !(fn.name == "runtime.NumGoroutine") && fn.body.isSome) = true) : Callable Tryz.prog f := by
  cases hf : Tryz.prog.funcs[f]? with
  | none => rw [hf] at h; cases h
  | some fn =>
    rw [hf] at h
    simp only [Option.any_some, Bool.and_eq_true, Bool.not_eq_true'] at h
    cases hb : fn.body with
    | none => rw [hb] at h; cases h.2
    | some c => exact ⟨fn, c, hf, h.1, hb⟩
def s_wNorm : FnSpec := sp1 (.agg [.I]) okI (fun x _ => dm x) (fun _ _ => false)
theorem good_wNorm : Good Tryz.prog G N0 72 s_wNorm := by
  refine ⟨callable (by kernel_rfl), fun ds hp => ?_⟩
  obtain ⟨x, rfl, hx⟩ := sp1_arg hp
  obtain ⟨s, n, cs, rfl, hc⟩ := okI_arg hx
  refine s_I hc fun X w A c hG hX hl => ?_
  have hn := hc.2.2.2
  exact (wnorm_g w _ s A n c (nums cs) hl rfl).mono fun _ _ h => (fun h => tellsI h hX) h
def s_wNeg : FnSpec := sp1 (.agg [.I]) okI (fun x _ => -dm x) (fun _ _ => false)
theorem good_wNeg : Good Tryz.prog G N0 79 s_wNeg := by
  refine ⟨callable (by kernel_rfl), fun ds hp => ?_⟩
  obtain ⟨x, rfl, hx⟩ := sp1_arg hp
  obtain ⟨s, n, cs, rfl, hc⟩ := okI_arg hx
  refine s_I hc fun X w A c hG hX hl => ?_
  have hn := hc.2.2.2
  exact (wneg_g w _ s A n c (nums cs) hl rfl rfl).mono fun _ _ h => (fun h => tellsI h hX) h
def s_wSign : FnSpec := sp1 (.one (.i .i64)) okI (fun x _ => sg (dm x)) (fun _ _ => false)
theorem good_wSign : Good Tryz.prog G N0 71 s_wSign := by
  refine ⟨callable (by kernel_rfl), fun ds hp => ?_⟩
  obtain ⟨x, rfl, hx⟩ := sp1_arg hp
  obtain ⟨s, n, cs, rfl, hc⟩ := okI_arg hx
  refine s_I hc fun X w A c hG hX hl => ?_
  have hn := hc.2.2.2
  exact (wsign_g w _ s A n c (nums cs) hl rfl rfl).mono fun _ _ h => tellsi h
def s_wOf : FnSpec := sp1 (.agg [.I]) (fun x => isi .i64 x ∧ -9223372036854775808 ≤ dz x ∧ dz x ≤ 9223372036854775807) (fun x _ => dz x) (fun _ _ => false)
theorem good_wOf : Good Tryz.prog G N0 50 s_wOf := by
  refine ⟨callable (by kernel_rfl), fun ds hp => ?_⟩
  obtain ⟨x, rfl, hx, h1, h2⟩ := sp1_arg hp
  obtain ⟨z, rfl⟩ := isi_arg hx
  refine s_i fun X w hG hX => ?_
  exact (wof_g w z ⟨h1, h2⟩ rfl).mono fun _ _ h => tellsI h hX
def s_wCmp : FnSpec := sp2 (.one (.i .i64)) (fun x y => okI x ∧ okI y) (fun x y _ => sg (dm x - dm y)) (fun _ _ _ => false)
theorem good_wCmp : Good Tryz.prog G N0 66 s_wCmp := by
  refine ⟨callable (by kernel_rfl), fun ds hp => ?_⟩
  obtain ⟨x, y, rfl, hx, hy⟩ := sp2_arg hp
  obtain ⟨s, n, cs, rfl, hc⟩ := okI_arg hx
  obtain ⟨t, m, es, rfl, he⟩ := okI_arg hy
  refine s_II hc he fun X w A c A' c' hG hX hl hl' => ?_
  have hn := hc.2.2.2
  have hm := he.2.2.2
  exact (wcmp_g w _ _ s A n c (nums cs) hl rfl t A' m c' (nums es) hl' rfl rfl).mono fun _ _ h => tellsi h
def s_wAdd : FnSpec := sp2 (.agg [.I]) (fun x y => okI x ∧ okI y) (fun x y _ => dm x + dm y) (fun _ _ _ => false)
theorem good_wAdd (hT : ∀ w, G w → SumsT w) : Good Tryz.prog G N0 78 s_wAdd := by
  refine ⟨callable (by kernel_rfl), fun ds hp => ?_⟩
  obtain ⟨x, y, rfl, hx, hy⟩ := sp2_arg hp
  obtain ⟨s, n, cs, rfl, hc⟩ := okI_arg hx
  obtain ⟨t, m, es, rfl, he⟩ := okI_arg hy
  refine s_II hc he fun X w A c A' c' hG hX hl hl' => ?_
  have hn := hc.2.2.2
  have hm := he.2.2.2
  exact (wadd_g w _ _ s A n c (nums cs) hl rfl t A' m c' (nums es) hl' rfl (hT w hG) (by omega) (by omega) rfl).mono fun _ _ h => (fun h => tellsI h hX) h
def s_wMul : FnSpec := sp2 (.agg [.I]) (fun x y => okI x ∧ okI y) (fun x y _ => dm x * dm y) (fun _ _ _ => false)
theorem good_wMul (hT : ∀ w, G w → ProductsT w) : Good Tryz.prog G N0 51 s_wMul := by
  refine ⟨callable (by kernel_rfl), fun ds hp => ?_⟩
  obtain ⟨x, y, rfl, hx, hy⟩ := sp2_arg hp
  obtain ⟨s, n, cs, rfl, hc⟩ := okI_arg hx
  obtain ⟨t, m, es, rfl, he⟩ := okI_arg hy
  refine s_II hc he fun X w A c A' c' hG hX hl hl' => ?_
  have hn := hc.2.2.2
  have hm := he.2.2.2
  exact (wmul_g w _ _ s A n c (nums cs) hl rfl t A' m c' (nums es) hl' rfl (hT w hG) (by omega) (by omega) rfl).mono fun _ _ h => (fun h => tellsI h hX) h
def s_wShr : FnSpec := sp2 (.agg [.I]) (fun x y => okI x ∧ isi .i64 y) (fun x y _ => dm x / 2 ^ heldN (dz y)) (fun _ _ _ => false)
theorem good_wShr (hT : ∀ w, G w → Tab w) : Good Tryz.prog G N0 98 s_wShr := by
  refine ⟨callable (by kernel_rfl), fun ds hp => ?_⟩
  obtain ⟨x, y, rfl, hx, hy⟩ := sp2_arg hp
  obtain ⟨s, n, cs, rfl, hc⟩ := okI_arg hx
  obtain ⟨k, rfl⟩ := isi_arg hy
  refine s_Ii hc fun X w A c hG hX hl => ?_
  have hn := hc.2.2.2
  exact (wshr_g w _ k s A n c (nums cs) hl rfl (by omega) (hT w hG) rfl).mono fun _ _ h => (fun h => tellsI h hX) h
def s_nBits : FnSpec := sp1 (.one (.i .i64)) okL (fun x _ => (nb (dl x).toNat : Nat)) (fun _ _ => false)
theorem good_nBits : Good Tryz.prog G N0 82 s_nBits := by
  refine ⟨callable (by kernel_rfl), fun ds hp => ?_⟩
  obtain ⟨x, rfl, hx⟩ := sp1_arg hp
  obtain ⟨n, cs, rfl, hc⟩ := okL_arg hx
  refine s_L hc fun X w A c hG hX hl => ?_
  have hn := hc.2.2.2
  exact (bits_any w A n c (nums cs) hl).mono fun _ _ h => tw h
def s_nLow : FnSpec := sp1 (.one (.i .i64)) okL (fun x _ => (tz (dl x).toNat : Nat)) (fun _ _ => false)
theorem good_nLow (hT : ∀ w, G w → Tab w) : Good Tryz.prog G N0 76 s_nLow := by
  refine ⟨callable (by kernel_rfl), fun ds hp => ?_⟩
  obtain ⟨x, rfl, hx⟩ := sp1_arg hp
  obtain ⟨n, cs, rfl, hc⟩ := okL_arg hx
  refine s_L hc fun X w A c hG hX hl => ?_
  have hn := hc.2.2.2
  exact (low_any w A n c (nums cs) hl (hT w hG)).mono fun _ _ h => tw h
def s_rNorm : FnSpec := sp1 (.agg [.I]) okI (fun x _ => dm x) (fun _ _ => false)
theorem good_rNorm : Good Tryz.prog G N0 68 s_rNorm := by
  refine ⟨callable (by kernel_rfl), fun ds hp => ?_⟩
  obtain ⟨x, rfl, hx⟩ := sp1_arg hp
  obtain ⟨s, n, cs, rfl, hc⟩ := okI_arg hx
  refine s_I hc fun X w A c hG hX hl => ?_
  have hn := hc.2.2.2
  exact (rnorm_any w s A n c (nums cs) hl).mono fun _ _ h => (fun h => tellsI h hX) h
def s_rSign : FnSpec := sp1 (.one (.i .i64)) okI (fun x _ => sg (dm x)) (fun _ _ => false)
theorem good_rSign : Good Tryz.prog G N0 67 s_rSign := by
  refine ⟨callable (by kernel_rfl), fun ds hp => ?_⟩
  obtain ⟨x, rfl, hx⟩ := sp1_arg hp
  obtain ⟨s, n, cs, rfl, hc⟩ := okI_arg hx
  refine s_I hc fun X w A c hG hX hl => ?_
  have hn := hc.2.2.2
  exact (rsign_g w _ s A n c (nums cs) hl rfl rfl).mono fun _ _ h => tellsi h
def s_rOf : FnSpec := sp1 (.agg [.I]) (fun x => isi .i64 x ∧ -9223372036854775808 ≤ dz x ∧ dz x ≤ 9223372036854775807) (fun x _ => dz x) (fun _ _ => false)
theorem good_rOf : Good Tryz.prog G N0 42 s_rOf := by
  refine ⟨callable (by kernel_rfl), fun ds hp => ?_⟩
  obtain ⟨x, rfl, hx, h1, h2⟩ := sp1_arg hp
  obtain ⟨z, rfl⟩ := isi_arg hx
  refine s_i fun X w hG hX => ?_
  exact (rof_g w z ⟨h1, h2⟩ rfl).mono fun _ _ h => tellsI h hX
def s_rLow : FnSpec := sp1 (.one (.i .i64)) okL (fun x _ => (tz (dl x).toNat : Nat)) (fun _ _ => false)
theorem good_rLow : Good Tryz.prog G N0 69 s_rLow := by
  refine ⟨callable (by kernel_rfl), fun ds hp => ?_⟩
  obtain ⟨x, rfl, hx⟩ := sp1_arg hp
  obtain ⟨n, cs, rfl, hc⟩ := okL_arg hx
  refine s_L hc fun X w A c hG hX hl => ?_
  have hn := hc.2.2.2
  exact (rlow_any w A n c (nums cs) hl).mono fun _ _ h => tw h
def s_rShr : FnSpec := sp2 (.one .L) (fun x y => okL x ∧ isi .i64 y) (fun x y _ => ((dl x).toNat / 2 ^ heldN (dz y) : Nat)) (fun _ _ _ => false)
theorem good_rShr : Good Tryz.prog G N0 70 s_rShr := by
  refine ⟨callable (by kernel_rfl), fun ds hp => ?_⟩
  obtain ⟨x, y, rfl, hx, hy⟩ := sp2_arg hp
  obtain ⟨n, cs, rfl, hc⟩ := okL_arg hx
  obtain ⟨k, rfl⟩ := isi_arg hy
  refine s_Li hc fun X w A c hG hX hl => ?_
  have hn := hc.2.2.2
  exact (rshr_any w A n c (nums cs) k hl (by omega)).mono fun _ _ h => (fun h => tellsL h hX) h
def s_rSame : FnSpec := sp2 (.one .b) (fun x y => okL x ∧ okL y) (fun _ _ _ => 0) (fun x y _ => match x, y with | .sl _ cs, .sl _ es => decide (nums cs = nums es) | _, _ => false)
theorem good_rSame : Good Tryz.prog G N0 48 s_rSame := by
  refine ⟨callable (by kernel_rfl), fun ds hp => ?_⟩
  obtain ⟨x, y, rfl, hx, hy⟩ := sp2_arg hp
  obtain ⟨n, cs, rfl, hc⟩ := okL_arg hx
  obtain ⟨m, es, rfl, he⟩ := okL_arg hy
  refine s_LL hc he fun X w A c A' c' hG hX hl hl' => ?_
  have hn := hc.2.2.2
  have hm := he.2.2.2
  exact (rsame_bel w A n c (nums cs) A' m c' (nums es) hl hl' rfl).mono fun _ _ h => tellsb h
end Go.Proofs.YtgmencbhkkcpiaaGreatDoor.Ev
/- The types and tables of the program, as the calculus reads them. -/
namespace Go.Proofs.YtgmencbhkkcpiaaGreatDoor.Ev
open Go Go.RowKit
set_option linter.unusedSimpArgs false
set_option linter.unusedVariables false
def tis : List (Nat × TI) := [
  (24, ⟨2, .agg #[.bool false, .slice none 0 0], .struct [(0, 4), (1, 22)], 32⟩),
  (26, ⟨3, .agg #[.bool false, .slice none 0 0, .int .i64 0], .struct [(0, 24), (2, 3)], 40⟩),
  (3, ⟨1, .int .i64 0, .intk .i64, 8⟩),
  (2, ⟨1, .int .i64 0, .intk .i64, 8⟩),
  (5, ⟨1, .int .u8 0, .intk .u8, 1⟩),
  (87, ⟨1, .int .u32 0, .intk .u32, 4⟩),
  (86, ⟨1, .int .u64 0, .intk .u64, 8⟩),
  (4, ⟨1, .bool false, .boolk, 1⟩),
  (9, ⟨1, .string ⟨#[]⟩, .str, 16⟩),
  (22, ⟨1, .slice none 0 0, .slice 87, 24⟩),
  (39, ⟨1, .int .i64 0, .intk .i64, 8⟩),
  (116, ⟨1, .slice none 0 0, .slice 22, 24⟩),
  (21, ⟨1, .int .i32 0, .intk .i32, 4⟩),
  (28, ⟨6, .agg #[.bool false, .slice none 0 0, .int .i64 0, .bool false, .slice none 0 0, .int .i64 0], .struct [(0, 26), (3, 26)], 80⟩),
  (32, ⟨6, .agg #[.bool false, .slice none 0 0, .int .i64 0, .bool false, .slice none 0 0, .int .i64 0], .array 2 26, 80⟩),
  (51, ⟨2, .agg #[.int .i64 0, .int .i64 0], .struct [(0, 3), (1, 3)], 16⟩),
  (53, ⟨4, .agg #[.int .i64 0, .int .i64 0, .int .i64 0, .int .i64 0], .struct [(0, 51), (2, 51)], 32⟩),
  (54, ⟨12, .agg #[.int .i64 0, .int .i64 0, .int .i64 0, .int .i64 0, .int .i64 0, .int .i64 0, .int .i64 0, .int .i64 0, .int .i64 0, .int .i64 0, .int .i64 0, .int .i64 0], .array 3 53, 96⟩),
  (55, ⟨36, .agg #[.int .i64 0, .int .i64 0, .int .i64 0, .int .i64 0, .int .i64 0, .int .i64 0, .int .i64 0, .int .i64 0, .int .i64 0, .int .i64 0, .int .i64 0, .int .i64 0, .int .i64 0, .int .i64 0, .int .i64 0, .int .i64 0, .int .i64 0, .int .i64 0, .int .i64 0, .int .i64 0, .int .i64 0, .int .i64 0, .int .i64 0, .int .i64 0, .int .i64 0, .int .i64 0, .int .i64 0, .int .i64 0, .int .i64 0, .int .i64 0, .int .i64 0, .int .i64 0, .int .i64 0, .int .i64 0, .int .i64 0, .int .i64 0], .array 3 54, 288⟩),
  (77, ⟨3, .agg #[.int .i64 0, .int .i64 0, .int .i64 0], .array 3 3, 24⟩),
  (78, ⟨9, .agg #[.int .i64 0, .int .i64 0, .int .i64 0, .int .i64 0, .int .i64 0, .int .i64 0, .int .i64 0, .int .i64 0, .int .i64 0], .array 3 77, 72⟩)]
def ti (t : Nat) : Option TI := findT t tis
  where findT (t : Nat) : List (Nat × TI) → Option TI
  | [] => none
  | p :: ps => if t = p.1 then some p.2 else findT t ps
theorem tis_nil : ∀ p ∈ ([] : List (Nat × TI)), TI.ok Tryz.prog p.1 p.2 := fun _ h => by cases h
theorem tis_cons {p : Nat × TI} {ps : List (Nat × TI)} (h1 : (Tryz.prog.info? p.1).map (fun j => (j.size, j.zero)) = some (p.2.size, some p.2.zv)) (h2 : shapeOf Tryz.prog p.1 = p.2.k) (h3 : p.2.k ≠ .other) (h4 : (Tryz.prog.info? p.1).map (·.bytes) = some p.2.bytes) (h : ∀ p ∈ ps, TI.ok Tryz.prog p.1 p.2) : ∀ q ∈ p :: ps, TI.ok Tryz.prog q.1 q.2 := fun q hq => by
  rcases List.mem_cons.1 hq with rfl | hq
  · exact ⟨h1, h2, h3, h4⟩
  · exact h q hq
theorem tis_ok : ∀ p ∈ tis, TI.ok Tryz.prog p.1 p.2 := by
  unfold tis
  repeat' (refine tis_cons (by kernel_rfl) (by kernel_rfl) (by simp) (by kernel_rfl) ?_)
  exact tis_nil
theorem ti_ok (t : Nat) (i : TI) (h : ti t = some i) : TI.ok Tryz.prog t i := by
  have key : ∀ l : List (Nat × TI), (∀ p ∈ l, TI.ok Tryz.prog p.1 p.2) → ti.findT t l = some i → TI.ok Tryz.prog t i := by
    intro l
    induction l with
    | nil => intro _ h; cases h
    | cons p ps ih =>
      intro hl h
      simp only [ti.findT] at h
      split at h
      · rename_i ht; cases h; rw [ht]; exact hl p (by simp)
      · exact ih (fun q hq => hl q (by simp [hq])) h
  exact key tis tis_ok h
/-- numbers in a table. -/
def tabD (k : IntKind) (l : List Int) : List D := l.map fun z => .int k z
def TabAt (w : World) (g : Nat) (k : IntKind) (l : List Int) : Prop := ∀ j, j < l.length → w.cell? ⟨g, j, none⟩ = some (.int k (l.getD j 0))
theorem tab_GT {w : World} {g : Nat} {k : IntKind} {l : List Int} (h : TabAt w g k l) : GT w g (tabD k l) := by
  refine ⟨l.map fun z => .int k z, fun E => ?_, fun j v hj => ?_⟩
  · have key : ∀ l : List Int, denL E (tabD k l) (l.map fun z => .int k z) := fun l => by
      unfold tabD
      induction l with
      | nil => simp [denL]
      | cons z l ih => simp only [List.map_cons, denL, den]; exact ⟨_, _, rfl, rfl, ih⟩
    exact key l
  · simp only [List.getElem?_map, Option.map_eq_some_iff] at hj
    obtain ⟨z, hz, rfl⟩ := hj
    have hlt : j < l.length := lt_get hz
    rw [h j hlt, List.getD_eq_getElem?_getD, hz]; rfl
theorem TabAt.bel {w w' : World} {g : Nat} {k : IntKind} {l : List Int} (h : TabAt w g k l) (hb : Below w.heap.size w w') : TabAt w' g k l := fun j hj => by
  have hc := h j hj
  have hlt : g < w.heap.size := World.block_lt_of_cell? w ⟨g, j, none⟩ hc
  rw [hb.cell (p := ⟨g, j, none⟩) hlt]; exact hc
def ordersL : List Int := [2, -1, -1, 1, 0, -1, 1, 1, 2]
def outwardL : List Int := [1, 1, 1, 1, 0, 0, 0, 0, 0, 0, 0, 0, 1, 1, 1, 1, 0, 0, 1, 1, 0, 0, 1, 1]
def deBruijnL : List Int := Lib.deBruijn32tab.map Int.ofNat
def cornersL : List Int := [1, 1, 0, 0, 0, 1, 0, 0, 0, 1, 1, 0, 1, 0, 0, 0, 1, 0, 1, 1, 0, 1, 1, 1, 1, 0, 0, 1, 1, 0, 1, 1, 0, 0, 1, 1]
/-- tables that may be laid in memory, by number. -/
def gts : List (Nat × Nat × IntKind × List Int) := [
  (3, 0, .u8, deBruijnL),
  (1, 1, .i64, ordersL),
  (4, 2, .i64, sumsT),
  (2, 3, .i64, productsT),
  (0, 5, .i64, cornersL)]
def Laid (r : Nat) (w : World) : Prop := ∀ p ∈ gts, p.2.1 = r → TabAt w p.1 p.2.2.1 p.2.2.2
/-- what is laid in memory: so much of it. -/
structure GWL (l : List Nat) (w : World) : Prop where
  h : ∀ r, l.contains r = true → Laid r w
theorem Laid.bel {r : Nat} {w w' : World} (hb : Below w.heap.size w w') (h : Laid r w) : Laid r w' := fun p hp hr => TabAt.bel (h p hp hr) hb
theorem GWL.bel (l : List Nat) (w w' : World) (hb : Below w.heap.size w w') (h : GWL l w) : GWL l w' := ⟨fun r hr => (h.h r hr).bel hb⟩
theorem GWL.mono {l l' : List Nat} (hl : l.all (l'.contains ·) = true) {w : World} (h : GWL l' w) : GWL l w := ⟨fun r hr => h.h r (List.all_eq_true.1 hl r (List.contains_iff_mem.1 hr))⟩
theorem GWL.nil {w : World} : GWL [] w := ⟨fun r hr => by cases hr⟩
theorem GWL.cons {r : Nat} {l : List Nat} {w : World} (h1 : Laid r w) (h : GWL l w) : GWL (r :: l) w := ⟨fun q hq => by
  rcases List.mem_cons.1 (List.contains_iff_mem.1 hq) with rfl | hq
  · exact h1
  · exact h.h q (List.contains_iff_mem.2 hq)⟩
theorem laid_one {r : Nat} {w : World} {p : Nat × Nat × IntKind × List Int} (hf : gts.filter (fun p => p.2.1 == r) = [p]) (h : TabAt w p.1 p.2.2.1 p.2.2.2) : Laid r w := fun q hq hr => by
  have hm : q ∈ gts.filter (fun p => p.2.1 == r) := List.mem_filter.2 ⟨hq, by rw [hr]; exact beq_self_eq_true r⟩
  rw [hf, List.mem_singleton] at hm
  rw [hm]; exact h
theorem laid_at {r : Nat} {l : List Nat} {w : World} {p : Nat × Nat × IntKind × List Int} (h : GWL l w) (hl : l.contains r = true) (hf : gts.filter (fun p => p.2.1 == r) = [p]) : TabAt w p.1 p.2.2.1 p.2.2.2 := by
  have hm : p ∈ gts.filter (fun p => p.2.1 == r) := by rw [hf]; simp
  have := List.mem_filter.1 hm
  exact h.h r hl p this.1 (by simpa using this.2)
theorem tab_at {l : List Nat} {w : World} (h : GWL l w) (hl : l.contains 0 = true) : Tab w := fun j hj => by
  have hc := laid_at h hl (p := (3, 0, .u8, deBruijnL)) rfl j hj
  have h32 : Lib.deBruijn32tab.length = 32 := rfl
  rw [hc]
  congr 2
  unfold deBruijnL
  dsimp only
  rw [List.getD_eq_getElem?_getD, List.getD_eq_getElem?_getD, List.getElem?_map, List.getElem?_eq_getElem (by rw [h32]; exact hj)]
  rfl
theorem laid_tab {w : World} (h : Tab w) : TabAt w 3 .u8 deBruijnL := fun j hj => by
  have h32 : Lib.deBruijn32tab.length = 32 := rfl
  have hl : deBruijnL.length = 32 := rfl
  rw [hl] at hj
  rw [h j hj]
  congr 2
  unfold deBruijnL
  rw [List.getD_eq_getElem?_getD, List.getD_eq_getElem?_getD, List.getElem?_map, List.getElem?_eq_getElem (by rw [h32]; exact hj)]
  rfl
theorem sums_at {l : List Nat} {w : World} (h : GWL l w) (hl : l.contains 2 = true) : SumsT w := laid_at h hl (p := (4, 2, .i64, sumsT)) rfl
theorem products_at {l : List Nat} {w : World} (h : GWL l w) (hl : l.contains 3 = true) : ProductsT w := laid_at h hl (p := (2, 3, .i64, productsT)) rfl
theorem Good.mono {P : Program} {G G' : World → Prop} {N : Nums} {f : Nat} {s : FnSpec} (h : Good P G N f s) (hg : ∀ w, G' w → G w) : Good P G' N f s :=
  ⟨h.1, fun ds hp X w vs hG => h.2 ds hp X w vs (hg w hG)⟩
theorem Good.lift {l l' : List Nat} {f : Nat} {s : FnSpec} (h : Good Tryz.prog (GWL l) N0 f s) (hl : l.all (l'.contains ·) = true) : Good Tryz.prog (GWL l') N0 f s := h.mono fun _ => GWL.mono hl
/-- the tables that are read by an index. -/
def gtL (l : List Nat) (g : Nat) : Option (List D) := gtIn l g gts
  where gtIn (l : List Nat) (g : Nat) : List (Nat × Nat × IntKind × List Int) → Option (List D)
  | [] => none
  | p :: ps => match g == p.1 && l.contains p.2.1 with | true => some (tabD p.2.2.1 p.2.2.2) | false => gtIn l g ps
theorem gtL_ok {l : List Nat} (w : World) (h : GWL l w) (g : Nat) (cs : List D) (hg : gtL l g = some cs) : GT w g cs := by
  have key : ∀ ps : List (Nat × Nat × IntKind × List Int), (∀ p ∈ ps, p ∈ gts) → gtL.gtIn l g ps = some cs → GT w g cs := by
    intro ps
    induction ps with
    | nil => intro _ h; cases h
    | cons p ps ih =>
      intro hp hg
      simp only [gtL.gtIn] at hg
      split at hg
      · rename_i hh
        simp only [Bool.and_eq_true, beq_iff_eq] at hh
        cases hg
        rw [hh.1]
        exact tab_GT (h.h _ hh.2 p (hp p (by simp)) rfl)
      · exact ih (fun q hq => hp q (by simp [hq])) hg
  exact key gts (fun p hp => hp) hg
theorem safe_true {A : Alg} (hA : A = std) {l : List Oper} {n : Nat} (h : safe l n = true) : (A.safe l n = true) = True := by subst hA; exact eq_true h
theorem safe_lift {A : Alg} (hA : A = std) {l : List Oper} {n : Nat} (h : safe l n = true) : A.safe l n = true := by subst hA; exact h
theorem mixed : Tryz.prog.follows .mixedOrders = true := by kernel_rfl
/-- a function's text, gone through on letters, for this program. -/
theorem goodL {l : List Nat} {tab : List (Nat × FnSpec)} {shs : List (Nat × Shape)} (hs : tab.map (fun p => (p.1, p.2.sh)) = shs) (hg : Goods Tryz.prog (GWL l) N0 tab)
    {f : Nat} (fn : Func) (hf : Tryz.prog.funcs[f]? = some fn) (hn : (fn.name == "runtime.NumGoroutine") = false) (hb : fn.body.isSome = true) {s : FnSpec}
    (h : ∀ ds, s.p ds → ∀ (F : Ltr) (A : Alg) (Q : Post), F = fnOf N0 tab → A = std → Q.R (s.out N0 ds) → ∃ fuel, ev (mkCtx ti (gtL l) shs F A) fuel (fn.body.getD .skip) (start fn.ntmps ds) (ends (mkCtx ti (gtL l) shs F A) fn.results.toList Q.R)) : Good Tryz.prog (GWL l) N0 f s := by
  obtain ⟨c, hc⟩ := Option.isSome_iff_exists.1 hb
  refine good_of ti_ok gtL_ok (GWL.bel l) mixed tab shs hs hg hf hn hc rfl rfl fun ds hp F A Q hF hA hQ => ?_
  have := h ds hp F A Q hF hA hQ
  rw [hc] at this
  exact this
/-- likewise, with arrays of its own. -/
theorem goodO {l : List Nat} {tab : List (Nat × FnSpec)} {shs : List (Nat × Shape)} (hs : tab.map (fun p => (p.1, p.2.sh)) = shs) (hg : GoodsS Tryz.prog (GWL l) N0 tab)
    {f : Nat} (fn : Func) (hf : Tryz.prog.funcs[f]? = some fn) (hn : (fn.name == "runtime.NumGoroutine") = false) (hb : fn.body.isSome = true) {s : FnSpec}
    (h : ∀ ds, s.p ds → ∀ (F : Ltr) (A : Alg) (Q : Post), F = fnOf N0 tab → A = std → Q.R (s.out N0 ds) → ∃ fuel, ev (mkCtxO ti (gtL l) shs F A) fuel (fn.body.getD .skip) (start fn.ntmps ds) (ends (mkCtxO ti (gtL l) shs F A) fn.results.toList Q.R)) : GoodS Tryz.prog (GWL l) N0 f s := by
  obtain ⟨c, hc⟩ := Option.isSome_iff_exists.1 hb
  refine goodS_of ti_ok gtL_ok (GWL.bel l) mixed tab shs hs hg hf hn hc rfl rfl fun ds hp F A Q hF hA hQ => ?_
  have := h ds hp F A Q hF hA hQ
  rw [hc] at this
  exact this
end Go.Proofs.YtgmencbhkkcpiaaGreatDoor.Ev
/- Dyads: what their numbers are. -/
namespace Go.Proofs.YtgmencbhkkcpiaaGreatDoor.Ev
open Go Go.RowKit
set_option linter.unusedSimpArgs false
set_option linter.unusedVariables false
/-- so many bits at most. -/
def Fit (z : Int) (k : Nat) : Prop := z.natAbs < 2 ^ k
theorem Fit.mono {z : Int} {k l : Nat} (h : Fit z k) (hkl : k ≤ l) : Fit z l := Nat.lt_of_lt_of_le h (Nat.pow_le_pow_right (by omega) hkl)
theorem Fit.ln {z : Int} {k n : Nat} (h : Fit z k) (hn : k ≤ 32 * n) : ln z.natAbs ≤ n := by
  refine ln_le_of_lt ?_
  rw [Bs_pow_eq]
  exact Nat.lt_of_lt_of_le h (Nat.pow_le_pow_right (by omega) hn)
theorem fit_ln {z : Int} {n : Nat} (h : Go.Proofs.YtgmencbhkkcpiaaGreatDoor.ln z.natAbs ≤ n) : Fit z (32 * n) := by
  unfold Fit
  rw [← Bs_pow_eq]
  exact Nat.lt_of_lt_of_le (lt_pow_ln _) (Nat.pow_le_pow_right (by rw [Bs_eq]; omega) h)
theorem Fit.add {x y : Int} {k l m : Nat} (h : Fit x k) (h' : Fit y l) (hk : k + 1 ≤ m) (hl : l + 1 ≤ m) : Fit (x + y) m := by
  have h1 := h.mono (show k ≤ m - 1 by omega)
  have h2 := h'.mono (show l ≤ m - 1 by omega)
  unfold Fit at *
  have : 2 ^ m = 2 ^ (m - 1) * 2 := by rw [← Nat.pow_succ]; congr 1; omega
  omega
theorem Fit.neg {x : Int} {k : Nat} (h : Fit x k) : Fit (-x) k := by unfold Fit at *; rwa [Int.natAbs_neg]
theorem Fit.sub {x y : Int} {k l m : Nat} (h : Fit x k) (h' : Fit y l) (hk : k + 1 ≤ m) (hl : l + 1 ≤ m) : Fit (x - y) m := by
  rw [Int.sub_eq_add_neg]; exact h.add h'.neg hk hl
theorem Fit.mul {x y : Int} {k l m : Nat} (h : Fit x k) (h' : Fit y l) (hm : k + l ≤ m) : Fit (x * y) m := by
  refine Fit.mono (k := k + l) ?_ hm
  unfold Fit at *
  rw [Int.natAbs_mul, Nat.pow_add]
  exact Nat.mul_lt_mul'' h h'
theorem fit_pow (n : Nat) : Fit (2 ^ n) (n + 1) := by
  unfold Fit
  rw [Int.natAbs_pow]
  exact Nat.pow_lt_pow_right (by decide) (by omega)
theorem Fit.shl {x : Int} {k n m : Nat} (h : Fit x k) (hm : k + n + 1 ≤ m) : Fit (x * 2 ^ n) m := h.mul (fit_pow n) (by omega)
theorem Fit.le {x y : Int} {k : Nat} (h : Fit x k) (hy : y.natAbs ≤ x.natAbs) : Fit y k := Nat.lt_of_le_of_lt hy h
theorem natAbs_ediv_pow {x : Int} {n : Nat} (hn : (2 : Int) ^ n ∣ x) : (x / 2 ^ n).natAbs = x.natAbs / 2 ^ n := by
  obtain ⟨c, rfl⟩ := hn
  have hp : (2 : Int) ^ n ≠ 0 := Int.pow_ne_zero (by decide)
  rw [Int.mul_ediv_cancel_left _ hp, Int.natAbs_mul, Int.natAbs_pow]
  exact (Nat.mul_div_cancel_left _ (Nat.pow_pos (by decide))).symm
theorem dvd_tz (x : Int) : (2 : Int) ^ tz x.natAbs ∣ x := by
  by_cases h : x.natAbs = 0
  · rw [Int.natAbs_eq_zero.1 h]; exact Int.dvd_zero _
  · obtain ⟨m, hm⟩ := tz_spec h
    refine Int.natAbs_dvd_natAbs.1 ?_
    rw [Int.natAbs_pow]
    exact ⟨2 * m + 1, hm⟩
theorem pow_dvd {m n : Nat} (h : m ≤ n) : (2 : Int) ^ m ∣ 2 ^ n := ⟨2 ^ (n - m), by rw [← Int.pow_add]; congr 1; omega⟩
/-- what is odd of a number, and its place. -/
def tmI (m : Int) : Int := if m = 0 then 0 else m / 2 ^ tz m.natAbs
def teI (m e : Int) : Int := if m = 0 then 0 else e + tz m.natAbs
theorem tmI_zero : tmI 0 = 0 := if_pos rfl
theorem teI_zero (e : Int) : teI 0 e = 0 := if_pos rfl
theorem tmI_le (m : Int) : (tmI m).natAbs ≤ m.natAbs := by
  unfold tmI
  split
  · simp
  · rw [natAbs_ediv_pow (dvd_tz m)]; exact Nat.div_le_self _ _
theorem tmI_mul (m : Int) : tmI m * 2 ^ tz m.natAbs = m := by
  unfold tmI
  split
  · rename_i h; rw [h]; simp
  · exact Int.ediv_mul_cancel (dvd_tz m)
theorem tz_lt {z : Int} {k : Nat} (h : Fit z k) (h0 : z ≠ 0) : tz z.natAbs < k := tz_lt_of_lt (by omega) h
theorem tmI_shift (m : Int) (k : Nat) : tmI (m * 2 ^ k) = tmI m := by
  unfold tmI
  have hp : (2 : Int) ^ k ≠ 0 := Int.pow_ne_zero (by decide)
  by_cases h : m = 0
  · rw [h]; simp
  · rw [if_neg h, if_neg (Int.mul_ne_zero h hp), Int.natAbs_mul, Int.natAbs_pow]
    have : tz (m.natAbs * (2 : Int).natAbs ^ k) = tz m.natAbs + k := tz_mul_pow (by omega) k
    rw [this, Int.pow_add]
    exact Int.mul_ediv_mul_of_pos_left m (2 ^ tz m.natAbs) (Int.pow_pos (by decide))
theorem teI_shift (m e : Int) (k : Nat) : teI (m * 2 ^ k) e = teI m (e + k) := by
  unfold teI
  have hp : (2 : Int) ^ k ≠ 0 := Int.pow_ne_zero (by decide)
  by_cases h : m = 0
  · rw [h]; simp
  · rw [if_neg h, if_neg (Int.mul_ne_zero h hp), Int.natAbs_mul, Int.natAbs_pow]
    have : tz (m.natAbs * (2 : Int).natAbs ^ k) = tz m.natAbs + k := tz_mul_pow (by omega) k
    rw [this]
    omega
theorem okC_fit {n : Nat} {cs : List D} (h : okC n cs) (s : Bool) : Fit (vI s cs) (32 * n) := by
  refine fit_ln ?_
  unfold vI
  rw [sgn_natAbs]; exact okC_ln h
theorem pow_sum {a b : Int} (ha : 0 ≤ a) (hb : 0 ≤ b) : (2 : Int) ^ (a + b).toNat = 2 ^ a.toNat * 2 ^ b.toNat := by
  rw [← Int.pow_add]; congr 1; omega
/-- two that are the same number are told alike. -/
theorem nrm_eq {m1 e1 m2 e2 k : Int} (h1 : k ≤ e1) (h2 : k ≤ e2) (h : m1 * 2 ^ (e1 - k).toNat = m2 * 2 ^ (e2 - k).toNat) : tmI m1 = tmI m2 ∧ teI m1 e1 = teI m2 e2 := by
  have a1 := tmI_shift m1 (e1 - k).toNat
  have a2 := tmI_shift m2 (e2 - k).toNat
  have b1 := teI_shift m1 k (e1 - k).toNat
  have b2 := teI_shift m2 k (e2 - k).toNat
  rw [show k + ((e1 - k).toNat : Int) = e1 by omega] at b1
  rw [show k + ((e2 - k).toNat : Int) = e2 by omega] at b2
  exact ⟨by rw [← a1, ← a2, h], by rw [← b1, ← b2, h]⟩
theorem tm_val {m e k : Int} (hk : k ≤ e) (h0 : m ≠ 0) : tmI m * 2 ^ (teI m e - k).toNat = m * 2 ^ (e - k).toNat := by
  have h := tmI_mul m
  have he : teI m e = e + tz m.natAbs := if_neg h0
  rw [he, show e + (tz m.natAbs : Int) - k = (tz m.natAbs : Int) + (e - k) by omega, pow_sum (by omega) (by omega), ← Int.mul_assoc, Int.toNat_natCast, h]
def addM (mx ex my ey : Int) : Int := mx * 2 ^ (ex - min ex ey).toNat + my * 2 ^ (ey - min ex ey).toNat
theorem addM_zl {mx ex my ey : Int} (h : mx = 0) : tmI (addM mx ex my ey) = tmI my ∧ teI (addM mx ex my ey) (min ex ey) = teI my ey := by
  unfold addM
  rw [h, Int.zero_mul, Int.zero_add, tmI_shift, teI_shift]
  exact ⟨rfl, by congr 1; omega⟩
theorem addM_zr {mx ex my ey : Int} (h : my = 0) : tmI (addM mx ex my ey) = tmI mx ∧ teI (addM mx ex my ey) (min ex ey) = teI mx ex := by
  unfold addM
  rw [h, Int.zero_mul, Int.add_zero, tmI_shift, teI_shift]
  exact ⟨rfl, by congr 1; omega⟩
/-- raised to a lower exponent the sum is the same. -/
theorem addM_low {mx ex my ey k : Int} (hk1 : k ≤ ex) (hk2 : k ≤ ey) : addM mx ex my ey * 2 ^ (min ex ey - k).toNat = mx * 2 ^ (ex - k).toNat + my * 2 ^ (ey - k).toNat := by
  unfold addM
  rw [Int.add_mul, Int.mul_assoc, Int.mul_assoc, ← pow_sum (by omega) (by omega), ← pow_sum (by omega) (by omega)]
  rw [show ex - min ex ey + (min ex ey - k) = ex - k by omega, show ey - min ex ey + (min ex ey - k) = ey - k by omega]
theorem addM_comm (mx ex my ey : Int) : addM mx ex my ey = addM my ey mx ex := by
  unfold addM
  rw [Int.add_comm, Int.min_comm]
theorem addM_norm (mx ex my ey : Int) : tmI (addM mx ex (tmI my) (teI my ey)) = tmI (addM mx ex my ey) ∧ teI (addM mx ex (tmI my) (teI my ey)) (min ex (teI my ey)) = teI (addM mx ex my ey) (min ex ey) := by
  by_cases h : my = 0
  · have h1 := addM_zr (mx := mx) (ex := ex) (ey := ey) h
    have h2 := addM_zr (mx := mx) (ex := ex) (my := tmI my) (ey := teI my ey) (by rw [h]; exact tmI_zero)
    exact ⟨h2.1.trans h1.1.symm, h2.2.trans h1.2.symm⟩
  · have he : teI my ey = ey + tz my.natAbs := if_neg h
    refine nrm_eq (k := min ex ey) (by omega) (by omega) ?_
    rw [addM_low (by omega) (by omega), addM_low (by omega) (by omega), tm_val (by omega) h]
theorem addM_norm2 (mx ex my ey : Int) : tmI (addM (tmI mx) (teI mx ex) my ey) = tmI (addM mx ex my ey) ∧ teI (addM (tmI mx) (teI mx ex) my ey) (min (teI mx ex) ey) = teI (addM mx ex my ey) (min ex ey) := by
  have h := addM_norm my ey mx ex
  rw [addM_comm (tmI mx), addM_comm mx ex, Int.min_comm, Int.min_comm ex]
  exact h
theorem tmI_odd {m : Int} (h : m ≠ 0) : tz (tmI m).natAbs = 0 := by
  have h1 := tmI_mul m
  have h2 : tmI m ≠ 0 := fun h0 => h (by rw [← h1, h0, Int.zero_mul])
  have h3 := tz_mul_pow (n := (tmI m).natAbs) (by omega) (tz m.natAbs)
  have h4 : (tmI m).natAbs * 2 ^ tz m.natAbs = m.natAbs := by
    have := congrArg Int.natAbs h1
    rwa [Int.natAbs_mul, Int.natAbs_pow] at this
  rw [h4] at h3
  omega
theorem tmI_idem (m : Int) : tmI (tmI m) = tmI m := by
  by_cases h : m = 0
  · rw [h, tmI_zero, tmI_zero]
  · have h1 := tmI_mul (tmI m)
    rw [tmI_odd h] at h1
    simpa using h1
theorem tmI_ne {m : Int} (h : m ≠ 0) : tmI m ≠ 0 := fun h0 => h (by rw [← tmI_mul m, h0, Int.zero_mul])
theorem teI_idem (m e : Int) : teI (tmI m) (teI m e) = teI m e := by
  by_cases h : m = 0
  · rw [h, tmI_zero, teI_zero, teI_zero]
  · unfold teI
    rw [if_neg (tmI_ne h), if_neg h, tmI_odd h]
    omega
/-- in what order two dyads stand. -/
def cmpD (mx ex my ey : Int) : Int := sg (mx * 2 ^ (ex - min ex ey).toNat - my * 2 ^ (ey - min ex ey).toNat)
/-- the topmost bit's place. -/
def topI (m e : Int) : Int := if m = 0 then 0 else (nb m.natAbs : Int) - 1 + e
theorem pow_pos' (n : Nat) : (0 : Int) < 2 ^ n := Int.pow_pos (by decide)
def ordT (X Y : Int) : Int := [2, -1, -1, 1, 0, -1, 1, 1, 2].getD (0 + (IntKind.i64.wrap (sg X + 1)).toNat * 3 + (IntKind.i64.wrap (sg Y + 1)).toNat * 1) 0
theorem ordT_spec (X Y : Int) : (ordT X Y = 2 ∧ sg X = sg Y ∧ X ≠ 0 ∧ Y ≠ 0) ∨ (ordT X Y ≠ 2 ∧ ordT X Y = sg (sg X - sg Y) ∧ (sg X ≠ sg Y ∨ (X = 0 ∧ Y = 0))) := by
  unfold ordT
  have w0 : IntKind.i64.wrap (-1 + 1) = 0 := by decide
  have w1 : IntKind.i64.wrap (0 + 1) = 1 := by decide
  have w2 : IntKind.i64.wrap (1 + 1) = 2 := by decide
  rcases sg_cases X with ⟨h1, h2⟩ | ⟨h1, h2⟩ | ⟨h1, h2⟩ <;> rcases sg_cases Y with ⟨h3, h4⟩ | ⟨h3, h4⟩ | ⟨h3, h4⟩ <;> rw [h2, h4] <;> simp only [w0, w1, w2]
  · exact .inl ⟨rfl, trivial, by omega, by omega⟩
  · exact .inr ⟨by decide, by decide, .inl (by decide)⟩
  · exact .inr ⟨by decide, by decide, .inl (by decide)⟩
  · exact .inr ⟨by decide, by decide, .inl (by decide)⟩
  · exact .inr ⟨by decide, by decide, .inr ⟨h1, h3⟩⟩
  · exact .inr ⟨by decide, by decide, .inl (by decide)⟩
  · exact .inr ⟨by decide, by decide, .inl (by decide)⟩
  · exact .inr ⟨by decide, by decide, .inl (by decide)⟩
  · exact .inl ⟨rfl, trivial, by omega, by omega⟩
theorem sg_pow (X : Int) (n : Nat) : sg (X * 2 ^ n) = sg X := by
  have hp := pow_pos' n
  rcases sg_cases X with ⟨h1, h2⟩ | ⟨h1, h2⟩ | ⟨h1, h2⟩ <;> rw [h2]
  · exact sg_neg (Int.mul_neg_of_neg_of_pos h1 hp)
  · rw [h1, Int.zero_mul]; exact sg_zero rfl
  · exact sg_pos (Int.mul_pos h1 hp)
theorem sg_sub_diff {A B : Int} (h : sg A ≠ sg B) : sg (A - B) = sg (sg A - sg B) := by
  rcases sg_cases A with ⟨h1, h2⟩ | ⟨h1, h2⟩ | ⟨h1, h2⟩ <;> rcases sg_cases B with ⟨h3, h4⟩ | ⟨h3, h4⟩ | ⟨h3, h4⟩ <;> first
    | exact absurd (h2.trans h4.symm) h
    | (rw [h2, h4, sg_neg (show A - B < 0 by omega)]; decide)
    | (rw [h2, h4, sg_pos (show 0 < A - B by omega)]; decide)
theorem cmpD_diff {X e Y f : Int} (h : sg X ≠ sg Y ∨ (X = 0 ∧ Y = 0)) : cmpD X e Y f = sg (sg X - sg Y) := by
  unfold cmpD
  rcases h with h | ⟨h1, h2⟩
  · have := sg_sub_diff (A := X * 2 ^ (e - min e f).toNat) (B := Y * 2 ^ (f - min e f).toNat) (by rw [sg_pow, sg_pow]; exact h)
    rw [this, sg_pow, sg_pow]
  · rw [h1, h2]; simp [sg_zero]
theorem top_less {X e Y f : Int} (hX : X ≠ 0) (hY : Y ≠ 0) (h : topI X e < topI Y f) : X.natAbs * 2 ^ (e - min e f).toNat < Y.natAbs * 2 ^ (f - min e f).toNat := by
  unfold topI at h
  rw [if_neg hX, if_neg hY] at h
  have h1 := lt_pow_nb X.natAbs
  have h2 := pow_nb_le (n := Y.natAbs) (by omega)
  have h3 : 0 < nb Y.natAbs := Nat.pos_of_ne_zero (fun h0 => by have := nb_zero_iff.1 h0; omega)
  calc X.natAbs * 2 ^ (e - min e f).toNat < 2 ^ nb X.natAbs * 2 ^ (e - min e f).toNat := Nat.mul_lt_mul_of_pos_right h1 (Nat.pow_pos (by decide))
    _ = 2 ^ (nb X.natAbs + (e - min e f).toNat) := by rw [Nat.pow_add]
    _ ≤ 2 ^ (nb Y.natAbs - 1 + (f - min e f).toNat) := Nat.pow_le_pow_right (by decide) (by omega)
    _ = 2 ^ (nb Y.natAbs - 1) * 2 ^ (f - min e f).toNat := by rw [Nat.pow_add]
    _ ≤ Y.natAbs * 2 ^ (f - min e f).toNat := Nat.mul_le_mul_right _ h2
theorem natAbs_pow2 (X : Int) (n : Nat) : (X * 2 ^ n).natAbs = X.natAbs * 2 ^ n := by rw [Int.natAbs_mul, Int.natAbs_pow]; rfl
theorem cmpD_top {X e Y f : Int} (hX : X ≠ 0) (hs : sg X = sg Y) (ht : topI X e ≠ topI Y f) : cmpD X e Y f = sg X * sg (topI X e - topI Y f) := by
  have hY : Y ≠ 0 := fun h => by rw [h, sg_zero rfl] at hs; rcases sg_cases X with ⟨h1, h2⟩ | ⟨h1, h2⟩ | ⟨h1, h2⟩ <;> omega
  unfold cmpD
  have sa := sg_pow X (e - min e f).toNat
  have sb := sg_pow Y (f - min e f).toNat
  have na := natAbs_pow2 X (e - min e f).toNat
  have nb' := natAbs_pow2 Y (f - min e f).toNat
  rcases Int.lt_or_gt_of_ne ht with h | h
  · have hl := top_less hX hY h
    rw [sg_neg (show topI X e - topI Y f < 0 by omega)]
    rw [← na, ← nb'] at hl
    generalize X * 2 ^ (e - min e f).toNat = A at *
    generalize Y * 2 ^ (f - min e f).toNat = B at *
    rcases sg_cases X with ⟨h1, h2⟩ | ⟨h1, h2⟩ | ⟨h1, h2⟩
    · rw [h2] at sa hs ⊢; rw [← hs] at sb
      have := (sg_sign A).1 (by omega); have := (sg_sign B).1 (by omega)
      rw [sg_pos (show 0 < A - B by omega)]; decide
    · exact absurd h1 hX
    · rw [h2] at sa hs ⊢; rw [← hs] at sb
      have : 0 < A := by rcases sg_cases A with ⟨_, h5⟩ | ⟨_, h5⟩ | ⟨h5, _⟩ <;> omega
      have : 0 < B := by rcases sg_cases B with ⟨_, h5⟩ | ⟨_, h5⟩ | ⟨h5, _⟩ <;> omega
      rw [sg_neg (show A - B < 0 by omega)]; decide
  · have hl := top_less hY hX h
    rw [Int.min_comm f e] at hl
    rw [sg_pos (show 0 < topI X e - topI Y f by omega)]
    rw [← na, ← nb'] at hl
    generalize X * 2 ^ (e - min e f).toNat = A at *
    generalize Y * 2 ^ (f - min e f).toNat = B at *
    rcases sg_cases X with ⟨h1, h2⟩ | ⟨h1, h2⟩ | ⟨h1, h2⟩
    · rw [h2] at sa hs ⊢; rw [← hs] at sb
      have := (sg_sign A).1 (by omega); have := (sg_sign B).1 (by omega)
      rw [sg_neg (show A - B < 0 by omega)]; decide
    · exact absurd h1 hX
    · rw [h2] at sa hs ⊢; rw [← hs] at sb
      have : 0 < A := by rcases sg_cases A with ⟨_, h5⟩ | ⟨_, h5⟩ | ⟨h5, _⟩ <;> omega
      have : 0 < B := by rcases sg_cases B with ⟨_, h5⟩ | ⟨_, h5⟩ | ⟨h5, _⟩ <;> omega
      rw [sg_pos (show 0 < A - B by omega)]; decide
end Go.Proofs.YtgmencbhkkcpiaaGreatDoor.Ev
