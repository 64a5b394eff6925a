/- What the functions of layers 1 and 2 ask and tell, as data. -/
import Derived.Test.YtkijhcflomjdbaaDoorEvm
import Derived.Test.YtkijhcflomjdbaaDoorRl
import Derived.Test.YtkijhcflomjdbaaDoorRT
import Derived.Test.YtkijhcflomjdbaaDoorRN
import Derived.Test.YtkijhcflomjdbaaDoorLb
import Derived.Test.YtkijhcflomjdbaaDoorRg
import Derived.Test.YtkijhcflomjdbaaDoorRefE
import Derived.Test.YtkijhcflomjdbaaDoorRefD
namespace Go.Proofs.YtkijhcflomjdbaaDoor.Ev
open Go Go.RowKit
set_option linter.unusedSimpArgs false
set_option linter.unusedVariables false
def dm : D → Int | .agg (.bool s :: .sl _ cs :: _) => vI s cs | _ => 0
def dz : D → Int | .int _ z => z | _ => 0
def dl : D → Int | .sl _ cs => vL cs | _ => 0
def dcs : D → Bool × List Nat | .agg (.bool s :: .sl _ cs :: _) => (s, nums cs) | _ => (false, [])
def dcn : D → Nat | .agg (.bool _ :: .sl n _ :: _) => n | _ => 0
def isCan (x : D) : Bool := decide (lim (val (dcs x).2) = (dcs x).2) && !((dcs x).1 && decide (dcn x = 0))
def okI : D → Prop | .agg [.bool _, .sl n cs] => okC n cs | _ => False
def okL : D → Prop | .sl n cs => okC n cs | _ => False
def isi (k : IntKind) : D → Prop | .int k' _ => k' = k | _ => False
def a1 {α : Type} (x0 : α) (f : D → Nat → α) (ds : List D) (i : Nat) : α := match ds with | [x] => f x i | _ => x0
def a2 {α : Type} (x0 : α) (f : D → D → Nat → α) (ds : List D) (i : Nat) : α := match ds with | [x, y] => f x y i | _ => x0
def sp1 (sh : Shape) (p : D → Prop) (z : D → Nat → Int) (b : D → Nat → Bool) : FnSpec :=
  ⟨sh, fun ds => match ds with | [x] => p x | _ => False, a1 0 z, a1 false b, fun _ _ => 0, fun _ _ => []⟩
def sp2 (sh : Shape) (p : D → D → Prop) (z : D → D → Nat → Int) (b : D → D → Nat → Bool) : FnSpec :=
  ⟨sh, fun ds => match ds with | [x, y] => p x y | _ => False, a2 0 z, a2 false b, fun _ _ => 0, fun _ _ => []⟩
theorem sp1_arg {sh : Shape} {p : D → Prop} {z : List D → Nat → Int} {b : List D → Nat → Bool} {n : List D → Nat → Nat} {c : List D → Nat → List D} {ds : List D} (h : FnSpec.p ⟨sh, fun ds => match ds with | [x] => p x | _ => False, z, b, n, c⟩ ds) : ∃ x, ds = [x] ∧ p x := by
  match ds, h with
  | [x], h => exact ⟨x, rfl, h⟩
theorem sp2_arg {sh : Shape} {p : D → D → Prop} {z : List D → Nat → Int} {b : List D → Nat → Bool} {n : List D → Nat → Nat} {c : List D → Nat → List D} {ds : List D} (h : FnSpec.p ⟨sh, fun ds => match ds with | [x, y] => p x y | _ => False, z, b, n, c⟩ ds) : ∃ x y, ds = [x, y] ∧ p x y := by
  match ds, h with
  | [x, y], h => exact ⟨x, y, rfl, h⟩
theorem okI_arg {x : D} (h : okI x) : ∃ s n cs, x = .agg [.bool s, .sl n cs] ∧ okC n cs := by
  match x, h with
  | .agg [.bool s, .sl n cs], h => exact ⟨s, n, cs, rfl, h⟩
theorem okL_arg {x : D} (h : okL x) : ∃ n cs, x = .sl n cs ∧ okC n cs := by
  match x, h with
  | .sl n cs, h => exact ⟨n, cs, rfl, h⟩
theorem isi_arg {k : IntKind} {x : D} (h : isi k x) : ∃ z, x = .int k z := by
  match x, h with
  | .int k' z, h => exact ⟨z, by rw [show k' = k from h]⟩
variable {G : World → Prop}
theorem s_I {f : Nat} {s : Bool} {n : Nat} {cs : List D} {R : D → Prop} (hc : okC n cs)
    (h : ∀ X w A c, G w → OwnOk w X → Lm w A n c (nums cs) → Calls Tryd.prog f #[.agg #[.bool s, .slice A n c]] w fun e w' => ∃ v d, e = .returned v ∧ R d ∧ den ⟨w', X, fun _ => none⟩ d v ∧ Below w.heap.size w w') : Sound Tryd.prog G f [.agg [.bool s, .sl n cs]] R := by
  intro X w vs hG hX hd
  obtain ⟨A, c, us, rfl, hl, hd⟩ := argI hd hc
  obtain rfl := arg0 hd
  exact h X w A c hG hX hl
theorem s_L {f : Nat} {n : Nat} {cs : List D} {R : D → Prop} (hc : okC n cs)
    (h : ∀ X w A c, G w → OwnOk w X → Lm w A n c (nums cs) → Calls Tryd.prog f #[.slice A n c] w fun e w' => ∃ v d, e = .returned v ∧ R d ∧ den ⟨w', X, fun _ => none⟩ d v ∧ Below w.heap.size w w') : Sound Tryd.prog G f [.sl n cs] R := by
  intro X w vs hG hX hd
  obtain ⟨A, c, us, rfl, hl, hd⟩ := argL hd hc
  obtain rfl := arg0 hd
  exact h X w A c hG hX hl
theorem s_i {f : Nat} {k : IntKind} {z : Int} {R : D → Prop}
    (h : ∀ X w, G w → OwnOk w X → Calls Tryd.prog f #[.int k z] w fun e w' => ∃ v d, e = .returned v ∧ R d ∧ den ⟨w', X, fun _ => none⟩ d v ∧ Below w.heap.size w w') : Sound Tryd.prog G f [.int k z] R := by
  intro X w vs hG hX hd
  obtain ⟨us, rfl, hd2⟩ := argi hd
  obtain rfl := arg0 hd2
  exact h X w hG hX
theorem s_II {f : Nat} {s t : Bool} {n m : Nat} {cs es : List D} {R : D → Prop} (hc : okC n cs) (he : okC m es)
    (h : ∀ X w A c A' c', G w → OwnOk w X → Lm w A n c (nums cs) → Lm w A' m c' (nums es) → Calls Tryd.prog f #[.agg #[.bool s, .slice A n c], .agg #[.bool t, .slice A' m c']] w fun e w' => ∃ v d, e = .returned v ∧ R d ∧ den ⟨w', X, fun _ => none⟩ d v ∧ Below w.heap.size w w') : Sound Tryd.prog G f [.agg [.bool s, .sl n cs], .agg [.bool t, .sl m es]] R := by
  intro X w vs hG hX hd
  obtain ⟨A, c, us, rfl, hl, hd⟩ := argI hd hc
  obtain ⟨A', c', us', rfl, hl', hd⟩ := argI hd he
  obtain rfl := arg0 hd
  exact h X w A c A' c' hG hX hl hl'
theorem s_LL {f : Nat} {n m : Nat} {cs es : List D} {R : D → Prop} (hc : okC n cs) (he : okC m es)
    (h : ∀ X w A c A' c', G w → OwnOk w X → Lm w A n c (nums cs) → Lm w A' m c' (nums es) → Calls Tryd.prog f #[.slice A n c, .slice A' m c'] w fun e w' => ∃ v d, e = .returned v ∧ R d ∧ den ⟨w', X, fun _ => none⟩ d v ∧ Below w.heap.size w w') : Sound Tryd.prog G f [.sl n cs, .sl m es] R := by
  intro X w vs hG hX hd
  obtain ⟨A, c, us, rfl, hl, hd⟩ := argL hd hc
  obtain ⟨A', c', us', rfl, hl', hd⟩ := argL hd he
  obtain rfl := arg0 hd
  exact h X w A c A' c' hG hX hl hl'
theorem s_Ii {f : Nat} {s : Bool} {n : Nat} {cs : List D} {k : IntKind} {z : Int} {R : D → Prop} (hc : okC n cs)
    (h : ∀ X w A c, G w → OwnOk w X → Lm w A n c (nums cs) → Calls Tryd.prog f #[.agg #[.bool s, .slice A n c], .int k z] w fun e w' => ∃ v d, e = .returned v ∧ R d ∧ den ⟨w', X, fun _ => none⟩ d v ∧ Below w.heap.size w w') : Sound Tryd.prog G f [.agg [.bool s, .sl n cs], .int k z] R := by
  intro X w vs hG hX hd
  obtain ⟨A, c, us, rfl, hl, hd⟩ := argI hd hc
  obtain ⟨us', rfl, hd2⟩ := argi hd
  obtain rfl := arg0 hd2
  exact h X w A c hG hX hl
theorem s_Li {f : Nat} {n : Nat} {cs : List D} {k : IntKind} {z : Int} {R : D → Prop} (hc : okC n cs)
    (h : ∀ X w A c, G w → OwnOk w X → Lm w A n c (nums cs) → Calls Tryd.prog f #[.slice A n c, .int k z] w fun e w' => ∃ v d, e = .returned v ∧ R d ∧ den ⟨w', X, fun _ => none⟩ d v ∧ Below w.heap.size w w') : Sound Tryd.prog G f [.sl n cs, .int k z] R := by
  intro X w vs hG hX hd
  obtain ⟨A, c, us, rfl, hl, hd⟩ := argL hd hc
  obtain ⟨us', rfl, hd2⟩ := argi hd
  obtain rfl := arg0 hd2
  exact h X w A c hG hX hl
theorem tw {w w' : World} {X : Nat → Prop} {k : IntKind} {z : Int} {e : Ending} (h : e = .returned (.int k z) ∧ w = w') : ∃ v d, e = .returned v ∧ d = .int k z ∧ den ⟨w', X, fun _ => none⟩ d v ∧ Below w.heap.size w w' := by
  obtain ⟨rfl, rfl⟩ := h
  exact tellsi ⟨rfl, Below.refl _ _⟩
theorem rtrimT2 (w : World) (A : Option Addr) (n c : Nat) (xs : List Nat) (h : Lm w A n c xs) :
    Calls Tryd.prog 85 #[.slice A n c] w (Tells w (val xs) n) :=
  (rtrim_any w A n c xs h).mono fun e w' ⟨he, hw⟩ => by subst hw; exact ⟨A, _, c, he, h.cut, Nat.le_trans (ln_val_le h.ok) (Nat.le_of_eq h.len), Below.refl _ _⟩
theorem tellsSub {w w' : World} {X : Nat → Prop} {M N len : Nat} {e : Ending} (h : TellsSub w M N len e w') (hX : OwnOk w X) : ∃ v d, e = .returned v ∧ d = .tup [dL (M - N), .bool (decide (N ≤ M))] ∧ den ⟨w', X, fun _ => none⟩ d v ∧ Below w.heap.size w w' := by
  rcases h with ⟨hlt, rfl, hb⟩ | ⟨hle, A, m, c, rfl, hl, _, hb⟩
  · refine ⟨_, _, rfl, rfl, ?_, hb⟩
    rw [show M - N = 0 by omega, decide_eq_false (by omega)]
    simp only [den, denL]
    refine ⟨_, rfl, _, _, rfl, ?_, _, _, rfl, rfl, rfl⟩
    exact den_of_lm (N := 0) (by rw [lim_zero]; exact Lm.nil _) (own_bel hX hb)
  · refine ⟨_, _, rfl, rfl, ?_, hb⟩
    rw [decide_eq_true hle]
    simp only [den, denL]
    refine ⟨_, rfl, _, _, rfl, ?_, _, _, rfl, rfl, rfl⟩
    exact den_of_lm hl (own_bel hX hb)
theorem tellsDiv {w w' : World} {X : Nat → Prop} {M N len len' : Nat} {e : Ending} (h : TellsDiv w M N len len' e w') (hX : OwnOk w X) : ∃ v d, e = .returned v ∧ d = .tup [dL (M / N), dL (if N = 0 then 0 else M % N), .bool (decide (N ≠ 0))] ∧ den ⟨w', X, fun _ => none⟩ d v ∧ Below w.heap.size w w' := by
  rcases h with ⟨h0, rfl, hb⟩ | ⟨h0, A, m, c, A', m', c', rfl, hl, hl', _, _, hb⟩
  · refine ⟨_, _, rfl, rfl, ?_, hb⟩
    rw [decide_eq_false (by omega), if_pos h0, h0, Nat.div_zero]
    simp only [den, denL]
    refine ⟨_, rfl, _, _, rfl, ?_, _, _, rfl, ?_, _, _, rfl, rfl, rfl⟩
    · exact den_of_lm (N := 0) (by rw [lim_zero]; exact Lm.nil _) (own_bel hX hb)
    · exact den_of_lm (N := 0) (by rw [lim_zero]; exact Lm.nil _) (own_bel hX hb)
  · refine ⟨_, _, rfl, rfl, ?_, hb⟩
    rw [decide_eq_true h0, if_neg h0]
    simp only [den, denL]
    exact ⟨_, rfl, _, _, rfl, den_of_lm hl (own_bel hX hb), _, _, rfl, den_of_lm hl' (own_bel hX hb), _, _, rfl, rfl, rfl⟩
theorem callable {f : Nat} (h : (Tryd.prog.funcs[f]?).any (fun fn => !(fn.name == "runtime.NumGoroutine") && fn.body.isSome) = true) : Callable Tryd.prog f := by
  cases hf : Tryd.prog.funcs[f]? with
  | none => rw [hf] at h; cases h
  | some fn =>
    rw [hf] at h
    simp only [Option.any_some, Bool.and_eq_true, Bool.not_eq_true'] at h
    cases hb : fn.body with
    | none => rw [hb] at h; cases h.2
    | some c => exact ⟨fn, c, hf, h.1, hb⟩
def s_wNorm : FnSpec := sp1 (.agg [.I]) okI (fun x _ => dm x) (fun _ _ => false)
theorem good_wNorm : Good Tryd.prog G N0 68 s_wNorm := by
  refine ⟨callable (by kernel_rfl), fun ds hp => ?_⟩
  obtain ⟨x, rfl, hx⟩ := sp1_arg hp
  obtain ⟨s, n, cs, rfl, hc⟩ := okI_arg hx
  refine s_I hc fun X w A c hG hX hl => ?_
  have hn := hc.2.2.2
  exact (wnorm_g w _ s A n c (nums cs) hl rfl).mono fun _ _ h => (fun h => tellsI h hX) h
def s_wNeg : FnSpec := sp1 (.agg [.I]) okI (fun x _ => -dm x) (fun _ _ => false)
theorem good_wNeg : Good Tryd.prog G N0 67 s_wNeg := by
  refine ⟨callable (by kernel_rfl), fun ds hp => ?_⟩
  obtain ⟨x, rfl, hx⟩ := sp1_arg hp
  obtain ⟨s, n, cs, rfl, hc⟩ := okI_arg hx
  refine s_I hc fun X w A c hG hX hl => ?_
  have hn := hc.2.2.2
  exact (wneg_g w _ s A n c (nums cs) hl rfl rfl).mono fun _ _ h => (fun h => tellsI h hX) h
def s_wSign : FnSpec := sp1 (.one (.i .i64)) okI (fun x _ => sg (dm x)) (fun _ _ => false)
theorem good_wSign : Good Tryd.prog G N0 61 s_wSign := by
  refine ⟨callable (by kernel_rfl), fun ds hp => ?_⟩
  obtain ⟨x, rfl, hx⟩ := sp1_arg hp
  obtain ⟨s, n, cs, rfl, hc⟩ := okI_arg hx
  refine s_I hc fun X w A c hG hX hl => ?_
  have hn := hc.2.2.2
  exact (wsign_g w _ s A n c (nums cs) hl rfl rfl).mono fun _ _ h => tellsi h
def s_wIs : FnSpec := sp1 (.one .b) okI (fun _ _ => 0) (fun x _ => isCan x)
def s_wOf : FnSpec := sp1 (.agg [.I]) (fun x => isi .i64 x ∧ -9223372036854775808 ≤ dz x ∧ dz x ≤ 9223372036854775807) (fun x _ => dz x) (fun _ _ => false)
theorem good_wOf : Good Tryd.prog G N0 54 s_wOf := by
  refine ⟨callable (by kernel_rfl), fun ds hp => ?_⟩
  obtain ⟨x, rfl, hx, h1, h2⟩ := sp1_arg hp
  obtain ⟨z, rfl⟩ := isi_arg hx
  refine s_i fun X w hG hX => ?_
  exact (wof_g w z ⟨h1, h2⟩ rfl).mono fun _ _ h => tellsI h hX
def s_wCmp : FnSpec := sp2 (.one (.i .i64)) (fun x y => okI x ∧ okI y) (fun x y _ => sg (dm x - dm y)) (fun _ _ _ => false)
theorem good_wCmp : Good Tryd.prog G N0 65 s_wCmp := by
  refine ⟨callable (by kernel_rfl), fun ds hp => ?_⟩
  obtain ⟨x, y, rfl, hx, hy⟩ := sp2_arg hp
  obtain ⟨s, n, cs, rfl, hc⟩ := okI_arg hx
  obtain ⟨t, m, es, rfl, he⟩ := okI_arg hy
  refine s_II hc he fun X w A c A' c' hG hX hl hl' => ?_
  have hn := hc.2.2.2
  have hm := he.2.2.2
  exact (wcmp_g w _ _ s A n c (nums cs) hl rfl t A' m c' (nums es) hl' rfl rfl).mono fun _ _ h => tellsi h
def s_wAdd : FnSpec := sp2 (.agg [.I]) (fun x y => okI x ∧ okI y) (fun x y _ => dm x + dm y) (fun _ _ _ => false)
theorem good_wAdd (hT : ∀ w, G w → SumsT w) : Good Tryd.prog G N0 53 s_wAdd := by
  refine ⟨callable (by kernel_rfl), fun ds hp => ?_⟩
  obtain ⟨x, y, rfl, hx, hy⟩ := sp2_arg hp
  obtain ⟨s, n, cs, rfl, hc⟩ := okI_arg hx
  obtain ⟨t, m, es, rfl, he⟩ := okI_arg hy
  refine s_II hc he fun X w A c A' c' hG hX hl hl' => ?_
  have hn := hc.2.2.2
  have hm := he.2.2.2
  exact (wadd_g w _ _ s A n c (nums cs) hl rfl t A' m c' (nums es) hl' rfl (hT w hG) (by omega) (by omega) rfl).mono fun _ _ h => (fun h => tellsI h hX) h
def s_wMul : FnSpec := sp2 (.agg [.I]) (fun x y => okI x ∧ okI y) (fun x y _ => dm x * dm y) (fun _ _ _ => false)
theorem good_wMul (hT : ∀ w, G w → ProductsT w) : Good Tryd.prog G N0 78 s_wMul := by
  refine ⟨callable (by kernel_rfl), fun ds hp => ?_⟩
  obtain ⟨x, y, rfl, hx, hy⟩ := sp2_arg hp
  obtain ⟨s, n, cs, rfl, hc⟩ := okI_arg hx
  obtain ⟨t, m, es, rfl, he⟩ := okI_arg hy
  refine s_II hc he fun X w A c A' c' hG hX hl hl' => ?_
  have hn := hc.2.2.2
  have hm := he.2.2.2
  exact (wmul_g w _ _ s A n c (nums cs) hl rfl t A' m c' (nums es) hl' rfl (hT w hG) (by omega) (by omega) rfl).mono fun _ _ h => (fun h => tellsI h hX) h
def s_wShl : FnSpec := sp2 (.agg [.I]) (fun x y => okI x ∧ isi .i64 y) (fun x y _ => dm x * 2 ^ heldN (dz y)) (fun _ _ _ => false)
theorem good_wShl : Good Tryd.prog G N0 127 s_wShl := by
  refine ⟨callable (by kernel_rfl), fun ds hp => ?_⟩
  obtain ⟨x, y, rfl, hx, hy⟩ := sp2_arg hp
  obtain ⟨s, n, cs, rfl, hc⟩ := okI_arg hx
  obtain ⟨k, rfl⟩ := isi_arg hy
  refine s_Ii hc fun X w A c hG hX hl => ?_
  have hn := hc.2.2.2
  exact (wshl_g w _ k s A n c (nums cs) hl rfl (by omega) rfl).mono fun _ _ h => (fun h => tellsI h hX) h
def s_wShr : FnSpec := sp2 (.agg [.I]) (fun x y => okI x ∧ isi .i64 y) (fun x y _ => dm x / 2 ^ heldN (dz y)) (fun _ _ _ => false)
theorem good_wShr (hT : ∀ w, G w → Tab w) : Good Tryd.prog G N0 52 s_wShr := by
  refine ⟨callable (by kernel_rfl), fun ds hp => ?_⟩
  obtain ⟨x, y, rfl, hx, hy⟩ := sp2_arg hp
  obtain ⟨s, n, cs, rfl, hc⟩ := okI_arg hx
  obtain ⟨k, rfl⟩ := isi_arg hy
  refine s_Ii hc fun X w A c hG hX hl => ?_
  have hn := hc.2.2.2
  exact (wshr_g w _ k s A n c (nums cs) hl rfl (by omega) (hT w hG) rfl).mono fun _ _ h => (fun h => tellsI h hX) h
def s_nBits : FnSpec := sp1 (.one (.i .i64)) okL (fun x _ => (nb (dl x).toNat : Nat)) (fun _ _ => false)
theorem good_nBits : Good Tryd.prog G N0 70 s_nBits := by
  refine ⟨callable (by kernel_rfl), fun ds hp => ?_⟩
  obtain ⟨x, rfl, hx⟩ := sp1_arg hp
  obtain ⟨n, cs, rfl, hc⟩ := okL_arg hx
  refine s_L hc fun X w A c hG hX hl => ?_
  have hn := hc.2.2.2
  exact (bits_any w A n c (nums cs) hl).mono fun _ _ h => tw h
def s_nLow : FnSpec := sp1 (.one (.i .i64)) okL (fun x _ => (tz (dl x).toNat : Nat)) (fun _ _ => false)
theorem good_nLow (hT : ∀ w, G w → Tab w) : Good Tryd.prog G N0 96 s_nLow := by
  refine ⟨callable (by kernel_rfl), fun ds hp => ?_⟩
  obtain ⟨x, rfl, hx⟩ := sp1_arg hp
  obtain ⟨n, cs, rfl, hc⟩ := okL_arg hx
  refine s_L hc fun X w A c hG hX hl => ?_
  have hn := hc.2.2.2
  exact (low_any w A n c (nums cs) hl (hT w hG)).mono fun _ _ h => tw h
def s_rNorm : FnSpec := sp1 (.agg [.I]) okI (fun x _ => dm x) (fun _ _ => false)
theorem good_rNorm : Good Tryd.prog G N0 41 s_rNorm := by
  refine ⟨callable (by kernel_rfl), fun ds hp => ?_⟩
  obtain ⟨x, rfl, hx⟩ := sp1_arg hp
  obtain ⟨s, n, cs, rfl, hc⟩ := okI_arg hx
  refine s_I hc fun X w A c hG hX hl => ?_
  have hn := hc.2.2.2
  exact (rnorm_any w s A n c (nums cs) hl).mono fun _ _ h => (fun h => tellsI h hX) h
def s_rNeg : FnSpec := sp1 (.agg [.I]) okI (fun x _ => -dm x) (fun _ _ => false)
theorem good_rNeg : Good Tryd.prog G N0 117 s_rNeg := by
  refine ⟨callable (by kernel_rfl), fun ds hp => ?_⟩
  obtain ⟨x, rfl, hx⟩ := sp1_arg hp
  obtain ⟨s, n, cs, rfl, hc⟩ := okI_arg hx
  refine s_I hc fun X w A c hG hX hl => ?_
  have hn := hc.2.2.2
  exact (rneg_g w _ s A n c (nums cs) hl rfl rfl).mono fun _ _ h => (fun h => tellsI h hX) h
def s_rSign : FnSpec := sp1 (.one (.i .i64)) okI (fun x _ => sg (dm x)) (fun _ _ => false)
theorem good_rSign : Good Tryd.prog G N0 84 s_rSign := by
  refine ⟨callable (by kernel_rfl), fun ds hp => ?_⟩
  obtain ⟨x, rfl, hx⟩ := sp1_arg hp
  obtain ⟨s, n, cs, rfl, hc⟩ := okI_arg hx
  refine s_I hc fun X w A c hG hX hl => ?_
  have hn := hc.2.2.2
  exact (rsign_g w _ s A n c (nums cs) hl rfl rfl).mono fun _ _ h => tellsi h
def s_rIs : FnSpec := sp1 (.one .b) okI (fun _ _ => 0) (fun x _ => isCan x)
def s_rOf : FnSpec := sp1 (.agg [.I]) (fun x => isi .i64 x ∧ -9223372036854775808 ≤ dz x ∧ dz x ≤ 9223372036854775807) (fun x _ => dz x) (fun _ _ => false)
theorem good_rOf : Good Tryd.prog G N0 59 s_rOf := by
  refine ⟨callable (by kernel_rfl), fun ds hp => ?_⟩
  obtain ⟨x, rfl, hx, h1, h2⟩ := sp1_arg hp
  obtain ⟨z, rfl⟩ := isi_arg hx
  refine s_i fun X w hG hX => ?_
  exact (rof_g w z ⟨h1, h2⟩ rfl).mono fun _ _ h => tellsI h hX
def s_rBits : FnSpec := sp1 (.one (.i .i64)) okL (fun x _ => (nb (dl x).toNat : Nat)) (fun _ _ => false)
theorem good_rBits : Good Tryd.prog G N0 94 s_rBits := by
  refine ⟨callable (by kernel_rfl), fun ds hp => ?_⟩
  obtain ⟨x, rfl, hx⟩ := sp1_arg hp
  obtain ⟨n, cs, rfl, hc⟩ := okL_arg hx
  refine s_L hc fun X w A c hG hX hl => ?_
  have hn := hc.2.2.2
  exact (rbits_any w A n c (nums cs) hl).mono fun _ _ h => tw h
def s_rLow : FnSpec := sp1 (.one (.i .i64)) okL (fun x _ => (tz (dl x).toNat : Nat)) (fun _ _ => false)
theorem good_rLow : Good Tryd.prog G N0 42 s_rLow := by
  refine ⟨callable (by kernel_rfl), fun ds hp => ?_⟩
  obtain ⟨x, rfl, hx⟩ := sp1_arg hp
  obtain ⟨n, cs, rfl, hc⟩ := okL_arg hx
  refine s_L hc fun X w A c hG hX hl => ?_
  have hn := hc.2.2.2
  exact (rlow_any w A n c (nums cs) hl).mono fun _ _ h => tw h
def s_rShr : FnSpec := sp2 (.one .L) (fun x y => okL x ∧ isi .i64 y) (fun x y _ => ((dl x).toNat / 2 ^ heldN (dz y) : Nat)) (fun _ _ _ => false)
theorem good_rShr : Good Tryd.prog G N0 43 s_rShr := by
  refine ⟨callable (by kernel_rfl), fun ds hp => ?_⟩
  obtain ⟨x, y, rfl, hx, hy⟩ := sp2_arg hp
  obtain ⟨n, cs, rfl, hc⟩ := okL_arg hx
  obtain ⟨k, rfl⟩ := isi_arg hy
  refine s_Li hc fun X w A c hG hX hl => ?_
  have hn := hc.2.2.2
  exact (rshr_any w A n c (nums cs) k hl (by omega)).mono fun _ _ h => (fun h => tellsL h hX) h
def s_rShl : FnSpec := sp2 (.one .L) (fun x y => okL x ∧ isi .i64 y) (fun x y _ => ((dl x).toNat * 2 ^ heldN (dz y) : Nat)) (fun _ _ _ => false)
theorem good_rShl : Good Tryd.prog G N0 119 s_rShl := by
  refine ⟨callable (by kernel_rfl), fun ds hp => ?_⟩
  obtain ⟨x, y, rfl, hx, hy⟩ := sp2_arg hp
  obtain ⟨n, cs, rfl, hc⟩ := okL_arg hx
  obtain ⟨k, rfl⟩ := isi_arg hy
  refine s_Li hc fun X w A c hG hX hl => ?_
  have hn := hc.2.2.2
  exact (rshl_any w A n c (nums cs) k hl (by omega)).mono fun _ _ h => (fun h => tellsL h hX) h
def s_rTrim : FnSpec := sp1 (.one .L) okL (fun x _ => dl x) (fun _ _ => false)
theorem good_rTrim : Good Tryd.prog G N0 85 s_rTrim := by
  refine ⟨callable (by kernel_rfl), fun ds hp => ?_⟩
  obtain ⟨x, rfl, hx⟩ := sp1_arg hp
  obtain ⟨n, cs, rfl, hc⟩ := okL_arg hx
  refine s_L hc fun X w A c hG hX hl => ?_
  have hn := hc.2.2.2
  exact (rtrimT2 w A n c (nums cs) hl).mono fun _ _ h => (fun h => tellsL h hX) h
def s_rSub : FnSpec := sp2 (.tup [(false, [.L]), (false, [.b])]) (fun x y => okL x ∧ okL y) (fun x y _ => ((dl x).toNat - (dl y).toNat : Nat)) (fun x y _ => decide ((dl y).toNat ≤ (dl x).toNat))
theorem good_rSub : Good Tryd.prog G N0 121 s_rSub := by
  refine ⟨callable (by kernel_rfl), fun ds hp => ?_⟩
  obtain ⟨x, y, rfl, hx, hy⟩ := sp2_arg hp
  obtain ⟨n, cs, rfl, hc⟩ := okL_arg hx
  obtain ⟨m, es, rfl, he⟩ := okL_arg hy
  refine s_LL hc he fun X w A c A' c' hG hX hl hl' => ?_
  have hn := hc.2.2.2
  have hm := he.2.2.2
  exact (rsub_any w A n c (nums cs) A' m c' (nums es) hl hl').mono fun _ _ h => (fun h => tellsSub h hX) h
def s_rAdd : FnSpec := sp2 (.one .L) (fun x y => okL x ∧ okL y) (fun x y _ => ((dl x).toNat + (dl y).toNat : Nat)) (fun _ _ _ => false)
theorem good_rAdd : Good Tryd.prog G N0 120 s_rAdd := by
  refine ⟨callable (by kernel_rfl), fun ds hp => ?_⟩
  obtain ⟨x, y, rfl, hx, hy⟩ := sp2_arg hp
  obtain ⟨n, cs, rfl, hc⟩ := okL_arg hx
  obtain ⟨m, es, rfl, he⟩ := okL_arg hy
  refine s_LL hc he fun X w A c A' c' hG hX hl hl' => ?_
  have hn := hc.2.2.2
  have hm := he.2.2.2
  exact (radd_any w A n c (nums cs) A' m c' (nums es) hl hl' (by omega) (by omega)).mono fun _ _ h => (fun h => tellsL h hX) h
def s_rMul : FnSpec := sp2 (.one .L) (fun x y => okL x ∧ okL y) (fun x y _ => ((dl x).toNat * (dl y).toNat : Nat)) (fun _ _ _ => false)
theorem good_rMul : Good Tryd.prog G N0 116 s_rMul := by
  refine ⟨callable (by kernel_rfl), fun ds hp => ?_⟩
  obtain ⟨x, y, rfl, hx, hy⟩ := sp2_arg hp
  obtain ⟨n, cs, rfl, hc⟩ := okL_arg hx
  obtain ⟨m, es, rfl, he⟩ := okL_arg hy
  refine s_LL hc he fun X w A c A' c' hG hX hl hl' => ?_
  have hn := hc.2.2.2
  have hm := he.2.2.2
  exact (rmul_any w A n c (nums cs) A' m c' (nums es) hl hl' (by omega) (by omega)).mono fun _ _ h => (fun h => tellsL h hX) h
def s_rDiv : FnSpec := sp2 (.tup [(false, [.L]), (false, [.L]), (false, [.b])]) (fun x y => okL x ∧ okL y) (fun x y i => match i with | 0 => ((dl x).toNat / (dl y).toNat : Nat) | _ => (if (dl y).toNat = 0 then 0 else (dl x).toNat % (dl y).toNat : Nat)) (fun x y _ => decide ((dl y).toNat ≠ 0))
theorem good_rDiv : Good Tryd.prog G N0 136 s_rDiv := by
  refine ⟨callable (by kernel_rfl), fun ds hp => ?_⟩
  obtain ⟨x, y, rfl, hx, hy⟩ := sp2_arg hp
  obtain ⟨n, cs, rfl, hc⟩ := okL_arg hx
  obtain ⟨m, es, rfl, he⟩ := okL_arg hy
  refine s_LL hc he fun X w A c A' c' hG hX hl hl' => ?_
  have hn := hc.2.2.2
  have hm := he.2.2.2
  exact (rdiv_any w A n c (nums cs) A' m c' (nums es) hl hl' (by omega) (by omega)).mono fun _ _ h => (fun h => tellsDiv h hX) h
def s_rSame : FnSpec := sp2 (.one .b) (fun x y => okL x ∧ okL y) (fun _ _ _ => 0) (fun x y _ => match x, y with | .sl _ cs, .sl _ es => decide (nums cs = nums es) | _, _ => false)
theorem good_rSame : Good Tryd.prog G N0 88 s_rSame := by
  refine ⟨callable (by kernel_rfl), fun ds hp => ?_⟩
  obtain ⟨x, y, rfl, hx, hy⟩ := sp2_arg hp
  obtain ⟨n, cs, rfl, hc⟩ := okL_arg hx
  obtain ⟨m, es, rfl, he⟩ := okL_arg hy
  refine s_LL hc he fun X w A c A' c' hG hX hl hl' => ?_
  have hn := hc.2.2.2
  have hm := he.2.2.2
  exact (rsame_bel w A n c (nums cs) A' m c' (nums es) hl hl' rfl).mono fun _ _ h => tellsb h
end Go.Proofs.YtkijhcflomjdbaaDoor.Ev
