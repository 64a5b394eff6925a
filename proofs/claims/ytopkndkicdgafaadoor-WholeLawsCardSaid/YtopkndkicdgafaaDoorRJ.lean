/- Regions that lay new variables. -/
import Derived.Test.YtopkndkicdgafaaDoorRI
import Derived.Test.YtopkndkicdgafaaDoorWJZ
import Derived.Deep.RegionHeld3
namespace Go.Proofs.YtopkndkicdgafaaDoor
open Go.RowKit

theorem Lm.al {w : World} {A : Option Addr} {n c : Nat} {xs : List Nat} (h : Lm w A n c xs) (o : Obj) : Lm (w.alloc o) A n c xs := h.bel (bel_alloc _ _)
theorem bel_a1 {w w' : World} {o : Obj} (h : Below (w.alloc o).heap.size (w.alloc o) w') : Below w.heap.size w w' := bel_next (bel_alloc w o) h
theorem bel_a2 {w w' : World} {o p : Obj} (h : Below ((w.alloc o).alloc p).heap.size ((w.alloc o).alloc p) w') : Below w.heap.size w w' := bel_a1 (bel_a1 h)
abbrev Zero : Obj := .cells #[.bool false, .slice none 0 0] 43
theorem zn0 {w w' : World} (h : Below (w.alloc Zero).heap.size (w.alloc Zero) w') : Two w' w.heap.size := ((Box.new w false none 0 0).two).bel h
theorem zn1 {w w' : World} (h : Below ((w.alloc Zero).alloc Zero).heap.size ((w.alloc Zero).alloc Zero) w') : Two w' w.heap.size ∧ Two w' (w.heap.size + 1) :=
  ⟨(((Box.new w false none 0 0).alloc _).two).bel h, ((Box.at1 w _ false none 0 0).two).bel h⟩
theorem Two.alloc {w : World} {g : Nat} (h : Two w g) (o : Obj) : Two (w.alloc o) g := h.bel (bel_alloc _ _)
/-- block g holds the number Z, as it is meant. -/
def NumAt (w : World) (g : Nat) (Z : Int) : Prop := ∃ A m c, Box w g (decide (Z < 0)) A m c ∧ Lm w A m c (lim Z.natAbs) ∧ m ≤ 1000000
theorem NumAt.bel {w w' : World} {g : Nat} {Z : Int} (h : NumAt w g Z) (hb : Below w.heap.size w w') : NumAt w' g Z := by
  obtain ⟨A, m, c, h1, h2, h3⟩ := h
  exact ⟨A, m, c, h1.bel hb, h2.bel hb, h3⟩
theorem keep10x {w : World} {g q : Nat} {s : Bool} {A : Option Addr} {n c : Nat} {P : Prop} {u v : Value} (hne : g ≠ q) (h : Box w g s A n c ∧ P) : Box ((w.setCell ⟨q, 0, none⟩ u).setCell ⟨q, 1, none⟩ v) g s A n c ∧ ((w.setCell ⟨q, 0, none⟩ u).setCell ⟨q, 1, none⟩ v).cell? ⟨g, 0, none⟩ = some (.bool s) ∧ ((w.setCell ⟨q, 0, none⟩ u).setCell ⟨q, 1, none⟩ v).cell? ⟨g, 1, none⟩ = some (.slice A n c) :=
  held0 ((h.1.far (p := ⟨q, 0, none⟩) hne _).far (p := ⟨q, 1, none⟩) hne _)
theorem bdrew {w : World} {g : Nat} {s : Bool} {A : Option Addr} {n c : Nat} (h : Box w g s A n c) : Box w.drew g s A n c := h
theorem nb1 {w : World} {g : Nat} {s : Bool} {A : Option Addr} {n c : Nat} (hs : w.heap.size = g) : Box (w.alloc (.cells #[.bool s, .slice A n c] 43)) g s A n c := by subst hs; exact Box.new _ _ _ _ _
theorem nb2 {w : World} {g : Nat} {s : Bool} {A : Option Addr} {n c : Nat} {o : Obj} (hs : w.heap.size = g) : Box ((w.alloc (.cells #[.bool s, .slice A n c] 43)).alloc o) g s A n c := (nb1 hs).alloc _
theorem nb3 {w : World} {g : Nat} {s : Bool} {A : Option Addr} {n c : Nat} {o : Obj} (hs : w.heap.size + 1 = g) : Box ((w.alloc o).alloc (.cells #[.bool s, .slice A n c] 43)) g s A n c := by subst hs; exact Box.at1 _ _ _ _ _ _
theorem bxp {w : World} {g q : Nat} {s : Bool} {A : Option Addr} {n c : Nat} {u v : Value} (h : Box w g s A n c) (hne : g ≠ q) : Box ((w.setCell ⟨q, 0, none⟩ u).setCell ⟨q, 1, none⟩ v) g s A n c :=
  (h.far (p := ⟨q, 0, none⟩) hne _).far (p := ⟨q, 1, none⟩) hne _
theorem twp {w : World} {g q : Nat} {u v : Value} (h : Two w g) (hne : g ≠ q) : Two ((w.setCell ⟨q, 0, none⟩ u).setCell ⟨q, 1, none⟩ v) g :=
  (h.far (p := ⟨q, 0, none⟩) hne _).far (p := ⟨q, 1, none⟩) hne _
theorem size_put (w : World) (q : Nat) (u v : Value) : ((w.setCell ⟨q, 0, none⟩ u).setCell ⟨q, 1, none⟩ v).heap.size = w.heap.size := by simp [World.setCell]
/-- two new variables, laid since B: the one holds Q, the other R. -/
def Laid2 (B : World) (Q R : Int) (s t : Value) (wx : World) : Prop := ∃ q r, s = .pointer (some ⟨q, 0, none⟩) ∧ t = .pointer (some ⟨r, 0, none⟩) ∧ NumAt wx q Q ∧ NumAt wx r R ∧ B.heap.size ≤ q ∧ B.heap.size ≤ r ∧ Below B.heap.size B wx
theorem laidNN {B P : World} {Q R : Int} {A A' : Option Addr} {m c m' c' : Nat} (k : Below B.heap.size B P) (h : Lm P A m c (lim Q.natAbs)) (hm : m ≤ 1000000) (h' : Lm P A' m' c' (lim R.natAbs)) (hm' : m' ≤ 1000000) : Laid2 B Q R (.pointer (some ⟨P.heap.size, 0, none⟩)) (.pointer (some ⟨P.heap.size + 1, 0, none⟩)) ((P.alloc (.cells #[.bool (decide (Q < 0)), .slice A m c] 43)).alloc (.cells #[.bool (decide (R < 0)), .slice A' m' c'] 43)) :=
  ⟨_, _, rfl, rfl, ⟨_, _, _, nb2 rfl, (h.al _).al _, hm⟩, ⟨_, _, _, nb3 rfl, (h'.al _).al _, hm'⟩, k.size, Nat.le_succ_of_le k.size, bel_next k (bel_alloc2 _ _ _)⟩
theorem laidNNx {B P : World} {Q R : Int} {A A' : Option Addr} {m c m' c' : Nat} (k : Below B.heap.size B P) (h : Lm P A m c (lim Q.natAbs)) (hm : m ≤ 1000000) (h' : Lm P A' m' c' (lim R.natAbs)) (hm' : m' ≤ 1000000) : Laid2 B Q R (.pointer (some ⟨P.heap.size + 1, 0, none⟩)) (.pointer (some ⟨P.heap.size, 0, none⟩)) ((P.alloc (.cells #[.bool (decide (R < 0)), .slice A' m' c'] 43)).alloc (.cells #[.bool (decide (Q < 0)), .slice A m c] 43)) :=
  ⟨_, _, rfl, rfl, ⟨_, _, _, nb3 rfl, (h.al _).al _, hm⟩, ⟨_, _, _, nb2 rfl, (h'.al _).al _, hm'⟩, Nat.le_succ_of_le k.size, k.size, bel_next k (bel_alloc2 _ _ _)⟩
theorem laidON {B P : World} {Q R : Int} {A A' : Option Addr} {m c m' c' : Nat} (k : Below B.heap.size B P) (h : Lm P A m c (lim Q.natAbs)) (hm : m ≤ 1000000) (h' : Lm P A' m' c' (lim R.natAbs)) (hm' : m' ≤ 1000000) {q : Nat} (t : Two P q) (hq : B.heap.size ≤ q) : Laid2 B Q R (.pointer (some ⟨q, 0, none⟩)) (.pointer (some ⟨P.heap.size, 0, none⟩)) (((P.setCell ⟨q, 0, none⟩ (.bool (decide (Q < 0)))).setCell ⟨q, 1, none⟩ (.slice A m c)).alloc (.cells #[.bool (decide (R < 0)), .slice A' m' c'] 43)) :=
  ⟨_, _, rfl, rfl, ⟨_, _, _, (t.put _ _ _ _).alloc _, (h.put t _ _).al _, hm⟩, ⟨_, _, _, nb1 (size_put _ _ _ _), (h'.put t _ _).al _, hm'⟩, hq, k.size, bel_next (bel_put k hq _ _) (bel_alloc _ _)⟩
theorem laidNO {B P : World} {Q R : Int} {A A' : Option Addr} {m c m' c' : Nat} (k : Below B.heap.size B P) (h : Lm P A m c (lim Q.natAbs)) (hm : m ≤ 1000000) (h' : Lm P A' m' c' (lim R.natAbs)) (hm' : m' ≤ 1000000) {r : Nat} (t : Two P r) (hr : B.heap.size ≤ r) : Laid2 B Q R (.pointer (some ⟨P.heap.size, 0, none⟩)) (.pointer (some ⟨r, 0, none⟩)) (((P.setCell ⟨r, 0, none⟩ (.bool (decide (R < 0)))).setCell ⟨r, 1, none⟩ (.slice A' m' c')).alloc (.cells #[.bool (decide (Q < 0)), .slice A m c] 43)) :=
  ⟨_, _, rfl, rfl, ⟨_, _, _, nb1 (size_put _ _ _ _), (h.put t _ _).al _, hm⟩, ⟨_, _, _, (t.put _ _ _ _).alloc _, (h'.put t _ _).al _, hm'⟩, k.size, hr, bel_next (bel_put k hr _ _) (bel_alloc _ _)⟩
theorem laidOO {B P : World} {Q R : Int} {A A' : Option Addr} {m c m' c' : Nat} (k : Below B.heap.size B P) (h : Lm P A m c (lim Q.natAbs)) (hm : m ≤ 1000000) (h' : Lm P A' m' c' (lim R.natAbs)) (hm' : m' ≤ 1000000) {q r : Nat} (t : Two P q) (t' : Two P r) (hq : B.heap.size ≤ q) (hr : B.heap.size ≤ r) (hne : q ≠ r) : Laid2 B Q R (.pointer (some ⟨q, 0, none⟩)) (.pointer (some ⟨r, 0, none⟩)) ((((P.setCell ⟨q, 0, none⟩ (.bool (decide (Q < 0)))).setCell ⟨q, 1, none⟩ (.slice A m c)).setCell ⟨r, 0, none⟩ (.bool (decide (R < 0)))).setCell ⟨r, 1, none⟩ (.slice A' m' c')) :=
  ⟨_, _, rfl, rfl, ⟨_, _, _, bxp (t.put _ _ _ _) hne, (h.put t _ _).put (twp t' hne.symm) _ _, hm⟩, ⟨_, _, _, (twp t' hne.symm).put _ _ _ _, (h'.put t _ _).put (twp t' hne.symm) _ _, hm'⟩, hq, hr, bel_put (bel_put k hq _ _) hr _ _⟩
/-- the quotient and the rest, as they are told. -/
def DivZ (w : World) (Q R : Int) (len len' : Nat) (t : Bool) (e : Ending) (w' : World) : Prop :=
  ∃ A m c A' m' c', e = .returned (.tuple #[.agg #[.bool (decide (Q < 0)), .slice A m c], .agg #[.bool (decide (R < 0)), .slice A' m' c'], .bool t]) ∧ Lm w' A m c (lim Q.natAbs) ∧ Lm w' A' m' c' (lim R.natAbs) ∧ m ≤ len ∧ m' ≤ len' ∧ Below w.heap.size w w'
theorem wdiv_g (w : World) (X Y : Int) (sa : Bool) (Aa : Option Addr) (na ca : Nat) (xa : List Nat) (La : Lm w Aa na ca xa) (hX : sgn sa (val xa) = X) (sb : Bool) (Ab : Option Addr) (nb cb : Nat) (xb : List Nat) (Lb : Lm w Ab nb cb xb) (hY : sgn sb (val xb) = Y) (hT : ProductsT w) (hna : na ≤ 1000000000) (hnb : nb ≤ 1000000000) {t : Bool} (ht : decide (Y ≠ 0) = t) {Q R : Int} (hQ : dq X Y = Q) (hR : dr X Y = R) :
    Calls Tryd.prog 46 #[.agg #[.bool sa, .slice Aa na ca], .agg #[.bool sb, .slice Ab nb cb]] w (DivZ w Q R (na + 2) (max na nb) t) := by
  subst hX; subst hY; subst hQ; subst hR
  exact wdiv_any w sa Aa na ca xa La sb Ab nb cb xb Lb hT hna hnb ht
theorem ProductsT.al {w : World} (h : ProductsT w) (o : Obj) : ProductsT (w.alloc o) := h.bel (bel_alloc _ _)
end Go.Proofs.YtopkndkicdgafaaDoor
