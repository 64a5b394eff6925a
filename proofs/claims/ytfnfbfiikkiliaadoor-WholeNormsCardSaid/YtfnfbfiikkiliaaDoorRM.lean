/- Words for the walks of layer 2. -/
import Derived.Test.YtfnfbfiikkiliaaDoorRK
import Derived.Test.YtfnfbfiikkiliaaDoorLb
import Derived.Test.YtfnfbfiikkiliaaDoorArgI
import Derived.Deep.RegionHeld3
namespace Go.Proofs.YtfnfbfiikkiliaaDoor
open Go.RowKit

theorem keep40 {w w' : World} {g0 : Nat} {s0 : Bool} {A0 : Option Addr} {n0 c0 : Nat} {g1 : Nat} {s1 : Bool} {A1 : Option Addr} {n1 c1 : Nat} {g2 : Nat} {s2 : Bool} {A2 : Option Addr} {n2 c2 : Nat} {g3 : Nat} {s3 : Bool} {A3 : Option Addr} {n3 c3 : Nat}  {P0 : Prop} {P1 : Prop} {P2 : Prop} {P3 : Prop} (hb : Below w.heap.size w w') (h : (Box w g0 s0 A0 n0 c0 ∧ P0) ∧ (Box w g1 s1 A1 n1 c1 ∧ P1) ∧ (Box w g2 s2 A2 n2 c2 ∧ P2) ∧ (Box w g3 s3 A3 n3 c3 ∧ P3)) : (Box w' g0 s0 A0 n0 c0 ∧ w'.cell? ⟨g0, 0, none⟩ = some (.bool s0) ∧ w'.cell? ⟨g0, 1, none⟩ = some (.slice A0 n0 c0)) ∧ (Box w' g1 s1 A1 n1 c1 ∧ w'.cell? ⟨g1, 0, none⟩ = some (.bool s1) ∧ w'.cell? ⟨g1, 1, none⟩ = some (.slice A1 n1 c1)) ∧ (Box w' g2 s2 A2 n2 c2 ∧ w'.cell? ⟨g2, 0, none⟩ = some (.bool s2) ∧ w'.cell? ⟨g2, 1, none⟩ = some (.slice A2 n2 c2)) ∧ (Box w' g3 s3 A3 n3 c3 ∧ w'.cell? ⟨g3, 0, none⟩ = some (.bool s3) ∧ w'.cell? ⟨g3, 1, none⟩ = some (.slice A3 n3 c3)) :=
  ⟨held0 (h.1.1.bel hb), held0 (h.2.1.1.bel hb), held0 (h.2.2.1.1.bel hb), held0 (h.2.2.2.1.bel hb)⟩
theorem keep50 {w w' : World} {g0 : Nat} {s0 : Bool} {A0 : Option Addr} {n0 c0 : Nat} {g1 : Nat} {s1 : Bool} {A1 : Option Addr} {n1 c1 : Nat} {g2 : Nat} {s2 : Bool} {A2 : Option Addr} {n2 c2 : Nat} {g3 : Nat} {s3 : Bool} {A3 : Option Addr} {n3 c3 : Nat} {g4 : Nat} {s4 : Bool} {A4 : Option Addr} {n4 c4 : Nat}  {P0 : Prop} {P1 : Prop} {P2 : Prop} {P3 : Prop} {P4 : Prop} (hb : Below w.heap.size w w') (h : (Box w g0 s0 A0 n0 c0 ∧ P0) ∧ (Box w g1 s1 A1 n1 c1 ∧ P1) ∧ (Box w g2 s2 A2 n2 c2 ∧ P2) ∧ (Box w g3 s3 A3 n3 c3 ∧ P3) ∧ (Box w g4 s4 A4 n4 c4 ∧ P4)) : (Box w' g0 s0 A0 n0 c0 ∧ w'.cell? ⟨g0, 0, none⟩ = some (.bool s0) ∧ w'.cell? ⟨g0, 1, none⟩ = some (.slice A0 n0 c0)) ∧ (Box w' g1 s1 A1 n1 c1 ∧ w'.cell? ⟨g1, 0, none⟩ = some (.bool s1) ∧ w'.cell? ⟨g1, 1, none⟩ = some (.slice A1 n1 c1)) ∧ (Box w' g2 s2 A2 n2 c2 ∧ w'.cell? ⟨g2, 0, none⟩ = some (.bool s2) ∧ w'.cell? ⟨g2, 1, none⟩ = some (.slice A2 n2 c2)) ∧ (Box w' g3 s3 A3 n3 c3 ∧ w'.cell? ⟨g3, 0, none⟩ = some (.bool s3) ∧ w'.cell? ⟨g3, 1, none⟩ = some (.slice A3 n3 c3)) ∧ (Box w' g4 s4 A4 n4 c4 ∧ w'.cell? ⟨g4, 0, none⟩ = some (.bool s4) ∧ w'.cell? ⟨g4, 1, none⟩ = some (.slice A4 n4 c4)) :=
  ⟨held0 (h.1.1.bel hb), held0 (h.2.1.1.bel hb), held0 (h.2.2.1.1.bel hb), held0 (h.2.2.2.1.1.bel hb), held0 (h.2.2.2.2.1.bel hb)⟩
theorem keep60 {w w' : World} {g0 : Nat} {s0 : Bool} {A0 : Option Addr} {n0 c0 : Nat} {g1 : Nat} {s1 : Bool} {A1 : Option Addr} {n1 c1 : Nat} {g2 : Nat} {s2 : Bool} {A2 : Option Addr} {n2 c2 : Nat} {g3 : Nat} {s3 : Bool} {A3 : Option Addr} {n3 c3 : Nat} {g4 : Nat} {s4 : Bool} {A4 : Option Addr} {n4 c4 : Nat} {g5 : Nat} {s5 : Bool} {A5 : Option Addr} {n5 c5 : Nat}  {P0 : Prop} {P1 : Prop} {P2 : Prop} {P3 : Prop} {P4 : Prop} {P5 : Prop} (hb : Below w.heap.size w w') (h : (Box w g0 s0 A0 n0 c0 ∧ P0) ∧ (Box w g1 s1 A1 n1 c1 ∧ P1) ∧ (Box w g2 s2 A2 n2 c2 ∧ P2) ∧ (Box w g3 s3 A3 n3 c3 ∧ P3) ∧ (Box w g4 s4 A4 n4 c4 ∧ P4) ∧ (Box w g5 s5 A5 n5 c5 ∧ P5)) : (Box w' g0 s0 A0 n0 c0 ∧ w'.cell? ⟨g0, 0, none⟩ = some (.bool s0) ∧ w'.cell? ⟨g0, 1, none⟩ = some (.slice A0 n0 c0)) ∧ (Box w' g1 s1 A1 n1 c1 ∧ w'.cell? ⟨g1, 0, none⟩ = some (.bool s1) ∧ w'.cell? ⟨g1, 1, none⟩ = some (.slice A1 n1 c1)) ∧ (Box w' g2 s2 A2 n2 c2 ∧ w'.cell? ⟨g2, 0, none⟩ = some (.bool s2) ∧ w'.cell? ⟨g2, 1, none⟩ = some (.slice A2 n2 c2)) ∧ (Box w' g3 s3 A3 n3 c3 ∧ w'.cell? ⟨g3, 0, none⟩ = some (.bool s3) ∧ w'.cell? ⟨g3, 1, none⟩ = some (.slice A3 n3 c3)) ∧ (Box w' g4 s4 A4 n4 c4 ∧ w'.cell? ⟨g4, 0, none⟩ = some (.bool s4) ∧ w'.cell? ⟨g4, 1, none⟩ = some (.slice A4 n4 c4)) ∧ (Box w' g5 s5 A5 n5 c5 ∧ w'.cell? ⟨g5, 0, none⟩ = some (.bool s5) ∧ w'.cell? ⟨g5, 1, none⟩ = some (.slice A5 n5 c5)) :=
  ⟨held0 (h.1.1.bel hb), held0 (h.2.1.1.bel hb), held0 (h.2.2.1.1.bel hb), held0 (h.2.2.2.1.1.bel hb), held0 (h.2.2.2.2.1.1.bel hb), held0 (h.2.2.2.2.2.1.bel hb)⟩
theorem bel_drw {B w : World} (h : Below B.heap.size B w) : Below B.heap.size B w.drew := h.drew
theorem bel_al {B w : World} {o : Obj} (h : Below B.heap.size B w) : Below B.heap.size B (w.alloc o) := bel_next h (bel_alloc _ _)
theorem bel_size {B w : World} (h : Below B.heap.size B w) : B.heap.size ≤ w.heap.size := h.size
/-- one new variable, laid since B: it holds Q. -/
def Laid1 (B : World) (Q : Int) (s : Value) (wx : World) : Prop := ∃ q, s = .pointer (some ⟨q, 0, none⟩) ∧ NumAt wx q Q ∧ B.heap.size ≤ q ∧ Below B.heap.size B wx
theorem laid1N {B P : World} {Q : Int} {A : Option Addr} {m c : Nat} (k : Below B.heap.size B P) (h : Lm P A m c (lim Q.natAbs)) (hm : m ≤ 1000000) : Laid1 B Q (.pointer (some ⟨P.heap.size, 0, none⟩)) (P.alloc (.cells #[.bool (decide (Q < 0)), .slice A m c] 24)) :=
  ⟨_, rfl, ⟨_, _, _, nb1 rfl, h.al _, hm⟩, k.size, bel_al k⟩
theorem laid1O {B P : World} {Q : Int} {A : Option Addr} {m c q : Nat} (k : Below B.heap.size B P) (h : Lm P A m c (lim Q.natAbs)) (hm : m ≤ 1000000) (t : Two P q) (hq : B.heap.size ≤ q) : Laid1 B Q (.pointer (some ⟨q, 0, none⟩)) ((P.setCell ⟨q, 0, none⟩ (.bool (decide (Q < 0)))).setCell ⟨q, 1, none⟩ (.slice A m c)) :=
  ⟨_, rfl, ⟨_, _, _, t.put _ _ _ _, h.put t _ _, hm⟩, hq, bel_put k hq _ _⟩
set_option maxHeartbeats 1000000 in
theorem few2_any (w : World) (s : Bool) (A : Option Addr) (n c : Nat) {t : Bool} (ht : decide ((n : Int) ≤ 24) = t) :
    Calls Tryd.prog 12 #[.agg #[.bool s, .slice A n c]] w fun e w' => e = .returned (.bool t) ∧ Below w.heap.size w w' := by
  have hb := Lib.hid (bel_alloc w (.cells #[.bool s, .slice A n c] 24))
  subst ht
  go_enter Tryd.func12, Tryd.ntmps12
  go_wp2
  go_ret
  exact ⟨rfl, hb.out⟩
end Go.Proofs.YtfnfbfiikkiliaaDoor
