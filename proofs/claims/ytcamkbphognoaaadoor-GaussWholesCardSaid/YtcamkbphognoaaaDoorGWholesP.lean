/- The law GaussWholes, proved: for every input that can be read the law returns true and leaves its arguments as they were. Condition: the tables that it reads are as the program's text lays them, which the card ties. -/
import Derived.Test.YtcamkbphognoaaaDoorGj
import Derived.Test.YtcamkbphognoaaaDoorXa
import Derived.Test.YtcamkbphognoaaaDoorTie
import Derived.Test.YtcamkbphognoaaaDoorCards
import Derived.ProofKit
import Derived.OpenShut
import Derived.LaidMore
import Derived.Stop.Joined
import Derived.SevenTiedAt
import Derived.Lib.LaidTab
namespace Go.Proofs.YtcamkbphognoaaaDoor.gaussWholes
open Go Go.Proofs.YtcamkbphognoaaaDoor
open Go.ChangeShapes Go.WideShapes Go.ChangeAt Go.RowKit

theorem own : ownKnob Tryd.prog.godebug = none := by kernel_rfl
theorem laidOut : laidOutB Tryd.prog = true := by kernel_rfl
/-- the list of what is laid. -/
abbrev laid : List (String × DataW Unit) := Rows.gaussWholesRow.laid
theorem gT : Tryd.prog.globalNamed "math/bits.deBruijn32tab" = some 6 := by kernel_rfl
theorem gTy : (Tryd.prog.globals[6]?).map (·.type) = some 165 := by kernel_rfl
def tabInts : List Int := Lib.deBruijn32tab.map Int.ofNat
theorem laid_is : laid = [("math/bits.deBruijn32tab", Lib.tabData .u8 tabInts), ("annulus/whole.sums", .agg [Lib.tabData .i64 [2, 0, 3], Lib.tabData .i64 [1, 0, 1], Lib.tabData .i64 [3, 0, 2]]), ("annulus/whole.products", .agg [Lib.tabData .i64 [1, 0, (-1)], Lib.tabData .i64 [0, 0, 0], Lib.tabData .i64 [(-1), 0, 1]]), ("annulus/dyad.orders", .agg [Lib.tabData .i64 [2, (-1), (-1)], Lib.tabData .i64 [1, 0, (-1)], Lib.tabData .i64 [1, 1, 2]])] := rfl
theorem met {W : World} (h : laidMetH Tryd.prog laid W) : laidMet Tryd.prog [("math/bits.deBruijn32tab", Lib.tabData .u8 tabInts), ("annulus/whole.sums", .agg [Lib.tabData .i64 [2, 0, 3], Lib.tabData .i64 [1, 0, 1], Lib.tabData .i64 [3, 0, 2]]), ("annulus/whole.products", .agg [Lib.tabData .i64 [1, 0, (-1)], Lib.tabData .i64 [0, 0, 0], Lib.tabData .i64 [(-1), 0, 1]]), ("annulus/dyad.orders", .agg [Lib.tabData .i64 [2, (-1), (-1)], Lib.tabData .i64 [1, 0, (-1)], Lib.tabData .i64 [1, 1, 2]])] W := by
  rw [MakeChecks.laidMetH_plain _ _ _ (by kernel_rfl)] at h
  rw [laid_is] at h
  exact h
theorem tab_of {W : World} (h : laidMetH Tryd.prog laid W) : Tab W := by
  have ht : Lib.TabIs Tryd.prog W "math/bits.deBruijn32tab" .u8 tabInts := Lib.tabIs_of_head gT gTy Tryd.underlying165 Tryd.underlying5 (by kernel_rfl) (by kernel_rfl) (met h)
  intro j hj
  have hl : tabInts.length = 32 := rfl
  have hl2 : Lib.deBruijn32tab.length = 32 := rfl
  have hc := ht.cell gT j (by rw [hl]; exact hj)
  rw [hc]
  congr 2
  unfold tabInts
  rw [List.getD_eq_getElem?_getD, List.getD_eq_getElem?_getD, List.getElem?_map, List.getElem?_eq_getElem (by rw [hl2]; exact hj)]
  rfl
theorem sums_of {W : World} (h : laidMetH Tryd.prog laid W) : SumsT W := by
  obtain ⟨ps, hv, _⟩ := met h
  obtain ⟨g, t, cs, fuel, p, hg, ht, hvar, hd⟩ := vars_read hv "annulus/whole.sums" _ (.tail _ (.head _))
  obtain rfl := Option.some.inj ((show Tryd.prog.globalNamed "annulus/whole.sums" = some 5 by kernel_rfl).symm.trans hg)
  obtain rfl := Option.some.inj ((show (Tryd.prog.globals[5]?).map (·.type) = some 136 by kernel_rfl).symm.trans ht)
  have hcs := cells3 Tryd.underlying136 Tryd.underlying135 Tryd.underlying3 (by kernel_rfl) (by kernel_rfl) (by kernel_rfl) hd
  intro k hk
  replace hk : k < 9 := hk
  have hc := World.var?_cell hg hvar k
  rw [hc]
  obtain ⟨l⟩ := cs
  simp only at hcs
  subst hcs
  obtain rfl | rfl | rfl | rfl | rfl | rfl | rfl | rfl | rfl : k = 0 ∨ k = 1 ∨ k = 2 ∨ k = 3 ∨ k = 4 ∨ k = 5 ∨ k = 6 ∨ k = 7 ∨ k = 8 := by omega
  all_goals rfl
theorem products_of {W : World} (h : laidMetH Tryd.prog laid W) : ProductsT W := by
  obtain ⟨ps, hv, _⟩ := met h
  obtain ⟨g, t, cs, fuel, p, hg, ht, hvar, hd⟩ := vars_read hv "annulus/whole.products" _ (.tail _ (.tail _ (.head _)))
  obtain rfl := Option.some.inj ((show Tryd.prog.globalNamed "annulus/whole.products" = some 2 by kernel_rfl).symm.trans hg)
  obtain rfl := Option.some.inj ((show (Tryd.prog.globals[2]?).map (·.type) = some 136 by kernel_rfl).symm.trans ht)
  have hcs := cells3 Tryd.underlying136 Tryd.underlying135 Tryd.underlying3 (by kernel_rfl) (by kernel_rfl) (by kernel_rfl) hd
  intro k hk
  replace hk : k < 9 := hk
  have hc := World.var?_cell hg hvar k
  rw [hc]
  obtain ⟨l⟩ := cs
  simp only at hcs
  subst hcs
  obtain rfl | rfl | rfl | rfl | rfl | rfl | rfl | rfl | rfl : k = 0 ∨ k = 1 ∨ k = 2 ∨ k = 3 ∨ k = 4 ∨ k = 5 ∨ k = 6 ∨ k = 7 ∨ k = 8 := by omega
  all_goals rfl
theorem orders_of {W : World} (h : laidMetH Tryd.prog laid W) : Ev.TabAt W 1 .i64 Ev.ordersL := by
  obtain ⟨ps, hv, _⟩ := met h
  obtain ⟨g, t, cs, fuel, p, hg, ht, hvar, hd⟩ := vars_read hv "annulus/dyad.orders" _ (.tail _ (.tail _ (.tail _ (.head _))))
  obtain rfl := Option.some.inj ((show Tryd.prog.globalNamed "annulus/dyad.orders" = some 1 by kernel_rfl).symm.trans hg)
  obtain rfl := Option.some.inj ((show (Tryd.prog.globals[1]?).map (·.type) = some 136 by kernel_rfl).symm.trans ht)
  have hcs := cells3 Tryd.underlying136 Tryd.underlying135 Tryd.underlying3 (by kernel_rfl) (by kernel_rfl) (by kernel_rfl) hd
  intro k hk
  replace hk : k < 9 := hk
  have hc := World.var?_cell hg hvar k
  rw [hc]
  obtain ⟨l⟩ := cs
  simp only at hcs
  subst hcs
  obtain rfl | rfl | rfl | rfl | rfl | rfl | rfl | rfl | rfl : k = 0 ∨ k = 1 ∨ k = 2 ∨ k = 3 ∨ k = 4 ∨ k = 5 ∨ k = 6 ∨ k = 7 ∨ k = 8 := by omega
  all_goals rfl
theorem door_met (os : Os) (args : Array Value) : laidMetH Tryd.prog laid ((World.doorLaid Tryd.prog 48 os).forCall (fun _ _ => 0) ⟨#[], args, []⟩).memory :=
  laidMetH_of_parts3 (fuel := 8) (laidMet_of_run' 8 (by kernel_rfl) (by kernel_rfl)) (by kernel_rfl) (by kernel_rfl)

set_option maxRecDepth 100000 in
theorem lifted (os : Os) (started : os.Started) (H : Type) (enc : TypeId × Value → H) :
    ReturnsInHanded {} Tryd.checked os 5 .any (fun w args => (Rows.gaussWholesSpec.pre enc Tryd.prog Tryd.f5 [] false w args ∧ laidMetH Tryd.prog laid w) ∧ sizedMet enc Tryd.prog Tryd.f5 (OpenSpec.ofChange Rows.gaussWholesSpec) false w args)
      (Rows.gaussWholesSpec.post enc Tryd.prog Tryd.f5 false true false false) := by
  refine returnsInHanded_of_change_and (C := Tryd.checked) (X := fun w _ => laidMetH Tryd.prog laid w) (fun _ _ _ hh h => h.of_heap hh) own started (by kernel_rfl) Tryd.func5
    (ChangeSpec.witness_shaped (enc := enc) (C := Tryd.checked) (os := os) (X := fun w _ => laidMetH Tryd.prog laid w) false (World.doorLaid Tryd.prog 48 os) #[.int .i32 0, .int .i32 0, .int .i16 0] 8 rfl (World.shaped_of_RefB (by kernel_rfl) (by kernel_rfl)) (by kernel_rfl) (by kernel_rfl) (by kernel_rfl) (door_met os _)) ?_
  intro W base args ds gs before hval0 hW _ _ hL _
  have hval : ∀ (j : Nat) t v, Tryd.f5.params[j]? = some t → args[j]? = some v → Value.okWide Tryd.prog W .any base t v := hval0
  have hW' := hW
  obtain ⟨p, q, hA0, hV, rfl, hfz, hnd⟩ := hW
  have hA : DataW.TrodAll enc Tryd.prog W 0 (fun _ => true) true Tryd.f5.params.toList args.toList ds p := hA0
  rw [Tryd.params5] at hA hval
  obtain ⟨v0, vs0, d0, ds0, p0, q0, hargs, rfl, rfl, h0, r0⟩ := trodAll_cons hA
  obtain ⟨v1, vs1, d1, ds1, p1, q1, rfl, rfl, rfl, h1, r1⟩ := trodAll_cons r0
  obtain ⟨v2, vs2, d2, ds2, p2, q2, rfl, rfl, rfl, h2, r2⟩ := trodAll_cons r1
  obtain ⟨rfl, rfl, rfl⟩ := trodAll_nil r2
  obtain rfl : args = #[v0, v1, v2] := by cases args; simp_all
  obtain ⟨rfl, rfl⟩ := trodVars_none hV
  obtain ⟨a0, rfl, rfl, rfl, w0⟩ := open_int Tryd.underlying21 (hval 0 21 v0 rfl rfl) h0
  have b0 := bounds_i32 w0
  obtain ⟨a1, rfl, rfl, rfl, w1⟩ := open_int Tryd.underlying21 (hval 1 21 v1 rfl rfl) h1
  have b1 := bounds_i32 w1
  obtain ⟨a2, rfl, rfl, rfl, w2⟩ := open_int Tryd.underlying36 (hval 2 36 v2 rfl rfl) h2
  have b2 := bounds_i16 w2
  clear hA0 hval0
  have hS : Ev.Sound Tryd.prog (Ev.GWL [0, 1, 2, 3]) 5 [.int .i32 a0, .int .i32 a1, .int .i16 a2] (· = .bool true) := Ev.good_GaussWholes.2 [.int .i32 a0, .int .i32 a1, .int .i16 a2] ⟨b0, b1, b2⟩
  refine (Ev.law_true hS (Ev.GWL.cons (Ev.laid_one (r := 0) rfl (Ev.laid_tab (tab_of hL))) (Ev.GWL.cons (Ev.laid_one (r := 1) rfl (orders_of hL)) (Ev.GWL.cons (Ev.laid_one (r := 2) rfl (sums_of hL)) (Ev.GWL.cons (Ev.laid_one (r := 3) rfl (products_of hL)) Ev.GWL.nil)))) (Ev.denL1 (Ev.den_i .i32 a0) (Ev.denL1 (Ev.den_i .i32 a1) (Ev.denL1 (Ev.den_i .i16 a2) Ev.denL0)))).mono fun e W' ⟨he, bel⟩ => ?_
  subst he
  exact ⟨_, rfl, _, _, _, [], _, [], hW', trodAll_mk1 (shut_bool Tryd.underlying4 _), (trodAll_cons_mk (shut_int Tryd.underlying21 w0) (trodAll_cons_mk (shut_int Tryd.underlying21 w1) (trodAll_cons_mk (shut_int Tryd.underlying36 w2) trodAll_mk0))), rfl, bel.frame _, fun h => by cases h⟩

theorem over : Rows.gaussWholesRow.holds Tryd.pinned (OpenSpec.ofChange Rows.gaussWholesSpec) :=
  OpenClaim.holds_of_wide 5 Tryd.f5 rfl rfl rfl rfl rfl rfl rfl ⟨rfl, rfl, rfl, rfl, rfl⟩ rfl rfl rfl rfl rfl (by kernel_rfl) Tryd.func5 (by kernel_rfl)
    (of_decide_eq_true (by kernel_rfl)) (by unfold Func.isWrapper; first | (rw [if_pos (by decide +kernel)]; kernel_rfl) | (rw [if_neg (by decide +kernel)]; exact ⟨rfl, rfl⟩))
    (fun os started H enc _ => lifted os started H enc)
theorem card_holds : Rows.GaussWholesCardSaid :=
  Claim7.holds_tied_plain_at .later [] [.data, .data, .data, .data] true _ false
    over (fun _ h => by cases h) (by kernel_rfl) (fun _ h => by cases h) gaussWholes_row_tie rfl ⟨rfl, rfl⟩ (by kernel_rfl) rfl
    (fun f fn hf hfn => by
      obtain rfl : f = 5 := Option.some.inj ((show Tryd.prog.funcNamed "annulus/annuluslaw8.GaussWholes" = some 5 by kernel_rfl).symm.trans hf) |>.symm
      obtain rfl : fn = Tryd.f5 := (Option.some.inj (Tryd.func5.symm.trans hfn)).symm
      exact ⟨by kernel_rfl, fun j t ht => by
        rw [Tryd.params5] at ht
        have hm : t ∈ [21, 36] := by have := Array.mem_of_getElem? ht; simp at this; simp; omega
        have hall : ([21, 36].all fun u => !Tryd.prog.wantsStandIn u) = true := by kernel_rfl
        exact (show Tryd.prog.wantsStandIn t = false by simpa using List.all_eq_true.1 hall t hm)⟩)
    (by kernel_rfl)
#print axioms card_holds
end Go.Proofs.YtcamkbphognoaaaDoor.gaussWholes
