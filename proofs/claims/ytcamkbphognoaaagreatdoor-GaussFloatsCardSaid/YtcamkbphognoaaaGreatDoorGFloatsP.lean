/- The law GaussFloats, proved: for every input that can be read the law returns true and leaves its arguments as they were. Condition: the tables that it reads are as the program's text lays them, which the card ties. -/
import Derived.Test.YtcamkbphognoaaaGreatDoorGi
import Derived.Test.YtcamkbphognoaaaGreatDoorXa
import Derived.Test.YtcamkbphognoaaaGreatDoorTie
import Derived.Test.YtcamkbphognoaaaGreatDoorCards
import Derived.ProofKit
import Derived.OpenShut
import Derived.LaidMore
import Derived.Stop.Joined
import Derived.SevenTiedAt
import Derived.Lib.LaidTab
namespace Go.Proofs.YtcamkbphognoaaaGreatDoor.gaussFloats
open Go Go.Proofs.YtcamkbphognoaaaGreatDoor
open Go.ChangeShapes Go.WideShapes Go.ChangeAt Go.RowKit

theorem own : ownKnob Tryz.prog.godebug = none := by kernel_rfl
theorem laidOut : laidOutB Tryz.prog = true := by kernel_rfl
/-- the list of what is laid. -/
abbrev laid : List (String × DataW Unit) := Rows.gaussFloatsRow.laid
theorem gT : Tryz.prog.globalNamed "math/bits.deBruijn32tab" = some 6 := by kernel_rfl
theorem gTy : (Tryz.prog.globals[6]?).map (·.type) = some 156 := by kernel_rfl
def tabInts : List Int := Lib.deBruijn32tab.map Int.ofNat
theorem laid_is : laid = [("math/bits.deBruijn32tab", Lib.tabData .u8 tabInts), ("annulus/whole.sums", .agg [Lib.tabData .i64 [2, 0, 3], Lib.tabData .i64 [1, 0, 1], Lib.tabData .i64 [3, 0, 2]]), ("annulus/whole.products", .agg [Lib.tabData .i64 [1, 0, (-1)], Lib.tabData .i64 [0, 0, 0], Lib.tabData .i64 [(-1), 0, 1]]), ("annulus/dyad.orders", .agg [Lib.tabData .i64 [2, (-1), (-1)], Lib.tabData .i64 [1, 0, (-1)], Lib.tabData .i64 [1, 1, 2]])] := rfl
theorem met {W : World} (h : laidMetH Tryz.prog laid W) : laidMet Tryz.prog [("math/bits.deBruijn32tab", Lib.tabData .u8 tabInts), ("annulus/whole.sums", .agg [Lib.tabData .i64 [2, 0, 3], Lib.tabData .i64 [1, 0, 1], Lib.tabData .i64 [3, 0, 2]]), ("annulus/whole.products", .agg [Lib.tabData .i64 [1, 0, (-1)], Lib.tabData .i64 [0, 0, 0], Lib.tabData .i64 [(-1), 0, 1]]), ("annulus/dyad.orders", .agg [Lib.tabData .i64 [2, (-1), (-1)], Lib.tabData .i64 [1, 0, (-1)], Lib.tabData .i64 [1, 1, 2]])] W := by
  rw [MakeChecks.laidMetH_plain _ _ _ (by kernel_rfl)] at h
  rw [laid_is] at h
  exact h
theorem tab_of {W : World} (h : laidMetH Tryz.prog laid W) : Tab W := by
  have ht : Lib.TabIs Tryz.prog W "math/bits.deBruijn32tab" .u8 tabInts := Lib.tabIs_of_head gT gTy Tryz.underlying156 Tryz.underlying5 (by kernel_rfl) (by kernel_rfl) (met h)
  intro j hj
  have hl : tabInts.length = 32 := rfl
  have hl2 : Lib.deBruijn32tab.length = 32 := rfl
  have hc := ht.cell gT j (by rw [hl]; exact hj)
  rw [hc]
  congr 2
  unfold tabInts
  rw [List.getD_eq_getElem?_getD, List.getD_eq_getElem?_getD, List.getElem?_map, List.getElem?_eq_getElem (by rw [hl2]; exact hj)]
  rfl
theorem sums_of {W : World} (h : laidMetH Tryz.prog laid W) : SumsT W := by
  obtain ⟨ps, hv, _⟩ := met h
  obtain ⟨g, t, cs, fuel, p, hg, ht, hvar, hd⟩ := vars_read hv "annulus/whole.sums" _ (.tail _ (.head _))
  obtain rfl := Option.some.inj ((show Tryz.prog.globalNamed "annulus/whole.sums" = some 4 by kernel_rfl).symm.trans hg)
  obtain rfl := Option.some.inj ((show (Tryz.prog.globals[4]?).map (·.type) = some 109 by kernel_rfl).symm.trans ht)
  have hcs := cells3 Tryz.underlying109 Tryz.underlying108 Tryz.underlying3 (by kernel_rfl) (by kernel_rfl) (by kernel_rfl) hd
  intro k hk
  replace hk : k < 9 := hk
  have hc := World.var?_cell hg hvar k
  rw [hc]
  obtain ⟨l⟩ := cs
  simp only at hcs
  subst hcs
  obtain rfl | rfl | rfl | rfl | rfl | rfl | rfl | rfl | rfl : k = 0 ∨ k = 1 ∨ k = 2 ∨ k = 3 ∨ k = 4 ∨ k = 5 ∨ k = 6 ∨ k = 7 ∨ k = 8 := by omega
  all_goals rfl
theorem products_of {W : World} (h : laidMetH Tryz.prog laid W) : ProductsT W := by
  obtain ⟨ps, hv, _⟩ := met h
  obtain ⟨g, t, cs, fuel, p, hg, ht, hvar, hd⟩ := vars_read hv "annulus/whole.products" _ (.tail _ (.tail _ (.head _)))
  obtain rfl := Option.some.inj ((show Tryz.prog.globalNamed "annulus/whole.products" = some 3 by kernel_rfl).symm.trans hg)
  obtain rfl := Option.some.inj ((show (Tryz.prog.globals[3]?).map (·.type) = some 109 by kernel_rfl).symm.trans ht)
  have hcs := cells3 Tryz.underlying109 Tryz.underlying108 Tryz.underlying3 (by kernel_rfl) (by kernel_rfl) (by kernel_rfl) hd
  intro k hk
  replace hk : k < 9 := hk
  have hc := World.var?_cell hg hvar k
  rw [hc]
  obtain ⟨l⟩ := cs
  simp only at hcs
  subst hcs
  obtain rfl | rfl | rfl | rfl | rfl | rfl | rfl | rfl | rfl : k = 0 ∨ k = 1 ∨ k = 2 ∨ k = 3 ∨ k = 4 ∨ k = 5 ∨ k = 6 ∨ k = 7 ∨ k = 8 := by omega
  all_goals rfl
theorem orders_of {W : World} (h : laidMetH Tryz.prog laid W) : Ev.TabAt W 2 .i64 Ev.ordersL := by
  obtain ⟨ps, hv, _⟩ := met h
  obtain ⟨g, t, cs, fuel, p, hg, ht, hvar, hd⟩ := vars_read hv "annulus/dyad.orders" _ (.tail _ (.tail _ (.tail _ (.head _))))
  obtain rfl := Option.some.inj ((show Tryz.prog.globalNamed "annulus/dyad.orders" = some 2 by kernel_rfl).symm.trans hg)
  obtain rfl := Option.some.inj ((show (Tryz.prog.globals[2]?).map (·.type) = some 109 by kernel_rfl).symm.trans ht)
  have hcs := cells3 Tryz.underlying109 Tryz.underlying108 Tryz.underlying3 (by kernel_rfl) (by kernel_rfl) (by kernel_rfl) hd
  intro k hk
  replace hk : k < 9 := hk
  have hc := World.var?_cell hg hvar k
  rw [hc]
  obtain ⟨l⟩ := cs
  simp only at hcs
  subst hcs
  obtain rfl | rfl | rfl | rfl | rfl | rfl | rfl | rfl | rfl : k = 0 ∨ k = 1 ∨ k = 2 ∨ k = 3 ∨ k = 4 ∨ k = 5 ∨ k = 6 ∨ k = 7 ∨ k = 8 := by omega
  all_goals rfl
theorem door_met (os : Os) (args : Array Value) : laidMetH Tryz.prog laid ((World.doorLaid Tryz.prog 87 os).forCall (fun _ _ => 0) ⟨#[], args, []⟩).memory :=
  laidMetH_of_parts3 (fuel := 8) (laidMet_of_run' 8 (by kernel_rfl) (by kernel_rfl)) (by kernel_rfl) (by kernel_rfl)

set_option maxRecDepth 100000 in
theorem lifted (os : Os) (started : os.Started) (H : Type) (enc : TypeId × Value → H) :
    ReturnsInHanded {} Tryz.checked os 7 .any (fun w args => (Rows.gaussFloatsSpec.pre enc Tryz.prog Tryz.f7 [] false w args ∧ laidMetH Tryz.prog laid w) ∧ sizedMet enc Tryz.prog Tryz.f7 (OpenSpec.ofChange Rows.gaussFloatsSpec) false w args)
      (Rows.gaussFloatsSpec.post enc Tryz.prog Tryz.f7 false true false false) := by
  refine returnsInHanded_of_change_and (C := Tryz.checked) (X := fun w _ => laidMetH Tryz.prog laid w) (fun _ _ _ hh h => h.of_heap hh) own started (by kernel_rfl) Tryz.func7
    (ChangeSpec.witness_shaped (enc := enc) (C := Tryz.checked) (os := os) (X := fun w _ => laidMetH Tryz.prog laid w) false (World.doorLaid Tryz.prog 87 os) #[.int .u64 0, .int .u64 0] 8 rfl (World.shaped_of_RefB (by kernel_rfl) (by kernel_rfl)) (by kernel_rfl) (by kernel_rfl) (by kernel_rfl) (door_met os _)) ?_
  intro W base args ds gs before hval0 hW _ _ hL _
  have hval : ∀ (j : Nat) t v, Tryz.f7.params[j]? = some t → args[j]? = some v → Value.okWide Tryz.prog W .any base t v := hval0
  have hW' := hW
  obtain ⟨p, q, hA0, hV, rfl, hfz, hnd⟩ := hW
  have hA : DataW.TrodAll enc Tryz.prog W 0 (fun _ => true) true Tryz.f7.params.toList args.toList ds p := hA0
  rw [Tryz.params7] at hA hval
  obtain ⟨v0, vs0, d0, ds0, p0, q0, hargs, rfl, rfl, h0, r0⟩ := trodAll_cons hA
  obtain ⟨v1, vs1, d1, ds1, p1, q1, rfl, rfl, rfl, h1, r1⟩ := trodAll_cons r0
  obtain ⟨rfl, rfl, rfl⟩ := trodAll_nil r1
  obtain rfl : args = #[v0, v1] := by cases args; simp_all
  obtain ⟨rfl, rfl⟩ := trodVars_none hV
  obtain ⟨a0, rfl, rfl, rfl, w0⟩ := open_int Tryz.underlying62 (hval 0 62 v0 rfl rfl) h0
  have b0 := bounds_u64 w0
  obtain ⟨a1, rfl, rfl, rfl, w1⟩ := open_int Tryz.underlying62 (hval 1 62 v1 rfl rfl) h1
  have b1 := bounds_u64 w1
  clear hA0 hval0
  have hS : Ev.Sound Tryz.prog (Ev.GWL [0, 1, 2, 3]) 7 [.int .u64 a0, .int .u64 a1] (· = .bool true) := Ev.good_GaussFloats.2 [.int .u64 a0, .int .u64 a1] ⟨b0, b1⟩
  refine (Ev.law_true hS (Ev.GWL.cons (Ev.laid_one (r := 0) rfl (Ev.laid_tab (tab_of hL))) (Ev.GWL.cons (Ev.laid_one (r := 1) rfl (orders_of hL)) (Ev.GWL.cons (Ev.laid_one (r := 2) rfl (sums_of hL)) (Ev.GWL.cons (Ev.laid_one (r := 3) rfl (products_of hL)) Ev.GWL.nil)))) (Ev.denL1 (Ev.den_i .u64 a0) (Ev.denL1 (Ev.den_i .u64 a1) Ev.denL0))).mono fun e W' ⟨he, bel⟩ => ?_
  subst he
  exact ⟨_, rfl, _, _, _, [], _, [], hW', trodAll_mk1 (shut_bool Tryz.underlying4 _), (trodAll_cons_mk (shut_int Tryz.underlying62 w0) (trodAll_cons_mk (shut_int Tryz.underlying62 w1) trodAll_mk0)), rfl, bel.frame _, fun h => by cases h⟩

theorem over : Rows.gaussFloatsRow.holds Tryz.pinned (OpenSpec.ofChange Rows.gaussFloatsSpec) :=
  OpenClaim.holds_of_wide 7 Tryz.f7 rfl rfl rfl rfl rfl rfl rfl ⟨rfl, rfl, rfl, rfl, rfl⟩ rfl rfl rfl rfl rfl (by kernel_rfl) Tryz.func7 (by kernel_rfl)
    (of_decide_eq_true (by kernel_rfl)) (by unfold Func.isWrapper; first | (rw [if_pos (by decide +kernel)]; kernel_rfl) | (rw [if_neg (by decide +kernel)]; exact ⟨rfl, rfl⟩))
    (fun os started H enc _ => lifted os started H enc)
theorem card_holds : Rows.GaussFloatsCardSaid :=
  Claim7.holds_tied_plain_at .later [] [.data, .data, .data, .data] true _ false
    over (fun _ h => by cases h) (by kernel_rfl) (fun _ h => by cases h) gaussFloats_row_tie rfl ⟨rfl, rfl⟩ (by kernel_rfl) rfl
    (fun f fn hf hfn => by
      obtain rfl : f = 7 := Option.some.inj ((show Tryz.prog.funcNamed "annulus/annuluslaw8.GaussFloats" = some 7 by kernel_rfl).symm.trans hf) |>.symm
      obtain rfl : fn = Tryz.f7 := (Option.some.inj (Tryz.func7.symm.trans hfn)).symm
      exact ⟨by kernel_rfl, fun j t ht => by
        rw [Tryz.params7] at ht
        have hm : t ∈ [62] := by have := Array.mem_of_getElem? ht; simp at this; simp; omega
        have hall : ([62].all fun u => !Tryz.prog.wantsStandIn u) = true := by kernel_rfl
        exact (show Tryz.prog.wantsStandIn t = false by simpa using List.all_eq_true.1 hall t hm)⟩)
    (by kernel_rfl)
#print axioms card_holds
end Go.Proofs.YtcamkbphognoaaaGreatDoor.gaussFloats
