/- The law DigitsTell, proved: for every input that can be read the law returns true and leaves its arguments as they were. Condition: the tables that it reads are as the program's text lays them, which the card ties. -/
import Derived.Test.YtgmencbhkkcpiaaDoorEt9
import Derived.Test.YtgmencbhkkcpiaaDoorArgJ
import Derived.Test.YtgmencbhkkcpiaaDoorTie
import Derived.Test.YtgmencbhkkcpiaaDoorCards
import Derived.ProofKit
import Derived.OpenShut
import Derived.LaidMore
import Derived.Stop.Joined
import Derived.SevenTiedAt
import Derived.Lib.LaidTab
namespace Go.Proofs.YtgmencbhkkcpiaaDoor.digitsTell
open Go Go.Proofs.YtgmencbhkkcpiaaDoor
open Go.ChangeShapes Go.WideShapes Go.ChangeAt Go.RowKit

theorem den_t3 {E : Ev.Env} (s : ByteArray) : Ev.den E (.str s) (.string s) := by simp only [Ev.den]
theorem own : ownKnob Tryd.prog.godebug = none := by kernel_rfl
theorem laidOut : laidOutB Tryd.prog = true := by kernel_rfl
/-- the list of what is laid. -/
abbrev laid : List (String × DataW Unit) := Rows.digitsTellRow.laid
theorem gT : Tryd.prog.globalNamed "math/bits.deBruijn32tab" = some 3 := by kernel_rfl
theorem gTy : (Tryd.prog.globals[3]?).map (·.type) = some 117 := by kernel_rfl
def tabInts : List Int := Lib.deBruijn32tab.map Int.ofNat
def tabInts64 : List Int := Lib.deBruijn64tab.map Int.ofNat
theorem laid_is : laid = [("math/bits.deBruijn32tab", Lib.tabData .u8 tabInts), ("math/bits.deBruijn64tab", Lib.tabData .u8 tabInts64), ("internal/strconv.uint64pow10", Lib.tabData .u64 Lib.pow10Tab)] := rfl
theorem met {W : World} (h : laidMetH Tryd.prog laid W) : laidMet Tryd.prog [("math/bits.deBruijn32tab", Lib.tabData .u8 tabInts), ("math/bits.deBruijn64tab", Lib.tabData .u8 tabInts64), ("internal/strconv.uint64pow10", Lib.tabData .u64 Lib.pow10Tab)] W := by
  rw [MakeChecks.laidMetH_plain _ _ _ (by kernel_rfl)] at h
  rw [laid_is] at h
  exact h
theorem tab_of {W : World} (h : laidMetH Tryd.prog laid W) : Tab W := by
  have ht : Lib.TabIs Tryd.prog W "math/bits.deBruijn32tab" .u8 tabInts := Lib.tabIs_of_head gT gTy Tryd.underlying117 Tryd.underlying5 (by kernel_rfl) (by kernel_rfl) (met h)
  intro j hj
  have hl : tabInts.length = 32 := rfl
  have hl2 : Lib.deBruijn32tab.length = 32 := rfl
  have hc := ht.cell gT j (by rw [hl]; exact hj)
  rw [hc]
  congr 2
  unfold tabInts
  rw [List.getD_eq_getElem?_getD, List.getD_eq_getElem?_getD, List.getElem?_map, List.getElem?_eq_getElem (by rw [hl2]; exact hj)]
  rfl
theorem t64_of {W : World} (h : laidMetH Tryd.prog laid W) : Lib.TabIs Tryd.prog W "math/bits.deBruijn64tab" .u8 tabInts64 := by
  obtain ⟨ps, hv, _⟩ := met h
  obtain ⟨g, t, cs, fuel, p, hg, ht, hvar, hd⟩ := vars_read hv "math/bits.deBruijn64tab" _ (.tail _ (.head _))
  obtain rfl := Option.some.inj ((show Tryd.prog.globalNamed "math/bits.deBruijn64tab" = some 4 by kernel_rfl).symm.trans hg)
  obtain rfl := Option.some.inj ((show (Tryd.prog.globals[4]?).map (·.type) = some 118 by kernel_rfl).symm.trans ht)
  unfold Lib.TabIs
  rw [hvar, ← Lib.cells_of_tab Tryd.underlying118 Tryd.underlying5 (by kernel_rfl) (by kernel_rfl) hd]
theorem p10_of {W : World} (h : laidMetH Tryd.prog laid W) : Lib.TabIs Tryd.prog W "internal/strconv.uint64pow10" .u64 Lib.pow10Tab := by
  obtain ⟨ps, hv, _⟩ := met h
  obtain ⟨g, t, cs, fuel, p, hg, ht, hvar, hd⟩ := vars_read hv "internal/strconv.uint64pow10" _ (.tail _ (.tail _ (.head _)))
  obtain rfl := Option.some.inj ((show Tryd.prog.globalNamed "internal/strconv.uint64pow10" = some 0 by kernel_rfl).symm.trans hg)
  obtain rfl := Option.some.inj ((show (Tryd.prog.globals[0]?).map (·.type) = some 111 by kernel_rfl).symm.trans ht)
  unfold Lib.TabIs
  rw [hvar, ← Lib.cells_of_tab Tryd.underlying111 Tryd.underlying50 (by kernel_rfl) (by kernel_rfl) hd]
theorem tab4_of {W : World} (h : laidMetH Tryd.prog laid W) : Tab4 W :=
  (t64_of h).cell (by kernel_rfl) 15 (by decide)
theorem door_met (os : Os) (args : Array Value) : laidMetH Tryd.prog laid ((World.doorLaid Tryd.prog 24 os).forCall (fun _ _ => 0) ⟨#[], args, []⟩).memory :=
  laidMetH_of_parts3 (fuel := 8) (laidMet_of_run' 8 (by kernel_rfl) (by kernel_rfl)) (by kernel_rfl) (by kernel_rfl)

set_option maxRecDepth 100000 in
theorem lifted (os : Os) (started : os.Started) (H : Type) (enc : TypeId × Value → H) :
    ReturnsInHanded {} Tryd.checked os 3 .any (fun w args => (Rows.digitsTellSpec.pre enc Tryd.prog Tryd.f3 [] false w args ∧ laidMetH Tryd.prog laid w) ∧ sizedMet enc Tryd.prog Tryd.f3 (OpenSpec.ofChange Rows.digitsTellSpec) false w args)
      (Rows.digitsTellSpec.post enc Tryd.prog Tryd.f3 false true false false) := by
  refine returnsInHanded_of_change_and (C := Tryd.checked) (X := fun w _ => laidMetH Tryd.prog laid w) (fun _ _ _ hh h => h.of_heap hh) own started (by kernel_rfl) Tryd.func3
    (ChangeSpec.witness_shaped (enc := enc) (C := Tryd.checked) (os := os) (X := fun w _ => laidMetH Tryd.prog laid w) false (World.doorLaid Tryd.prog 24 os) #[.agg #[.bool false, .slice none 0 0], .string ⟨#[]⟩] 8 rfl (World.shaped_of_RefB (by kernel_rfl) (by kernel_rfl)) (by kernel_rfl) (by kernel_rfl) (by kernel_rfl) (door_met os _)) ?_
  intro W base args ds gs before hval0 hW _ _ hL _
  have hval : ∀ (j : Nat) t v, Tryd.f3.params[j]? = some t → args[j]? = some v → Value.okWide Tryd.prog W .any base t v := hval0
  have hW' := hW
  obtain ⟨p, q, hA0, hV, rfl, hfz, hnd⟩ := hW
  have hA : DataW.TrodAll enc Tryd.prog W 0 (fun _ => true) true Tryd.f3.params.toList args.toList ds p := hA0
  rw [Tryd.params3] at hA hval
  obtain ⟨v0, vs0, d0, ds0, p0, q0, hargs, rfl, rfl, h0, r0⟩ := trodAll_cons hA
  obtain ⟨v1, vs1, d1, ds1, p1, q1, rfl, rfl, rfl, h1, r1⟩ := trodAll_cons r0
  obtain ⟨rfl, rfl, rfl⟩ := trodAll_nil r1
  obtain rfl : args = #[v0, v1] := by cases args; simp_all
  obtain ⟨rfl, rfl⟩ := trodVars_none hV
  have k0 := h0
  have lt0 : ∀ x ∈ p0, x.block < W.heap.size := by obtain ⟨m, hm⟩ := k0; exact DataW.trod_lt m _ _ _ hm
  obtain ⟨s0, a0, len0, cap0, z0, rfl, w0⟩ := open_I (hval 0 24 v0 rfl rfl) h0
  obtain ⟨a1, rfl, rfl, rfl, z1⟩ := Go.ChangeMaps.open_string Tryd.underlying9 (hval 1 9 v1 rfl rfl) h1
  clear hA0 hval0
  have hS : Ev.Sound Tryd.prog (Ev.GD [0]) 3 [.agg [.bool s0, .sl len0 (Ev.argC len0 z0)], .str a1] (· = .bool true) := Ev.good_DigitsTell.2 [.agg [.bool s0, .sl len0 (Ev.argC len0 z0)], .str a1] ⟨fun h => Ev.argC_ok w0 h, z1⟩
  refine (Ev.law_true hS ⟨(Ev.GWL.cons (Ev.laid_one (r := 0) rfl (Ev.laid_tab (tab_of hL))) Ev.GWL.nil), tab4_of hL, p10_of hL⟩ (Ev.denL1 (Ev.argI_den w0 s0) (Ev.denL1 (den_t3 a1) Ev.denL0))).mono fun e W' ⟨he, bel⟩ => ?_
  subst he
  exact ⟨_, rfl, _, _, _, [], _, [], hW', trodAll_mk1 (shut_bool Tryd.underlying4 _), (trodAll_cons_mk (Below.trod laidOut (by kernel_rfl) (of_decide_eq_true (by kernel_rfl)) k0 bel lt0) (trodAll_cons_mk (Go.ChangeMaps.shut_string Tryd.underlying9 z1) trodAll_mk0)), rfl, bel.frame _, fun h => by cases h⟩

theorem over : Rows.digitsTellRow.holds Tryd.pinned (OpenSpec.ofChange Rows.digitsTellSpec) :=
  OpenClaim.holds_of_wide 3 Tryd.f3 rfl rfl rfl rfl rfl rfl rfl ⟨rfl, rfl, rfl, rfl, rfl⟩ rfl rfl rfl rfl rfl (by kernel_rfl) Tryd.func3 (by kernel_rfl)
    (of_decide_eq_true (by kernel_rfl)) (by unfold Func.isWrapper; first | (rw [if_pos (by decide +kernel)]; kernel_rfl) | (rw [if_neg (by decide +kernel)]; exact ⟨rfl, rfl⟩))
    (fun os started H enc _ => lifted os started H enc)
theorem card_holds : Rows.DigitsTellCardSaid :=
  Claim7.holds_tied_plain_at .later [] [.data, .data, .data] true _ false
    over (fun _ h => by cases h) (by kernel_rfl) (fun _ h => by cases h) digitsTell_row_tie rfl ⟨rfl, rfl⟩ (by kernel_rfl) rfl
    (fun f fn hf hfn => by
      obtain rfl : f = 3 := Option.some.inj ((show Tryd.prog.funcNamed "annulus/annuluslaw3.DigitsTell" = some 3 by kernel_rfl).symm.trans hf) |>.symm
      obtain rfl : fn = Tryd.f3 := (Option.some.inj (Tryd.func3.symm.trans hfn)).symm
      exact ⟨by kernel_rfl, fun j t ht => by
        rw [Tryd.params3] at ht
        have hm : t ∈ [24, 9] := by have := Array.mem_of_getElem? ht; simp at this; simp; omega
        have hall : ([24, 9].all fun u => !Tryd.prog.wantsStandIn u) = true := by kernel_rfl
        exact (show Tryd.prog.wantsStandIn t = false by simpa using List.all_eq_true.1 hall t hm)⟩)
    (by kernel_rfl)
#print axioms card_holds
end Go.Proofs.YtgmencbhkkcpiaaDoor.digitsTell
