/- The law DigitsSums, proved: for every input that can be read the law returns true and leaves its arguments as they were. Condition: the tables that it reads are as the program's text lays them, which the card ties. -/
import Derived.Test.YtnnnolmldmbaaaaDoorEt6
import Derived.Test.YtnnnolmldmbaaaaDoorArgJ
import Derived.Test.YtnnnolmldmbaaaaDoorTie
import Derived.Test.YtnnnolmldmbaaaaDoorCards
import Derived.ProofKit
import Derived.OpenShut
import Derived.LaidMore
import Derived.Stop.Joined
import Derived.SevenTiedAt
import Derived.Lib.LaidTab
namespace Go.Proofs.YtnnnolmldmbaaaaDoor.digitsSums
open Go Go.Proofs.YtnnnolmldmbaaaaDoor
open Go.ChangeShapes Go.WideShapes Go.ChangeAt Go.RowKit

set_option maxRecDepth 100000 in
theorem open_L3 {H : Type} {enc : TypeId × Value → H} {W : World} {base : Nat} {v : Value} {d : DataW H} {p : List MemPlace} (hval : Value.okWide Tryd.prog W .any base 22 v) (h : DataW.Trod enc Tryd.prog W 0 (fun _ => true) true 22 v d p) :
    ∃ A n c zs, v = .slice A n c ∧ Arg W A n c zs := by
  obtain ⟨a, ln, c, rfl⟩ := okWide_slice Tryd.underlying22 hval
  obtain ⟨fuel, hf⟩ := h
  rcases open_ints Tryd.underlying22 Tryd.underlying54 (by kernel_rfl) hf with ⟨hcs, _⟩ | ⟨x, ln', c', zs, hcs, _, hl, hm, hz, _, hcell, hwz⟩
  · simp [Value.cells] at hcs
    obtain ⟨rfl, rfl, rfl⟩ := hcs
    exact ⟨none, 0, 0, [], rfl, Arg.none W⟩
  · simp [Value.cells] at hcs
    obtain ⟨rfl, rfl, rfl⟩ := hcs
    exact ⟨some x, ln, c, _, rfl, Arg.of_ints hl (by simpa using hz) hcell hwz⟩
theorem den_b3 {E : Ev.Env} (b : Bool) : Ev.den E (.bool b) (.bool b) := by simp only [Ev.den]
theorem own : ownKnob Tryd.prog.godebug = none := by kernel_rfl
theorem laidOut : laidOutB Tryd.prog = true := by kernel_rfl
/-- the list of what is laid. -/
abbrev laid : List (String × DataW Unit) := Rows.digitsSumsRow.laid
theorem gT : Tryd.prog.globalNamed "math/bits.deBruijn32tab" = some 4 := by kernel_rfl
theorem gTy : (Tryd.prog.globals[4]?).map (·.type) = some 124 := by kernel_rfl
def tabInts : List Int := Lib.deBruijn32tab.map Int.ofNat
def tabInts64 : List Int := Lib.deBruijn64tab.map Int.ofNat
theorem laid_is : laid = [("math/bits.deBruijn32tab", Lib.tabData .u8 tabInts), ("math/bits.deBruijn64tab", Lib.tabData .u8 tabInts64), ("internal/strconv.uint64pow10", Lib.tabData .u64 Lib.pow10Tab), ("annulus/whole.products", .agg [Lib.tabData .i64 [1, 0, (-1)], Lib.tabData .i64 [0, 0, 0], Lib.tabData .i64 [(-1), 0, 1]])] := rfl
theorem met {W : World} (h : laidMetH Tryd.prog laid W) : laidMet Tryd.prog [("math/bits.deBruijn32tab", Lib.tabData .u8 tabInts), ("math/bits.deBruijn64tab", Lib.tabData .u8 tabInts64), ("internal/strconv.uint64pow10", Lib.tabData .u64 Lib.pow10Tab), ("annulus/whole.products", .agg [Lib.tabData .i64 [1, 0, (-1)], Lib.tabData .i64 [0, 0, 0], Lib.tabData .i64 [(-1), 0, 1]])] W := by
  rw [MakeChecks.laidMetH_plain _ _ _ (by kernel_rfl)] at h
  rw [laid_is] at h
  exact h
theorem tab_of {W : World} (h : laidMetH Tryd.prog laid W) : Tab W := by
  have ht : Lib.TabIs Tryd.prog W "math/bits.deBruijn32tab" .u8 tabInts := Lib.tabIs_of_head gT gTy Tryd.underlying124 Tryd.underlying5 (by kernel_rfl) (by kernel_rfl) (met h)
  intro j hj
  have hl : tabInts.length = 32 := rfl
  have hl2 : Lib.deBruijn32tab.length = 32 := rfl
  have hc := ht.cell gT j (by rw [hl]; exact hj)
  rw [hc]
  congr 2
  unfold tabInts
  rw [List.getD_eq_getElem?_getD, List.getD_eq_getElem?_getD, List.getElem?_map, List.getElem?_eq_getElem (by rw [hl2]; exact hj)]
  rfl
theorem products_of {W : World} (h : laidMetH Tryd.prog laid W) : ProductsT W := by
  obtain ⟨ps, hv, _⟩ := met h
  obtain ⟨g, t, cs, fuel, p, hg, ht, hvar, hd⟩ := vars_read hv "annulus/whole.products" _ (.tail _ (.tail _ (.tail _ (.head _))))
  obtain rfl := Option.some.inj ((show Tryd.prog.globalNamed "annulus/whole.products" = some 0 by kernel_rfl).symm.trans hg)
  obtain rfl := Option.some.inj ((show (Tryd.prog.globals[0]?).map (·.type) = some 63 by kernel_rfl).symm.trans ht)
  have hcs := cells3 Tryd.underlying63 Tryd.underlying62 Tryd.underlying3 (by kernel_rfl) (by kernel_rfl) (by kernel_rfl) hd
  intro k hk
  replace hk : k < 9 := hk
  have hc := World.var?_cell hg hvar k
  rw [hc]
  obtain ⟨l⟩ := cs
  simp only at hcs
  subst hcs
  obtain rfl | rfl | rfl | rfl | rfl | rfl | rfl | rfl | rfl : k = 0 ∨ k = 1 ∨ k = 2 ∨ k = 3 ∨ k = 4 ∨ k = 5 ∨ k = 6 ∨ k = 7 ∨ k = 8 := by omega
  all_goals rfl
theorem t64_of {W : World} (h : laidMetH Tryd.prog laid W) : Lib.TabIs Tryd.prog W "math/bits.deBruijn64tab" .u8 tabInts64 := by
  obtain ⟨ps, hv, _⟩ := met h
  obtain ⟨g, t, cs, fuel, p, hg, ht, hvar, hd⟩ := vars_read hv "math/bits.deBruijn64tab" _ (.tail _ (.head _))
  obtain rfl := Option.some.inj ((show Tryd.prog.globalNamed "math/bits.deBruijn64tab" = some 5 by kernel_rfl).symm.trans hg)
  obtain rfl := Option.some.inj ((show (Tryd.prog.globals[5]?).map (·.type) = some 125 by kernel_rfl).symm.trans ht)
  unfold Lib.TabIs
  rw [hvar, ← Lib.cells_of_tab Tryd.underlying125 Tryd.underlying5 (by kernel_rfl) (by kernel_rfl) hd]
theorem p10_of {W : World} (h : laidMetH Tryd.prog laid W) : Lib.TabIs Tryd.prog W "internal/strconv.uint64pow10" .u64 Lib.pow10Tab := by
  obtain ⟨ps, hv, _⟩ := met h
  obtain ⟨g, t, cs, fuel, p, hg, ht, hvar, hd⟩ := vars_read hv "internal/strconv.uint64pow10" _ (.tail _ (.tail _ (.head _)))
  obtain rfl := Option.some.inj ((show Tryd.prog.globalNamed "internal/strconv.uint64pow10" = some 1 by kernel_rfl).symm.trans hg)
  obtain rfl := Option.some.inj ((show (Tryd.prog.globals[1]?).map (·.type) = some 118 by kernel_rfl).symm.trans ht)
  unfold Lib.TabIs
  rw [hvar, ← Lib.cells_of_tab Tryd.underlying118 Tryd.underlying55 (by kernel_rfl) (by kernel_rfl) hd]
theorem tab4_of {W : World} (h : laidMetH Tryd.prog laid W) : Tab4 W :=
  (t64_of h).cell (by kernel_rfl) 15 (by decide)
theorem door_met (os : Os) (args : Array Value) : laidMetH Tryd.prog laid ((World.doorLaid Tryd.prog 32 os).forCall (fun _ _ => 0) ⟨#[], args, []⟩).memory :=
  laidMetH_of_parts3 (fuel := 8) (laidMet_of_run' 8 (by kernel_rfl) (by kernel_rfl)) (by kernel_rfl) (by kernel_rfl)

set_option maxRecDepth 100000 in
theorem lifted (os : Os) (started : os.Started) (H : Type) (enc : TypeId × Value → H) :
    ReturnsInHanded {} Tryd.checked os 6 .any (fun w args => (Rows.digitsSumsSpec.pre enc Tryd.prog Tryd.f6 [] false w args ∧ laidMetH Tryd.prog laid w) ∧ sizedMet enc Tryd.prog Tryd.f6 (OpenSpec.ofChange Rows.digitsSumsSpec) false w args)
      (Rows.digitsSumsSpec.post enc Tryd.prog Tryd.f6 false true false false) := by
  refine returnsInHanded_of_change_and (C := Tryd.checked) (X := fun w _ => laidMetH Tryd.prog laid w) (fun _ _ _ hh h => h.of_heap hh) own started (by kernel_rfl) Tryd.func6
    (ChangeSpec.witness_shaped (enc := enc) (C := Tryd.checked) (os := os) (X := fun w _ => laidMetH Tryd.prog laid w) false (World.doorLaid Tryd.prog 32 os) #[.slice none 0 0, .bool false, .int .u8 0] 8 rfl (World.shaped_of_RefB (by kernel_rfl) (by kernel_rfl)) (by kernel_rfl) (by kernel_rfl) (by kernel_rfl) (door_met os _)) ?_
  intro W base args ds gs before hval0 hW _ _ hL _
  have hval : ∀ (j : Nat) t v, Tryd.f6.params[j]? = some t → args[j]? = some v → Value.okWide Tryd.prog W .any base t v := hval0
  have hW' := hW
  obtain ⟨p, q, hA0, hV, rfl, hfz, hnd⟩ := hW
  have hA : DataW.TrodAll enc Tryd.prog W 0 (fun _ => true) true Tryd.f6.params.toList args.toList ds p := hA0
  rw [Tryd.params6] at hA hval
  obtain ⟨v0, vs0, d0, ds0, p0, q0, hargs, rfl, rfl, h0, r0⟩ := trodAll_cons hA
  obtain ⟨v1, vs1, d1, ds1, p1, q1, rfl, rfl, rfl, h1, r1⟩ := trodAll_cons r0
  obtain ⟨v2, vs2, d2, ds2, p2, q2, rfl, rfl, rfl, h2, r2⟩ := trodAll_cons r1
  obtain ⟨rfl, rfl, rfl⟩ := trodAll_nil r2
  obtain rfl : args = #[v0, v1, v2] := by cases args; simp_all
  obtain ⟨rfl, rfl⟩ := trodVars_none hV
  have k0 := h0
  have lt0 : ∀ x ∈ p0, x.block < W.heap.size := by obtain ⟨m, hm⟩ := k0; exact DataW.trod_lt m _ _ _ hm
  obtain ⟨a0, len0, cap0, z0, rfl, w0⟩ := open_L3 (hval 0 22 v0 rfl rfl) h0
  obtain ⟨a1, rfl, rfl, rfl⟩ := open_bool Tryd.underlying4 (hval 1 4 v1 rfl rfl) h1
  obtain ⟨a2, rfl, rfl, rfl, w2⟩ := open_int Tryd.underlying5 (hval 2 5 v2 rfl rfl) h2
  have b2 := bounds_u8 w2
  clear hA0 hval0
  have hS : Ev.Sound Tryd.prog (Ev.GD [0, 3]) 6 [.sl len0 (Ev.argC len0 z0), .bool a1, .int .u8 a2] (· = .bool true) := Ev.good_DigitsSums.2 [.sl len0 (Ev.argC len0 z0), .bool a1, .int .u8 a2] ⟨fun h => Ev.argC_ok w0 h, b2⟩
  refine (Ev.law_true hS ⟨(Ev.GWL.cons (Ev.laid_one (r := 0) rfl (Ev.laid_tab (tab_of hL))) (Ev.GWL.cons (Ev.laid_one (r := 3) rfl (products_of hL)) Ev.GWL.nil)), tab4_of hL, p10_of hL⟩ (Ev.denL1 (Ev.argC_den w0) (Ev.denL1 (den_b3 a1) (Ev.denL1 (Ev.den_i .u8 a2) Ev.denL0)))).mono fun e W' ⟨he, bel⟩ => ?_
  subst he
  exact ⟨_, rfl, _, _, _, [], _, [], hW', trodAll_mk1 (shut_bool Tryd.underlying4 _), (trodAll_cons_mk (Below.trod laidOut (by kernel_rfl) (of_decide_eq_true (by kernel_rfl)) k0 bel lt0) (trodAll_cons_mk (shut_bool Tryd.underlying4 a1) (trodAll_cons_mk (shut_int Tryd.underlying5 w2) trodAll_mk0))), rfl, bel.frame _, fun h => by cases h⟩

theorem over : Rows.digitsSumsRow.holds Tryd.pinned (OpenSpec.ofChange Rows.digitsSumsSpec) :=
  OpenClaim.holds_of_wide 6 Tryd.f6 rfl rfl rfl rfl rfl rfl rfl ⟨rfl, rfl, rfl, rfl, rfl⟩ rfl rfl rfl rfl rfl (by kernel_rfl) Tryd.func6 (by kernel_rfl)
    (of_decide_eq_true (by kernel_rfl)) (by unfold Func.isWrapper; first | (rw [if_pos (by decide +kernel)]; kernel_rfl) | (rw [if_neg (by decide +kernel)]; exact ⟨rfl, rfl⟩))
    (fun os started H enc _ => lifted os started H enc)
theorem card_holds : Rows.DigitsSumsCardSaid :=
  Claim7.holds_tied_plain_at .later [] [.data, .data, .data, .data] true _ false
    over (fun _ h => by cases h) (by kernel_rfl) (fun _ h => by cases h) digitsSums_row_tie rfl ⟨rfl, rfl⟩ (by kernel_rfl) rfl
    (fun f fn hf hfn => by
      obtain rfl : f = 6 := Option.some.inj ((show Tryd.prog.funcNamed "annulus/annuluslaw3.DigitsSums" = some 6 by kernel_rfl).symm.trans hf) |>.symm
      obtain rfl : fn = Tryd.f6 := (Option.some.inj (Tryd.func6.symm.trans hfn)).symm
      exact ⟨by kernel_rfl, fun j t ht => by
        rw [Tryd.params6] at ht
        have hm : t ∈ [22, 4, 5] := by have := Array.mem_of_getElem? ht; simp at this; simp; omega
        have hall : ([22, 4, 5].all fun u => !Tryd.prog.wantsStandIn u) = true := by kernel_rfl
        exact (show Tryd.prog.wantsStandIn t = false by simpa using List.all_eq_true.1 hall t hm)⟩)
    (by kernel_rfl)
#print axioms card_holds
end Go.Proofs.YtnnnolmldmbaaaaDoor.digitsSums
