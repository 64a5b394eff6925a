/- The law GaussTurns, proved: for every input that can be read the law returns true and leaves its arguments as they were. Condition: the tables that it reads are as the program's text lays them, which the card ties. -/
import Derived.Test.YtcamkbphognoaaaGreatDoorGk
import Derived.Test.YtcamkbphognoaaaGreatDoorXa
import Derived.Test.YtcamkbphognoaaaGreatDoorTie
import Derived.Test.YtcamkbphognoaaaGreatDoorCards
import Derived.ProofKit
import Derived.OpenShut
import Derived.LaidMore
import Derived.Stop.Joined
import Derived.SevenTiedAt
import Derived.Lib.LaidTab
namespace Go.Proofs.YtcamkbphognoaaaGreatDoor.Ev
open Go Go.RowKit Go.ChangeShapes Go.WideShapes Go.ChangeAt
set_option linter.unusedSimpArgs false
set_option linter.unusedVariables false
theorem argX_den {w : World} {A B : Option Addr} {n c m d : Nat} {zs ys : List Nat} (h : Arg w A n c zs) (k : Arg w B m d ys) (s t : Bool) (e f : Int) :
    den ⟨w, fun _ => False, fun _ => none⟩ (.agg [.bool s, .sl n (argC n zs), .int .i64 e, .bool t, .sl m (argC m ys), .int .i64 f]) (.agg #[.bool s, .slice A n c, .int .i64 e, .bool t, .slice B m d, .int .i64 f]) := by
  rw [den_agg]
  refine ⟨_, rfl, ?_⟩
  simp only [denL]
  exact ⟨_, _, rfl, by simp only [den], _, _, rfl, argC_den h, _, _, rfl, by simp only [den], _, _, rfl, by simp only [den], _, _, rfl, argC_den k, _, _, rfl, by simp only [den], rfl⟩
set_option maxRecDepth 100000 in
theorem open_Dc {H : Type} {enc : TypeId × Value → H} {W : World} {fuel : Nat} {c0 c1 c2 : Value} {x : DataW H × List MemPlace} (hf : DataW.trod enc Tryz.prog W 0 (fun _ => true) true fuel 26 [c0, c1, c2] = some x) :
    ∃ s A n c zs e, [c0, c1, c2] = [.bool s, .slice A n c, .int .i64 e] ∧ Arg W A n c zs ∧ -9223372036854775808 ≤ e ∧ e ≤ 9223372036854775807 := by
  obtain ⟨z0, z1, m0, hx0, _, hz0, hz1⟩ := trod_struct2 Tryz.underlying26 hf
  have hcI : Tryz.prog.cellsOf 24 = 2 := by kernel_rfl
  have hcE : Tryz.prog.cellsOf 3 = 1 := by kernel_rfl
  obtain ⟨ee, e2, _, hw⟩ := DataW.trod_int Tryz.underlying3 hz1
  rw [hcE] at e2
  simp at e2
  subst e2
  rw [hcI] at hz0
  obtain ⟨y0, y1, m, hx, _, hy0, hy1⟩ := trod_struct2 Tryz.underlying24 hz0
  obtain ⟨b, e0, _⟩ := DataW.trod_bool Tryz.underlying4 hy0
  have hc0 : Tryz.prog.cellsOf 4 = 1 := by kernel_rfl
  have hc1 : Tryz.prog.cellsOf 22 = 1 := by kernel_rfl
  rw [hc0] at e0
  simp at e0
  subst e0
  have hbd := bounds_i64 hw
  rcases open_ints Tryz.underlying22 Tryz.underlying103 (by kernel_rfl) hy1 with ⟨hcs, _⟩ | ⟨x, ln, c, zs, hcs, _, hl, hm, hz, _, hcell, hwz⟩
  · rw [hc1] at hcs
    simp at hcs
    subst hcs
    exact ⟨b, none, 0, 0, [], _, rfl, Arg.none W, hbd⟩
  · rw [hc1] at hcs
    simp at hcs
    subst hcs
    exact ⟨b, some x, ln, c, _, _, rfl, Arg.of_ints hl (by simpa using hz) hcell hwz, hbd⟩
set_option maxRecDepth 100000 in
theorem open_G {H : Type} {enc : TypeId × Value → H} {W : World} {base : Nat} {v : Value} {d : DataW H} {p : List MemPlace} (hval : Value.okWide Tryz.prog W .any base 50 v) (h : DataW.Trod enc Tryz.prog W 0 (fun _ => true) true 50 v d p) :
    ∃ s A n c zs e t B m k ys f, v = .agg #[.bool s, .slice A n c, .int .i64 e, .bool t, .slice B m k, .int .i64 f] ∧ Arg W A n c zs ∧ (-9223372036854775808 ≤ e ∧ e ≤ 9223372036854775807) ∧ Arg W B m k ys ∧ -9223372036854775808 ≤ f ∧ f ≤ 9223372036854775807 := by
  obtain ⟨cs, rfl, hsz⟩ := okWide_struct Tryz.underlying50 hval
  rw [show Tryz.prog.cellsOf 50 = 6 from by kernel_rfl] at hsz
  obtain ⟨l⟩ := cs
  match l, hsz with
  | [c0, c1, c2, c3, c4, c5], _ =>
  obtain ⟨fuel, hf⟩ := h
  obtain ⟨z0, z1, m0, hx0, _, hz0, hz1⟩ := trod_struct2 Tryz.underlying50 hf
  have hcD : Tryz.prog.cellsOf 26 = 3 := by kernel_rfl
  rw [hcD] at hz0 hz1
  obtain ⟨s, A, n, c, zs, e, e1, w1, b1⟩ := open_Dc hz0
  obtain ⟨t, B, m, k, ys, f, e2, w2, b2⟩ := open_Dc hz1
  simp only [List.cons.injEq, and_true] at e1 e2
  obtain ⟨rfl, rfl, rfl⟩ := e1
  obtain ⟨rfl, rfl, rfl⟩ := e2
  exact ⟨_, _, _, _, _, _, _, _, _, _, _, _, rfl, w1, b1, w2, b2⟩
end Go.Proofs.YtcamkbphognoaaaGreatDoor.Ev
namespace Go.Proofs.YtcamkbphognoaaaGreatDoor.gaussTurns
open Go Go.Proofs.YtcamkbphognoaaaGreatDoor
open Go.ChangeShapes Go.WideShapes Go.ChangeAt Go.RowKit

theorem own : ownKnob Tryz.prog.godebug = none := by kernel_rfl
theorem laidOut : laidOutB Tryz.prog = true := by kernel_rfl
/-- the list of what is laid. -/
abbrev laid : List (String × DataW Unit) := Rows.gaussTurnsRow.laid
theorem gT : Tryz.prog.globalNamed "math/bits.deBruijn32tab" = some 6 := by kernel_rfl
theorem gTy : (Tryz.prog.globals[6]?).map (·.type) = some 156 := by kernel_rfl
def tabInts : List Int := Lib.deBruijn32tab.map Int.ofNat
theorem laid_is : laid = [("math/bits.deBruijn32tab", Lib.tabData .u8 tabInts), ("annulus/whole.sums", .agg [Lib.tabData .i64 [2, 0, 3], Lib.tabData .i64 [1, 0, 1], Lib.tabData .i64 [3, 0, 2]]), ("annulus/whole.products", .agg [Lib.tabData .i64 [1, 0, (-1)], Lib.tabData .i64 [0, 0, 0], Lib.tabData .i64 [(-1), 0, 1]]), ("annulus/dyad.orders", .agg [Lib.tabData .i64 [2, (-1), (-1)], Lib.tabData .i64 [1, 0, (-1)], Lib.tabData .i64 [1, 1, 2]])] := rfl
theorem met {W : World} (h : laidMetH Tryz.prog laid W) : laidMet Tryz.prog [("math/bits.deBruijn32tab", Lib.tabData .u8 tabInts), ("annulus/whole.sums", .agg [Lib.tabData .i64 [2, 0, 3], Lib.tabData .i64 [1, 0, 1], Lib.tabData .i64 [3, 0, 2]]), ("annulus/whole.products", .agg [Lib.tabData .i64 [1, 0, (-1)], Lib.tabData .i64 [0, 0, 0], Lib.tabData .i64 [(-1), 0, 1]]), ("annulus/dyad.orders", .agg [Lib.tabData .i64 [2, (-1), (-1)], Lib.tabData .i64 [1, 0, (-1)], Lib.tabData .i64 [1, 1, 2]])] W := by
  rw [MakeChecks.laidMetH_plain _ _ _ (by kernel_rfl)] at h
  rw [laid_is] at h
  exact h
theorem tab_of {W : World} (h : laidMetH Tryz.prog laid W) : Tab W := by
  have ht : Lib.TabIs Tryz.prog W "math/bits.deBruijn32tab" .u8 tabInts := Lib.tabIs_of_head gT gTy Tryz.underlying156 Tryz.underlying5 (by kernel_rfl) (by kernel_rfl) (met h)
  intro j hj
  have hl : tabInts.length = 32 := rfl
  have hl2 : Lib.deBruijn32tab.length = 32 := rfl
  have hc := ht.cell gT j (by rw [hl]; exact hj)
  rw [hc]
  congr 2
  unfold tabInts
  rw [List.getD_eq_getElem?_getD, List.getD_eq_getElem?_getD, List.getElem?_map, List.getElem?_eq_getElem (by rw [hl2]; exact hj)]
  rfl
theorem sums_of {W : World} (h : laidMetH Tryz.prog laid W) : SumsT W := by
  obtain ⟨ps, hv, _⟩ := met h
  obtain ⟨g, t, cs, fuel, p, hg, ht, hvar, hd⟩ := vars_read hv "annulus/whole.sums" _ (.tail _ (.head _))
  obtain rfl := Option.some.inj ((show Tryz.prog.globalNamed "annulus/whole.sums" = some 4 by kernel_rfl).symm.trans hg)
  obtain rfl := Option.some.inj ((show (Tryz.prog.globals[4]?).map (·.type) = some 109 by kernel_rfl).symm.trans ht)
  have hcs := cells3 Tryz.underlying109 Tryz.underlying108 Tryz.underlying3 (by kernel_rfl) (by kernel_rfl) (by kernel_rfl) hd
  intro k hk
  replace hk : k < 9 := hk
  have hc := World.var?_cell hg hvar k
  rw [hc]
  obtain ⟨l⟩ := cs
  simp only at hcs
  subst hcs
  obtain rfl | rfl | rfl | rfl | rfl | rfl | rfl | rfl | rfl : k = 0 ∨ k = 1 ∨ k = 2 ∨ k = 3 ∨ k = 4 ∨ k = 5 ∨ k = 6 ∨ k = 7 ∨ k = 8 := by omega
  all_goals rfl
theorem products_of {W : World} (h : laidMetH Tryz.prog laid W) : ProductsT W := by
  obtain ⟨ps, hv, _⟩ := met h
  obtain ⟨g, t, cs, fuel, p, hg, ht, hvar, hd⟩ := vars_read hv "annulus/whole.products" _ (.tail _ (.tail _ (.head _)))
  obtain rfl := Option.some.inj ((show Tryz.prog.globalNamed "annulus/whole.products" = some 3 by kernel_rfl).symm.trans hg)
  obtain rfl := Option.some.inj ((show (Tryz.prog.globals[3]?).map (·.type) = some 109 by kernel_rfl).symm.trans ht)
  have hcs := cells3 Tryz.underlying109 Tryz.underlying108 Tryz.underlying3 (by kernel_rfl) (by kernel_rfl) (by kernel_rfl) hd
  intro k hk
  replace hk : k < 9 := hk
  have hc := World.var?_cell hg hvar k
  rw [hc]
  obtain ⟨l⟩ := cs
  simp only at hcs
  subst hcs
  obtain rfl | rfl | rfl | rfl | rfl | rfl | rfl | rfl | rfl : k = 0 ∨ k = 1 ∨ k = 2 ∨ k = 3 ∨ k = 4 ∨ k = 5 ∨ k = 6 ∨ k = 7 ∨ k = 8 := by omega
  all_goals rfl
theorem orders_of {W : World} (h : laidMetH Tryz.prog laid W) : Ev.TabAt W 2 .i64 Ev.ordersL := by
  obtain ⟨ps, hv, _⟩ := met h
  obtain ⟨g, t, cs, fuel, p, hg, ht, hvar, hd⟩ := vars_read hv "annulus/dyad.orders" _ (.tail _ (.tail _ (.tail _ (.head _))))
  obtain rfl := Option.some.inj ((show Tryz.prog.globalNamed "annulus/dyad.orders" = some 2 by kernel_rfl).symm.trans hg)
  obtain rfl := Option.some.inj ((show (Tryz.prog.globals[2]?).map (·.type) = some 109 by kernel_rfl).symm.trans ht)
  have hcs := cells3 Tryz.underlying109 Tryz.underlying108 Tryz.underlying3 (by kernel_rfl) (by kernel_rfl) (by kernel_rfl) hd
  intro k hk
  replace hk : k < 9 := hk
  have hc := World.var?_cell hg hvar k
  rw [hc]
  obtain ⟨l⟩ := cs
  simp only at hcs
  subst hcs
  obtain rfl | rfl | rfl | rfl | rfl | rfl | rfl | rfl | rfl : k = 0 ∨ k = 1 ∨ k = 2 ∨ k = 3 ∨ k = 4 ∨ k = 5 ∨ k = 6 ∨ k = 7 ∨ k = 8 := by omega
  all_goals rfl
theorem door_met (os : Os) (args : Array Value) : laidMetH Tryz.prog laid ((World.doorLaid Tryz.prog 87 os).forCall (fun _ _ => 0) ⟨#[], args, []⟩).memory :=
  laidMetH_of_parts3 (fuel := 8) (laidMet_of_run' 8 (by kernel_rfl) (by kernel_rfl)) (by kernel_rfl) (by kernel_rfl)

set_option maxRecDepth 100000 in
theorem lifted (os : Os) (started : os.Started) (H : Type) (enc : TypeId × Value → H) :
    ReturnsInHanded {} Tryz.checked os 8 .any (fun w args => (Rows.gaussTurnsSpec.pre enc Tryz.prog Tryz.f8 [] false w args ∧ laidMetH Tryz.prog laid w) ∧ sizedMet enc Tryz.prog Tryz.f8 (OpenSpec.ofChange Rows.gaussTurnsSpec) false w args)
      (Rows.gaussTurnsSpec.post enc Tryz.prog Tryz.f8 false true false false) := by
  refine returnsInHanded_of_change_and (C := Tryz.checked) (X := fun w _ => laidMetH Tryz.prog laid w) (fun _ _ _ hh h => h.of_heap hh) own started (by kernel_rfl) Tryz.func8
    (ChangeSpec.witness_shaped (enc := enc) (C := Tryz.checked) (os := os) (X := fun w _ => laidMetH Tryz.prog laid w) false (World.doorLaid Tryz.prog 87 os) #[.agg #[.bool false, .slice none 0 0, .int .i64 0, .bool false, .slice none 0 0, .int .i64 0], .int .u8 0, .int .u8 0] 8 rfl (World.shaped_of_RefB (by kernel_rfl) (by kernel_rfl)) (by kernel_rfl) (by kernel_rfl) (by kernel_rfl) (door_met os _)) ?_
  intro W base args ds gs before hval0 hW _ _ hL _
  have hval : ∀ (j : Nat) t v, Tryz.f8.params[j]? = some t → args[j]? = some v → Value.okWide Tryz.prog W .any base t v := hval0
  have hW' := hW
  obtain ⟨p, q, hA0, hV, rfl, hfz, hnd⟩ := hW
  have hA : DataW.TrodAll enc Tryz.prog W 0 (fun _ => true) true Tryz.f8.params.toList args.toList ds p := hA0
  rw [Tryz.params8] at hA hval
  obtain ⟨v0, vs0, d0, ds0, p0, q0, hargs, rfl, rfl, h0, r0⟩ := trodAll_cons hA
  obtain ⟨v1, vs1, d1, ds1, p1, q1, rfl, rfl, rfl, h1, r1⟩ := trodAll_cons r0
  obtain ⟨v2, vs2, d2, ds2, p2, q2, rfl, rfl, rfl, h2, r2⟩ := trodAll_cons r1
  obtain ⟨rfl, rfl, rfl⟩ := trodAll_nil r2
  obtain rfl : args = #[v0, v1, v2] := by cases args; simp_all
  obtain ⟨rfl, rfl⟩ := trodVars_none hV
  have k0 := h0
  have lt0 : ∀ x ∈ p0, x.block < W.heap.size := by obtain ⟨m, hm⟩ := k0; exact DataW.trod_lt m _ _ _ hm
  obtain ⟨s0, a0, len0, cap0, z0, e0, t0, f0, ken0, kap0, y0, g0, rfl, w0, b0, x0, c0⟩ := Ev.open_G (hval 0 50 v0 rfl rfl) h0
  obtain ⟨a1, rfl, rfl, rfl, w1⟩ := open_int Tryz.underlying5 (hval 1 5 v1 rfl rfl) h1
  have b1 := bounds_u8 w1
  obtain ⟨a2, rfl, rfl, rfl, w2⟩ := open_int Tryz.underlying5 (hval 2 5 v2 rfl rfl) h2
  have b2 := bounds_u8 w2
  clear hA0 hval0
  have hS : Ev.Sound Tryz.prog (Ev.GWL [0, 1, 2, 3]) 8 [.agg [.bool s0, .sl len0 (Ev.argC len0 z0), .int .i64 e0, .bool t0, .sl ken0 (Ev.argC ken0 y0), .int .i64 g0], .int .u8 a1, .int .u8 a2] (· = .bool true) := Ev.good_GaussTurns.2 [.agg [.bool s0, .sl len0 (Ev.argC len0 z0), .int .i64 e0, .bool t0, .sl ken0 (Ev.argC ken0 y0), .int .i64 g0], .int .u8 a1, .int .u8 a2] ⟨Ev.okX_mk (fun h => Ev.argC_ok w0 h) b0 (fun h => Ev.argC_ok x0 h) c0, b1, b2⟩
  refine (Ev.law_true hS (Ev.GWL.cons (Ev.laid_one (r := 0) rfl (Ev.laid_tab (tab_of hL))) (Ev.GWL.cons (Ev.laid_one (r := 1) rfl (orders_of hL)) (Ev.GWL.cons (Ev.laid_one (r := 2) rfl (sums_of hL)) (Ev.GWL.cons (Ev.laid_one (r := 3) rfl (products_of hL)) Ev.GWL.nil)))) (Ev.denL1 (Ev.argX_den w0 x0 s0 t0 e0 g0) (Ev.denL1 (Ev.den_i .u8 a1) (Ev.denL1 (Ev.den_i .u8 a2) Ev.denL0)))).mono fun e W' ⟨he, bel⟩ => ?_
  subst he
  exact ⟨_, rfl, _, _, _, [], _, [], hW', trodAll_mk1 (shut_bool Tryz.underlying4 _), (trodAll_cons_mk (Below.trod laidOut (by kernel_rfl) (of_decide_eq_true (by kernel_rfl)) k0 bel lt0) (trodAll_cons_mk (shut_int Tryz.underlying5 w1) (trodAll_cons_mk (shut_int Tryz.underlying5 w2) trodAll_mk0))), rfl, bel.frame _, fun h => by cases h⟩

theorem over : Rows.gaussTurnsRow.holds Tryz.pinned (OpenSpec.ofChange Rows.gaussTurnsSpec) :=
  OpenClaim.holds_of_wide 8 Tryz.f8 rfl rfl rfl rfl rfl rfl rfl ⟨rfl, rfl, rfl, rfl, rfl⟩ rfl rfl rfl rfl rfl (by kernel_rfl) Tryz.func8 (by kernel_rfl)
    (of_decide_eq_true (by kernel_rfl)) (by unfold Func.isWrapper; first | (rw [if_pos (by decide +kernel)]; kernel_rfl) | (rw [if_neg (by decide +kernel)]; exact ⟨rfl, rfl⟩))
    (fun os started H enc _ => lifted os started H enc)
theorem card_holds : Rows.GaussTurnsCardSaid :=
  Claim7.holds_tied_plain_at .later [] [.data, .data, .data, .data] true _ false
    over (fun _ h => by cases h) (by kernel_rfl) (fun _ h => by cases h) gaussTurns_row_tie rfl ⟨rfl, rfl⟩ (by kernel_rfl) rfl
    (fun f fn hf hfn => by
      obtain rfl : f = 8 := Option.some.inj ((show Tryz.prog.funcNamed "annulus/annuluslaw8.GaussTurns" = some 8 by kernel_rfl).symm.trans hf) |>.symm
      obtain rfl : fn = Tryz.f8 := (Option.some.inj (Tryz.func8.symm.trans hfn)).symm
      exact ⟨by kernel_rfl, fun j t ht => by
        rw [Tryz.params8] at ht
        have hm : t ∈ [50, 5] := by have := Array.mem_of_getElem? ht; simp at this; simp; omega
        have hall : ([50, 5].all fun u => !Tryz.prog.wantsStandIn u) = true := by kernel_rfl
        exact (show Tryz.prog.wantsStandIn t = false by simpa using List.all_eq_true.1 hall t hm)⟩)
    (by kernel_rfl)
#print axioms card_holds
end Go.Proofs.YtcamkbphognoaaaGreatDoor.gaussTurns
