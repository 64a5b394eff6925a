import Derived.Test.YtnjjfakjnkhhjaaGreatDoorJp
import Derived.Test.YtnjjfakjnkhhjaaGreatDoorArgE
import Derived.Test.YtnjjfakjnkhhjaaGreatDoorJs
import Derived.Test.YtnjjfakjnkhhjaaGreatDoorTie
import Derived.Test.YtnjjfakjnkhhjaaGreatDoorCards
import Derived.ProofKit
import Derived.OpenShut
import Derived.LaidMore
import Derived.Stop.Joined
import Derived.SevenTiedAt
import Derived.Lib.LaidTab
set_option maxRecDepth 100000
set_option linter.all false
namespace Go.Proofs.YtnjjfakjnkhhjaaGreatDoor.discOrder
open Go Go.Proofs.YtnjjfakjnkhhjaaGreatDoor
open Go.ChangeShapes Go.WideShapes Go.ChangeAt Go.RowKit
theorem own : ownKnob Tryz.prog.godebug = none := by kernel_rfl
theorem laidOut : laidOutB Tryz.prog = true := by kernel_rfl
abbrev laid : List (String × DataW Unit) := Rows.discOrderRow.laid
theorem gT : Tryz.prog.globalNamed "math/bits.deBruijn32tab" = some 4 := by kernel_rfl
theorem gTy : (Tryz.prog.globals[4]?).map (·.type) = some 174 := by kernel_rfl
def tabInts : List Int := Lib.deBruijn32tab.map Int.ofNat
theorem laid_is : laid = [("math/bits.deBruijn32tab", Lib.tabData .u8 tabInts), ("annulus/whole.sums", .agg [Lib.tabData .i64 [2, 0, 3], Lib.tabData .i64 [1, 0, 1], Lib.tabData .i64 [3, 0, 2]]), ("annulus/whole.products", .agg [Lib.tabData .i64 [1, 0, (-1)], Lib.tabData .i64 [0, 0, 0], Lib.tabData .i64 [(-1), 0, 1]]), ("annulus/dyad.orders", .agg [Lib.tabData .i64 [2, (-1), (-1)], Lib.tabData .i64 [1, 0, (-1)], Lib.tabData .i64 [1, 1, 2]]), ("annulus/round.outward", .agg [.agg [Lib.tabData .i64 [1, 1, 1, 1], Lib.tabData .i64 [0, 0, 0, 0]], .agg [Lib.tabData .i64 [0, 0, 0, 0], Lib.tabData .i64 [1, 1, 1, 1]], .agg [Lib.tabData .i64 [0, 0, 1, 1], Lib.tabData .i64 [0, 0, 1, 1]]]), ("annulus/disc.terms", .agg [.agg [.lit (.int .i64 0), .lit (.int .i64 1)], .agg [.lit (.int .i64 1), .lit (.int .i64 0)], .agg [.lit (.int .i64 1), .lit (.int .i64 1)]])] := rfl
theorem met {W : World} (h : laidMetH Tryz.prog laid W) : laidMet Tryz.prog [("math/bits.deBruijn32tab", Lib.tabData .u8 tabInts), ("annulus/whole.sums", .agg [Lib.tabData .i64 [2, 0, 3], Lib.tabData .i64 [1, 0, 1], Lib.tabData .i64 [3, 0, 2]]), ("annulus/whole.products", .agg [Lib.tabData .i64 [1, 0, (-1)], Lib.tabData .i64 [0, 0, 0], Lib.tabData .i64 [(-1), 0, 1]]), ("annulus/dyad.orders", .agg [Lib.tabData .i64 [2, (-1), (-1)], Lib.tabData .i64 [1, 0, (-1)], Lib.tabData .i64 [1, 1, 2]]), ("annulus/round.outward", .agg [.agg [Lib.tabData .i64 [1, 1, 1, 1], Lib.tabData .i64 [0, 0, 0, 0]], .agg [Lib.tabData .i64 [0, 0, 0, 0], Lib.tabData .i64 [1, 1, 1, 1]], .agg [Lib.tabData .i64 [0, 0, 1, 1], Lib.tabData .i64 [0, 0, 1, 1]]]), ("annulus/disc.terms", .agg [.agg [.lit (.int .i64 0), .lit (.int .i64 1)], .agg [.lit (.int .i64 1), .lit (.int .i64 0)], .agg [.lit (.int .i64 1), .lit (.int .i64 1)]])] W := by
 rw [MakeChecks.laidMetH_plain _ _ _ (by kernel_rfl)] at h
 rw [laid_is] at h
 exact h
theorem tab_of {W : World} (h : laidMetH Tryz.prog laid W) : Tab W := by
 have ht : Lib.TabIs Tryz.prog W "math/bits.deBruijn32tab" .u8 tabInts := Lib.tabIs_of_head gT gTy Tryz.underlying174 Tryz.underlying5 (by kernel_rfl) (by kernel_rfl) (met h)
 intro j hj
 have hl : tabInts.length = 32 := rfl
 have hl2 : Lib.deBruijn32tab.length = 32 := rfl
 have hc := ht.cell gT j (by rw [hl]; exact hj)
 rw [hc]
 congr 2
 unfold tabInts
 rw [List.getD_eq_getElem?_getD, List.getD_eq_getElem?_getD, List.getElem?_map, List.getElem?_eq_getElem (by rw [hl2]; exact hj)]
 rfl
theorem sums_of {W : World} (h : laidMetH Tryz.prog laid W) : SumsT W := by
 obtain ⟨ps, hv, _⟩ := met h
 obtain ⟨g, t, cs, fuel, p, hg, ht, hvar, hd⟩ := vars_read hv "annulus/whole.sums" _ (.tail _ (.head _))
 obtain rfl := Option.some.inj ((show Tryz.prog.globalNamed "annulus/whole.sums" = some 3 by kernel_rfl).symm.trans hg)
 obtain rfl := Option.some.inj ((show (Tryz.prog.globals[3]?).map (·.type) = some 130 by kernel_rfl).symm.trans ht)
 have hcs := cells3 Tryz.underlying130 Tryz.underlying129 Tryz.underlying3 (by kernel_rfl) (by kernel_rfl) (by kernel_rfl) hd
 intro k hk
 replace hk : k < 9 := hk
 have hc := World.var?_cell hg hvar k
 rw [hc]
 obtain ⟨l⟩ := cs
 simp only at hcs
 subst hcs
 obtain rfl | rfl | rfl | rfl | rfl | rfl | rfl | rfl | rfl : k = 0 ∨ k = 1 ∨ k = 2 ∨ k = 3 ∨ k = 4 ∨ k = 5 ∨ k = 6 ∨ k = 7 ∨ k = 8 := by omega
 all_goals rfl
theorem products_of {W : World} (h : laidMetH Tryz.prog laid W) : ProductsT W := by
 obtain ⟨ps, hv, _⟩ := met h
 obtain ⟨g, t, cs, fuel, p, hg, ht, hvar, hd⟩ := vars_read hv "annulus/whole.products" _ (.tail _ (.tail _ (.head _)))
 obtain rfl := Option.some.inj ((show Tryz.prog.globalNamed "annulus/whole.products" = some 2 by kernel_rfl).symm.trans hg)
 obtain rfl := Option.some.inj ((show (Tryz.prog.globals[2]?).map (·.type) = some 130 by kernel_rfl).symm.trans ht)
 have hcs := cells3 Tryz.underlying130 Tryz.underlying129 Tryz.underlying3 (by kernel_rfl) (by kernel_rfl) (by kernel_rfl) hd
 intro k hk
 replace hk : k < 9 := hk
 have hc := World.var?_cell hg hvar k
 rw [hc]
 obtain ⟨l⟩ := cs
 simp only at hcs
 subst hcs
 obtain rfl | rfl | rfl | rfl | rfl | rfl | rfl | rfl | rfl : k = 0 ∨ k = 1 ∨ k = 2 ∨ k = 3 ∨ k = 4 ∨ k = 5 ∨ k = 6 ∨ k = 7 ∨ k = 8 := by omega
 all_goals rfl
theorem orders_of {W : World} (h : laidMetH Tryz.prog laid W) : Ev.TabAt W 0 .i64 Ev.ordersL := by
 obtain ⟨ps, hv, _⟩ := met h
 obtain ⟨g, t, cs, fuel, p, hg, ht, hvar, hd⟩ := vars_read hv "annulus/dyad.orders" _ (.tail _ (.tail _ (.tail _ (.head _))))
 obtain rfl := Option.some.inj ((show Tryz.prog.globalNamed "annulus/dyad.orders" = some 0 by kernel_rfl).symm.trans hg)
 obtain rfl := Option.some.inj ((show (Tryz.prog.globals[0]?).map (·.type) = some 130 by kernel_rfl).symm.trans ht)
 have hcs := cells3 Tryz.underlying130 Tryz.underlying129 Tryz.underlying3 (by kernel_rfl) (by kernel_rfl) (by kernel_rfl) hd
 intro k hk
 replace hk : k < 9 := hk
 have hc := World.var?_cell hg hvar k
 rw [hc]
 obtain ⟨l⟩ := cs
 simp only at hcs
 subst hcs
 obtain rfl | rfl | rfl | rfl | rfl | rfl | rfl | rfl | rfl : k = 0 ∨ k = 1 ∨ k = 2 ∨ k = 3 ∨ k = 4 ∨ k = 5 ∨ k = 6 ∨ k = 7 ∨ k = 8 := by omega
 all_goals rfl
theorem outward_of {W : World} (h : laidMetH Tryz.prog laid W) : Ev.TabAt W 5 .i64 Ev.outwardL := by
 obtain ⟨ps, hv, _⟩ := met h
 obtain ⟨g, t, cs, fuel, p, hg, ht, hvar, hd⟩ := vars_read hv "annulus/round.outward" _ (.tail _ (.tail _ (.tail _ (.tail _ (.head _)))))
 obtain rfl := Option.some.inj ((show Tryz.prog.globalNamed "annulus/round.outward" = some 5 by kernel_rfl).symm.trans hg)
 obtain rfl := Option.some.inj ((show (Tryz.prog.globals[5]?).map (·.type) = some 180 by kernel_rfl).symm.trans ht)
 have hcs := Ev.cells324 Tryz.underlying180 Tryz.underlying179 Tryz.underlying178 Tryz.underlying2 (by kernel_rfl) (by kernel_rfl) (by kernel_rfl) (by kernel_rfl) hd
 intro k hk
 replace hk : k < 24 := hk
 have hc := World.var?_cell hg hvar k
 rw [hc]
 obtain ⟨l⟩ := cs
 simp only at hcs
 subst hcs
 obtain rfl | rfl | rfl | rfl | rfl | rfl | rfl | rfl | rfl | rfl | rfl | rfl | rfl | rfl | rfl | rfl | rfl | rfl | rfl | rfl | rfl | rfl | rfl | rfl : k = 0 ∨ k = 1 ∨ k = 2 ∨ k = 3 ∨ k = 4 ∨ k = 5 ∨ k = 6 ∨ k = 7 ∨ k = 8 ∨ k = 9 ∨ k = 10 ∨ k = 11 ∨ k = 12 ∨ k = 13 ∨ k = 14 ∨ k = 15 ∨ k = 16 ∨ k = 17 ∨ k = 18 ∨ k = 19 ∨ k = 20 ∨ k = 21 ∨ k = 22 ∨ k = 23 := by omega
 all_goals rfl
theorem terms_of {W : World} (h : laidMetH Tryz.prog laid W) : Ev.TabAt W 1 .i64 Ev.termsL := by
 obtain ⟨ps, hv, _⟩ := met h
 obtain ⟨g, t, cs, fuel, p, hg, ht, hvar, hd⟩ := vars_read hv "annulus/disc.terms" _ (.tail _ (.tail _ (.tail _ (.tail _ (.tail _ (.head _))))))
 obtain rfl := Option.some.inj ((show Tryz.prog.globalNamed "annulus/disc.terms" = some 1 by kernel_rfl).symm.trans hg)
 obtain rfl := Option.some.inj ((show (Tryz.prog.globals[1]?).map (·.type) = some 138 by kernel_rfl).symm.trans ht)
 have hcs := Ev.cells_a3 Tryz.underlying138 (n := 2) (by kernel_rfl) (by kernel_rfl) (fun {_ _ _} => ⟨fun h => Ev.cells_c Tryz.underlying137 rfl rfl rfl rfl Tryz.underlying3 (by kernel_rfl) (by kernel_rfl) h, fun h => Ev.cells_c Tryz.underlying137 rfl rfl rfl rfl Tryz.underlying3 (by kernel_rfl) (by kernel_rfl) h, fun h => Ev.cells_c Tryz.underlying137 rfl rfl rfl rfl Tryz.underlying3 (by kernel_rfl) (by kernel_rfl) h⟩) hd
 intro k hk
 replace hk : k < 6 := hk
 have hc := World.var?_cell hg hvar k
 rw [hc]
 obtain ⟨l⟩ := cs
 simp only at hcs
 subst hcs
 obtain rfl | rfl | rfl | rfl | rfl | rfl : k = 0 ∨ k = 1 ∨ k = 2 ∨ k = 3 ∨ k = 4 ∨ k = 5 := by omega
 all_goals rfl
theorem door_met (os : Os) (args : Array Value) : laidMetH Tryz.prog laid ((World.doorLaid Tryz.prog 60 os).forCall (fun _ _ => 0) ⟨#[], args, []⟩).memory :=
 laidMetH_of_parts3 (fuel := 8) (laidMet_of_run' 8 (by kernel_rfl) (by kernel_rfl)) (by kernel_rfl) (by kernel_rfl)
theorem lifted (os : Os) (started : os.Started) (H : Type) (enc : TypeId × Value → H) :
  ReturnsInHanded {} Tryz.checked os 6 .any (fun w args => (Rows.discOrderSpec.pre enc Tryz.prog Tryz.f6 [] false w args ∧ laidMetH Tryz.prog laid w) ∧ sizedMet enc Tryz.prog Tryz.f6 (OpenSpec.ofChange Rows.discOrderSpec) false w args)
   (Rows.discOrderSpec.post enc Tryz.prog Tryz.f6 false true false false) := by
 refine returnsInHanded_of_change_and (C := Tryz.checked) (X := fun w _ => laidMetH Tryz.prog laid w) (fun _ _ _ hh h => h.of_heap hh) own started (by kernel_rfl) Tryz.func6
  (ChangeSpec.witness_shaped (enc := enc) (C := Tryz.checked) (os := os) (X := fun w _ => laidMetH Tryz.prog laid w) false (World.doorLaid Tryz.prog 60 os) #[.agg #[.bool false, .slice none 0 0, .int .i64 0, .bool false, .slice none 0 0, .int .i64 0, .bool false, .slice none 0 0, .int .i64 0], .agg #[.bool false, .slice none 0 0, .int .i64 0, .bool false, .slice none 0 0, .int .i64 0, .bool false, .slice none 0 0, .int .i64 0], .agg #[.bool false, .slice none 0 0, .int .i64 0, .bool false, .slice none 0 0, .int .i64 0, .bool false, .slice none 0 0, .int .i64 0], .int .u8 0] 8 rfl (World.shaped_of_RefB (by kernel_rfl) (by kernel_rfl)) (by kernel_rfl) (by kernel_rfl) (by kernel_rfl) (door_met os _)) ?_
 intro W base args ds gs before hval0 hW _ _ hL _
 have hval : ∀ (j : Nat) t v, Tryz.f6.params[j]? = some t → args[j]? = some v → Value.okWide Tryz.prog W .any base t v := hval0
 have hW' := hW
 obtain ⟨p, q, hA0, hV, rfl, hfz, hnd⟩ := hW
 have hA : DataW.TrodAll enc Tryz.prog W 0 (fun _ => true) true Tryz.f6.params.toList args.toList ds p := hA0
 rw [Tryz.params6] at hA hval
 obtain ⟨v0, vs0, d0, ds0, p0, q0, hargs, rfl, rfl, h0, r0⟩ := trodAll_cons hA
 obtain ⟨v1, vs1, d1, ds1, p1, q1, rfl, rfl, rfl, h1, r1⟩ := trodAll_cons r0
 obtain ⟨v2, vs2, d2, ds2, p2, q2, rfl, rfl, rfl, h2, r2⟩ := trodAll_cons r1
 obtain ⟨v3, vs3, d3, ds3, p3, q3, rfl, rfl, rfl, h3, r3⟩ := trodAll_cons r2
 obtain ⟨rfl, rfl, rfl⟩ := trodAll_nil r3
 obtain rfl : args = #[v0, v1, v2, v3] := by cases args; simp_all
 obtain ⟨rfl, rfl⟩ := trodVars_none hV
 have k0 := h0
 have lt0 : ∀ x ∈ p0, x.block < W.heap.size := by obtain ⟨m, hm⟩ := k0; exact DataW.trod_lt m _ _ _ hm
 obtain ⟨s0, a0, len0, cap0, z0, e0, t0, f0, ken0, kap0, y0, g0, rs0, ra0, rlen0, rcap0, rz0, re0, rfl, ⟨w0, b0, x0, c0⟩, rw0, rb0⟩ := Ev.open_E (hval 0 30 v0 rfl rfl) h0
 have k1 := h1
 have lt1 : ∀ x ∈ p1, x.block < W.heap.size := by obtain ⟨m, hm⟩ := k1; exact DataW.trod_lt m _ _ _ hm
 obtain ⟨s1, a1, len1, cap1, z1, e1, t1, f1, ken1, kap1, y1, g1, rs1, ra1, rlen1, rcap1, rz1, re1, rfl, ⟨w1, b1, x1, c1⟩, rw1, rb1⟩ := Ev.open_E (hval 1 30 v1 rfl rfl) h1
 have k2 := h2
 have lt2 : ∀ x ∈ p2, x.block < W.heap.size := by obtain ⟨m, hm⟩ := k2; exact DataW.trod_lt m _ _ _ hm
 obtain ⟨s2, a2, len2, cap2, z2, e2, t2, f2, ken2, kap2, y2, g2, rs2, ra2, rlen2, rcap2, rz2, re2, rfl, ⟨w2, b2, x2, c2⟩, rw2, rb2⟩ := Ev.open_E (hval 2 30 v2 rfl rfl) h2
 obtain ⟨a3, rfl, rfl, rfl, w3⟩ := open_int Tryz.underlying5 (hval 3 5 v3 rfl rfl) h3
 have b3 := bounds_u8 w3
 clear hA0 hval0
 have hS : Ev.Sound Tryz.prog (Ev.GWL [0, 1, 2, 3, 4, 7]) 6 [.agg [.bool s0, .sl len0 (Ev.argC len0 z0), .int .i64 e0, .bool t0, .sl ken0 (Ev.argC ken0 y0), .int .i64 g0, .bool rs0, .sl rlen0 (Ev.argC rlen0 rz0), .int .i64 re0], .agg [.bool s1, .sl len1 (Ev.argC len1 z1), .int .i64 e1, .bool t1, .sl ken1 (Ev.argC ken1 y1), .int .i64 g1, .bool rs1, .sl rlen1 (Ev.argC rlen1 rz1), .int .i64 re1], .agg [.bool s2, .sl len2 (Ev.argC len2 z2), .int .i64 e2, .bool t2, .sl ken2 (Ev.argC ken2 y2), .int .i64 g2, .bool rs2, .sl rlen2 (Ev.argC rlen2 rz2), .int .i64 re2], .int .u8 a3] (· = .bool true) := Ev.good_DiscOrder.2 [.agg [.bool s0, .sl len0 (Ev.argC len0 z0), .int .i64 e0, .bool t0, .sl ken0 (Ev.argC ken0 y0), .int .i64 g0, .bool rs0, .sl rlen0 (Ev.argC rlen0 rz0), .int .i64 re0], .agg [.bool s1, .sl len1 (Ev.argC len1 z1), .int .i64 e1, .bool t1, .sl ken1 (Ev.argC ken1 y1), .int .i64 g1, .bool rs1, .sl rlen1 (Ev.argC rlen1 rz1), .int .i64 re1], .agg [.bool s2, .sl len2 (Ev.argC len2 z2), .int .i64 e2, .bool t2, .sl ken2 (Ev.argC ken2 y2), .int .i64 g2, .bool rs2, .sl rlen2 (Ev.argC rlen2 rz2), .int .i64 re2], .int .u8 a3] ⟨Ev.okXD_mk (fun h => Ev.argC_ok w0 h) b0 (fun h => Ev.argC_ok x0 h) c0 (fun h => Ev.argC_ok rw0 h) rb0, Ev.okXD_mk (fun h => Ev.argC_ok w1 h) b1 (fun h => Ev.argC_ok x1 h) c1 (fun h => Ev.argC_ok rw1 h) rb1, Ev.okXD_mk (fun h => Ev.argC_ok w2 h) b2 (fun h => Ev.argC_ok x2 h) c2 (fun h => Ev.argC_ok rw2 h) rb2, b3⟩
 refine (Ev.law_true hS (Ev.GWL.cons (Ev.laid_one (r := 0) rfl (Ev.laid_tab (tab_of hL))) (Ev.GWL.cons (Ev.laid_one (r := 1) rfl (orders_of hL)) (Ev.GWL.cons (Ev.laid_one (r := 2) rfl (sums_of hL)) (Ev.GWL.cons (Ev.laid_one (r := 3) rfl (products_of hL)) (Ev.GWL.cons (Ev.laid_one (r := 4) rfl (outward_of hL)) (Ev.GWL.cons (Ev.laid_one (r := 7) rfl (terms_of hL)) Ev.GWL.nil)))))) (Ev.denL1 (Ev.argE_den w0 x0 rw0 s0 t0 rs0 e0 g0 re0) (Ev.denL1 (Ev.argE_den w1 x1 rw1 s1 t1 rs1 e1 g1 re1) (Ev.denL1 (Ev.argE_den w2 x2 rw2 s2 t2 rs2 e2 g2 re2) (Ev.denL1 (Ev.den_i .u8 a3) Ev.denL0))))).mono fun e W' ⟨he, bel⟩ => ?_
 subst he
 exact ⟨_, rfl, _, _, _, [], _, [], hW', trodAll_mk1 (shut_bool Tryz.underlying4 _), (trodAll_cons_mk (Below.trod laidOut (by kernel_rfl) (of_decide_eq_true (by kernel_rfl)) k0 bel lt0) (trodAll_cons_mk (Below.trod laidOut (by kernel_rfl) (of_decide_eq_true (by kernel_rfl)) k1 bel lt1) (trodAll_cons_mk (Below.trod laidOut (by kernel_rfl) (of_decide_eq_true (by kernel_rfl)) k2 bel lt2) (trodAll_cons_mk (shut_int Tryz.underlying5 w3) trodAll_mk0)))), rfl, bel.frame _, fun h => by cases h⟩
theorem over : Rows.discOrderRow.holds Tryz.pinned (OpenSpec.ofChange Rows.discOrderSpec) :=
 OpenClaim.holds_of_wide 6 Tryz.f6 rfl rfl rfl rfl rfl rfl rfl ⟨rfl, rfl, rfl, rfl, rfl⟩ rfl rfl rfl rfl rfl (by kernel_rfl) Tryz.func6 (by kernel_rfl)
  (of_decide_eq_true (by kernel_rfl)) (by unfold Func.isWrapper; first | (rw [if_pos (by decide +kernel)]; kernel_rfl) | (rw [if_neg (by decide +kernel)]; exact ⟨rfl, rfl⟩))
  (fun os started H enc _ => lifted os started H enc)
theorem card_holds : Rows.DiscOrderCardSaid :=
 Claim7.holds_tied_plain_at .later [] [.data, .data, .data, .data, .data, .data] true _ false
  over (fun _ h => by cases h) (by kernel_rfl) (fun _ h => by cases h) discOrder_row_tie rfl ⟨rfl, rfl⟩ (by kernel_rfl) rfl
  (fun f fn hf hfn => by
    obtain rfl : f = 6 := Option.some.inj ((show Tryz.prog.funcNamed "annulus/annuluslaw10.DiscOrder" = some 6 by kernel_rfl).symm.trans hf) |>.symm
    obtain rfl : fn = Tryz.f6 := (Option.some.inj (Tryz.func6.symm.trans hfn)).symm
    exact ⟨by kernel_rfl, fun j t ht => by
     rw [Tryz.params6] at ht
     have hm : t ∈ [30, 5] := by have := Array.mem_of_getElem? ht; simp at this; simp; omega
     have hall : ([30, 5].all fun u => !Tryz.prog.wantsStandIn u) = true := by kernel_rfl
     exact (show Tryz.prog.wantsStandIn t = false by simpa using List.all_eq_true.1 hall t hm)⟩)
  (by kernel_rfl)
#print axioms card_holds
end Go.Proofs.YtnjjfakjnkhhjaaGreatDoor.discOrder
