/- The types and tables of the program, as the calculus reads them. -/
import Derived.Test.YtkijhcflomjdbaaDoorEvs
namespace Go.Proofs.YtkijhcflomjdbaaDoor.Ev
open Go Go.RowKit
set_option linter.unusedSimpArgs false
set_option linter.unusedVariables false
def tis : List (Nat × TI) := [
  (24, ⟨2, .agg #[.bool false, .slice none 0 0], .struct [(0, 4), (1, 22)], 32⟩),
  (26, ⟨3, .agg #[.bool false, .slice none 0 0, .int .i64 0], .struct [(0, 24), (2, 3)], 40⟩),
  (3, ⟨1, .int .i64 0, .intk .i64, 8⟩),
  (2, ⟨1, .int .i64 0, .intk .i64, 8⟩),
  (5, ⟨1, .int .u8 0, .intk .u8, 1⟩),
  (39, ⟨1, .int .i8 0, .intk .i8, 1⟩),
  (44, ⟨1, .int .i16 0, .intk .i16, 2⟩),
  (79, ⟨1, .int .u32 0, .intk .u32, 4⟩),
  (80, ⟨1, .int .u64 0, .intk .u64, 8⟩),
  (4, ⟨1, .bool false, .boolk, 1⟩),
  (9, ⟨1, .string ⟨#[]⟩, .str, 16⟩),
  (22, ⟨1, .slice none 0 0, .slice 79, 24⟩),
  (86, ⟨4, .agg #[.int .i64 0, .int .i64 0, .int .i64 0, .int .i64 0], .array 4 2, 32⟩),
  (87, ⟨8, .agg #[.int .i64 0, .int .i64 0, .int .i64 0, .int .i64 0, .int .i64 0, .int .i64 0, .int .i64 0, .int .i64 0], .array 2 86, 64⟩),
  (88, ⟨24, .agg #[.int .i64 0, .int .i64 0, .int .i64 0, .int .i64 0, .int .i64 0, .int .i64 0, .int .i64 0, .int .i64 0, .int .i64 0, .int .i64 0, .int .i64 0, .int .i64 0, .int .i64 0, .int .i64 0, .int .i64 0, .int .i64 0, .int .i64 0, .int .i64 0, .int .i64 0, .int .i64 0, .int .i64 0, .int .i64 0, .int .i64 0, .int .i64 0], .array 3 87, 192⟩),
  (65, ⟨3, .agg #[.int .i64 0, .int .i64 0, .int .i64 0], .array 3 3, 24⟩),
  (66, ⟨9, .agg #[.int .i64 0, .int .i64 0, .int .i64 0, .int .i64 0, .int .i64 0, .int .i64 0, .int .i64 0, .int .i64 0, .int .i64 0], .array 3 65, 72⟩)]
def ti (t : Nat) : Option TI := findT t tis
  where findT (t : Nat) : List (Nat × TI) → Option TI
  | [] => none
  | p :: ps => if t = p.1 then some p.2 else findT t ps
theorem tis_nil : ∀ p ∈ ([] : List (Nat × TI)), TI.ok Tryd.prog p.1 p.2 := fun _ h => by cases h
theorem tis_cons {p : Nat × TI} {ps : List (Nat × TI)} (h1 : (Tryd.prog.info? p.1).map (fun j => (j.size, j.zero)) = some (p.2.size, some p.2.zv)) (h2 : shapeOf Tryd.prog p.1 = p.2.k) (h3 : p.2.k ≠ .other) (h4 : (Tryd.prog.info? p.1).map (·.bytes) = some p.2.bytes) (h : ∀ p ∈ ps, TI.ok Tryd.prog p.1 p.2) : ∀ q ∈ p :: ps, TI.ok Tryd.prog q.1 q.2 := fun q hq => by
  rcases List.mem_cons.1 hq with rfl | hq
  · exact ⟨h1, h2, h3, h4⟩
  · exact h q hq
theorem tis_ok : ∀ p ∈ tis, TI.ok Tryd.prog p.1 p.2 := by
  unfold tis
  repeat' (refine tis_cons (by kernel_rfl) (by kernel_rfl) (by simp) (by kernel_rfl) ?_)
  exact tis_nil
theorem ti_ok (t : Nat) (i : TI) (h : ti t = some i) : TI.ok Tryd.prog t i := by
  have key : ∀ l : List (Nat × TI), (∀ p ∈ l, TI.ok Tryd.prog p.1 p.2) → ti.findT t l = some i → TI.ok Tryd.prog t i := by
    intro l
    induction l with
    | nil => intro _ h; cases h
    | cons p ps ih =>
      intro hl h
      simp only [ti.findT] at h
      split at h
      · rename_i ht; cases h; rw [ht]; exact hl p (by simp)
      · exact ih (fun q hq => hl q (by simp [hq])) h
  exact key tis tis_ok h
/-- numbers in a table. -/
def tabD (k : IntKind) (l : List Int) : List D := l.map fun z => .int k z
def TabAt (w : World) (g : Nat) (k : IntKind) (l : List Int) : Prop := ∀ j, j < l.length → w.cell? ⟨g, j, none⟩ = some (.int k (l.getD j 0))
theorem tab_GT {w : World} {g : Nat} {k : IntKind} {l : List Int} (h : TabAt w g k l) : GT w g (tabD k l) := by
  refine ⟨l.map fun z => .int k z, fun E => ?_, fun j v hj => ?_⟩
  · have key : ∀ l : List Int, denL E (tabD k l) (l.map fun z => .int k z) := fun l => by
      unfold tabD
      induction l with
      | nil => simp [denL]
      | cons z l ih => simp only [List.map_cons, denL, den]; exact ⟨_, _, rfl, rfl, ih⟩
    exact key l
  · simp only [List.getElem?_map, Option.map_eq_some_iff] at hj
    obtain ⟨z, hz, rfl⟩ := hj
    have hlt : j < l.length := lt_get hz
    rw [h j hlt, List.getD_eq_getElem?_getD, hz]; rfl
theorem TabAt.bel {w w' : World} {g : Nat} {k : IntKind} {l : List Int} (h : TabAt w g k l) (hb : Below w.heap.size w w') : TabAt w' g k l := fun j hj => by
  have hc := h j hj
  have hlt : g < w.heap.size := World.block_lt_of_cell? w ⟨g, j, none⟩ hc
  rw [hb.cell (p := ⟨g, j, none⟩) hlt]; exact hc
def ordersL : List Int := [2, -1, -1, 1, 0, -1, 1, 1, 2]
/-- what is laid in memory. -/
structure GW (w : World) : Prop where
  tab : Tab w
  sums : SumsT w
  orders : TabAt w 0 .i64 ordersL
theorem GW.bel (w w' : World) (hb : Below w.heap.size w w') (h : GW w) : GW w' := ⟨h.tab.bel hb, h.sums.bel hb, h.orders.bel hb⟩
/-- and the table of products. -/
structure GWM (w : World) : Prop where
  base : GW w
  products : ProductsT w
theorem GWM.bel (w w' : World) (hb : Below w.heap.size w w') (h : GWM w) : GWM w' := ⟨GW.bel w w' hb h.base, h.products.bel hb⟩
def outwardL : List Int := [1, 1, 1, 1, 0, 0, 0, 0, 0, 0, 0, 0, 1, 1, 1, 1, 0, 0, 1, 1, 0, 0, 1, 1]
/-- and the table of modes. -/
structure GWR (w : World) : Prop where
  base : GW w
  outward : TabAt w 1 .i64 outwardL
theorem GWR.bel (w w' : World) (hb : Below w.heap.size w w') (h : GWR w) : GWR w' := ⟨GW.bel w w' hb h.base, h.outward.bel hb⟩
theorem Good.mono {P : Program} {G G' : World → Prop} {N : Nums} {f : Nat} {s : FnSpec} (h : Good P G N f s) (hg : ∀ w, G' w → G w) : Good P G' N f s :=
  ⟨h.1, fun ds hp X w vs hG => h.2 ds hp X w vs (hg w hG)⟩
def gt (g : Nat) : Option (List D) := if g = 0 then some (tabD .i64 ordersL) else none
theorem gt_ok (w : World) (h : GW w) (g : Nat) (cs : List D) (hg : gt g = some cs) : GT w g cs := by
  unfold gt at hg
  split at hg
  · rename_i hgg; cases hg; rw [hgg]; exact tab_GT h.orders
  · cases hg
theorem safe_true {A : Alg} (hA : A = std) {l : List Oper} {n : Nat} (h : safe l n = true) : (A.safe l n = true) = True := by subst hA; exact eq_true h
theorem safe_lift {A : Alg} (hA : A = std) {l : List Oper} {n : Nat} (h : safe l n = true) : A.safe l n = true := by subst hA; exact h
theorem mixed : Tryd.prog.follows .mixedOrders = true := by kernel_rfl
/-- a function's text, gone through on letters, for this program. -/
theorem good {tab : List (Nat × FnSpec)} {shs : List (Nat × Shape)} (hs : tab.map (fun p => (p.1, p.2.sh)) = shs) (hg : Goods Tryd.prog GW N0 tab)
    {f : Nat} (fn : Func) (hf : Tryd.prog.funcs[f]? = some fn) (hn : (fn.name == "runtime.NumGoroutine") = false) (hb : fn.body.isSome = true) {s : FnSpec}
    (h : ∀ ds, s.p ds → ∀ (F : Ltr) (A : Alg) (Q : Post), F = fnOf N0 tab → A = std → Q.R (s.out N0 ds) → ∃ fuel, ev (mkCtx ti gt shs F A) fuel (fn.body.getD .skip) (start fn.ntmps ds) (ends (mkCtx ti gt shs F A) fn.results.toList Q.R)) : Good Tryd.prog GW N0 f s := by
  obtain ⟨c, hc⟩ := Option.isSome_iff_exists.1 hb
  refine good_of ti_ok gt_ok GW.bel mixed tab shs hs hg hf hn hc rfl rfl fun ds hp F A Q hF hA hQ => ?_
  have := h ds hp F A Q hF hA hQ
  rw [hc] at this
  exact this
/-- a function's text, gone through on letters, for this program. -/
theorem goodM {tab : List (Nat × FnSpec)} {shs : List (Nat × Shape)} (hs : tab.map (fun p => (p.1, p.2.sh)) = shs) (hg : Goods Tryd.prog GWM N0 tab)
    {f : Nat} (fn : Func) (hf : Tryd.prog.funcs[f]? = some fn) (hn : (fn.name == "runtime.NumGoroutine") = false) (hb : fn.body.isSome = true) {s : FnSpec}
    (h : ∀ ds, s.p ds → ∀ (F : Ltr) (A : Alg) (Q : Post), F = fnOf N0 tab → A = std → Q.R (s.out N0 ds) → ∃ fuel, ev (mkCtx ti gt shs F A) fuel (fn.body.getD .skip) (start fn.ntmps ds) (ends (mkCtx ti gt shs F A) fn.results.toList Q.R)) : Good Tryd.prog GWM N0 f s := by
  obtain ⟨c, hc⟩ := Option.isSome_iff_exists.1 hb
  refine good_of ti_ok (fun w h => gt_ok w h.base) GWM.bel mixed tab shs hs hg hf hn hc rfl rfl fun ds hp F A Q hF hA hQ => ?_
  have := h ds hp F A Q hF hA hQ
  rw [hc] at this
  exact this
def gtR (g : Nat) : Option (List D) := if g = 1 then some (tabD .i64 outwardL) else gt g
theorem gtR_ok (w : World) (h : GWR w) (g : Nat) (cs : List D) (hg : gtR g = some cs) : GT w g cs := by
  unfold gtR at hg
  split at hg
  · rename_i hgg; cases hg; rw [hgg]; exact tab_GT h.outward
  · exact gt_ok w h.base g cs hg
/-- a function's text, gone through on letters, for this program. -/
theorem goodR {tab : List (Nat × FnSpec)} {shs : List (Nat × Shape)} (hs : tab.map (fun p => (p.1, p.2.sh)) = shs) (hg : Goods Tryd.prog GWR N0 tab)
    {f : Nat} (fn : Func) (hf : Tryd.prog.funcs[f]? = some fn) (hn : (fn.name == "runtime.NumGoroutine") = false) (hb : fn.body.isSome = true) {s : FnSpec}
    (h : ∀ ds, s.p ds → ∀ (F : Ltr) (A : Alg) (Q : Post), F = fnOf N0 tab → A = std → Q.R (s.out N0 ds) → ∃ fuel, ev (mkCtx ti gtR shs F A) fuel (fn.body.getD .skip) (start fn.ntmps ds) (ends (mkCtx ti gtR shs F A) fn.results.toList Q.R)) : Good Tryd.prog GWR N0 f s := by
  obtain ⟨c, hc⟩ := Option.isSome_iff_exists.1 hb
  refine good_of ti_ok gtR_ok GWR.bel mixed tab shs hs hg hf hn hc rfl rfl fun ds hp F A Q hF hA hQ => ?_
  have := h ds hp F A Q hF hA hQ
  rw [hc] at this
  exact this
end Go.Proofs.YtkijhcflomjdbaaDoor.Ev
