/-
  NARROWER THAN 'FOR EVERY INPUT', by the rows' own cells (each row's printed sentence says how): DiscTells: laid · DiscRects: laid · DiscHolds: laid · DiscOrder: laid · DiscBorders: laid · PolyTells: laid · PolyRoots: laid · PolyLaws: laid · PolyShifts: laid.
  DERIVED. THE GIVEN ROWS OF THIS SEAT. 9 by the template 'for every input the law returns true; each argument reads behind the call as it read before'; 0 by the template 'total and deterministic' (their statements: YtnjjfakjnkhhjaaGreatDoorTotals.lean).
  GIVEN WITH THE SEED: the statements are not yours to turn. If you find one false, say at which input.
  Laid BY PROGRAM, IN A SANDBOX (cutbox-rows.mjs): the forced cells as the released guide's own fill.sh prints them over the translation 287b86f22da3eeb4… (all of the seat's roots in one cut). By AI agents, Wed Nov 11 2026. No macro, syntax, notation, axiom, sorry.
-/
import Derived.Test.YtnjjfakjnkhhjaaGreatDoorChecked
import GoSem.Claim
import GoSem.ClaimJoined
import GoSem.ClaimMapViews
import Derived.JoinedTies
import Derived.KernelRfl
namespace Go.Proofs.YtnjjfakjnkhhjaaGreatDoor
/- THE CELL 'sum', in the pinned program and in every row, IS THE sha256 OF THE DUMP (.gsa) THAT YtnjjfakjnkhhjaaGreatDoorProg.lean LOADS. Nothing in Lean hashes anything: it is a label: what it is worth is what the hold of that sum in a sandbox is worth. -/
noncomputable def Tryz.pinned : Pinned := { name := "ytnjjfakjnkhhjaagreatdoor", sum := "287b86f22da3eeb4c86210b0a14466959c1a12cf7fa0c2ad2d251852bebdf720", checked := Tryz.checked }
namespace Rows
def none {H : Type} : Left H := { results := [], args := [] }

/- WHAT THE LISTED PACKAGE-LEVEL VARIABLES READ AS WHEN THE CALL BEGINS. Each datum BY PROGRAM (the guide's laid-datum.mjs) off the statement by which the dump's own 'gosem.cut.vars' lays the variable. In a bare row this is a premise. The card (YtnjjfakjnkhhjaaGreatDoorCards.lean) ties it to the program's text. -/
def laid_math_bits_deBruijn32tab {H : Type} : DataW H := .agg [.lit (.int .u8 0), .lit (.int .u8 1), .lit (.int .u8 28), .lit (.int .u8 2), .lit (.int .u8 29), .lit (.int .u8 14), .lit (.int .u8 24), .lit (.int .u8 3), .lit (.int .u8 30), .lit (.int .u8 22), .lit (.int .u8 20), .lit (.int .u8 15), .lit (.int .u8 25), .lit (.int .u8 17), .lit (.int .u8 4), .lit (.int .u8 8), .lit (.int .u8 31), .lit (.int .u8 27), .lit (.int .u8 13), .lit (.int .u8 23), .lit (.int .u8 21), .lit (.int .u8 19), .lit (.int .u8 16), .lit (.int .u8 7), .lit (.int .u8 26), .lit (.int .u8 12), .lit (.int .u8 18), .lit (.int .u8 6), .lit (.int .u8 11), .lit (.int .u8 5), .lit (.int .u8 10), .lit (.int .u8 9)]
def laid_annulus_whole_sums {H : Type} : DataW H := .agg [.agg [.lit (.int .i64 2), .lit (.int .i64 0), .lit (.int .i64 3)], .agg [.lit (.int .i64 1), .lit (.int .i64 0), .lit (.int .i64 1)], .agg [.lit (.int .i64 3), .lit (.int .i64 0), .lit (.int .i64 2)]]
def laid_annulus_whole_products {H : Type} : DataW H := .agg [.agg [.lit (.int .i64 1), .lit (.int .i64 0), .lit (.int .i64 (-1))], .agg [.lit (.int .i64 0), .lit (.int .i64 0), .lit (.int .i64 0)], .agg [.lit (.int .i64 (-1)), .lit (.int .i64 0), .lit (.int .i64 1)]]
def laid_annulus_dyad_orders {H : Type} : DataW H := .agg [.agg [.lit (.int .i64 2), .lit (.int .i64 (-1)), .lit (.int .i64 (-1))], .agg [.lit (.int .i64 1), .lit (.int .i64 0), .lit (.int .i64 (-1))], .agg [.lit (.int .i64 1), .lit (.int .i64 1), .lit (.int .i64 2)]]
def laid_annulus_round_outward {H : Type} : DataW H := .agg [.agg [.agg [.lit (.int .i64 1), .lit (.int .i64 1), .lit (.int .i64 1), .lit (.int .i64 1)], .agg [.lit (.int .i64 0), .lit (.int .i64 0), .lit (.int .i64 0), .lit (.int .i64 0)]], .agg [.agg [.lit (.int .i64 0), .lit (.int .i64 0), .lit (.int .i64 0), .lit (.int .i64 0)], .agg [.lit (.int .i64 1), .lit (.int .i64 1), .lit (.int .i64 1), .lit (.int .i64 1)]], .agg [.agg [.lit (.int .i64 0), .lit (.int .i64 0), .lit (.int .i64 1), .lit (.int .i64 1)], .agg [.lit (.int .i64 0), .lit (.int .i64 0), .lit (.int .i64 1), .lit (.int .i64 1)]]]
def laid_annulus_disc_terms {H : Type} : DataW H := .agg [.agg [.lit (.int .i64 0), .lit (.int .i64 1)], .agg [.lit (.int .i64 1), .lit (.int .i64 0)], .agg [.lit (.int .i64 1), .lit (.int .i64 1)]]

/-- 'annuluslaw10.DiscTells': WHATEVER THE INPUT: true; the input reads as it did. -/
def discTellsSpec : ChangeSpec := { name := "discTells", fn := fun _ => fun
  | [d1, d2, d3, d4, d5] => { results := [.lit (.bool true)], args := [d1, d2, d3, d4, d5] }
  | _ => none }
def discTellsRow : OpenClaim := { program := "ytnjjfakjnkhhjaagreatdoor", sum := "287b86f22da3eeb4c86210b0a14466959c1a12cf7fa0c2ad2d251852bebdf720", func := "annulus/annuluslaw10.DiscTells", spec := "discTells", recurses := true, named := ["math/bits.deBruijn32tab", "annulus/whole.sums", "annulus/whole.products", "annulus/dyad.orders", "math/bits.overflowError", "annulus/disc.terms", "annulus/round.outward"], apart := false, laid := [("math/bits.deBruijn32tab", laid_math_bits_deBruijn32tab), ("annulus/whole.sums", laid_annulus_whole_sums), ("annulus/whole.products", laid_annulus_whole_products), ("annulus/dyad.orders", laid_annulus_dyad_orders), ("annulus/round.outward", laid_annulus_round_outward), ("annulus/disc.terms", laid_annulus_disc_terms)] }
def DiscTellsSaid : Prop := discTellsRow.holds Tryz.pinned (OpenSpec.ofChange discTellsSpec)

/-- ITS FALSE NEIGHBOUR: 'it returns false'. Refute it at one input. -/
def discTellsWrong : ChangeSpec := { name := "discTells", fn := fun _ => fun
  | [d1, d2, d3, d4, d5] => { results := [.lit (.bool false)], args := [d1, d2, d3, d4, d5] }
  | _ => none }
def DiscTellsWrongFalsely : Prop := discTellsRow.holds Tryz.pinned (OpenSpec.ofChange discTellsWrong)

/-- 'annuluslaw10.DiscRects': WHATEVER THE INPUT: true; the input reads as it did. -/
def discRectsSpec : ChangeSpec := { name := "discRects", fn := fun _ => fun
  | [d1, d2, d3] => { results := [.lit (.bool true)], args := [d1, d2, d3] }
  | _ => none }
def discRectsRow : OpenClaim := { program := "ytnjjfakjnkhhjaagreatdoor", sum := "287b86f22da3eeb4c86210b0a14466959c1a12cf7fa0c2ad2d251852bebdf720", func := "annulus/annuluslaw10.DiscRects", spec := "discRects", unfollowed := true, recurses := true, named := ["math/bits.deBruijn32tab", "annulus/whole.sums", "annulus/whole.products", "annulus/dyad.orders", "math/bits.overflowError", "annulus/disc.terms", "annulus/round.outward"], apart := false, laid := [("math/bits.deBruijn32tab", laid_math_bits_deBruijn32tab), ("annulus/whole.sums", laid_annulus_whole_sums), ("annulus/whole.products", laid_annulus_whole_products), ("annulus/dyad.orders", laid_annulus_dyad_orders), ("annulus/round.outward", laid_annulus_round_outward), ("annulus/disc.terms", laid_annulus_disc_terms)] }
def DiscRectsSaid : Prop := discRectsRow.holds Tryz.pinned (OpenSpec.ofChange discRectsSpec)

/-- ITS FALSE NEIGHBOUR: 'it returns false'. Refute it at one input. -/
def discRectsWrong : ChangeSpec := { name := "discRects", fn := fun _ => fun
  | [d1, d2, d3] => { results := [.lit (.bool false)], args := [d1, d2, d3] }
  | _ => none }
def DiscRectsWrongFalsely : Prop := discRectsRow.holds Tryz.pinned (OpenSpec.ofChange discRectsWrong)

/-- 'annuluslaw10.DiscHolds': WHATEVER THE INPUT: true; the input reads as it did. -/
def discHoldsSpec : ChangeSpec := { name := "discHolds", fn := fun _ => fun
  | [d1, d2, d3, d4, d5, d6] => { results := [.lit (.bool true)], args := [d1, d2, d3, d4, d5, d6] }
  | _ => none }
def discHoldsRow : OpenClaim := { program := "ytnjjfakjnkhhjaagreatdoor", sum := "287b86f22da3eeb4c86210b0a14466959c1a12cf7fa0c2ad2d251852bebdf720", func := "annulus/annuluslaw10.DiscHolds", spec := "discHolds", recurses := true, named := ["math/bits.deBruijn32tab", "annulus/whole.sums", "annulus/whole.products", "annulus/dyad.orders", "math/bits.overflowError", "annulus/disc.terms", "annulus/round.outward"], apart := false, laid := [("math/bits.deBruijn32tab", laid_math_bits_deBruijn32tab), ("annulus/whole.sums", laid_annulus_whole_sums), ("annulus/whole.products", laid_annulus_whole_products), ("annulus/dyad.orders", laid_annulus_dyad_orders), ("annulus/round.outward", laid_annulus_round_outward), ("annulus/disc.terms", laid_annulus_disc_terms)] }
def DiscHoldsSaid : Prop := discHoldsRow.holds Tryz.pinned (OpenSpec.ofChange discHoldsSpec)

/-- ITS FALSE NEIGHBOUR: 'it returns false'. Refute it at one input. -/
def discHoldsWrong : ChangeSpec := { name := "discHolds", fn := fun _ => fun
  | [d1, d2, d3, d4, d5, d6] => { results := [.lit (.bool false)], args := [d1, d2, d3, d4, d5, d6] }
  | _ => none }
def DiscHoldsWrongFalsely : Prop := discHoldsRow.holds Tryz.pinned (OpenSpec.ofChange discHoldsWrong)

/-- 'annuluslaw10.DiscOrder': WHATEVER THE INPUT: true; the input reads as it did. -/
def discOrderSpec : ChangeSpec := { name := "discOrder", fn := fun _ => fun
  | [d1, d2, d3, d4] => { results := [.lit (.bool true)], args := [d1, d2, d3, d4] }
  | _ => none }
def discOrderRow : OpenClaim := { program := "ytnjjfakjnkhhjaagreatdoor", sum := "287b86f22da3eeb4c86210b0a14466959c1a12cf7fa0c2ad2d251852bebdf720", func := "annulus/annuluslaw10.DiscOrder", spec := "discOrder", recurses := true, named := ["math/bits.deBruijn32tab", "annulus/whole.sums", "annulus/whole.products", "annulus/dyad.orders", "math/bits.overflowError", "annulus/disc.terms", "annulus/round.outward"], apart := false, laid := [("math/bits.deBruijn32tab", laid_math_bits_deBruijn32tab), ("annulus/whole.sums", laid_annulus_whole_sums), ("annulus/whole.products", laid_annulus_whole_products), ("annulus/dyad.orders", laid_annulus_dyad_orders), ("annulus/round.outward", laid_annulus_round_outward), ("annulus/disc.terms", laid_annulus_disc_terms)] }
def DiscOrderSaid : Prop := discOrderRow.holds Tryz.pinned (OpenSpec.ofChange discOrderSpec)

/-- ITS FALSE NEIGHBOUR: 'it returns false'. Refute it at one input. -/
def discOrderWrong : ChangeSpec := { name := "discOrder", fn := fun _ => fun
  | [d1, d2, d3, d4] => { results := [.lit (.bool false)], args := [d1, d2, d3, d4] }
  | _ => none }
def DiscOrderWrongFalsely : Prop := discOrderRow.holds Tryz.pinned (OpenSpec.ofChange discOrderWrong)

/-- 'annuluslaw10.DiscBorders': WHATEVER THE INPUT: true; the input reads as it did. -/
def discBordersSpec : ChangeSpec := { name := "discBorders", fn := fun _ => fun
  | [d1, d2, d3, d4] => { results := [.lit (.bool true)], args := [d1, d2, d3, d4] }
  | _ => none }
def discBordersRow : OpenClaim := { program := "ytnjjfakjnkhhjaagreatdoor", sum := "287b86f22da3eeb4c86210b0a14466959c1a12cf7fa0c2ad2d251852bebdf720", func := "annulus/annuluslaw10.DiscBorders", spec := "discBorders", recurses := true, named := ["math/bits.deBruijn32tab", "annulus/whole.sums", "annulus/whole.products", "annulus/dyad.orders", "math/bits.overflowError", "annulus/disc.terms", "annulus/round.outward"], apart := false, laid := [("math/bits.deBruijn32tab", laid_math_bits_deBruijn32tab), ("annulus/whole.sums", laid_annulus_whole_sums), ("annulus/whole.products", laid_annulus_whole_products), ("annulus/dyad.orders", laid_annulus_dyad_orders), ("annulus/round.outward", laid_annulus_round_outward), ("annulus/disc.terms", laid_annulus_disc_terms)] }
def DiscBordersSaid : Prop := discBordersRow.holds Tryz.pinned (OpenSpec.ofChange discBordersSpec)

/-- ITS FALSE NEIGHBOUR: 'it returns false'. Refute it at one input. -/
def discBordersWrong : ChangeSpec := { name := "discBorders", fn := fun _ => fun
  | [d1, d2, d3, d4] => { results := [.lit (.bool false)], args := [d1, d2, d3, d4] }
  | _ => none }
def DiscBordersWrongFalsely : Prop := discBordersRow.holds Tryz.pinned (OpenSpec.ofChange discBordersWrong)

/-- 'annuluslaw11.PolyTells': WHATEVER THE INPUT: true; the input reads as it did. -/
def polyTellsSpec : ChangeSpec := { name := "polyTells", fn := fun _ => fun
  | [d1, d2, d3, d4] => { results := [.lit (.bool true)], args := [d1, d2, d3, d4] }
  | _ => none }
def polyTellsRow : OpenClaim := { program := "ytnjjfakjnkhhjaagreatdoor", sum := "287b86f22da3eeb4c86210b0a14466959c1a12cf7fa0c2ad2d251852bebdf720", func := "annulus/annuluslaw11.PolyTells", spec := "polyTells", unfollowed := true, recurses := true, named := ["math/bits.deBruijn32tab", "annulus/whole.products", "annulus/whole.sums", "annulus/dyad.orders"], apart := false, laid := [("math/bits.deBruijn32tab", laid_math_bits_deBruijn32tab), ("annulus/whole.sums", laid_annulus_whole_sums), ("annulus/whole.products", laid_annulus_whole_products), ("annulus/dyad.orders", laid_annulus_dyad_orders)] }
def PolyTellsSaid : Prop := polyTellsRow.holds Tryz.pinned (OpenSpec.ofChange polyTellsSpec)

/-- ITS FALSE NEIGHBOUR: 'it returns false'. Refute it at one input. -/
def polyTellsWrong : ChangeSpec := { name := "polyTells", fn := fun _ => fun
  | [d1, d2, d3, d4] => { results := [.lit (.bool false)], args := [d1, d2, d3, d4] }
  | _ => none }
def PolyTellsWrongFalsely : Prop := polyTellsRow.holds Tryz.pinned (OpenSpec.ofChange polyTellsWrong)

/-- 'annuluslaw11.PolyRoots': WHATEVER THE INPUT: true; the input reads as it did. -/
def polyRootsSpec : ChangeSpec := { name := "polyRoots", fn := fun _ => fun
  | [d1, d2] => { results := [.lit (.bool true)], args := [d1, d2] }
  | _ => none }
def polyRootsRow : OpenClaim := { program := "ytnjjfakjnkhhjaagreatdoor", sum := "287b86f22da3eeb4c86210b0a14466959c1a12cf7fa0c2ad2d251852bebdf720", func := "annulus/annuluslaw11.PolyRoots", spec := "polyRoots", unfollowed := true, recurses := true, named := ["math/bits.deBruijn32tab", "annulus/whole.products", "annulus/whole.sums", "annulus/dyad.orders"], apart := false, laid := [("math/bits.deBruijn32tab", laid_math_bits_deBruijn32tab), ("annulus/whole.sums", laid_annulus_whole_sums), ("annulus/whole.products", laid_annulus_whole_products), ("annulus/dyad.orders", laid_annulus_dyad_orders)] }
def PolyRootsSaid : Prop := polyRootsRow.holds Tryz.pinned (OpenSpec.ofChange polyRootsSpec)

/-- ITS FALSE NEIGHBOUR: 'it returns false'. Refute it at one input. -/
def polyRootsWrong : ChangeSpec := { name := "polyRoots", fn := fun _ => fun
  | [d1, d2] => { results := [.lit (.bool false)], args := [d1, d2] }
  | _ => none }
def PolyRootsWrongFalsely : Prop := polyRootsRow.holds Tryz.pinned (OpenSpec.ofChange polyRootsWrong)

/-- 'annuluslaw11.PolyLaws': WHATEVER THE INPUT: true; the input reads as it did. -/
def polyLawsSpec : ChangeSpec := { name := "polyLaws", fn := fun _ => fun
  | [d1, d2, d3, d4, d5] => { results := [.lit (.bool true)], args := [d1, d2, d3, d4, d5] }
  | _ => none }
def polyLawsRow : OpenClaim := { program := "ytnjjfakjnkhhjaagreatdoor", sum := "287b86f22da3eeb4c86210b0a14466959c1a12cf7fa0c2ad2d251852bebdf720", func := "annulus/annuluslaw11.PolyLaws", spec := "polyLaws", unfollowed := true, recurses := true, named := ["math/bits.deBruijn32tab", "annulus/whole.products", "annulus/whole.sums", "annulus/dyad.orders"], apart := false, laid := [("math/bits.deBruijn32tab", laid_math_bits_deBruijn32tab), ("annulus/whole.sums", laid_annulus_whole_sums), ("annulus/whole.products", laid_annulus_whole_products), ("annulus/dyad.orders", laid_annulus_dyad_orders)] }
def PolyLawsSaid : Prop := polyLawsRow.holds Tryz.pinned (OpenSpec.ofChange polyLawsSpec)

/-- ITS FALSE NEIGHBOUR: 'it returns false'. Refute it at one input. -/
def polyLawsWrong : ChangeSpec := { name := "polyLaws", fn := fun _ => fun
  | [d1, d2, d3, d4, d5] => { results := [.lit (.bool false)], args := [d1, d2, d3, d4, d5] }
  | _ => none }
def PolyLawsWrongFalsely : Prop := polyLawsRow.holds Tryz.pinned (OpenSpec.ofChange polyLawsWrong)

/-- 'annuluslaw11.PolyShifts': WHATEVER THE INPUT: true; the input reads as it did. -/
def polyShiftsSpec : ChangeSpec := { name := "polyShifts", fn := fun _ => fun
  | [d1, d2] => { results := [.lit (.bool true)], args := [d1, d2] }
  | _ => none }
def polyShiftsRow : OpenClaim := { program := "ytnjjfakjnkhhjaagreatdoor", sum := "287b86f22da3eeb4c86210b0a14466959c1a12cf7fa0c2ad2d251852bebdf720", func := "annulus/annuluslaw11.PolyShifts", spec := "polyShifts", unfollowed := true, recurses := true, named := ["math/bits.deBruijn32tab", "annulus/whole.products", "annulus/whole.sums", "annulus/dyad.orders"], apart := false, laid := [("math/bits.deBruijn32tab", laid_math_bits_deBruijn32tab), ("annulus/whole.sums", laid_annulus_whole_sums), ("annulus/whole.products", laid_annulus_whole_products), ("annulus/dyad.orders", laid_annulus_dyad_orders)] }
def PolyShiftsSaid : Prop := polyShiftsRow.holds Tryz.pinned (OpenSpec.ofChange polyShiftsSpec)

/-- ITS FALSE NEIGHBOUR: 'it returns false'. Refute it at one input. -/
def polyShiftsWrong : ChangeSpec := { name := "polyShifts", fn := fun _ => fun
  | [d1, d2] => { results := [.lit (.bool false)], args := [d1, d2] }
  | _ => none }
def PolyShiftsWrongFalsely : Prop := polyShiftsRow.holds Tryz.pinned (OpenSpec.ofChange polyShiftsWrong)

/- THE SECOND FORM. 'bulk': how many values and letters a reading holds, each counted each time it is reached (what is shared counts as often as it is met; a slice's spare places count too). A statement '..UptoSaid' is the law's where the arguments, and the package variables that the reading takes, are together of bulk at most 1048576: NARROWER than '..Said'. Prove '..Said' where nothing that the law and all that it calls make is longer than what came in: it says more and counts as full. Else prove '..UptoSaid'. A law counts once. -/
mutual
def uptoBulk {H : Type} : DataW H → Nat
  | .lit (.string bytes) => bytes.length + 1
  | .lit _ => 1
  | .nil => 1
  | .ptr d => uptoBulk d + 1
  | .slice elems spare => uptoBulkAll elems + uptoBulkAll spare + 1
  | .agg parts => uptoBulkAll parts + 1
  | .iface _ d => uptoBulk d + 1
  | .map entries => uptoBulkEntries entries + 1
  | .held _ => 1
def uptoBulkAll {H : Type} : List (DataW H) → Nat
  | [] => 0
  | d :: r => uptoBulk d + uptoBulkAll r
def uptoBulkEntries {H : Type} : List (Lit × DataW H) → Nat
  | [] => 0
  | x :: r => uptoBulkEntry x + uptoBulkEntries r
def uptoBulkEntry {H : Type} : Lit × DataW H → Nat
  | (.string bytes, d) => bytes.length + uptoBulk d + 1
  | (_, d) => uptoBulk d + 1
 end
def uptoSmall : (H : Type) → List (DataW H) → Bool := fun _ ds => decide (uptoBulkAll ds ≤ 1048576)
def OpenSpec.upto (s : _root_.Go.ChangeSpec) : _root_.Go.OpenSpec := { _root_.Go.OpenSpec.ofChange s with cond := some uptoSmall }

/-- 'annuluslaw10.DiscTells', WHERE WHAT IT READS IS OF BULK AT MOST 1048576: true; the input reads as it did. -/
def discTellsUptoRow : OpenClaim := { program := "ytnjjfakjnkhhjaagreatdoor", sum := "287b86f22da3eeb4c86210b0a14466959c1a12cf7fa0c2ad2d251852bebdf720", func := "annulus/annuluslaw10.DiscTells", spec := "discTells", recurses := true, named := ["math/bits.deBruijn32tab", "annulus/whole.sums", "annulus/whole.products", "annulus/dyad.orders", "math/bits.overflowError", "annulus/disc.terms", "annulus/round.outward"], apart := false, laid := [("math/bits.deBruijn32tab", laid_math_bits_deBruijn32tab), ("annulus/whole.sums", laid_annulus_whole_sums), ("annulus/whole.products", laid_annulus_whole_products), ("annulus/dyad.orders", laid_annulus_dyad_orders), ("annulus/round.outward", laid_annulus_round_outward), ("annulus/disc.terms", laid_annulus_disc_terms)], narrowed := true }
def DiscTellsUptoSaid : Prop := discTellsUptoRow.holds Tryz.pinned (OpenSpec.upto discTellsSpec)

/-- 'annuluslaw10.DiscRects', WHERE WHAT IT READS IS OF BULK AT MOST 1048576: true; the input reads as it did. -/
def discRectsUptoRow : OpenClaim := { program := "ytnjjfakjnkhhjaagreatdoor", sum := "287b86f22da3eeb4c86210b0a14466959c1a12cf7fa0c2ad2d251852bebdf720", func := "annulus/annuluslaw10.DiscRects", spec := "discRects", unfollowed := true, recurses := true, named := ["math/bits.deBruijn32tab", "annulus/whole.sums", "annulus/whole.products", "annulus/dyad.orders", "math/bits.overflowError", "annulus/disc.terms", "annulus/round.outward"], apart := false, laid := [("math/bits.deBruijn32tab", laid_math_bits_deBruijn32tab), ("annulus/whole.sums", laid_annulus_whole_sums), ("annulus/whole.products", laid_annulus_whole_products), ("annulus/dyad.orders", laid_annulus_dyad_orders), ("annulus/round.outward", laid_annulus_round_outward), ("annulus/disc.terms", laid_annulus_disc_terms)], narrowed := true }
def DiscRectsUptoSaid : Prop := discRectsUptoRow.holds Tryz.pinned (OpenSpec.upto discRectsSpec)

/-- 'annuluslaw10.DiscHolds', WHERE WHAT IT READS IS OF BULK AT MOST 1048576: true; the input reads as it did. -/
def discHoldsUptoRow : OpenClaim := { program := "ytnjjfakjnkhhjaagreatdoor", sum := "287b86f22da3eeb4c86210b0a14466959c1a12cf7fa0c2ad2d251852bebdf720", func := "annulus/annuluslaw10.DiscHolds", spec := "discHolds", recurses := true, named := ["math/bits.deBruijn32tab", "annulus/whole.sums", "annulus/whole.products", "annulus/dyad.orders", "math/bits.overflowError", "annulus/disc.terms", "annulus/round.outward"], apart := false, laid := [("math/bits.deBruijn32tab", laid_math_bits_deBruijn32tab), ("annulus/whole.sums", laid_annulus_whole_sums), ("annulus/whole.products", laid_annulus_whole_products), ("annulus/dyad.orders", laid_annulus_dyad_orders), ("annulus/round.outward", laid_annulus_round_outward), ("annulus/disc.terms", laid_annulus_disc_terms)], narrowed := true }
def DiscHoldsUptoSaid : Prop := discHoldsUptoRow.holds Tryz.pinned (OpenSpec.upto discHoldsSpec)

/-- 'annuluslaw10.DiscOrder', WHERE WHAT IT READS IS OF BULK AT MOST 1048576: true; the input reads as it did. -/
def discOrderUptoRow : OpenClaim := { program := "ytnjjfakjnkhhjaagreatdoor", sum := "287b86f22da3eeb4c86210b0a14466959c1a12cf7fa0c2ad2d251852bebdf720", func := "annulus/annuluslaw10.DiscOrder", spec := "discOrder", recurses := true, named := ["math/bits.deBruijn32tab", "annulus/whole.sums", "annulus/whole.products", "annulus/dyad.orders", "math/bits.overflowError", "annulus/disc.terms", "annulus/round.outward"], apart := false, laid := [("math/bits.deBruijn32tab", laid_math_bits_deBruijn32tab), ("annulus/whole.sums", laid_annulus_whole_sums), ("annulus/whole.products", laid_annulus_whole_products), ("annulus/dyad.orders", laid_annulus_dyad_orders), ("annulus/round.outward", laid_annulus_round_outward), ("annulus/disc.terms", laid_annulus_disc_terms)], narrowed := true }
def DiscOrderUptoSaid : Prop := discOrderUptoRow.holds Tryz.pinned (OpenSpec.upto discOrderSpec)

/-- 'annuluslaw10.DiscBorders', WHERE WHAT IT READS IS OF BULK AT MOST 1048576: true; the input reads as it did. -/
def discBordersUptoRow : OpenClaim := { program := "ytnjjfakjnkhhjaagreatdoor", sum := "287b86f22da3eeb4c86210b0a14466959c1a12cf7fa0c2ad2d251852bebdf720", func := "annulus/annuluslaw10.DiscBorders", spec := "discBorders", recurses := true, named := ["math/bits.deBruijn32tab", "annulus/whole.sums", "annulus/whole.products", "annulus/dyad.orders", "math/bits.overflowError", "annulus/disc.terms", "annulus/round.outward"], apart := false, laid := [("math/bits.deBruijn32tab", laid_math_bits_deBruijn32tab), ("annulus/whole.sums", laid_annulus_whole_sums), ("annulus/whole.products", laid_annulus_whole_products), ("annulus/dyad.orders", laid_annulus_dyad_orders), ("annulus/round.outward", laid_annulus_round_outward), ("annulus/disc.terms", laid_annulus_disc_terms)], narrowed := true }
def DiscBordersUptoSaid : Prop := discBordersUptoRow.holds Tryz.pinned (OpenSpec.upto discBordersSpec)

/-- 'annuluslaw11.PolyTells', WHERE WHAT IT READS IS OF BULK AT MOST 1048576: true; the input reads as it did. -/
def polyTellsUptoRow : OpenClaim := { program := "ytnjjfakjnkhhjaagreatdoor", sum := "287b86f22da3eeb4c86210b0a14466959c1a12cf7fa0c2ad2d251852bebdf720", func := "annulus/annuluslaw11.PolyTells", spec := "polyTells", unfollowed := true, recurses := true, named := ["math/bits.deBruijn32tab", "annulus/whole.products", "annulus/whole.sums", "annulus/dyad.orders"], apart := false, laid := [("math/bits.deBruijn32tab", laid_math_bits_deBruijn32tab), ("annulus/whole.sums", laid_annulus_whole_sums), ("annulus/whole.products", laid_annulus_whole_products), ("annulus/dyad.orders", laid_annulus_dyad_orders)], narrowed := true }
def PolyTellsUptoSaid : Prop := polyTellsUptoRow.holds Tryz.pinned (OpenSpec.upto polyTellsSpec)

/-- 'annuluslaw11.PolyRoots', WHERE WHAT IT READS IS OF BULK AT MOST 1048576: true; the input reads as it did. -/
def polyRootsUptoRow : OpenClaim := { program := "ytnjjfakjnkhhjaagreatdoor", sum := "287b86f22da3eeb4c86210b0a14466959c1a12cf7fa0c2ad2d251852bebdf720", func := "annulus/annuluslaw11.PolyRoots", spec := "polyRoots", unfollowed := true, recurses := true, named := ["math/bits.deBruijn32tab", "annulus/whole.products", "annulus/whole.sums", "annulus/dyad.orders"], apart := false, laid := [("math/bits.deBruijn32tab", laid_math_bits_deBruijn32tab), ("annulus/whole.sums", laid_annulus_whole_sums), ("annulus/whole.products", laid_annulus_whole_products), ("annulus/dyad.orders", laid_annulus_dyad_orders)], narrowed := true }
def PolyRootsUptoSaid : Prop := polyRootsUptoRow.holds Tryz.pinned (OpenSpec.upto polyRootsSpec)

/-- 'annuluslaw11.PolyLaws', WHERE WHAT IT READS IS OF BULK AT MOST 1048576: true; the input reads as it did. -/
def polyLawsUptoRow : OpenClaim := { program := "ytnjjfakjnkhhjaagreatdoor", sum := "287b86f22da3eeb4c86210b0a14466959c1a12cf7fa0c2ad2d251852bebdf720", func := "annulus/annuluslaw11.PolyLaws", spec := "polyLaws", unfollowed := true, recurses := true, named := ["math/bits.deBruijn32tab", "annulus/whole.products", "annulus/whole.sums", "annulus/dyad.orders"], apart := false, laid := [("math/bits.deBruijn32tab", laid_math_bits_deBruijn32tab), ("annulus/whole.sums", laid_annulus_whole_sums), ("annulus/whole.products", laid_annulus_whole_products), ("annulus/dyad.orders", laid_annulus_dyad_orders)], narrowed := true }
def PolyLawsUptoSaid : Prop := polyLawsUptoRow.holds Tryz.pinned (OpenSpec.upto polyLawsSpec)

/-- 'annuluslaw11.PolyShifts', WHERE WHAT IT READS IS OF BULK AT MOST 1048576: true; the input reads as it did. -/
def polyShiftsUptoRow : OpenClaim := { program := "ytnjjfakjnkhhjaagreatdoor", sum := "287b86f22da3eeb4c86210b0a14466959c1a12cf7fa0c2ad2d251852bebdf720", func := "annulus/annuluslaw11.PolyShifts", spec := "polyShifts", unfollowed := true, recurses := true, named := ["math/bits.deBruijn32tab", "annulus/whole.products", "annulus/whole.sums", "annulus/dyad.orders"], apart := false, laid := [("math/bits.deBruijn32tab", laid_math_bits_deBruijn32tab), ("annulus/whole.sums", laid_annulus_whole_sums), ("annulus/whole.products", laid_annulus_whole_products), ("annulus/dyad.orders", laid_annulus_dyad_orders)], narrowed := true }
def PolyShiftsUptoSaid : Prop := polyShiftsUptoRow.holds Tryz.pinned (OpenSpec.upto polyShiftsSpec)

end Rows
end Go.Proofs.YtnjjfakjnkhhjaaGreatDoor
