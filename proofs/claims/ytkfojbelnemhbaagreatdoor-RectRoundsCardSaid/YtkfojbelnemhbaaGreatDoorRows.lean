/-
  NARROWER THAN 'FOR EVERY INPUT', by the rows' own cells (each row's printed sentence says how): RectTells: laid · RectRounds: laid · RectHolds: laid · RectLess: laid · RectPoints: laid · DiscTells: laid.
  DERIVED. THE GIVEN ROWS OF THIS SEAT. 6 by the template 'for every input the law returns true; each argument reads behind the call as it read before'; 0 by the template 'total and deterministic' (their statements: YtkfojbelnemhbaaGreatDoorTotals.lean).
  GIVEN WITH THE SEED: the statements are not yours to turn. If you find one false, say at which input.
  Laid BY PROGRAM, IN A SANDBOX (cutbox-rows.mjs): the forced cells as the released guide's own fill.sh prints them over the translation c323b3c41cb5a98d… (all of the seat's roots in one cut). By AI agents, Wed Nov 11 2026. No macro, syntax, notation, axiom, sorry.
-/
import Derived.Test.YtkfojbelnemhbaaGreatDoorChecked
import GoSem.Claim
import GoSem.ClaimJoined
import GoSem.ClaimMapViews
import Derived.JoinedTies
import Derived.KernelRfl
namespace Go.Proofs.YtkfojbelnemhbaaGreatDoor
/- THE CELL 'sum', in the pinned program and in every row, IS THE sha256 OF THE DUMP (.gsa) THAT YtkfojbelnemhbaaGreatDoorProg.lean LOADS. Nothing in Lean hashes anything: it is a label: what it is worth is what the hold of that sum in a sandbox is worth. -/
noncomputable def Tryz.pinned : Pinned := { name := "ytkfojbelnemhbaagreatdoor", sum := "c323b3c41cb5a98d0bbadcf44a6fd8d6927c03e0dfe6521039be4575cb9217d4", checked := Tryz.checked }
namespace Rows
def none {H : Type} : Left H := { results := [], args := [] }

/- WHAT THE LISTED PACKAGE-LEVEL VARIABLES READ AS WHEN THE CALL BEGINS. Each datum BY PROGRAM (the guide's laid-datum.mjs) off the statement by which the dump's own 'gosem.cut.vars' lays the variable. In a bare row this is a premise. The card (YtkfojbelnemhbaaGreatDoorCards.lean) ties it to the program's text. -/
def laid_math_bits_deBruijn32tab {H : Type} : DataW H := .agg [.lit (.int .u8 0), .lit (.int .u8 1), .lit (.int .u8 28), .lit (.int .u8 2), .lit (.int .u8 29), .lit (.int .u8 14), .lit (.int .u8 24), .lit (.int .u8 3), .lit (.int .u8 30), .lit (.int .u8 22), .lit (.int .u8 20), .lit (.int .u8 15), .lit (.int .u8 25), .lit (.int .u8 17), .lit (.int .u8 4), .lit (.int .u8 8), .lit (.int .u8 31), .lit (.int .u8 27), .lit (.int .u8 13), .lit (.int .u8 23), .lit (.int .u8 21), .lit (.int .u8 19), .lit (.int .u8 16), .lit (.int .u8 7), .lit (.int .u8 26), .lit (.int .u8 12), .lit (.int .u8 18), .lit (.int .u8 6), .lit (.int .u8 11), .lit (.int .u8 5), .lit (.int .u8 10), .lit (.int .u8 9)]
def laid_annulus_whole_sums {H : Type} : DataW H := .agg [.agg [.lit (.int .i64 2), .lit (.int .i64 0), .lit (.int .i64 3)], .agg [.lit (.int .i64 1), .lit (.int .i64 0), .lit (.int .i64 1)], .agg [.lit (.int .i64 3), .lit (.int .i64 0), .lit (.int .i64 2)]]
def laid_annulus_whole_products {H : Type} : DataW H := .agg [.agg [.lit (.int .i64 1), .lit (.int .i64 0), .lit (.int .i64 (-1))], .agg [.lit (.int .i64 0), .lit (.int .i64 0), .lit (.int .i64 0)], .agg [.lit (.int .i64 (-1)), .lit (.int .i64 0), .lit (.int .i64 1)]]
def laid_annulus_dyad_orders {H : Type} : DataW H := .agg [.agg [.lit (.int .i64 2), .lit (.int .i64 (-1)), .lit (.int .i64 (-1))], .agg [.lit (.int .i64 1), .lit (.int .i64 0), .lit (.int .i64 (-1))], .agg [.lit (.int .i64 1), .lit (.int .i64 1), .lit (.int .i64 2)]]
def laid_annulus_round_outward {H : Type} : DataW H := .agg [.agg [.agg [.lit (.int .i64 1), .lit (.int .i64 1), .lit (.int .i64 1), .lit (.int .i64 1)], .agg [.lit (.int .i64 0), .lit (.int .i64 0), .lit (.int .i64 0), .lit (.int .i64 0)]], .agg [.agg [.lit (.int .i64 0), .lit (.int .i64 0), .lit (.int .i64 0), .lit (.int .i64 0)], .agg [.lit (.int .i64 1), .lit (.int .i64 1), .lit (.int .i64 1), .lit (.int .i64 1)]], .agg [.agg [.lit (.int .i64 0), .lit (.int .i64 0), .lit (.int .i64 1), .lit (.int .i64 1)], .agg [.lit (.int .i64 0), .lit (.int .i64 0), .lit (.int .i64 1), .lit (.int .i64 1)]]]
def laid_annulus_real_products {H : Type} : DataW H := .agg [.agg [.agg [.agg [.lit (.int .i64 1), .lit (.int .i64 1)], .agg [.lit (.int .i64 0), .lit (.int .i64 0)]], .agg [.agg [.lit (.int .i64 0), .lit (.int .i64 1)], .agg [.lit (.int .i64 0), .lit (.int .i64 0)]], .agg [.agg [.lit (.int .i64 0), .lit (.int .i64 1)], .agg [.lit (.int .i64 1), .lit (.int .i64 0)]]], .agg [.agg [.agg [.lit (.int .i64 1), .lit (.int .i64 0)], .agg [.lit (.int .i64 0), .lit (.int .i64 0)]], .agg [.agg [.lit (.int .i64 1), .lit (.int .i64 0)], .agg [.lit (.int .i64 1), .lit (.int .i64 1)]], .agg [.agg [.lit (.int .i64 0), .lit (.int .i64 1)], .agg [.lit (.int .i64 1), .lit (.int .i64 1)]]], .agg [.agg [.agg [.lit (.int .i64 1), .lit (.int .i64 0)], .agg [.lit (.int .i64 0), .lit (.int .i64 1)]], .agg [.agg [.lit (.int .i64 1), .lit (.int .i64 0)], .agg [.lit (.int .i64 1), .lit (.int .i64 1)]], .agg [.agg [.lit (.int .i64 0), .lit (.int .i64 0)], .agg [.lit (.int .i64 1), .lit (.int .i64 1)]]]]
def laid_annulus_rect_products {H : Type} : DataW H := .agg [.agg [.agg [.lit (.int .i64 0), .lit (.int .i64 0)], .agg [.lit (.int .i64 1), .lit (.int .i64 1)], .lit (.bool true)], .agg [.agg [.lit (.int .i64 0), .lit (.int .i64 1)], .agg [.lit (.int .i64 1), .lit (.int .i64 0)], .lit (.bool false)]]
def laid_annulus_disc_terms {H : Type} : DataW H := .agg [.agg [.lit (.int .i64 0), .lit (.int .i64 1)], .agg [.lit (.int .i64 1), .lit (.int .i64 0)], .agg [.lit (.int .i64 1), .lit (.int .i64 1)]]

/-- 'annuluslaw9.RectTells': WHATEVER THE INPUT: true; the input reads as it did. -/
def rectTellsSpec : ChangeSpec := { name := "rectTells", fn := fun _ => fun
  | [d1, d2, d3, d4] => { results := [.lit (.bool true)], args := [d1, d2, d3, d4] }
  | _ => none }
def rectTellsRow : OpenClaim := { program := "ytkfojbelnemhbaagreatdoor", sum := "c323b3c41cb5a98d0bbadcf44a6fd8d6927c03e0dfe6521039be4575cb9217d4", func := "annulus/annuluslaw9.RectTells", spec := "rectTells", unfollowed := true, recurses := true, named := ["annulus/dyad.orders", "math/bits.deBruijn32tab", "annulus/whole.products", "annulus/whole.sums", "math/bits.overflowError", "annulus/real.products", "annulus/round.outward", "annulus/rect.products"], apart := false, laid := [("math/bits.deBruijn32tab", laid_math_bits_deBruijn32tab), ("annulus/whole.sums", laid_annulus_whole_sums), ("annulus/whole.products", laid_annulus_whole_products), ("annulus/dyad.orders", laid_annulus_dyad_orders), ("annulus/round.outward", laid_annulus_round_outward), ("annulus/real.products", laid_annulus_real_products), ("annulus/rect.products", laid_annulus_rect_products)] }
def RectTellsSaid : Prop := rectTellsRow.holds Tryz.pinned (OpenSpec.ofChange rectTellsSpec)

/-- ITS FALSE NEIGHBOUR: 'it returns false'. Refute it at one input. -/
def rectTellsWrong : ChangeSpec := { name := "rectTells", fn := fun _ => fun
  | [d1, d2, d3, d4] => { results := [.lit (.bool false)], args := [d1, d2, d3, d4] }
  | _ => none }
def RectTellsWrongFalsely : Prop := rectTellsRow.holds Tryz.pinned (OpenSpec.ofChange rectTellsWrong)

/-- 'annuluslaw9.RectRounds': WHATEVER THE INPUT: true; the input reads as it did. -/
def rectRoundsSpec : ChangeSpec := { name := "rectRounds", fn := fun _ => fun
  | [d1, d2, d3] => { results := [.lit (.bool true)], args := [d1, d2, d3] }
  | _ => none }
def rectRoundsRow : OpenClaim := { program := "ytkfojbelnemhbaagreatdoor", sum := "c323b3c41cb5a98d0bbadcf44a6fd8d6927c03e0dfe6521039be4575cb9217d4", func := "annulus/annuluslaw9.RectRounds", spec := "rectRounds", unfollowed := true, recurses := true, named := ["annulus/dyad.orders", "math/bits.deBruijn32tab", "annulus/whole.products", "annulus/whole.sums", "math/bits.overflowError", "annulus/real.products", "annulus/round.outward", "annulus/rect.products"], apart := false, laid := [("math/bits.deBruijn32tab", laid_math_bits_deBruijn32tab), ("annulus/whole.sums", laid_annulus_whole_sums), ("annulus/whole.products", laid_annulus_whole_products), ("annulus/dyad.orders", laid_annulus_dyad_orders), ("annulus/round.outward", laid_annulus_round_outward), ("annulus/real.products", laid_annulus_real_products), ("annulus/rect.products", laid_annulus_rect_products)] }
def RectRoundsSaid : Prop := rectRoundsRow.holds Tryz.pinned (OpenSpec.ofChange rectRoundsSpec)

/-- ITS FALSE NEIGHBOUR: 'it returns false'. Refute it at one input. -/
def rectRoundsWrong : ChangeSpec := { name := "rectRounds", fn := fun _ => fun
  | [d1, d2, d3] => { results := [.lit (.bool false)], args := [d1, d2, d3] }
  | _ => none }
def RectRoundsWrongFalsely : Prop := rectRoundsRow.holds Tryz.pinned (OpenSpec.ofChange rectRoundsWrong)

/-- 'annuluslaw9.RectHolds': WHATEVER THE INPUT: true; the input reads as it did. -/
def rectHoldsSpec : ChangeSpec := { name := "rectHolds", fn := fun _ => fun
  | [d1, d2, d3, d4, d5, d6] => { results := [.lit (.bool true)], args := [d1, d2, d3, d4, d5, d6] }
  | _ => none }
def rectHoldsRow : OpenClaim := { program := "ytkfojbelnemhbaagreatdoor", sum := "c323b3c41cb5a98d0bbadcf44a6fd8d6927c03e0dfe6521039be4575cb9217d4", func := "annulus/annuluslaw9.RectHolds", spec := "rectHolds", unfollowed := true, recurses := true, named := ["annulus/dyad.orders", "math/bits.deBruijn32tab", "annulus/whole.products", "annulus/whole.sums", "math/bits.overflowError", "annulus/real.products", "annulus/round.outward", "annulus/rect.products"], apart := false, laid := [("math/bits.deBruijn32tab", laid_math_bits_deBruijn32tab), ("annulus/whole.sums", laid_annulus_whole_sums), ("annulus/whole.products", laid_annulus_whole_products), ("annulus/dyad.orders", laid_annulus_dyad_orders), ("annulus/round.outward", laid_annulus_round_outward), ("annulus/real.products", laid_annulus_real_products), ("annulus/rect.products", laid_annulus_rect_products)] }
def RectHoldsSaid : Prop := rectHoldsRow.holds Tryz.pinned (OpenSpec.ofChange rectHoldsSpec)

/-- ITS FALSE NEIGHBOUR: 'it returns false'. Refute it at one input. -/
def rectHoldsWrong : ChangeSpec := { name := "rectHolds", fn := fun _ => fun
  | [d1, d2, d3, d4, d5, d6] => { results := [.lit (.bool false)], args := [d1, d2, d3, d4, d5, d6] }
  | _ => none }
def RectHoldsWrongFalsely : Prop := rectHoldsRow.holds Tryz.pinned (OpenSpec.ofChange rectHoldsWrong)

/-- 'annuluslaw9.RectLess': WHATEVER THE INPUT: true; the input reads as it did. -/
def rectLessSpec : ChangeSpec := { name := "rectLess", fn := fun _ => fun
  | [d1, d2, d3, d4] => { results := [.lit (.bool true)], args := [d1, d2, d3, d4] }
  | _ => none }
def rectLessRow : OpenClaim := { program := "ytkfojbelnemhbaagreatdoor", sum := "c323b3c41cb5a98d0bbadcf44a6fd8d6927c03e0dfe6521039be4575cb9217d4", func := "annulus/annuluslaw9.RectLess", spec := "rectLess", unfollowed := true, recurses := true, named := ["annulus/dyad.orders", "math/bits.deBruijn32tab", "annulus/whole.products", "annulus/whole.sums", "math/bits.overflowError", "annulus/real.products", "annulus/round.outward", "annulus/rect.products"], apart := false, laid := [("math/bits.deBruijn32tab", laid_math_bits_deBruijn32tab), ("annulus/whole.sums", laid_annulus_whole_sums), ("annulus/whole.products", laid_annulus_whole_products), ("annulus/dyad.orders", laid_annulus_dyad_orders), ("annulus/round.outward", laid_annulus_round_outward), ("annulus/real.products", laid_annulus_real_products), ("annulus/rect.products", laid_annulus_rect_products)] }
def RectLessSaid : Prop := rectLessRow.holds Tryz.pinned (OpenSpec.ofChange rectLessSpec)

/-- ITS FALSE NEIGHBOUR: 'it returns false'. Refute it at one input. -/
def rectLessWrong : ChangeSpec := { name := "rectLess", fn := fun _ => fun
  | [d1, d2, d3, d4] => { results := [.lit (.bool false)], args := [d1, d2, d3, d4] }
  | _ => none }
def RectLessWrongFalsely : Prop := rectLessRow.holds Tryz.pinned (OpenSpec.ofChange rectLessWrong)

/-- 'annuluslaw9.RectPoints': WHATEVER THE INPUT: true; the input reads as it did. -/
def rectPointsSpec : ChangeSpec := { name := "rectPoints", fn := fun _ => fun
  | [d1, d2, d3] => { results := [.lit (.bool true)], args := [d1, d2, d3] }
  | _ => none }
def rectPointsRow : OpenClaim := { program := "ytkfojbelnemhbaagreatdoor", sum := "c323b3c41cb5a98d0bbadcf44a6fd8d6927c03e0dfe6521039be4575cb9217d4", func := "annulus/annuluslaw9.RectPoints", spec := "rectPoints", unfollowed := true, recurses := true, named := ["annulus/dyad.orders", "math/bits.deBruijn32tab", "annulus/whole.products", "annulus/whole.sums", "math/bits.overflowError", "annulus/real.products", "annulus/round.outward", "annulus/rect.products"], apart := false, laid := [("math/bits.deBruijn32tab", laid_math_bits_deBruijn32tab), ("annulus/whole.sums", laid_annulus_whole_sums), ("annulus/whole.products", laid_annulus_whole_products), ("annulus/dyad.orders", laid_annulus_dyad_orders), ("annulus/round.outward", laid_annulus_round_outward), ("annulus/real.products", laid_annulus_real_products), ("annulus/rect.products", laid_annulus_rect_products)] }
def RectPointsSaid : Prop := rectPointsRow.holds Tryz.pinned (OpenSpec.ofChange rectPointsSpec)

/-- ITS FALSE NEIGHBOUR: 'it returns false'. Refute it at one input. -/
def rectPointsWrong : ChangeSpec := { name := "rectPoints", fn := fun _ => fun
  | [d1, d2, d3] => { results := [.lit (.bool false)], args := [d1, d2, d3] }
  | _ => none }
def RectPointsWrongFalsely : Prop := rectPointsRow.holds Tryz.pinned (OpenSpec.ofChange rectPointsWrong)

/-- 'annuluslaw10.DiscTells': WHATEVER THE INPUT: true; the input reads as it did. -/
def discTellsSpec : ChangeSpec := { name := "discTells", fn := fun _ => fun
  | [d1, d2, d3, d4, d5] => { results := [.lit (.bool true)], args := [d1, d2, d3, d4, d5] }
  | _ => none }
def discTellsRow : OpenClaim := { program := "ytkfojbelnemhbaagreatdoor", sum := "c323b3c41cb5a98d0bbadcf44a6fd8d6927c03e0dfe6521039be4575cb9217d4", func := "annulus/annuluslaw10.DiscTells", spec := "discTells", recurses := true, named := ["math/bits.deBruijn32tab", "annulus/whole.sums", "annulus/whole.products", "annulus/dyad.orders", "math/bits.overflowError", "annulus/disc.terms", "annulus/round.outward"], apart := false, laid := [("math/bits.deBruijn32tab", laid_math_bits_deBruijn32tab), ("annulus/whole.sums", laid_annulus_whole_sums), ("annulus/whole.products", laid_annulus_whole_products), ("annulus/dyad.orders", laid_annulus_dyad_orders), ("annulus/round.outward", laid_annulus_round_outward), ("annulus/disc.terms", laid_annulus_disc_terms)] }
def DiscTellsSaid : Prop := discTellsRow.holds Tryz.pinned (OpenSpec.ofChange discTellsSpec)

/-- ITS FALSE NEIGHBOUR: 'it returns false'. Refute it at one input. -/
def discTellsWrong : ChangeSpec := { name := "discTells", fn := fun _ => fun
  | [d1, d2, d3, d4, d5] => { results := [.lit (.bool false)], args := [d1, d2, d3, d4, d5] }
  | _ => none }
def DiscTellsWrongFalsely : Prop := discTellsRow.holds Tryz.pinned (OpenSpec.ofChange discTellsWrong)

/- THE SECOND FORM. 'bulk': how many values and letters a reading holds, each counted each time it is reached (what is shared counts as often as it is met; a slice's spare places count too). A statement '..UptoSaid' is the law's where the arguments, and the package variables that the reading takes, are together of bulk at most 1048576: NARROWER than '..Said'. Prove '..Said' where nothing that the law and all that it calls make is longer than what came in: it says more and counts as full. Else prove '..UptoSaid'. A law counts once. -/
mutual
def uptoBulk {H : Type} : DataW H → Nat
  | .lit (.string bytes) => bytes.length + 1
  | .lit _ => 1
  | .nil => 1
  | .ptr d => uptoBulk d + 1
  | .slice elems spare => uptoBulkAll elems + uptoBulkAll spare + 1
  | .agg parts => uptoBulkAll parts + 1
  | .iface _ d => uptoBulk d + 1
  | .map entries => uptoBulkEntries entries + 1
  | .held _ => 1
def uptoBulkAll {H : Type} : List (DataW H) → Nat
  | [] => 0
  | d :: r => uptoBulk d + uptoBulkAll r
def uptoBulkEntries {H : Type} : List (Lit × DataW H) → Nat
  | [] => 0
  | x :: r => uptoBulkEntry x + uptoBulkEntries r
def uptoBulkEntry {H : Type} : Lit × DataW H → Nat
  | (.string bytes, d) => bytes.length + uptoBulk d + 1
  | (_, d) => uptoBulk d + 1
 end
def uptoSmall : (H : Type) → List (DataW H) → Bool := fun _ ds => decide (uptoBulkAll ds ≤ 1048576)
def OpenSpec.upto (s : _root_.Go.ChangeSpec) : _root_.Go.OpenSpec := { _root_.Go.OpenSpec.ofChange s with cond := some uptoSmall }

/-- 'annuluslaw9.RectTells', WHERE WHAT IT READS IS OF BULK AT MOST 1048576: true; the input reads as it did. -/
def rectTellsUptoRow : OpenClaim := { program := "ytkfojbelnemhbaagreatdoor", sum := "c323b3c41cb5a98d0bbadcf44a6fd8d6927c03e0dfe6521039be4575cb9217d4", func := "annulus/annuluslaw9.RectTells", spec := "rectTells", unfollowed := true, recurses := true, named := ["annulus/dyad.orders", "math/bits.deBruijn32tab", "annulus/whole.products", "annulus/whole.sums", "math/bits.overflowError", "annulus/real.products", "annulus/round.outward", "annulus/rect.products"], apart := false, laid := [("math/bits.deBruijn32tab", laid_math_bits_deBruijn32tab), ("annulus/whole.sums", laid_annulus_whole_sums), ("annulus/whole.products", laid_annulus_whole_products), ("annulus/dyad.orders", laid_annulus_dyad_orders), ("annulus/round.outward", laid_annulus_round_outward), ("annulus/real.products", laid_annulus_real_products), ("annulus/rect.products", laid_annulus_rect_products)], narrowed := true }
def RectTellsUptoSaid : Prop := rectTellsUptoRow.holds Tryz.pinned (OpenSpec.upto rectTellsSpec)

/-- 'annuluslaw9.RectRounds', WHERE WHAT IT READS IS OF BULK AT MOST 1048576: true; the input reads as it did. -/
def rectRoundsUptoRow : OpenClaim := { program := "ytkfojbelnemhbaagreatdoor", sum := "c323b3c41cb5a98d0bbadcf44a6fd8d6927c03e0dfe6521039be4575cb9217d4", func := "annulus/annuluslaw9.RectRounds", spec := "rectRounds", unfollowed := true, recurses := true, named := ["annulus/dyad.orders", "math/bits.deBruijn32tab", "annulus/whole.products", "annulus/whole.sums", "math/bits.overflowError", "annulus/real.products", "annulus/round.outward", "annulus/rect.products"], apart := false, laid := [("math/bits.deBruijn32tab", laid_math_bits_deBruijn32tab), ("annulus/whole.sums", laid_annulus_whole_sums), ("annulus/whole.products", laid_annulus_whole_products), ("annulus/dyad.orders", laid_annulus_dyad_orders), ("annulus/round.outward", laid_annulus_round_outward), ("annulus/real.products", laid_annulus_real_products), ("annulus/rect.products", laid_annulus_rect_products)], narrowed := true }
def RectRoundsUptoSaid : Prop := rectRoundsUptoRow.holds Tryz.pinned (OpenSpec.upto rectRoundsSpec)

/-- 'annuluslaw9.RectHolds', WHERE WHAT IT READS IS OF BULK AT MOST 1048576: true; the input reads as it did. -/
def rectHoldsUptoRow : OpenClaim := { program := "ytkfojbelnemhbaagreatdoor", sum := "c323b3c41cb5a98d0bbadcf44a6fd8d6927c03e0dfe6521039be4575cb9217d4", func := "annulus/annuluslaw9.RectHolds", spec := "rectHolds", unfollowed := true, recurses := true, named := ["annulus/dyad.orders", "math/bits.deBruijn32tab", "annulus/whole.products", "annulus/whole.sums", "math/bits.overflowError", "annulus/real.products", "annulus/round.outward", "annulus/rect.products"], apart := false, laid := [("math/bits.deBruijn32tab", laid_math_bits_deBruijn32tab), ("annulus/whole.sums", laid_annulus_whole_sums), ("annulus/whole.products", laid_annulus_whole_products), ("annulus/dyad.orders", laid_annulus_dyad_orders), ("annulus/round.outward", laid_annulus_round_outward), ("annulus/real.products", laid_annulus_real_products), ("annulus/rect.products", laid_annulus_rect_products)], narrowed := true }
def RectHoldsUptoSaid : Prop := rectHoldsUptoRow.holds Tryz.pinned (OpenSpec.upto rectHoldsSpec)

/-- 'annuluslaw9.RectLess', WHERE WHAT IT READS IS OF BULK AT MOST 1048576: true; the input reads as it did. -/
def rectLessUptoRow : OpenClaim := { program := "ytkfojbelnemhbaagreatdoor", sum := "c323b3c41cb5a98d0bbadcf44a6fd8d6927c03e0dfe6521039be4575cb9217d4", func := "annulus/annuluslaw9.RectLess", spec := "rectLess", unfollowed := true, recurses := true, named := ["annulus/dyad.orders", "math/bits.deBruijn32tab", "annulus/whole.products", "annulus/whole.sums", "math/bits.overflowError", "annulus/real.products", "annulus/round.outward", "annulus/rect.products"], apart := false, laid := [("math/bits.deBruijn32tab", laid_math_bits_deBruijn32tab), ("annulus/whole.sums", laid_annulus_whole_sums), ("annulus/whole.products", laid_annulus_whole_products), ("annulus/dyad.orders", laid_annulus_dyad_orders), ("annulus/round.outward", laid_annulus_round_outward), ("annulus/real.products", laid_annulus_real_products), ("annulus/rect.products", laid_annulus_rect_products)], narrowed := true }
def RectLessUptoSaid : Prop := rectLessUptoRow.holds Tryz.pinned (OpenSpec.upto rectLessSpec)

/-- 'annuluslaw9.RectPoints', WHERE WHAT IT READS IS OF BULK AT MOST 1048576: true; the input reads as it did. -/
def rectPointsUptoRow : OpenClaim := { program := "ytkfojbelnemhbaagreatdoor", sum := "c323b3c41cb5a98d0bbadcf44a6fd8d6927c03e0dfe6521039be4575cb9217d4", func := "annulus/annuluslaw9.RectPoints", spec := "rectPoints", unfollowed := true, recurses := true, named := ["annulus/dyad.orders", "math/bits.deBruijn32tab", "annulus/whole.products", "annulus/whole.sums", "math/bits.overflowError", "annulus/real.products", "annulus/round.outward", "annulus/rect.products"], apart := false, laid := [("math/bits.deBruijn32tab", laid_math_bits_deBruijn32tab), ("annulus/whole.sums", laid_annulus_whole_sums), ("annulus/whole.products", laid_annulus_whole_products), ("annulus/dyad.orders", laid_annulus_dyad_orders), ("annulus/round.outward", laid_annulus_round_outward), ("annulus/real.products", laid_annulus_real_products), ("annulus/rect.products", laid_annulus_rect_products)], narrowed := true }
def RectPointsUptoSaid : Prop := rectPointsUptoRow.holds Tryz.pinned (OpenSpec.upto rectPointsSpec)

/-- 'annuluslaw10.DiscTells', WHERE WHAT IT READS IS OF BULK AT MOST 1048576: true; the input reads as it did. -/
def discTellsUptoRow : OpenClaim := { program := "ytkfojbelnemhbaagreatdoor", sum := "c323b3c41cb5a98d0bbadcf44a6fd8d6927c03e0dfe6521039be4575cb9217d4", func := "annulus/annuluslaw10.DiscTells", spec := "discTells", recurses := true, named := ["math/bits.deBruijn32tab", "annulus/whole.sums", "annulus/whole.products", "annulus/dyad.orders", "math/bits.overflowError", "annulus/disc.terms", "annulus/round.outward"], apart := false, laid := [("math/bits.deBruijn32tab", laid_math_bits_deBruijn32tab), ("annulus/whole.sums", laid_annulus_whole_sums), ("annulus/whole.products", laid_annulus_whole_products), ("annulus/dyad.orders", laid_annulus_dyad_orders), ("annulus/round.outward", laid_annulus_round_outward), ("annulus/disc.terms", laid_annulus_disc_terms)], narrowed := true }
def DiscTellsUptoSaid : Prop := discTellsUptoRow.holds Tryz.pinned (OpenSpec.upto discTellsSpec)

end Rows
end Go.Proofs.YtkfojbelnemhbaaGreatDoor
