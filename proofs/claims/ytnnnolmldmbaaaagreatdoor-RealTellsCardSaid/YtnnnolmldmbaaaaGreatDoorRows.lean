/-
  NARROWER THAN 'FOR EVERY INPUT', by the rows' own cells (each row's printed sentence says how): RealTells: laid · RealRounds: laid · RealHolds: laid · RealEnds: laid · RealLess: laid · RealSigns: laid.
  DERIVED. THE GIVEN ROWS OF THIS SEAT. 6 by the template 'for every input the law returns true; each argument reads behind the call as it read before'; 0 by the template 'total and deterministic' (their statements: YtnnnolmldmbaaaaGreatDoorTotals.lean).
  GIVEN WITH THE SEED: the statements are not yours to turn. If you find one false, say at which input.
  Laid BY PROGRAM, IN A SANDBOX (cutbox-rows.mjs): the forced cells as the released guide's own fill.sh prints them over the translation 39f9582ac238037d… (all of the seat's roots in one cut). By AI agents, Wed Nov 11 2026. No macro, syntax, notation, axiom, sorry.
-/
import Derived.Test.YtnnnolmldmbaaaaGreatDoorChecked
import GoSem.Claim
import GoSem.ClaimJoined
import GoSem.ClaimMapViews
import Derived.JoinedTies
import Derived.KernelRfl
namespace Go.Proofs.YtnnnolmldmbaaaaGreatDoor
/- THE CELL 'sum', in the pinned program and in every row, IS THE sha256 OF THE DUMP (.gsa) THAT YtnnnolmldmbaaaaGreatDoorProg.lean LOADS. Nothing in Lean hashes anything: it is a label: what it is worth is what the hold of that sum in a sandbox is worth. -/
noncomputable def Tryz.pinned : Pinned := { name := "ytnnnolmldmbaaaagreatdoor", sum := "39f9582ac238037d7249981b9378fbcf5de30aec4d96ce57343c63477ac9dbae", checked := Tryz.checked }
namespace Rows
def none {H : Type} : Left H := { results := [], args := [] }

/- WHAT THE LISTED PACKAGE-LEVEL VARIABLES READ AS WHEN THE CALL BEGINS. Each datum BY PROGRAM (the guide's laid-datum.mjs) off the statement by which the dump's own 'gosem.cut.vars' lays the variable. In a bare row this is a premise. The card (YtnnnolmldmbaaaaGreatDoorCards.lean) ties it to the program's text. -/
def laid_math_bits_deBruijn32tab {H : Type} : DataW H := .agg [.lit (.int .u8 0), .lit (.int .u8 1), .lit (.int .u8 28), .lit (.int .u8 2), .lit (.int .u8 29), .lit (.int .u8 14), .lit (.int .u8 24), .lit (.int .u8 3), .lit (.int .u8 30), .lit (.int .u8 22), .lit (.int .u8 20), .lit (.int .u8 15), .lit (.int .u8 25), .lit (.int .u8 17), .lit (.int .u8 4), .lit (.int .u8 8), .lit (.int .u8 31), .lit (.int .u8 27), .lit (.int .u8 13), .lit (.int .u8 23), .lit (.int .u8 21), .lit (.int .u8 19), .lit (.int .u8 16), .lit (.int .u8 7), .lit (.int .u8 26), .lit (.int .u8 12), .lit (.int .u8 18), .lit (.int .u8 6), .lit (.int .u8 11), .lit (.int .u8 5), .lit (.int .u8 10), .lit (.int .u8 9)]
def laid_annulus_whole_sums {H : Type} : DataW H := .agg [.agg [.lit (.int .i64 2), .lit (.int .i64 0), .lit (.int .i64 3)], .agg [.lit (.int .i64 1), .lit (.int .i64 0), .lit (.int .i64 1)], .agg [.lit (.int .i64 3), .lit (.int .i64 0), .lit (.int .i64 2)]]
def laid_annulus_whole_products {H : Type} : DataW H := .agg [.agg [.lit (.int .i64 1), .lit (.int .i64 0), .lit (.int .i64 (-1))], .agg [.lit (.int .i64 0), .lit (.int .i64 0), .lit (.int .i64 0)], .agg [.lit (.int .i64 (-1)), .lit (.int .i64 0), .lit (.int .i64 1)]]
def laid_annulus_dyad_orders {H : Type} : DataW H := .agg [.agg [.lit (.int .i64 2), .lit (.int .i64 (-1)), .lit (.int .i64 (-1))], .agg [.lit (.int .i64 1), .lit (.int .i64 0), .lit (.int .i64 (-1))], .agg [.lit (.int .i64 1), .lit (.int .i64 1), .lit (.int .i64 2)]]
def laid_annulus_real_products {H : Type} : DataW H := .agg [.agg [.agg [.agg [.lit (.int .i64 1), .lit (.int .i64 1)], .agg [.lit (.int .i64 0), .lit (.int .i64 0)]], .agg [.agg [.lit (.int .i64 0), .lit (.int .i64 1)], .agg [.lit (.int .i64 0), .lit (.int .i64 0)]], .agg [.agg [.lit (.int .i64 0), .lit (.int .i64 1)], .agg [.lit (.int .i64 1), .lit (.int .i64 0)]]], .agg [.agg [.agg [.lit (.int .i64 1), .lit (.int .i64 0)], .agg [.lit (.int .i64 0), .lit (.int .i64 0)]], .agg [.agg [.lit (.int .i64 1), .lit (.int .i64 0)], .agg [.lit (.int .i64 1), .lit (.int .i64 1)]], .agg [.agg [.lit (.int .i64 0), .lit (.int .i64 1)], .agg [.lit (.int .i64 1), .lit (.int .i64 1)]]], .agg [.agg [.agg [.lit (.int .i64 1), .lit (.int .i64 0)], .agg [.lit (.int .i64 0), .lit (.int .i64 1)]], .agg [.agg [.lit (.int .i64 1), .lit (.int .i64 0)], .agg [.lit (.int .i64 1), .lit (.int .i64 1)]], .agg [.agg [.lit (.int .i64 0), .lit (.int .i64 0)], .agg [.lit (.int .i64 1), .lit (.int .i64 1)]]]]
def laid_annulus_round_outward {H : Type} : DataW H := .agg [.agg [.agg [.lit (.int .i64 1), .lit (.int .i64 1), .lit (.int .i64 1), .lit (.int .i64 1)], .agg [.lit (.int .i64 0), .lit (.int .i64 0), .lit (.int .i64 0), .lit (.int .i64 0)]], .agg [.agg [.lit (.int .i64 0), .lit (.int .i64 0), .lit (.int .i64 0), .lit (.int .i64 0)], .agg [.lit (.int .i64 1), .lit (.int .i64 1), .lit (.int .i64 1), .lit (.int .i64 1)]], .agg [.agg [.lit (.int .i64 0), .lit (.int .i64 0), .lit (.int .i64 1), .lit (.int .i64 1)], .agg [.lit (.int .i64 0), .lit (.int .i64 0), .lit (.int .i64 1), .lit (.int .i64 1)]]]

/-- 'annuluslaw7.RealTells': WHATEVER THE INPUT: true; the input reads as it did. -/
def realTellsSpec : ChangeSpec := { name := "realTells", fn := fun _ => fun
  | [d1, d2, d3, d4] => { results := [.lit (.bool true)], args := [d1, d2, d3, d4] }
  | _ => none }
def realTellsRow : OpenClaim := { program := "ytnnnolmldmbaaaagreatdoor", sum := "39f9582ac238037d7249981b9378fbcf5de30aec4d96ce57343c63477ac9dbae", func := "annulus/annuluslaw7.RealTells", spec := "realTells", named := ["math/bits.deBruijn32tab", "annulus/dyad.orders", "math/bits.overflowError", "annulus/whole.products", "annulus/whole.sums", "annulus/real.products"], apart := false, laid := [("math/bits.deBruijn32tab", laid_math_bits_deBruijn32tab), ("annulus/whole.sums", laid_annulus_whole_sums), ("annulus/whole.products", laid_annulus_whole_products), ("annulus/dyad.orders", laid_annulus_dyad_orders), ("annulus/real.products", laid_annulus_real_products)] }
def RealTellsSaid : Prop := realTellsRow.holds Tryz.pinned (OpenSpec.ofChange realTellsSpec)

/-- ITS FALSE NEIGHBOUR: 'it returns false'. Refute it at one input. -/
def realTellsWrong : ChangeSpec := { name := "realTells", fn := fun _ => fun
  | [d1, d2, d3, d4] => { results := [.lit (.bool false)], args := [d1, d2, d3, d4] }
  | _ => none }
def RealTellsWrongFalsely : Prop := realTellsRow.holds Tryz.pinned (OpenSpec.ofChange realTellsWrong)

/-- 'annuluslaw7.RealRounds': WHATEVER THE INPUT: true; the input reads as it did. -/
def realRoundsSpec : ChangeSpec := { name := "realRounds", fn := fun _ => fun
  | [d1, d2, d3] => { results := [.lit (.bool true)], args := [d1, d2, d3] }
  | _ => none }
def realRoundsRow : OpenClaim := { program := "ytnnnolmldmbaaaagreatdoor", sum := "39f9582ac238037d7249981b9378fbcf5de30aec4d96ce57343c63477ac9dbae", func := "annulus/annuluslaw7.RealRounds", spec := "realRounds", named := ["math/bits.deBruijn32tab", "annulus/dyad.orders", "math/bits.overflowError", "annulus/whole.products", "annulus/real.products", "annulus/round.outward", "annulus/whole.sums"], apart := false, laid := [("math/bits.deBruijn32tab", laid_math_bits_deBruijn32tab), ("annulus/whole.sums", laid_annulus_whole_sums), ("annulus/whole.products", laid_annulus_whole_products), ("annulus/dyad.orders", laid_annulus_dyad_orders), ("annulus/round.outward", laid_annulus_round_outward), ("annulus/real.products", laid_annulus_real_products)] }
def RealRoundsSaid : Prop := realRoundsRow.holds Tryz.pinned (OpenSpec.ofChange realRoundsSpec)

/-- ITS FALSE NEIGHBOUR: 'it returns false'. Refute it at one input. -/
def realRoundsWrong : ChangeSpec := { name := "realRounds", fn := fun _ => fun
  | [d1, d2, d3] => { results := [.lit (.bool false)], args := [d1, d2, d3] }
  | _ => none }
def RealRoundsWrongFalsely : Prop := realRoundsRow.holds Tryz.pinned (OpenSpec.ofChange realRoundsWrong)

/-- 'annuluslaw7.RealHolds': WHATEVER THE INPUT: true; the input reads as it did. -/
def realHoldsSpec : ChangeSpec := { name := "realHolds", fn := fun _ => fun
  | [d1, d2, d3, d4, d5, d6] => { results := [.lit (.bool true)], args := [d1, d2, d3, d4, d5, d6] }
  | _ => none }
def realHoldsRow : OpenClaim := { program := "ytnnnolmldmbaaaagreatdoor", sum := "39f9582ac238037d7249981b9378fbcf5de30aec4d96ce57343c63477ac9dbae", func := "annulus/annuluslaw7.RealHolds", spec := "realHolds", named := ["math/bits.deBruijn32tab", "annulus/dyad.orders", "math/bits.overflowError", "annulus/whole.products", "annulus/whole.sums", "annulus/real.products", "annulus/round.outward"], apart := false, laid := [("math/bits.deBruijn32tab", laid_math_bits_deBruijn32tab), ("annulus/whole.sums", laid_annulus_whole_sums), ("annulus/whole.products", laid_annulus_whole_products), ("annulus/dyad.orders", laid_annulus_dyad_orders), ("annulus/round.outward", laid_annulus_round_outward), ("annulus/real.products", laid_annulus_real_products)] }
def RealHoldsSaid : Prop := realHoldsRow.holds Tryz.pinned (OpenSpec.ofChange realHoldsSpec)

/-- ITS FALSE NEIGHBOUR: 'it returns false'. Refute it at one input. -/
def realHoldsWrong : ChangeSpec := { name := "realHolds", fn := fun _ => fun
  | [d1, d2, d3, d4, d5, d6] => { results := [.lit (.bool false)], args := [d1, d2, d3, d4, d5, d6] }
  | _ => none }
def RealHoldsWrongFalsely : Prop := realHoldsRow.holds Tryz.pinned (OpenSpec.ofChange realHoldsWrong)

/-- 'annuluslaw7.RealEnds': WHATEVER THE INPUT: true; the input reads as it did. -/
def realEndsSpec : ChangeSpec := { name := "realEnds", fn := fun _ => fun
  | [d1, d2, d3] => { results := [.lit (.bool true)], args := [d1, d2, d3] }
  | _ => none }
def realEndsRow : OpenClaim := { program := "ytnnnolmldmbaaaagreatdoor", sum := "39f9582ac238037d7249981b9378fbcf5de30aec4d96ce57343c63477ac9dbae", func := "annulus/annuluslaw7.RealEnds", spec := "realEnds", named := ["math/bits.deBruijn32tab", "annulus/dyad.orders", "math/bits.overflowError", "annulus/whole.products", "annulus/real.products", "annulus/whole.sums"], apart := false, laid := [("math/bits.deBruijn32tab", laid_math_bits_deBruijn32tab), ("annulus/whole.sums", laid_annulus_whole_sums), ("annulus/whole.products", laid_annulus_whole_products), ("annulus/dyad.orders", laid_annulus_dyad_orders), ("annulus/real.products", laid_annulus_real_products)] }
def RealEndsSaid : Prop := realEndsRow.holds Tryz.pinned (OpenSpec.ofChange realEndsSpec)

/-- ITS FALSE NEIGHBOUR: 'it returns false'. Refute it at one input. -/
def realEndsWrong : ChangeSpec := { name := "realEnds", fn := fun _ => fun
  | [d1, d2, d3] => { results := [.lit (.bool false)], args := [d1, d2, d3] }
  | _ => none }
def RealEndsWrongFalsely : Prop := realEndsRow.holds Tryz.pinned (OpenSpec.ofChange realEndsWrong)

/-- 'annuluslaw7.RealLess': WHATEVER THE INPUT: true; the input reads as it did. -/
def realLessSpec : ChangeSpec := { name := "realLess", fn := fun _ => fun
  | [d1, d2, d3, d4] => { results := [.lit (.bool true)], args := [d1, d2, d3, d4] }
  | _ => none }
def realLessRow : OpenClaim := { program := "ytnnnolmldmbaaaagreatdoor", sum := "39f9582ac238037d7249981b9378fbcf5de30aec4d96ce57343c63477ac9dbae", func := "annulus/annuluslaw7.RealLess", spec := "realLess", named := ["math/bits.deBruijn32tab", "annulus/dyad.orders", "math/bits.overflowError", "annulus/whole.products", "annulus/whole.sums", "annulus/real.products"], apart := false, laid := [("math/bits.deBruijn32tab", laid_math_bits_deBruijn32tab), ("annulus/whole.sums", laid_annulus_whole_sums), ("annulus/whole.products", laid_annulus_whole_products), ("annulus/dyad.orders", laid_annulus_dyad_orders), ("annulus/real.products", laid_annulus_real_products)] }
def RealLessSaid : Prop := realLessRow.holds Tryz.pinned (OpenSpec.ofChange realLessSpec)

/-- ITS FALSE NEIGHBOUR: 'it returns false'. Refute it at one input. -/
def realLessWrong : ChangeSpec := { name := "realLess", fn := fun _ => fun
  | [d1, d2, d3, d4] => { results := [.lit (.bool false)], args := [d1, d2, d3, d4] }
  | _ => none }
def RealLessWrongFalsely : Prop := realLessRow.holds Tryz.pinned (OpenSpec.ofChange realLessWrong)

/-- 'annuluslaw7.RealSigns': WHATEVER THE INPUT: true; the input reads as it did. -/
def realSignsSpec : ChangeSpec := { name := "realSigns", fn := fun _ => fun
  | [d1, d2, d3] => { results := [.lit (.bool true)], args := [d1, d2, d3] }
  | _ => none }
def realSignsRow : OpenClaim := { program := "ytnnnolmldmbaaaagreatdoor", sum := "39f9582ac238037d7249981b9378fbcf5de30aec4d96ce57343c63477ac9dbae", func := "annulus/annuluslaw7.RealSigns", spec := "realSigns", named := ["math/bits.deBruijn32tab", "annulus/dyad.orders", "math/bits.overflowError", "annulus/whole.products", "annulus/real.products"], apart := false, laid := [("math/bits.deBruijn32tab", laid_math_bits_deBruijn32tab), ("annulus/whole.products", laid_annulus_whole_products), ("annulus/dyad.orders", laid_annulus_dyad_orders), ("annulus/real.products", laid_annulus_real_products)] }
def RealSignsSaid : Prop := realSignsRow.holds Tryz.pinned (OpenSpec.ofChange realSignsSpec)

/-- ITS FALSE NEIGHBOUR: 'it returns false'. Refute it at one input. -/
def realSignsWrong : ChangeSpec := { name := "realSigns", fn := fun _ => fun
  | [d1, d2, d3] => { results := [.lit (.bool false)], args := [d1, d2, d3] }
  | _ => none }
def RealSignsWrongFalsely : Prop := realSignsRow.holds Tryz.pinned (OpenSpec.ofChange realSignsWrong)

/- THE SECOND FORM. 'bulk': how many values and letters a reading holds, each counted each time it is reached (what is shared counts as often as it is met; a slice's spare places count too). A statement '..UptoSaid' is the law's where the arguments, and the package variables that the reading takes, are together of bulk at most 1048576: NARROWER than '..Said'. Prove '..Said' where nothing that the law and all that it calls make is longer than what came in: it says more and counts as full. Else prove '..UptoSaid'. A law counts once. -/
mutual
def uptoBulk {H : Type} : DataW H → Nat
  | .lit (.string bytes) => bytes.length + 1
  | .lit _ => 1
  | .nil => 1
  | .ptr d => uptoBulk d + 1
  | .slice elems spare => uptoBulkAll elems + uptoBulkAll spare + 1
  | .agg parts => uptoBulkAll parts + 1
  | .iface _ d => uptoBulk d + 1
  | .map entries => uptoBulkEntries entries + 1
  | .held _ => 1
def uptoBulkAll {H : Type} : List (DataW H) → Nat
  | [] => 0
  | d :: r => uptoBulk d + uptoBulkAll r
def uptoBulkEntries {H : Type} : List (Lit × DataW H) → Nat
  | [] => 0
  | x :: r => uptoBulkEntry x + uptoBulkEntries r
def uptoBulkEntry {H : Type} : Lit × DataW H → Nat
  | (.string bytes, d) => bytes.length + uptoBulk d + 1
  | (_, d) => uptoBulk d + 1
 end
def uptoSmall : (H : Type) → List (DataW H) → Bool := fun _ ds => decide (uptoBulkAll ds ≤ 1048576)
def OpenSpec.upto (s : _root_.Go.ChangeSpec) : _root_.Go.OpenSpec := { _root_.Go.OpenSpec.ofChange s with cond := some uptoSmall }

/-- 'annuluslaw7.RealTells', WHERE WHAT IT READS IS OF BULK AT MOST 1048576: true; the input reads as it did. -/
def realTellsUptoRow : OpenClaim := { program := "ytnnnolmldmbaaaagreatdoor", sum := "39f9582ac238037d7249981b9378fbcf5de30aec4d96ce57343c63477ac9dbae", func := "annulus/annuluslaw7.RealTells", spec := "realTells", named := ["math/bits.deBruijn32tab", "annulus/dyad.orders", "math/bits.overflowError", "annulus/whole.products", "annulus/whole.sums", "annulus/real.products"], apart := false, laid := [("math/bits.deBruijn32tab", laid_math_bits_deBruijn32tab), ("annulus/whole.sums", laid_annulus_whole_sums), ("annulus/whole.products", laid_annulus_whole_products), ("annulus/dyad.orders", laid_annulus_dyad_orders), ("annulus/real.products", laid_annulus_real_products)], narrowed := true }
def RealTellsUptoSaid : Prop := realTellsUptoRow.holds Tryz.pinned (OpenSpec.upto realTellsSpec)

/-- 'annuluslaw7.RealRounds', WHERE WHAT IT READS IS OF BULK AT MOST 1048576: true; the input reads as it did. -/
def realRoundsUptoRow : OpenClaim := { program := "ytnnnolmldmbaaaagreatdoor", sum := "39f9582ac238037d7249981b9378fbcf5de30aec4d96ce57343c63477ac9dbae", func := "annulus/annuluslaw7.RealRounds", spec := "realRounds", named := ["math/bits.deBruijn32tab", "annulus/dyad.orders", "math/bits.overflowError", "annulus/whole.products", "annulus/real.products", "annulus/round.outward", "annulus/whole.sums"], apart := false, laid := [("math/bits.deBruijn32tab", laid_math_bits_deBruijn32tab), ("annulus/whole.sums", laid_annulus_whole_sums), ("annulus/whole.products", laid_annulus_whole_products), ("annulus/dyad.orders", laid_annulus_dyad_orders), ("annulus/round.outward", laid_annulus_round_outward), ("annulus/real.products", laid_annulus_real_products)], narrowed := true }
def RealRoundsUptoSaid : Prop := realRoundsUptoRow.holds Tryz.pinned (OpenSpec.upto realRoundsSpec)

/-- 'annuluslaw7.RealHolds', WHERE WHAT IT READS IS OF BULK AT MOST 1048576: true; the input reads as it did. -/
def realHoldsUptoRow : OpenClaim := { program := "ytnnnolmldmbaaaagreatdoor", sum := "39f9582ac238037d7249981b9378fbcf5de30aec4d96ce57343c63477ac9dbae", func := "annulus/annuluslaw7.RealHolds", spec := "realHolds", named := ["math/bits.deBruijn32tab", "annulus/dyad.orders", "math/bits.overflowError", "annulus/whole.products", "annulus/whole.sums", "annulus/real.products", "annulus/round.outward"], apart := false, laid := [("math/bits.deBruijn32tab", laid_math_bits_deBruijn32tab), ("annulus/whole.sums", laid_annulus_whole_sums), ("annulus/whole.products", laid_annulus_whole_products), ("annulus/dyad.orders", laid_annulus_dyad_orders), ("annulus/round.outward", laid_annulus_round_outward), ("annulus/real.products", laid_annulus_real_products)], narrowed := true }
def RealHoldsUptoSaid : Prop := realHoldsUptoRow.holds Tryz.pinned (OpenSpec.upto realHoldsSpec)

/-- 'annuluslaw7.RealEnds', WHERE WHAT IT READS IS OF BULK AT MOST 1048576: true; the input reads as it did. -/
def realEndsUptoRow : OpenClaim := { program := "ytnnnolmldmbaaaagreatdoor", sum := "39f9582ac238037d7249981b9378fbcf5de30aec4d96ce57343c63477ac9dbae", func := "annulus/annuluslaw7.RealEnds", spec := "realEnds", named := ["math/bits.deBruijn32tab", "annulus/dyad.orders", "math/bits.overflowError", "annulus/whole.products", "annulus/real.products", "annulus/whole.sums"], apart := false, laid := [("math/bits.deBruijn32tab", laid_math_bits_deBruijn32tab), ("annulus/whole.sums", laid_annulus_whole_sums), ("annulus/whole.products", laid_annulus_whole_products), ("annulus/dyad.orders", laid_annulus_dyad_orders), ("annulus/real.products", laid_annulus_real_products)], narrowed := true }
def RealEndsUptoSaid : Prop := realEndsUptoRow.holds Tryz.pinned (OpenSpec.upto realEndsSpec)

/-- 'annuluslaw7.RealLess', WHERE WHAT IT READS IS OF BULK AT MOST 1048576: true; the input reads as it did. -/
def realLessUptoRow : OpenClaim := { program := "ytnnnolmldmbaaaagreatdoor", sum := "39f9582ac238037d7249981b9378fbcf5de30aec4d96ce57343c63477ac9dbae", func := "annulus/annuluslaw7.RealLess", spec := "realLess", named := ["math/bits.deBruijn32tab", "annulus/dyad.orders", "math/bits.overflowError", "annulus/whole.products", "annulus/whole.sums", "annulus/real.products"], apart := false, laid := [("math/bits.deBruijn32tab", laid_math_bits_deBruijn32tab), ("annulus/whole.sums", laid_annulus_whole_sums), ("annulus/whole.products", laid_annulus_whole_products), ("annulus/dyad.orders", laid_annulus_dyad_orders), ("annulus/real.products", laid_annulus_real_products)], narrowed := true }
def RealLessUptoSaid : Prop := realLessUptoRow.holds Tryz.pinned (OpenSpec.upto realLessSpec)

/-- 'annuluslaw7.RealSigns', WHERE WHAT IT READS IS OF BULK AT MOST 1048576: true; the input reads as it did. -/
def realSignsUptoRow : OpenClaim := { program := "ytnnnolmldmbaaaagreatdoor", sum := "39f9582ac238037d7249981b9378fbcf5de30aec4d96ce57343c63477ac9dbae", func := "annulus/annuluslaw7.RealSigns", spec := "realSigns", named := ["math/bits.deBruijn32tab", "annulus/dyad.orders", "math/bits.overflowError", "annulus/whole.products", "annulus/real.products"], apart := false, laid := [("math/bits.deBruijn32tab", laid_math_bits_deBruijn32tab), ("annulus/whole.products", laid_annulus_whole_products), ("annulus/dyad.orders", laid_annulus_dyad_orders), ("annulus/real.products", laid_annulus_real_products)], narrowed := true }
def RealSignsUptoSaid : Prop := realSignsUptoRow.holds Tryz.pinned (OpenSpec.upto realSignsSpec)

end Rows
end Go.Proofs.YtnnnolmldmbaaaaGreatDoor
