/-
  NARROWER THAN 'FOR EVERY INPUT', by the rows' own cells (each row's printed sentence says how): NatTells: laid · NatShifts: laid · NatBack: laid · NatRoots: laid · NatSquares: laid · NatOrder: laid · NatLong: laid · WholeTells: laid · WholeShifts: laid · WholeLaws: laid · WholeRests: laid · WholeSmalls: laid · WholeEnds: laid · WholeNorms: laid.
  DERIVED. THE GIVEN ROWS OF THIS SEAT. 14 by the template 'for every input the law returns true; each argument reads behind the call as it read before'; 0 by the template 'total and deterministic' (their statements: YtopkndkicdgafaaDoorTotals.lean).
  GIVEN WITH THE SEED: the statements are not yours to turn. If you find one false, say at which input.
  Laid BY PROGRAM, IN A SANDBOX (cutbox-rows.mjs): the forced cells as the released guide's own fill.sh prints them over the translation f544f76300bc6eca… (all of the seat's roots in one cut). By AI agents, Wed Nov 11 2026. No macro, syntax, notation, axiom, sorry.
-/
import Derived.Test.YtopkndkicdgafaaDoorChecked
import GoSem.Claim
import GoSem.ClaimJoined
import GoSem.ClaimMapViews
import Derived.JoinedTies
import Derived.KernelRfl
namespace Go.Proofs.YtopkndkicdgafaaDoor
/- THE CELL 'sum', in the pinned program and in every row, IS THE sha256 OF THE DUMP (.gsa) THAT YtopkndkicdgafaaDoorProg.lean LOADS. Nothing in Lean hashes anything: it is a label: what it is worth is what the hold of that sum in a sandbox is worth. -/
noncomputable def Tryd.pinned : Pinned := { name := "ytopkndkicdgafaadoor", sum := "f544f76300bc6eca6b5407cd223f9a59e43bd8cb18fe8710217aa5a659b88b98", checked := Tryd.checked }
namespace Rows
def none {H : Type} : Left H := { results := [], args := [] }

/- WHAT THE LISTED PACKAGE-LEVEL VARIABLES READ AS WHEN THE CALL BEGINS. Each datum BY PROGRAM (the guide's laid-datum.mjs) off the statement by which the dump's own 'gosem.cut.vars' lays the variable. In a bare row this is a premise. The card (YtopkndkicdgafaaDoorCards.lean) ties it to the program's text. -/
def laid_math_bits_deBruijn32tab {H : Type} : DataW H := .agg [.lit (.int .u8 0), .lit (.int .u8 1), .lit (.int .u8 28), .lit (.int .u8 2), .lit (.int .u8 29), .lit (.int .u8 14), .lit (.int .u8 24), .lit (.int .u8 3), .lit (.int .u8 30), .lit (.int .u8 22), .lit (.int .u8 20), .lit (.int .u8 15), .lit (.int .u8 25), .lit (.int .u8 17), .lit (.int .u8 4), .lit (.int .u8 8), .lit (.int .u8 31), .lit (.int .u8 27), .lit (.int .u8 13), .lit (.int .u8 23), .lit (.int .u8 21), .lit (.int .u8 19), .lit (.int .u8 16), .lit (.int .u8 7), .lit (.int .u8 26), .lit (.int .u8 12), .lit (.int .u8 18), .lit (.int .u8 6), .lit (.int .u8 11), .lit (.int .u8 5), .lit (.int .u8 10), .lit (.int .u8 9)]
def laid_annulus_whole_sums {H : Type} : DataW H := .agg [.agg [.lit (.int .i64 2), .lit (.int .i64 0), .lit (.int .i64 3)], .agg [.lit (.int .i64 1), .lit (.int .i64 0), .lit (.int .i64 1)], .agg [.lit (.int .i64 3), .lit (.int .i64 0), .lit (.int .i64 2)]]
def laid_annulus_whole_products {H : Type} : DataW H := .agg [.agg [.lit (.int .i64 1), .lit (.int .i64 0), .lit (.int .i64 (-1))], .agg [.lit (.int .i64 0), .lit (.int .i64 0), .lit (.int .i64 0)], .agg [.lit (.int .i64 (-1)), .lit (.int .i64 0), .lit (.int .i64 1)]]
def laid_annulus_whole_farthest {H : Type} : DataW H := .agg [.lit (.int .u64 9223372036854775808), .lit (.int .u64 0), .lit (.int .u64 9223372036854775807)]

/-- 'annuluslaw1.NatTells': WHATEVER THE INPUT: true; the input reads as it did. -/
def natTellsSpec : ChangeSpec := { name := "natTells", fn := fun _ => fun
  | [d1, d2] => { results := [.lit (.bool true)], args := [d1, d2] }
  | _ => none }
def natTellsRow : OpenClaim := { program := "ytopkndkicdgafaadoor", sum := "f544f76300bc6eca6b5407cd223f9a59e43bd8cb18fe8710217aa5a659b88b98", func := "annulus/annuluslaw1.NatTells", spec := "natTells", recurses := true, named := ["math/bits.overflowError", "math/bits.deBruijn32tab"], apart := false, laid := [("math/bits.deBruijn32tab", laid_math_bits_deBruijn32tab)] }
def NatTellsSaid : Prop := natTellsRow.holds Tryd.pinned (OpenSpec.ofChange natTellsSpec)

/-- ITS FALSE NEIGHBOUR: 'it returns false'. Refute it at one input. -/
def natTellsWrong : ChangeSpec := { name := "natTells", fn := fun _ => fun
  | [d1, d2] => { results := [.lit (.bool false)], args := [d1, d2] }
  | _ => none }
def NatTellsWrongFalsely : Prop := natTellsRow.holds Tryd.pinned (OpenSpec.ofChange natTellsWrong)

/-- 'annuluslaw1.NatShifts': WHATEVER THE INPUT: true; the input reads as it did. -/
def natShiftsSpec : ChangeSpec := { name := "natShifts", fn := fun _ => fun
  | [d1, d2] => { results := [.lit (.bool true)], args := [d1, d2] }
  | _ => none }
def natShiftsRow : OpenClaim := { program := "ytopkndkicdgafaadoor", sum := "f544f76300bc6eca6b5407cd223f9a59e43bd8cb18fe8710217aa5a659b88b98", func := "annulus/annuluslaw1.NatShifts", spec := "natShifts", recurses := true, named := ["math/bits.overflowError", "math/bits.deBruijn32tab"], apart := false, laid := [("math/bits.deBruijn32tab", laid_math_bits_deBruijn32tab)] }
def NatShiftsSaid : Prop := natShiftsRow.holds Tryd.pinned (OpenSpec.ofChange natShiftsSpec)

/-- ITS FALSE NEIGHBOUR: 'it returns false'. Refute it at one input. -/
def natShiftsWrong : ChangeSpec := { name := "natShifts", fn := fun _ => fun
  | [d1, d2] => { results := [.lit (.bool false)], args := [d1, d2] }
  | _ => none }
def NatShiftsWrongFalsely : Prop := natShiftsRow.holds Tryd.pinned (OpenSpec.ofChange natShiftsWrong)

/-- 'annuluslaw1.NatBack': WHATEVER THE INPUT: true; the input reads as it did. -/
def natBackSpec : ChangeSpec := { name := "natBack", fn := fun _ => fun
  | [d1, d2, d3] => { results := [.lit (.bool true)], args := [d1, d2, d3] }
  | _ => none }
def natBackRow : OpenClaim := { program := "ytopkndkicdgafaadoor", sum := "f544f76300bc6eca6b5407cd223f9a59e43bd8cb18fe8710217aa5a659b88b98", func := "annulus/annuluslaw1.NatBack", spec := "natBack", recurses := true, named := ["math/bits.overflowError", "math/bits.deBruijn32tab"], apart := false, laid := [("math/bits.deBruijn32tab", laid_math_bits_deBruijn32tab)] }
def NatBackSaid : Prop := natBackRow.holds Tryd.pinned (OpenSpec.ofChange natBackSpec)

/-- ITS FALSE NEIGHBOUR: 'it returns false'. Refute it at one input. -/
def natBackWrong : ChangeSpec := { name := "natBack", fn := fun _ => fun
  | [d1, d2, d3] => { results := [.lit (.bool false)], args := [d1, d2, d3] }
  | _ => none }
def NatBackWrongFalsely : Prop := natBackRow.holds Tryd.pinned (OpenSpec.ofChange natBackWrong)

/-- 'annuluslaw1.NatRoots': WHATEVER THE INPUT: true; the input reads as it did. -/
def natRootsSpec : ChangeSpec := { name := "natRoots", fn := fun _ => fun
  | [d1, d2] => { results := [.lit (.bool true)], args := [d1, d2] }
  | _ => none }
def natRootsRow : OpenClaim := { program := "ytopkndkicdgafaadoor", sum := "f544f76300bc6eca6b5407cd223f9a59e43bd8cb18fe8710217aa5a659b88b98", func := "annulus/annuluslaw1.NatRoots", spec := "natRoots", recurses := true, named := ["math/bits.overflowError", "math/bits.deBruijn32tab"], apart := false, laid := [("math/bits.deBruijn32tab", laid_math_bits_deBruijn32tab)] }
def NatRootsSaid : Prop := natRootsRow.holds Tryd.pinned (OpenSpec.ofChange natRootsSpec)

/-- ITS FALSE NEIGHBOUR: 'it returns false'. Refute it at one input. -/
def natRootsWrong : ChangeSpec := { name := "natRoots", fn := fun _ => fun
  | [d1, d2] => { results := [.lit (.bool false)], args := [d1, d2] }
  | _ => none }
def NatRootsWrongFalsely : Prop := natRootsRow.holds Tryd.pinned (OpenSpec.ofChange natRootsWrong)

/-- 'annuluslaw1.NatSquares': WHATEVER THE INPUT: true; the input reads as it did. -/
def natSquaresSpec : ChangeSpec := { name := "natSquares", fn := fun _ => fun
  | [d1, d2] => { results := [.lit (.bool true)], args := [d1, d2] }
  | _ => none }
def natSquaresRow : OpenClaim := { program := "ytopkndkicdgafaadoor", sum := "f544f76300bc6eca6b5407cd223f9a59e43bd8cb18fe8710217aa5a659b88b98", func := "annulus/annuluslaw1.NatSquares", spec := "natSquares", recurses := true, named := ["math/bits.overflowError", "math/bits.deBruijn32tab"], apart := false, laid := [("math/bits.deBruijn32tab", laid_math_bits_deBruijn32tab)] }
def NatSquaresSaid : Prop := natSquaresRow.holds Tryd.pinned (OpenSpec.ofChange natSquaresSpec)

/-- ITS FALSE NEIGHBOUR: 'it returns false'. Refute it at one input. -/
def natSquaresWrong : ChangeSpec := { name := "natSquares", fn := fun _ => fun
  | [d1, d2] => { results := [.lit (.bool false)], args := [d1, d2] }
  | _ => none }
def NatSquaresWrongFalsely : Prop := natSquaresRow.holds Tryd.pinned (OpenSpec.ofChange natSquaresWrong)

/-- 'annuluslaw1.NatOrder': WHATEVER THE INPUT: true; the input reads as it did. -/
def natOrderSpec : ChangeSpec := { name := "natOrder", fn := fun _ => fun
  | [d1, d2, d3, d4] => { results := [.lit (.bool true)], args := [d1, d2, d3, d4] }
  | _ => none }
def natOrderRow : OpenClaim := { program := "ytopkndkicdgafaadoor", sum := "f544f76300bc6eca6b5407cd223f9a59e43bd8cb18fe8710217aa5a659b88b98", func := "annulus/annuluslaw1.NatOrder", spec := "natOrder", recurses := true, named := ["math/bits.overflowError", "math/bits.deBruijn32tab"], apart := false, laid := [("math/bits.deBruijn32tab", laid_math_bits_deBruijn32tab)] }
def NatOrderSaid : Prop := natOrderRow.holds Tryd.pinned (OpenSpec.ofChange natOrderSpec)

/-- ITS FALSE NEIGHBOUR: 'it returns false'. Refute it at one input. -/
def natOrderWrong : ChangeSpec := { name := "natOrder", fn := fun _ => fun
  | [d1, d2, d3, d4] => { results := [.lit (.bool false)], args := [d1, d2, d3, d4] }
  | _ => none }
def NatOrderWrongFalsely : Prop := natOrderRow.holds Tryd.pinned (OpenSpec.ofChange natOrderWrong)

/-- 'annuluslaw1.NatLong': WHATEVER THE INPUT: true; the input reads as it did. -/
def natLongSpec : ChangeSpec := { name := "natLong", fn := fun _ => fun
  | [d1, d2] => { results := [.lit (.bool true)], args := [d1, d2] }
  | _ => none }
def natLongRow : OpenClaim := { program := "ytopkndkicdgafaadoor", sum := "f544f76300bc6eca6b5407cd223f9a59e43bd8cb18fe8710217aa5a659b88b98", func := "annulus/annuluslaw1.NatLong", spec := "natLong", recurses := true, named := ["math/bits.overflowError", "math/bits.deBruijn32tab"], apart := false, laid := [("math/bits.deBruijn32tab", laid_math_bits_deBruijn32tab)] }
def NatLongSaid : Prop := natLongRow.holds Tryd.pinned (OpenSpec.ofChange natLongSpec)

/-- ITS FALSE NEIGHBOUR: 'it returns false'. Refute it at one input. -/
def natLongWrong : ChangeSpec := { name := "natLong", fn := fun _ => fun
  | [d1, d2] => { results := [.lit (.bool false)], args := [d1, d2] }
  | _ => none }
def NatLongWrongFalsely : Prop := natLongRow.holds Tryd.pinned (OpenSpec.ofChange natLongWrong)

/-- 'annuluslaw2.WholeTells': WHATEVER THE INPUT: true; the input reads as it did. -/
def wholeTellsSpec : ChangeSpec := { name := "wholeTells", fn := fun _ => fun
  | [d1, d2] => { results := [.lit (.bool true)], args := [d1, d2] }
  | _ => none }
def wholeTellsRow : OpenClaim := { program := "ytopkndkicdgafaadoor", sum := "f544f76300bc6eca6b5407cd223f9a59e43bd8cb18fe8710217aa5a659b88b98", func := "annulus/annuluslaw2.WholeTells", spec := "wholeTells", named := ["annulus/whole.products", "math/bits.overflowError", "annulus/whole.farthest", "math/bits.deBruijn32tab", "annulus/whole.sums"], apart := false, laid := [("math/bits.deBruijn32tab", laid_math_bits_deBruijn32tab), ("annulus/whole.sums", laid_annulus_whole_sums), ("annulus/whole.products", laid_annulus_whole_products), ("annulus/whole.farthest", laid_annulus_whole_farthest)] }
def WholeTellsSaid : Prop := wholeTellsRow.holds Tryd.pinned (OpenSpec.ofChange wholeTellsSpec)

/-- ITS FALSE NEIGHBOUR: 'it returns false'. Refute it at one input. -/
def wholeTellsWrong : ChangeSpec := { name := "wholeTells", fn := fun _ => fun
  | [d1, d2] => { results := [.lit (.bool false)], args := [d1, d2] }
  | _ => none }
def WholeTellsWrongFalsely : Prop := wholeTellsRow.holds Tryd.pinned (OpenSpec.ofChange wholeTellsWrong)

/-- 'annuluslaw2.WholeShifts': WHATEVER THE INPUT: true; the input reads as it did. -/
def wholeShiftsSpec : ChangeSpec := { name := "wholeShifts", fn := fun _ => fun
  | [d1, d2, d3] => { results := [.lit (.bool true)], args := [d1, d2, d3] }
  | _ => none }
def wholeShiftsRow : OpenClaim := { program := "ytopkndkicdgafaadoor", sum := "f544f76300bc6eca6b5407cd223f9a59e43bd8cb18fe8710217aa5a659b88b98", func := "annulus/annuluslaw2.WholeShifts", spec := "wholeShifts", named := ["annulus/whole.products", "math/bits.overflowError", "annulus/whole.farthest", "math/bits.deBruijn32tab"], apart := false, laid := [("math/bits.deBruijn32tab", laid_math_bits_deBruijn32tab), ("annulus/whole.products", laid_annulus_whole_products), ("annulus/whole.farthest", laid_annulus_whole_farthest)] }
def WholeShiftsSaid : Prop := wholeShiftsRow.holds Tryd.pinned (OpenSpec.ofChange wholeShiftsSpec)

/-- ITS FALSE NEIGHBOUR: 'it returns false'. Refute it at one input. -/
def wholeShiftsWrong : ChangeSpec := { name := "wholeShifts", fn := fun _ => fun
  | [d1, d2, d3] => { results := [.lit (.bool false)], args := [d1, d2, d3] }
  | _ => none }
def WholeShiftsWrongFalsely : Prop := wholeShiftsRow.holds Tryd.pinned (OpenSpec.ofChange wholeShiftsWrong)

/-- 'annuluslaw2.WholeLaws': WHATEVER THE INPUT: true; the input reads as it did. -/
def wholeLawsSpec : ChangeSpec := { name := "wholeLaws", fn := fun _ => fun
  | [d1, d2, d3] => { results := [.lit (.bool true)], args := [d1, d2, d3] }
  | _ => none }
def wholeLawsRow : OpenClaim := { program := "ytopkndkicdgafaadoor", sum := "f544f76300bc6eca6b5407cd223f9a59e43bd8cb18fe8710217aa5a659b88b98", func := "annulus/annuluslaw2.WholeLaws", spec := "wholeLaws", named := ["annulus/whole.products", "math/bits.overflowError", "annulus/whole.farthest", "math/bits.deBruijn32tab", "annulus/whole.sums"], apart := false, laid := [("math/bits.deBruijn32tab", laid_math_bits_deBruijn32tab), ("annulus/whole.sums", laid_annulus_whole_sums), ("annulus/whole.products", laid_annulus_whole_products), ("annulus/whole.farthest", laid_annulus_whole_farthest)] }
def WholeLawsSaid : Prop := wholeLawsRow.holds Tryd.pinned (OpenSpec.ofChange wholeLawsSpec)

/-- ITS FALSE NEIGHBOUR: 'it returns false'. Refute it at one input. -/
def wholeLawsWrong : ChangeSpec := { name := "wholeLaws", fn := fun _ => fun
  | [d1, d2, d3] => { results := [.lit (.bool false)], args := [d1, d2, d3] }
  | _ => none }
def WholeLawsWrongFalsely : Prop := wholeLawsRow.holds Tryd.pinned (OpenSpec.ofChange wholeLawsWrong)

/-- 'annuluslaw2.WholeRests': WHATEVER THE INPUT: true; the input reads as it did. -/
def wholeRestsSpec : ChangeSpec := { name := "wholeRests", fn := fun _ => fun
  | [d1, d2, d3] => { results := [.lit (.bool true)], args := [d1, d2, d3] }
  | _ => none }
def wholeRestsRow : OpenClaim := { program := "ytopkndkicdgafaadoor", sum := "f544f76300bc6eca6b5407cd223f9a59e43bd8cb18fe8710217aa5a659b88b98", func := "annulus/annuluslaw2.WholeRests", spec := "wholeRests", named := ["annulus/whole.products", "math/bits.overflowError", "annulus/whole.farthest", "math/bits.deBruijn32tab", "annulus/whole.sums"], apart := false, laid := [("math/bits.deBruijn32tab", laid_math_bits_deBruijn32tab), ("annulus/whole.sums", laid_annulus_whole_sums), ("annulus/whole.products", laid_annulus_whole_products), ("annulus/whole.farthest", laid_annulus_whole_farthest)] }
def WholeRestsSaid : Prop := wholeRestsRow.holds Tryd.pinned (OpenSpec.ofChange wholeRestsSpec)

/-- ITS FALSE NEIGHBOUR: 'it returns false'. Refute it at one input. -/
def wholeRestsWrong : ChangeSpec := { name := "wholeRests", fn := fun _ => fun
  | [d1, d2, d3] => { results := [.lit (.bool false)], args := [d1, d2, d3] }
  | _ => none }
def WholeRestsWrongFalsely : Prop := wholeRestsRow.holds Tryd.pinned (OpenSpec.ofChange wholeRestsWrong)

/-- 'annuluslaw2.WholeSmalls': WHATEVER THE INPUT: true; the input reads as it did. -/
def wholeSmallsSpec : ChangeSpec := { name := "wholeSmalls", fn := fun _ => fun
  | [d1, d2, d3] => { results := [.lit (.bool true)], args := [d1, d2, d3] }
  | _ => none }
def wholeSmallsRow : OpenClaim := { program := "ytopkndkicdgafaadoor", sum := "f544f76300bc6eca6b5407cd223f9a59e43bd8cb18fe8710217aa5a659b88b98", func := "annulus/annuluslaw2.WholeSmalls", spec := "wholeSmalls", named := ["annulus/whole.products", "math/bits.overflowError", "annulus/whole.farthest", "math/bits.deBruijn32tab", "annulus/whole.sums"], apart := false, laid := [("math/bits.deBruijn32tab", laid_math_bits_deBruijn32tab), ("annulus/whole.sums", laid_annulus_whole_sums), ("annulus/whole.products", laid_annulus_whole_products), ("annulus/whole.farthest", laid_annulus_whole_farthest)] }
def WholeSmallsSaid : Prop := wholeSmallsRow.holds Tryd.pinned (OpenSpec.ofChange wholeSmallsSpec)

/-- ITS FALSE NEIGHBOUR: 'it returns false'. Refute it at one input. -/
def wholeSmallsWrong : ChangeSpec := { name := "wholeSmalls", fn := fun _ => fun
  | [d1, d2, d3] => { results := [.lit (.bool false)], args := [d1, d2, d3] }
  | _ => none }
def WholeSmallsWrongFalsely : Prop := wholeSmallsRow.holds Tryd.pinned (OpenSpec.ofChange wholeSmallsWrong)

/-- 'annuluslaw2.WholeEnds': WHATEVER THE INPUT: true; the input reads as it did. -/
def wholeEndsSpec : ChangeSpec := { name := "wholeEnds", fn := fun _ => fun
  | [d] => { results := [.lit (.bool true)], args := [d] }
  | _ => none }
def wholeEndsRow : OpenClaim := { program := "ytopkndkicdgafaadoor", sum := "f544f76300bc6eca6b5407cd223f9a59e43bd8cb18fe8710217aa5a659b88b98", func := "annulus/annuluslaw2.WholeEnds", spec := "wholeEnds", named := ["annulus/whole.products", "math/bits.overflowError", "annulus/whole.farthest", "math/bits.deBruijn32tab", "annulus/whole.sums"], apart := false, laid := [("math/bits.deBruijn32tab", laid_math_bits_deBruijn32tab), ("annulus/whole.sums", laid_annulus_whole_sums), ("annulus/whole.products", laid_annulus_whole_products), ("annulus/whole.farthest", laid_annulus_whole_farthest)] }
def WholeEndsSaid : Prop := wholeEndsRow.holds Tryd.pinned (OpenSpec.ofChange wholeEndsSpec)

/-- ITS FALSE NEIGHBOUR: 'it returns false'. Refute it at one input. -/
def wholeEndsWrong : ChangeSpec := { name := "wholeEnds", fn := fun _ => fun
  | [d] => { results := [.lit (.bool false)], args := [d] }
  | _ => none }
def WholeEndsWrongFalsely : Prop := wholeEndsRow.holds Tryd.pinned (OpenSpec.ofChange wholeEndsWrong)

/-- 'annuluslaw2.WholeNorms': WHATEVER THE INPUT: true; the input reads as it did. -/
def wholeNormsSpec : ChangeSpec := { name := "wholeNorms", fn := fun _ => fun
  | [d1, d2, d3] => { results := [.lit (.bool true)], args := [d1, d2, d3] }
  | _ => none }
def wholeNormsRow : OpenClaim := { program := "ytopkndkicdgafaadoor", sum := "f544f76300bc6eca6b5407cd223f9a59e43bd8cb18fe8710217aa5a659b88b98", func := "annulus/annuluslaw2.WholeNorms", spec := "wholeNorms", named := ["annulus/whole.products", "math/bits.overflowError", "annulus/whole.farthest", "math/bits.deBruijn32tab", "annulus/whole.sums"], apart := false, laid := [("math/bits.deBruijn32tab", laid_math_bits_deBruijn32tab), ("annulus/whole.sums", laid_annulus_whole_sums), ("annulus/whole.products", laid_annulus_whole_products), ("annulus/whole.farthest", laid_annulus_whole_farthest)] }
def WholeNormsSaid : Prop := wholeNormsRow.holds Tryd.pinned (OpenSpec.ofChange wholeNormsSpec)

/-- ITS FALSE NEIGHBOUR: 'it returns false'. Refute it at one input. -/
def wholeNormsWrong : ChangeSpec := { name := "wholeNorms", fn := fun _ => fun
  | [d1, d2, d3] => { results := [.lit (.bool false)], args := [d1, d2, d3] }
  | _ => none }
def WholeNormsWrongFalsely : Prop := wholeNormsRow.holds Tryd.pinned (OpenSpec.ofChange wholeNormsWrong)

/- THE SECOND FORM. 'bulk': how many values and letters a reading holds, each counted each time it is reached (what is shared counts as often as it is met; a slice's spare places count too). A statement '..UptoSaid' is the law's where the arguments, and the package variables that the reading takes, are together of bulk at most 1048576: NARROWER than '..Said'. Prove '..Said' where nothing that the law and all that it calls make is longer than what came in: it says more and counts as full. Else prove '..UptoSaid'. A law counts once. -/
mutual
def uptoBulk {H : Type} : DataW H → Nat
  | .lit (.string bytes) => bytes.length + 1
  | .lit _ => 1
  | .nil => 1
  | .ptr d => uptoBulk d + 1
  | .slice elems spare => uptoBulkAll elems + uptoBulkAll spare + 1
  | .agg parts => uptoBulkAll parts + 1
  | .iface _ d => uptoBulk d + 1
  | .map entries => uptoBulkEntries entries + 1
  | .held _ => 1
def uptoBulkAll {H : Type} : List (DataW H) → Nat
  | [] => 0
  | d :: r => uptoBulk d + uptoBulkAll r
def uptoBulkEntries {H : Type} : List (Lit × DataW H) → Nat
  | [] => 0
  | x :: r => uptoBulkEntry x + uptoBulkEntries r
def uptoBulkEntry {H : Type} : Lit × DataW H → Nat
  | (.string bytes, d) => bytes.length + uptoBulk d + 1
  | (_, d) => uptoBulk d + 1
 end
def uptoSmall : (H : Type) → List (DataW H) → Bool := fun _ ds => decide (uptoBulkAll ds ≤ 1048576)
def OpenSpec.upto (s : _root_.Go.ChangeSpec) : _root_.Go.OpenSpec := { _root_.Go.OpenSpec.ofChange s with cond := some uptoSmall }

/-- 'annuluslaw1.NatTells', WHERE WHAT IT READS IS OF BULK AT MOST 1048576: true; the input reads as it did. -/
def natTellsUptoRow : OpenClaim := { program := "ytopkndkicdgafaadoor", sum := "f544f76300bc6eca6b5407cd223f9a59e43bd8cb18fe8710217aa5a659b88b98", func := "annulus/annuluslaw1.NatTells", spec := "natTells", recurses := true, named := ["math/bits.overflowError", "math/bits.deBruijn32tab"], apart := false, laid := [("math/bits.deBruijn32tab", laid_math_bits_deBruijn32tab)], narrowed := true }
def NatTellsUptoSaid : Prop := natTellsUptoRow.holds Tryd.pinned (OpenSpec.upto natTellsSpec)

/-- 'annuluslaw1.NatShifts', WHERE WHAT IT READS IS OF BULK AT MOST 1048576: true; the input reads as it did. -/
def natShiftsUptoRow : OpenClaim := { program := "ytopkndkicdgafaadoor", sum := "f544f76300bc6eca6b5407cd223f9a59e43bd8cb18fe8710217aa5a659b88b98", func := "annulus/annuluslaw1.NatShifts", spec := "natShifts", recurses := true, named := ["math/bits.overflowError", "math/bits.deBruijn32tab"], apart := false, laid := [("math/bits.deBruijn32tab", laid_math_bits_deBruijn32tab)], narrowed := true }
def NatShiftsUptoSaid : Prop := natShiftsUptoRow.holds Tryd.pinned (OpenSpec.upto natShiftsSpec)

/-- 'annuluslaw1.NatBack', WHERE WHAT IT READS IS OF BULK AT MOST 1048576: true; the input reads as it did. -/
def natBackUptoRow : OpenClaim := { program := "ytopkndkicdgafaadoor", sum := "f544f76300bc6eca6b5407cd223f9a59e43bd8cb18fe8710217aa5a659b88b98", func := "annulus/annuluslaw1.NatBack", spec := "natBack", recurses := true, named := ["math/bits.overflowError", "math/bits.deBruijn32tab"], apart := false, laid := [("math/bits.deBruijn32tab", laid_math_bits_deBruijn32tab)], narrowed := true }
def NatBackUptoSaid : Prop := natBackUptoRow.holds Tryd.pinned (OpenSpec.upto natBackSpec)

/-- 'annuluslaw1.NatRoots', WHERE WHAT IT READS IS OF BULK AT MOST 1048576: true; the input reads as it did. -/
def natRootsUptoRow : OpenClaim := { program := "ytopkndkicdgafaadoor", sum := "f544f76300bc6eca6b5407cd223f9a59e43bd8cb18fe8710217aa5a659b88b98", func := "annulus/annuluslaw1.NatRoots", spec := "natRoots", recurses := true, named := ["math/bits.overflowError", "math/bits.deBruijn32tab"], apart := false, laid := [("math/bits.deBruijn32tab", laid_math_bits_deBruijn32tab)], narrowed := true }
def NatRootsUptoSaid : Prop := natRootsUptoRow.holds Tryd.pinned (OpenSpec.upto natRootsSpec)

/-- 'annuluslaw1.NatSquares', WHERE WHAT IT READS IS OF BULK AT MOST 1048576: true; the input reads as it did. -/
def natSquaresUptoRow : OpenClaim := { program := "ytopkndkicdgafaadoor", sum := "f544f76300bc6eca6b5407cd223f9a59e43bd8cb18fe8710217aa5a659b88b98", func := "annulus/annuluslaw1.NatSquares", spec := "natSquares", recurses := true, named := ["math/bits.overflowError", "math/bits.deBruijn32tab"], apart := false, laid := [("math/bits.deBruijn32tab", laid_math_bits_deBruijn32tab)], narrowed := true }
def NatSquaresUptoSaid : Prop := natSquaresUptoRow.holds Tryd.pinned (OpenSpec.upto natSquaresSpec)

/-- 'annuluslaw1.NatOrder', WHERE WHAT IT READS IS OF BULK AT MOST 1048576: true; the input reads as it did. -/
def natOrderUptoRow : OpenClaim := { program := "ytopkndkicdgafaadoor", sum := "f544f76300bc6eca6b5407cd223f9a59e43bd8cb18fe8710217aa5a659b88b98", func := "annulus/annuluslaw1.NatOrder", spec := "natOrder", recurses := true, named := ["math/bits.overflowError", "math/bits.deBruijn32tab"], apart := false, laid := [("math/bits.deBruijn32tab", laid_math_bits_deBruijn32tab)], narrowed := true }
def NatOrderUptoSaid : Prop := natOrderUptoRow.holds Tryd.pinned (OpenSpec.upto natOrderSpec)

/-- 'annuluslaw1.NatLong', WHERE WHAT IT READS IS OF BULK AT MOST 1048576: true; the input reads as it did. -/
def natLongUptoRow : OpenClaim := { program := "ytopkndkicdgafaadoor", sum := "f544f76300bc6eca6b5407cd223f9a59e43bd8cb18fe8710217aa5a659b88b98", func := "annulus/annuluslaw1.NatLong", spec := "natLong", recurses := true, named := ["math/bits.overflowError", "math/bits.deBruijn32tab"], apart := false, laid := [("math/bits.deBruijn32tab", laid_math_bits_deBruijn32tab)], narrowed := true }
def NatLongUptoSaid : Prop := natLongUptoRow.holds Tryd.pinned (OpenSpec.upto natLongSpec)

/-- 'annuluslaw2.WholeTells', WHERE WHAT IT READS IS OF BULK AT MOST 1048576: true; the input reads as it did. -/
def wholeTellsUptoRow : OpenClaim := { program := "ytopkndkicdgafaadoor", sum := "f544f76300bc6eca6b5407cd223f9a59e43bd8cb18fe8710217aa5a659b88b98", func := "annulus/annuluslaw2.WholeTells", spec := "wholeTells", named := ["annulus/whole.products", "math/bits.overflowError", "annulus/whole.farthest", "math/bits.deBruijn32tab", "annulus/whole.sums"], apart := false, laid := [("math/bits.deBruijn32tab", laid_math_bits_deBruijn32tab), ("annulus/whole.sums", laid_annulus_whole_sums), ("annulus/whole.products", laid_annulus_whole_products), ("annulus/whole.farthest", laid_annulus_whole_farthest)], narrowed := true }
def WholeTellsUptoSaid : Prop := wholeTellsUptoRow.holds Tryd.pinned (OpenSpec.upto wholeTellsSpec)

/-- 'annuluslaw2.WholeShifts', WHERE WHAT IT READS IS OF BULK AT MOST 1048576: true; the input reads as it did. -/
def wholeShiftsUptoRow : OpenClaim := { program := "ytopkndkicdgafaadoor", sum := "f544f76300bc6eca6b5407cd223f9a59e43bd8cb18fe8710217aa5a659b88b98", func := "annulus/annuluslaw2.WholeShifts", spec := "wholeShifts", named := ["annulus/whole.products", "math/bits.overflowError", "annulus/whole.farthest", "math/bits.deBruijn32tab"], apart := false, laid := [("math/bits.deBruijn32tab", laid_math_bits_deBruijn32tab), ("annulus/whole.products", laid_annulus_whole_products), ("annulus/whole.farthest", laid_annulus_whole_farthest)], narrowed := true }
def WholeShiftsUptoSaid : Prop := wholeShiftsUptoRow.holds Tryd.pinned (OpenSpec.upto wholeShiftsSpec)

/-- 'annuluslaw2.WholeLaws', WHERE WHAT IT READS IS OF BULK AT MOST 1048576: true; the input reads as it did. -/
def wholeLawsUptoRow : OpenClaim := { program := "ytopkndkicdgafaadoor", sum := "f544f76300bc6eca6b5407cd223f9a59e43bd8cb18fe8710217aa5a659b88b98", func := "annulus/annuluslaw2.WholeLaws", spec := "wholeLaws", named := ["annulus/whole.products", "math/bits.overflowError", "annulus/whole.farthest", "math/bits.deBruijn32tab", "annulus/whole.sums"], apart := false, laid := [("math/bits.deBruijn32tab", laid_math_bits_deBruijn32tab), ("annulus/whole.sums", laid_annulus_whole_sums), ("annulus/whole.products", laid_annulus_whole_products), ("annulus/whole.farthest", laid_annulus_whole_farthest)], narrowed := true }
def WholeLawsUptoSaid : Prop := wholeLawsUptoRow.holds Tryd.pinned (OpenSpec.upto wholeLawsSpec)

/-- 'annuluslaw2.WholeRests', WHERE WHAT IT READS IS OF BULK AT MOST 1048576: true; the input reads as it did. -/
def wholeRestsUptoRow : OpenClaim := { program := "ytopkndkicdgafaadoor", sum := "f544f76300bc6eca6b5407cd223f9a59e43bd8cb18fe8710217aa5a659b88b98", func := "annulus/annuluslaw2.WholeRests", spec := "wholeRests", named := ["annulus/whole.products", "math/bits.overflowError", "annulus/whole.farthest", "math/bits.deBruijn32tab", "annulus/whole.sums"], apart := false, laid := [("math/bits.deBruijn32tab", laid_math_bits_deBruijn32tab), ("annulus/whole.sums", laid_annulus_whole_sums), ("annulus/whole.products", laid_annulus_whole_products), ("annulus/whole.farthest", laid_annulus_whole_farthest)], narrowed := true }
def WholeRestsUptoSaid : Prop := wholeRestsUptoRow.holds Tryd.pinned (OpenSpec.upto wholeRestsSpec)

/-- 'annuluslaw2.WholeSmalls', WHERE WHAT IT READS IS OF BULK AT MOST 1048576: true; the input reads as it did. -/
def wholeSmallsUptoRow : OpenClaim := { program := "ytopkndkicdgafaadoor", sum := "f544f76300bc6eca6b5407cd223f9a59e43bd8cb18fe8710217aa5a659b88b98", func := "annulus/annuluslaw2.WholeSmalls", spec := "wholeSmalls", named := ["annulus/whole.products", "math/bits.overflowError", "annulus/whole.farthest", "math/bits.deBruijn32tab", "annulus/whole.sums"], apart := false, laid := [("math/bits.deBruijn32tab", laid_math_bits_deBruijn32tab), ("annulus/whole.sums", laid_annulus_whole_sums), ("annulus/whole.products", laid_annulus_whole_products), ("annulus/whole.farthest", laid_annulus_whole_farthest)], narrowed := true }
def WholeSmallsUptoSaid : Prop := wholeSmallsUptoRow.holds Tryd.pinned (OpenSpec.upto wholeSmallsSpec)

/-- 'annuluslaw2.WholeEnds', WHERE WHAT IT READS IS OF BULK AT MOST 1048576: true; the input reads as it did. -/
def wholeEndsUptoRow : OpenClaim := { program := "ytopkndkicdgafaadoor", sum := "f544f76300bc6eca6b5407cd223f9a59e43bd8cb18fe8710217aa5a659b88b98", func := "annulus/annuluslaw2.WholeEnds", spec := "wholeEnds", named := ["annulus/whole.products", "math/bits.overflowError", "annulus/whole.farthest", "math/bits.deBruijn32tab", "annulus/whole.sums"], apart := false, laid := [("math/bits.deBruijn32tab", laid_math_bits_deBruijn32tab), ("annulus/whole.sums", laid_annulus_whole_sums), ("annulus/whole.products", laid_annulus_whole_products), ("annulus/whole.farthest", laid_annulus_whole_farthest)], narrowed := true }
def WholeEndsUptoSaid : Prop := wholeEndsUptoRow.holds Tryd.pinned (OpenSpec.upto wholeEndsSpec)

/-- 'annuluslaw2.WholeNorms', WHERE WHAT IT READS IS OF BULK AT MOST 1048576: true; the input reads as it did. -/
def wholeNormsUptoRow : OpenClaim := { program := "ytopkndkicdgafaadoor", sum := "f544f76300bc6eca6b5407cd223f9a59e43bd8cb18fe8710217aa5a659b88b98", func := "annulus/annuluslaw2.WholeNorms", spec := "wholeNorms", named := ["annulus/whole.products", "math/bits.overflowError", "annulus/whole.farthest", "math/bits.deBruijn32tab", "annulus/whole.sums"], apart := false, laid := [("math/bits.deBruijn32tab", laid_math_bits_deBruijn32tab), ("annulus/whole.sums", laid_annulus_whole_sums), ("annulus/whole.products", laid_annulus_whole_products), ("annulus/whole.farthest", laid_annulus_whole_farthest)], narrowed := true }
def WholeNormsUptoSaid : Prop := wholeNormsUptoRow.holds Tryd.pinned (OpenSpec.upto wholeNormsSpec)

end Rows
end Go.Proofs.YtopkndkicdgafaaDoor
