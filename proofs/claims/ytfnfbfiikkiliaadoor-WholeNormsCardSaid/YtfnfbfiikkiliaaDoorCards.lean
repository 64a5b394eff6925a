/-
  DERIVED. GIVEN WITH THE SEED: THE CARDS: each row of YtfnfbfiikkiliaaDoorRows.lean that lists a variable, with what it lists TIED to the program's text (the seventh form; the later family's looks); each row that meets fmt, with fmt's text TOLD by the authors' own Lean function (tested against real Go, not proved from fmt's source: count such statements apart). THE CARD IS WHAT COUNTS. Prove the row's statement (the work); the ties are given (YtfnfbfiikkiliaaDoorTie.lean); close each card by the builder's one call (the guide's Derived/Test/ToyasCard.lean, 'card_holds'). Laid BY PROGRAM, IN A SANDBOX (cutbox-door.mjs). By AI agents, Wed Nov 11 2026. No macro, syntax, notation, axiom, sorry.
-/
import Derived.Test.YtfnfbfiikkiliaaDoorRows
import GoSem.ClaimSeven
namespace Go.Proofs.YtfnfbfiikkiliaaDoor
namespace Rows

/-- THE TIED CARD OF 'annuluslaw2.WholeTells'. -/
def wholeTellsCard : Claim7 := { stood := { row := wholeTellsRow, standIns := [], harness := (true, "e281db61f2dd501ebf0720a120c0eb0c8d793b80cddef12e101d0d6443dcc1d8"), looks := false }, kinds := [], alts := [], laidByText := true, laidKinds := [.data, .data, .data, .data], laidTests := true, laidLooks := .later }
def WholeTellsCardSaid : Prop := Claim7.holds Tryd.pinned (.plain (OpenSpec.ofChange wholeTellsSpec)) wholeTellsCard

/-- THE TIED CARD OF 'annuluslaw2.WholeShifts'. -/
def wholeShiftsCard : Claim7 := { stood := { row := wholeShiftsRow, standIns := [], harness := (true, "e281db61f2dd501ebf0720a120c0eb0c8d793b80cddef12e101d0d6443dcc1d8"), looks := false }, kinds := [], alts := [], laidByText := true, laidKinds := [.data, .data, .data], laidTests := true, laidLooks := .later }
def WholeShiftsCardSaid : Prop := Claim7.holds Tryd.pinned (.plain (OpenSpec.ofChange wholeShiftsSpec)) wholeShiftsCard

/-- THE TIED CARD OF 'annuluslaw2.WholeRests'. -/
def wholeRestsCard : Claim7 := { stood := { row := wholeRestsRow, standIns := [], harness := (true, "e281db61f2dd501ebf0720a120c0eb0c8d793b80cddef12e101d0d6443dcc1d8"), looks := false }, kinds := [], alts := [], laidByText := true, laidKinds := [.data, .data, .data, .data], laidTests := true, laidLooks := .later }
def WholeRestsCardSaid : Prop := Claim7.holds Tryd.pinned (.plain (OpenSpec.ofChange wholeRestsSpec)) wholeRestsCard

/-- THE TIED CARD OF 'annuluslaw2.WholeNorms'. -/
def wholeNormsCard : Claim7 := { stood := { row := wholeNormsRow, standIns := [], harness := (true, "e281db61f2dd501ebf0720a120c0eb0c8d793b80cddef12e101d0d6443dcc1d8"), looks := false }, kinds := [], alts := [], laidByText := true, laidKinds := [.data, .data, .data, .data], laidTests := true, laidLooks := .later }
def WholeNormsCardSaid : Prop := Claim7.holds Tryd.pinned (.plain (OpenSpec.ofChange wholeNormsSpec)) wholeNormsCard

/-- THE TIED CARD OF 'annuluslaw3.DigitsTell'. -/
def digitsTellCard : Claim7 := { stood := { row := digitsTellRow, standIns := [], harness := (true, "e281db61f2dd501ebf0720a120c0eb0c8d793b80cddef12e101d0d6443dcc1d8"), looks := false }, kinds := [], alts := [], laidByText := true, laidKinds := [.data, .data, .data], laidTests := true, laidLooks := .later }
def DigitsTellCardSaid : Prop := Claim7.holds Tryd.pinned (.plain (OpenSpec.ofChange digitsTellSpec)) digitsTellCard

/-- THE TIED CARD OF 'annuluslaw3.DigitsBack'. -/
def digitsBackCard : Claim7 := { stood := { row := digitsBackRow, standIns := [], harness := (true, "e281db61f2dd501ebf0720a120c0eb0c8d793b80cddef12e101d0d6443dcc1d8"), looks := false }, kinds := [], alts := [], laidByText := true, laidKinds := [.data, .data, .data], laidTests := true, laidLooks := .later }
def DigitsBackCardSaid : Prop := Claim7.holds Tryd.pinned (.plain (OpenSpec.ofChange digitsBackSpec)) digitsBackCard

/-- THE TIED CARD OF 'annuluslaw3.DigitsLong'. -/
def digitsLongCard : Claim7 := { stood := { row := digitsLongRow, standIns := [], harness := (true, "e281db61f2dd501ebf0720a120c0eb0c8d793b80cddef12e101d0d6443dcc1d8"), looks := false }, kinds := [], alts := [], laidByText := true, laidKinds := [.data, .data, .data], laidTests := true, laidLooks := .later }
def DigitsLongCardSaid : Prop := Claim7.holds Tryd.pinned (.plain (OpenSpec.ofChange digitsLongSpec)) digitsLongCard

/-- THE TIED CARD OF 'annuluslaw3.DigitsSums'. -/
def digitsSumsCard : Claim7 := { stood := { row := digitsSumsRow, standIns := [], harness := (true, "e281db61f2dd501ebf0720a120c0eb0c8d793b80cddef12e101d0d6443dcc1d8"), looks := false }, kinds := [], alts := [], laidByText := true, laidKinds := [.data, .data, .data, .data], laidTests := true, laidLooks := .later }
def DigitsSumsCardSaid : Prop := Claim7.holds Tryd.pinned (.plain (OpenSpec.ofChange digitsSumsSpec)) digitsSumsCard

/-- THE SECOND FORM's CARD OF 'annuluslaw2.WholeTells'. -/
def wholeTellsUptoCard : Claim7 := { stood := { row := wholeTellsUptoRow, standIns := [], harness := (true, "e281db61f2dd501ebf0720a120c0eb0c8d793b80cddef12e101d0d6443dcc1d8"), looks := false }, kinds := [], alts := [], laidByText := true, laidKinds := [.data, .data, .data, .data], laidTests := true, laidLooks := .later }
def WholeTellsUptoCardSaid : Prop := Claim7.holds Tryd.pinned (.plain (OpenSpec.upto wholeTellsSpec)) wholeTellsUptoCard

/-- THE SECOND FORM's CARD OF 'annuluslaw2.WholeShifts'. -/
def wholeShiftsUptoCard : Claim7 := { stood := { row := wholeShiftsUptoRow, standIns := [], harness := (true, "e281db61f2dd501ebf0720a120c0eb0c8d793b80cddef12e101d0d6443dcc1d8"), looks := false }, kinds := [], alts := [], laidByText := true, laidKinds := [.data, .data, .data], laidTests := true, laidLooks := .later }
def WholeShiftsUptoCardSaid : Prop := Claim7.holds Tryd.pinned (.plain (OpenSpec.upto wholeShiftsSpec)) wholeShiftsUptoCard

/-- THE SECOND FORM's CARD OF 'annuluslaw2.WholeRests'. -/
def wholeRestsUptoCard : Claim7 := { stood := { row := wholeRestsUptoRow, standIns := [], harness := (true, "e281db61f2dd501ebf0720a120c0eb0c8d793b80cddef12e101d0d6443dcc1d8"), looks := false }, kinds := [], alts := [], laidByText := true, laidKinds := [.data, .data, .data, .data], laidTests := true, laidLooks := .later }
def WholeRestsUptoCardSaid : Prop := Claim7.holds Tryd.pinned (.plain (OpenSpec.upto wholeRestsSpec)) wholeRestsUptoCard

/-- THE SECOND FORM's CARD OF 'annuluslaw2.WholeNorms'. -/
def wholeNormsUptoCard : Claim7 := { stood := { row := wholeNormsUptoRow, standIns := [], harness := (true, "e281db61f2dd501ebf0720a120c0eb0c8d793b80cddef12e101d0d6443dcc1d8"), looks := false }, kinds := [], alts := [], laidByText := true, laidKinds := [.data, .data, .data, .data], laidTests := true, laidLooks := .later }
def WholeNormsUptoCardSaid : Prop := Claim7.holds Tryd.pinned (.plain (OpenSpec.upto wholeNormsSpec)) wholeNormsUptoCard

/-- THE SECOND FORM's CARD OF 'annuluslaw3.DigitsTell'. -/
def digitsTellUptoCard : Claim7 := { stood := { row := digitsTellUptoRow, standIns := [], harness := (true, "e281db61f2dd501ebf0720a120c0eb0c8d793b80cddef12e101d0d6443dcc1d8"), looks := false }, kinds := [], alts := [], laidByText := true, laidKinds := [.data, .data, .data], laidTests := true, laidLooks := .later }
def DigitsTellUptoCardSaid : Prop := Claim7.holds Tryd.pinned (.plain (OpenSpec.upto digitsTellSpec)) digitsTellUptoCard

/-- THE SECOND FORM's CARD OF 'annuluslaw3.DigitsBack'. -/
def digitsBackUptoCard : Claim7 := { stood := { row := digitsBackUptoRow, standIns := [], harness := (true, "e281db61f2dd501ebf0720a120c0eb0c8d793b80cddef12e101d0d6443dcc1d8"), looks := false }, kinds := [], alts := [], laidByText := true, laidKinds := [.data, .data, .data], laidTests := true, laidLooks := .later }
def DigitsBackUptoCardSaid : Prop := Claim7.holds Tryd.pinned (.plain (OpenSpec.upto digitsBackSpec)) digitsBackUptoCard

/-- THE SECOND FORM's CARD OF 'annuluslaw3.DigitsLong'. -/
def digitsLongUptoCard : Claim7 := { stood := { row := digitsLongUptoRow, standIns := [], harness := (true, "e281db61f2dd501ebf0720a120c0eb0c8d793b80cddef12e101d0d6443dcc1d8"), looks := false }, kinds := [], alts := [], laidByText := true, laidKinds := [.data, .data, .data], laidTests := true, laidLooks := .later }
def DigitsLongUptoCardSaid : Prop := Claim7.holds Tryd.pinned (.plain (OpenSpec.upto digitsLongSpec)) digitsLongUptoCard

/-- THE SECOND FORM's CARD OF 'annuluslaw3.DigitsSums'. -/
def digitsSumsUptoCard : Claim7 := { stood := { row := digitsSumsUptoRow, standIns := [], harness := (true, "e281db61f2dd501ebf0720a120c0eb0c8d793b80cddef12e101d0d6443dcc1d8"), looks := false }, kinds := [], alts := [], laidByText := true, laidKinds := [.data, .data, .data, .data], laidTests := true, laidLooks := .later }
def DigitsSumsUptoCardSaid : Prop := Claim7.holds Tryd.pinned (.plain (OpenSpec.upto digitsSumsSpec)) digitsSumsUptoCard
end Rows
end Go.Proofs.YtfnfbfiikkiliaaDoor
