/-
  DERIVED. GIVEN WITH THE SEED: THE CARDS: each row of YtopkndkicdgafaaDoorRows.lean that lists a variable, with what it lists TIED to the program's text (the seventh form; the later family's looks); each row that meets fmt, with fmt's text TOLD by the authors' own Lean function (tested against real Go, not proved from fmt's source: count such statements apart). THE CARD IS WHAT COUNTS. Prove the row's statement (the work); the ties are given (YtopkndkicdgafaaDoorTie.lean); close each card by the builder's one call (the guide's Derived/Test/ToyasCard.lean, 'card_holds'). Laid BY PROGRAM, IN A SANDBOX (cutbox-door.mjs). By AI agents, Wed Nov 11 2026. No macro, syntax, notation, axiom, sorry.
-/
import Derived.Test.YtopkndkicdgafaaDoorRows
import GoSem.ClaimSeven
namespace Go.Proofs.YtopkndkicdgafaaDoor
namespace Rows

/-- THE TIED CARD OF 'annuluslaw1.NatTells'. -/
def natTellsCard : Claim7 := { stood := { row := natTellsRow, standIns := [], harness := (true, "4f351ea9945d276f5957eed6b55462ffb0d0439f239b4f0b0f5386ebead02937"), looks := false }, kinds := [], alts := [], laidByText := true, laidKinds := [.data], laidTests := true, laidLooks := .later }
def NatTellsCardSaid : Prop := Claim7.holds Tryd.pinned (.plain (OpenSpec.ofChange natTellsSpec)) natTellsCard

/-- THE TIED CARD OF 'annuluslaw1.NatShifts'. -/
def natShiftsCard : Claim7 := { stood := { row := natShiftsRow, standIns := [], harness := (true, "4f351ea9945d276f5957eed6b55462ffb0d0439f239b4f0b0f5386ebead02937"), looks := false }, kinds := [], alts := [], laidByText := true, laidKinds := [.data], laidTests := true, laidLooks := .later }
def NatShiftsCardSaid : Prop := Claim7.holds Tryd.pinned (.plain (OpenSpec.ofChange natShiftsSpec)) natShiftsCard

/-- THE TIED CARD OF 'annuluslaw1.NatBack'. -/
def natBackCard : Claim7 := { stood := { row := natBackRow, standIns := [], harness := (true, "4f351ea9945d276f5957eed6b55462ffb0d0439f239b4f0b0f5386ebead02937"), looks := false }, kinds := [], alts := [], laidByText := true, laidKinds := [.data], laidTests := true, laidLooks := .later }
def NatBackCardSaid : Prop := Claim7.holds Tryd.pinned (.plain (OpenSpec.ofChange natBackSpec)) natBackCard

/-- THE TIED CARD OF 'annuluslaw1.NatRoots'. -/
def natRootsCard : Claim7 := { stood := { row := natRootsRow, standIns := [], harness := (true, "4f351ea9945d276f5957eed6b55462ffb0d0439f239b4f0b0f5386ebead02937"), looks := false }, kinds := [], alts := [], laidByText := true, laidKinds := [.data], laidTests := true, laidLooks := .later }
def NatRootsCardSaid : Prop := Claim7.holds Tryd.pinned (.plain (OpenSpec.ofChange natRootsSpec)) natRootsCard

/-- THE TIED CARD OF 'annuluslaw1.NatSquares'. -/
def natSquaresCard : Claim7 := { stood := { row := natSquaresRow, standIns := [], harness := (true, "4f351ea9945d276f5957eed6b55462ffb0d0439f239b4f0b0f5386ebead02937"), looks := false }, kinds := [], alts := [], laidByText := true, laidKinds := [.data], laidTests := true, laidLooks := .later }
def NatSquaresCardSaid : Prop := Claim7.holds Tryd.pinned (.plain (OpenSpec.ofChange natSquaresSpec)) natSquaresCard

/-- THE TIED CARD OF 'annuluslaw1.NatOrder'. -/
def natOrderCard : Claim7 := { stood := { row := natOrderRow, standIns := [], harness := (true, "4f351ea9945d276f5957eed6b55462ffb0d0439f239b4f0b0f5386ebead02937"), looks := false }, kinds := [], alts := [], laidByText := true, laidKinds := [.data], laidTests := true, laidLooks := .later }
def NatOrderCardSaid : Prop := Claim7.holds Tryd.pinned (.plain (OpenSpec.ofChange natOrderSpec)) natOrderCard

/-- THE TIED CARD OF 'annuluslaw1.NatLong'. -/
def natLongCard : Claim7 := { stood := { row := natLongRow, standIns := [], harness := (true, "4f351ea9945d276f5957eed6b55462ffb0d0439f239b4f0b0f5386ebead02937"), looks := false }, kinds := [], alts := [], laidByText := true, laidKinds := [.data], laidTests := true, laidLooks := .later }
def NatLongCardSaid : Prop := Claim7.holds Tryd.pinned (.plain (OpenSpec.ofChange natLongSpec)) natLongCard

/-- THE TIED CARD OF 'annuluslaw2.WholeTells'. -/
def wholeTellsCard : Claim7 := { stood := { row := wholeTellsRow, standIns := [], harness := (true, "4f351ea9945d276f5957eed6b55462ffb0d0439f239b4f0b0f5386ebead02937"), looks := false }, kinds := [], alts := [], laidByText := true, laidKinds := [.data, .data, .data, .data], laidTests := true, laidLooks := .later }
def WholeTellsCardSaid : Prop := Claim7.holds Tryd.pinned (.plain (OpenSpec.ofChange wholeTellsSpec)) wholeTellsCard

/-- THE TIED CARD OF 'annuluslaw2.WholeShifts'. -/
def wholeShiftsCard : Claim7 := { stood := { row := wholeShiftsRow, standIns := [], harness := (true, "4f351ea9945d276f5957eed6b55462ffb0d0439f239b4f0b0f5386ebead02937"), looks := false }, kinds := [], alts := [], laidByText := true, laidKinds := [.data, .data, .data], laidTests := true, laidLooks := .later }
def WholeShiftsCardSaid : Prop := Claim7.holds Tryd.pinned (.plain (OpenSpec.ofChange wholeShiftsSpec)) wholeShiftsCard

/-- THE TIED CARD OF 'annuluslaw2.WholeLaws'. -/
def wholeLawsCard : Claim7 := { stood := { row := wholeLawsRow, standIns := [], harness := (true, "4f351ea9945d276f5957eed6b55462ffb0d0439f239b4f0b0f5386ebead02937"), looks := false }, kinds := [], alts := [], laidByText := true, laidKinds := [.data, .data, .data, .data], laidTests := true, laidLooks := .later }
def WholeLawsCardSaid : Prop := Claim7.holds Tryd.pinned (.plain (OpenSpec.ofChange wholeLawsSpec)) wholeLawsCard

/-- THE TIED CARD OF 'annuluslaw2.WholeRests'. -/
def wholeRestsCard : Claim7 := { stood := { row := wholeRestsRow, standIns := [], harness := (true, "4f351ea9945d276f5957eed6b55462ffb0d0439f239b4f0b0f5386ebead02937"), looks := false }, kinds := [], alts := [], laidByText := true, laidKinds := [.data, .data, .data, .data], laidTests := true, laidLooks := .later }
def WholeRestsCardSaid : Prop := Claim7.holds Tryd.pinned (.plain (OpenSpec.ofChange wholeRestsSpec)) wholeRestsCard

/-- THE TIED CARD OF 'annuluslaw2.WholeSmalls'. -/
def wholeSmallsCard : Claim7 := { stood := { row := wholeSmallsRow, standIns := [], harness := (true, "4f351ea9945d276f5957eed6b55462ffb0d0439f239b4f0b0f5386ebead02937"), looks := false }, kinds := [], alts := [], laidByText := true, laidKinds := [.data, .data, .data, .data], laidTests := true, laidLooks := .later }
def WholeSmallsCardSaid : Prop := Claim7.holds Tryd.pinned (.plain (OpenSpec.ofChange wholeSmallsSpec)) wholeSmallsCard

/-- THE TIED CARD OF 'annuluslaw2.WholeEnds'. -/
def wholeEndsCard : Claim7 := { stood := { row := wholeEndsRow, standIns := [], harness := (true, "4f351ea9945d276f5957eed6b55462ffb0d0439f239b4f0b0f5386ebead02937"), looks := false }, kinds := [], alts := [], laidByText := true, laidKinds := [.data, .data, .data, .data], laidTests := true, laidLooks := .later }
def WholeEndsCardSaid : Prop := Claim7.holds Tryd.pinned (.plain (OpenSpec.ofChange wholeEndsSpec)) wholeEndsCard

/-- THE TIED CARD OF 'annuluslaw2.WholeNorms'. -/
def wholeNormsCard : Claim7 := { stood := { row := wholeNormsRow, standIns := [], harness := (true, "4f351ea9945d276f5957eed6b55462ffb0d0439f239b4f0b0f5386ebead02937"), looks := false }, kinds := [], alts := [], laidByText := true, laidKinds := [.data, .data, .data, .data], laidTests := true, laidLooks := .later }
def WholeNormsCardSaid : Prop := Claim7.holds Tryd.pinned (.plain (OpenSpec.ofChange wholeNormsSpec)) wholeNormsCard

/-- THE SECOND FORM's CARD OF 'annuluslaw1.NatTells'. -/
def natTellsUptoCard : Claim7 := { stood := { row := natTellsUptoRow, standIns := [], harness := (true, "4f351ea9945d276f5957eed6b55462ffb0d0439f239b4f0b0f5386ebead02937"), looks := false }, kinds := [], alts := [], laidByText := true, laidKinds := [.data], laidTests := true, laidLooks := .later }
def NatTellsUptoCardSaid : Prop := Claim7.holds Tryd.pinned (.plain (OpenSpec.upto natTellsSpec)) natTellsUptoCard

/-- THE SECOND FORM's CARD OF 'annuluslaw1.NatShifts'. -/
def natShiftsUptoCard : Claim7 := { stood := { row := natShiftsUptoRow, standIns := [], harness := (true, "4f351ea9945d276f5957eed6b55462ffb0d0439f239b4f0b0f5386ebead02937"), looks := false }, kinds := [], alts := [], laidByText := true, laidKinds := [.data], laidTests := true, laidLooks := .later }
def NatShiftsUptoCardSaid : Prop := Claim7.holds Tryd.pinned (.plain (OpenSpec.upto natShiftsSpec)) natShiftsUptoCard

/-- THE SECOND FORM's CARD OF 'annuluslaw1.NatBack'. -/
def natBackUptoCard : Claim7 := { stood := { row := natBackUptoRow, standIns := [], harness := (true, "4f351ea9945d276f5957eed6b55462ffb0d0439f239b4f0b0f5386ebead02937"), looks := false }, kinds := [], alts := [], laidByText := true, laidKinds := [.data], laidTests := true, laidLooks := .later }
def NatBackUptoCardSaid : Prop := Claim7.holds Tryd.pinned (.plain (OpenSpec.upto natBackSpec)) natBackUptoCard

/-- THE SECOND FORM's CARD OF 'annuluslaw1.NatRoots'. -/
def natRootsUptoCard : Claim7 := { stood := { row := natRootsUptoRow, standIns := [], harness := (true, "4f351ea9945d276f5957eed6b55462ffb0d0439f239b4f0b0f5386ebead02937"), looks := false }, kinds := [], alts := [], laidByText := true, laidKinds := [.data], laidTests := true, laidLooks := .later }
def NatRootsUptoCardSaid : Prop := Claim7.holds Tryd.pinned (.plain (OpenSpec.upto natRootsSpec)) natRootsUptoCard

/-- THE SECOND FORM's CARD OF 'annuluslaw1.NatSquares'. -/
def natSquaresUptoCard : Claim7 := { stood := { row := natSquaresUptoRow, standIns := [], harness := (true, "4f351ea9945d276f5957eed6b55462ffb0d0439f239b4f0b0f5386ebead02937"), looks := false }, kinds := [], alts := [], laidByText := true, laidKinds := [.data], laidTests := true, laidLooks := .later }
def NatSquaresUptoCardSaid : Prop := Claim7.holds Tryd.pinned (.plain (OpenSpec.upto natSquaresSpec)) natSquaresUptoCard

/-- THE SECOND FORM's CARD OF 'annuluslaw1.NatOrder'. -/
def natOrderUptoCard : Claim7 := { stood := { row := natOrderUptoRow, standIns := [], harness := (true, "4f351ea9945d276f5957eed6b55462ffb0d0439f239b4f0b0f5386ebead02937"), looks := false }, kinds := [], alts := [], laidByText := true, laidKinds := [.data], laidTests := true, laidLooks := .later }
def NatOrderUptoCardSaid : Prop := Claim7.holds Tryd.pinned (.plain (OpenSpec.upto natOrderSpec)) natOrderUptoCard

/-- THE SECOND FORM's CARD OF 'annuluslaw1.NatLong'. -/
def natLongUptoCard : Claim7 := { stood := { row := natLongUptoRow, standIns := [], harness := (true, "4f351ea9945d276f5957eed6b55462ffb0d0439f239b4f0b0f5386ebead02937"), looks := false }, kinds := [], alts := [], laidByText := true, laidKinds := [.data], laidTests := true, laidLooks := .later }
def NatLongUptoCardSaid : Prop := Claim7.holds Tryd.pinned (.plain (OpenSpec.upto natLongSpec)) natLongUptoCard

/-- THE SECOND FORM's CARD OF 'annuluslaw2.WholeTells'. -/
def wholeTellsUptoCard : Claim7 := { stood := { row := wholeTellsUptoRow, standIns := [], harness := (true, "4f351ea9945d276f5957eed6b55462ffb0d0439f239b4f0b0f5386ebead02937"), looks := false }, kinds := [], alts := [], laidByText := true, laidKinds := [.data, .data, .data, .data], laidTests := true, laidLooks := .later }
def WholeTellsUptoCardSaid : Prop := Claim7.holds Tryd.pinned (.plain (OpenSpec.upto wholeTellsSpec)) wholeTellsUptoCard

/-- THE SECOND FORM's CARD OF 'annuluslaw2.WholeShifts'. -/
def wholeShiftsUptoCard : Claim7 := { stood := { row := wholeShiftsUptoRow, standIns := [], harness := (true, "4f351ea9945d276f5957eed6b55462ffb0d0439f239b4f0b0f5386ebead02937"), looks := false }, kinds := [], alts := [], laidByText := true, laidKinds := [.data, .data, .data], laidTests := true, laidLooks := .later }
def WholeShiftsUptoCardSaid : Prop := Claim7.holds Tryd.pinned (.plain (OpenSpec.upto wholeShiftsSpec)) wholeShiftsUptoCard

/-- THE SECOND FORM's CARD OF 'annuluslaw2.WholeLaws'. -/
def wholeLawsUptoCard : Claim7 := { stood := { row := wholeLawsUptoRow, standIns := [], harness := (true, "4f351ea9945d276f5957eed6b55462ffb0d0439f239b4f0b0f5386ebead02937"), looks := false }, kinds := [], alts := [], laidByText := true, laidKinds := [.data, .data, .data, .data], laidTests := true, laidLooks := .later }
def WholeLawsUptoCardSaid : Prop := Claim7.holds Tryd.pinned (.plain (OpenSpec.upto wholeLawsSpec)) wholeLawsUptoCard

/-- THE SECOND FORM's CARD OF 'annuluslaw2.WholeRests'. -/
def wholeRestsUptoCard : Claim7 := { stood := { row := wholeRestsUptoRow, standIns := [], harness := (true, "4f351ea9945d276f5957eed6b55462ffb0d0439f239b4f0b0f5386ebead02937"), looks := false }, kinds := [], alts := [], laidByText := true, laidKinds := [.data, .data, .data, .data], laidTests := true, laidLooks := .later }
def WholeRestsUptoCardSaid : Prop := Claim7.holds Tryd.pinned (.plain (OpenSpec.upto wholeRestsSpec)) wholeRestsUptoCard

/-- THE SECOND FORM's CARD OF 'annuluslaw2.WholeSmalls'. -/
def wholeSmallsUptoCard : Claim7 := { stood := { row := wholeSmallsUptoRow, standIns := [], harness := (true, "4f351ea9945d276f5957eed6b55462ffb0d0439f239b4f0b0f5386ebead02937"), looks := false }, kinds := [], alts := [], laidByText := true, laidKinds := [.data, .data, .data, .data], laidTests := true, laidLooks := .later }
def WholeSmallsUptoCardSaid : Prop := Claim7.holds Tryd.pinned (.plain (OpenSpec.upto wholeSmallsSpec)) wholeSmallsUptoCard

/-- THE SECOND FORM's CARD OF 'annuluslaw2.WholeEnds'. -/
def wholeEndsUptoCard : Claim7 := { stood := { row := wholeEndsUptoRow, standIns := [], harness := (true, "4f351ea9945d276f5957eed6b55462ffb0d0439f239b4f0b0f5386ebead02937"), looks := false }, kinds := [], alts := [], laidByText := true, laidKinds := [.data, .data, .data, .data], laidTests := true, laidLooks := .later }
def WholeEndsUptoCardSaid : Prop := Claim7.holds Tryd.pinned (.plain (OpenSpec.upto wholeEndsSpec)) wholeEndsUptoCard

/-- THE SECOND FORM's CARD OF 'annuluslaw2.WholeNorms'. -/
def wholeNormsUptoCard : Claim7 := { stood := { row := wholeNormsUptoRow, standIns := [], harness := (true, "4f351ea9945d276f5957eed6b55462ffb0d0439f239b4f0b0f5386ebead02937"), looks := false }, kinds := [], alts := [], laidByText := true, laidKinds := [.data, .data, .data, .data], laidTests := true, laidLooks := .later }
def WholeNormsUptoCardSaid : Prop := Claim7.holds Tryd.pinned (.plain (OpenSpec.upto wholeNormsSpec)) wholeNormsUptoCard
end Rows
end Go.Proofs.YtopkndkicdgafaaDoor
