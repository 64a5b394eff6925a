/-
  DERIVED. GIVEN WITH THE SEED: THE CARDS: each row of YtnnnolmldmbaaaaGreatDoorRows.lean that lists a variable, with what it lists TIED to the program's text (the seventh form; the later family's looks); each row that meets fmt, with fmt's text TOLD by the authors' own Lean function (tested against real Go, not proved from fmt's source: count such statements apart). THE CARD IS WHAT COUNTS. Prove the row's statement (the work); the ties are given (YtnnnolmldmbaaaaGreatDoorTie.lean); close each card by the builder's one call (the guide's Derived/Test/ToyasCard.lean, 'card_holds'). Laid BY PROGRAM, IN A SANDBOX (cutbox-door.mjs). By AI agents, Wed Nov 11 2026. No macro, syntax, notation, axiom, sorry.
-/
import Derived.Test.YtnnnolmldmbaaaaGreatDoorRows
import GoSem.ClaimSeven
namespace Go.Proofs.YtnnnolmldmbaaaaGreatDoor
namespace Rows

/-- THE TIED CARD OF 'annuluslaw7.RealTells'. -/
def realTellsCard : Claim7 := { stood := { row := realTellsRow, standIns := [], harness := (true, "67f6a0892556363d4587099b005575f2a1d97d0d6c3751c05048dcdbaebff147"), looks := false }, kinds := [], alts := [], laidByText := true, laidKinds := [.data, .data, .data, .data, .data], laidTests := true, laidLooks := .later }
def RealTellsCardSaid : Prop := Claim7.holds Tryz.pinned (.plain (OpenSpec.ofChange realTellsSpec)) realTellsCard

/-- THE TIED CARD OF 'annuluslaw7.RealRounds'. -/
def realRoundsCard : Claim7 := { stood := { row := realRoundsRow, standIns := [], harness := (true, "67f6a0892556363d4587099b005575f2a1d97d0d6c3751c05048dcdbaebff147"), looks := false }, kinds := [], alts := [], laidByText := true, laidKinds := [.data, .data, .data, .data, .data, .data], laidTests := true, laidLooks := .later }
def RealRoundsCardSaid : Prop := Claim7.holds Tryz.pinned (.plain (OpenSpec.ofChange realRoundsSpec)) realRoundsCard

/-- THE TIED CARD OF 'annuluslaw7.RealHolds'. -/
def realHoldsCard : Claim7 := { stood := { row := realHoldsRow, standIns := [], harness := (true, "67f6a0892556363d4587099b005575f2a1d97d0d6c3751c05048dcdbaebff147"), looks := false }, kinds := [], alts := [], laidByText := true, laidKinds := [.data, .data, .data, .data, .data, .data], laidTests := true, laidLooks := .later }
def RealHoldsCardSaid : Prop := Claim7.holds Tryz.pinned (.plain (OpenSpec.ofChange realHoldsSpec)) realHoldsCard

/-- THE TIED CARD OF 'annuluslaw7.RealEnds'. -/
def realEndsCard : Claim7 := { stood := { row := realEndsRow, standIns := [], harness := (true, "67f6a0892556363d4587099b005575f2a1d97d0d6c3751c05048dcdbaebff147"), looks := false }, kinds := [], alts := [], laidByText := true, laidKinds := [.data, .data, .data, .data, .data], laidTests := true, laidLooks := .later }
def RealEndsCardSaid : Prop := Claim7.holds Tryz.pinned (.plain (OpenSpec.ofChange realEndsSpec)) realEndsCard

/-- THE TIED CARD OF 'annuluslaw7.RealLess'. -/
def realLessCard : Claim7 := { stood := { row := realLessRow, standIns := [], harness := (true, "67f6a0892556363d4587099b005575f2a1d97d0d6c3751c05048dcdbaebff147"), looks := false }, kinds := [], alts := [], laidByText := true, laidKinds := [.data, .data, .data, .data, .data], laidTests := true, laidLooks := .later }
def RealLessCardSaid : Prop := Claim7.holds Tryz.pinned (.plain (OpenSpec.ofChange realLessSpec)) realLessCard

/-- THE TIED CARD OF 'annuluslaw7.RealSigns'. -/
def realSignsCard : Claim7 := { stood := { row := realSignsRow, standIns := [], harness := (true, "67f6a0892556363d4587099b005575f2a1d97d0d6c3751c05048dcdbaebff147"), looks := false }, kinds := [], alts := [], laidByText := true, laidKinds := [.data, .data, .data, .data], laidTests := true, laidLooks := .later }
def RealSignsCardSaid : Prop := Claim7.holds Tryz.pinned (.plain (OpenSpec.ofChange realSignsSpec)) realSignsCard

/-- THE SECOND FORM's CARD OF 'annuluslaw7.RealTells'. -/
def realTellsUptoCard : Claim7 := { stood := { row := realTellsUptoRow, standIns := [], harness := (true, "67f6a0892556363d4587099b005575f2a1d97d0d6c3751c05048dcdbaebff147"), looks := false }, kinds := [], alts := [], laidByText := true, laidKinds := [.data, .data, .data, .data, .data], laidTests := true, laidLooks := .later }
def RealTellsUptoCardSaid : Prop := Claim7.holds Tryz.pinned (.plain (OpenSpec.upto realTellsSpec)) realTellsUptoCard

/-- THE SECOND FORM's CARD OF 'annuluslaw7.RealRounds'. -/
def realRoundsUptoCard : Claim7 := { stood := { row := realRoundsUptoRow, standIns := [], harness := (true, "67f6a0892556363d4587099b005575f2a1d97d0d6c3751c05048dcdbaebff147"), looks := false }, kinds := [], alts := [], laidByText := true, laidKinds := [.data, .data, .data, .data, .data, .data], laidTests := true, laidLooks := .later }
def RealRoundsUptoCardSaid : Prop := Claim7.holds Tryz.pinned (.plain (OpenSpec.upto realRoundsSpec)) realRoundsUptoCard

/-- THE SECOND FORM's CARD OF 'annuluslaw7.RealHolds'. -/
def realHoldsUptoCard : Claim7 := { stood := { row := realHoldsUptoRow, standIns := [], harness := (true, "67f6a0892556363d4587099b005575f2a1d97d0d6c3751c05048dcdbaebff147"), looks := false }, kinds := [], alts := [], laidByText := true, laidKinds := [.data, .data, .data, .data, .data, .data], laidTests := true, laidLooks := .later }
def RealHoldsUptoCardSaid : Prop := Claim7.holds Tryz.pinned (.plain (OpenSpec.upto realHoldsSpec)) realHoldsUptoCard

/-- THE SECOND FORM's CARD OF 'annuluslaw7.RealEnds'. -/
def realEndsUptoCard : Claim7 := { stood := { row := realEndsUptoRow, standIns := [], harness := (true, "67f6a0892556363d4587099b005575f2a1d97d0d6c3751c05048dcdbaebff147"), looks := false }, kinds := [], alts := [], laidByText := true, laidKinds := [.data, .data, .data, .data, .data], laidTests := true, laidLooks := .later }
def RealEndsUptoCardSaid : Prop := Claim7.holds Tryz.pinned (.plain (OpenSpec.upto realEndsSpec)) realEndsUptoCard

/-- THE SECOND FORM's CARD OF 'annuluslaw7.RealLess'. -/
def realLessUptoCard : Claim7 := { stood := { row := realLessUptoRow, standIns := [], harness := (true, "67f6a0892556363d4587099b005575f2a1d97d0d6c3751c05048dcdbaebff147"), looks := false }, kinds := [], alts := [], laidByText := true, laidKinds := [.data, .data, .data, .data, .data], laidTests := true, laidLooks := .later }
def RealLessUptoCardSaid : Prop := Claim7.holds Tryz.pinned (.plain (OpenSpec.upto realLessSpec)) realLessUptoCard

/-- THE SECOND FORM's CARD OF 'annuluslaw7.RealSigns'. -/
def realSignsUptoCard : Claim7 := { stood := { row := realSignsUptoRow, standIns := [], harness := (true, "67f6a0892556363d4587099b005575f2a1d97d0d6c3751c05048dcdbaebff147"), looks := false }, kinds := [], alts := [], laidByText := true, laidKinds := [.data, .data, .data, .data], laidTests := true, laidLooks := .later }
def RealSignsUptoCardSaid : Prop := Claim7.holds Tryz.pinned (.plain (OpenSpec.upto realSignsSpec)) realSignsUptoCard
end Rows
end Go.Proofs.YtnnnolmldmbaaaaGreatDoor
