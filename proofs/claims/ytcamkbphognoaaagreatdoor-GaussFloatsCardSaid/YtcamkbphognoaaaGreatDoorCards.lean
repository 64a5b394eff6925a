/-
  DERIVED. GIVEN WITH THE SEED: THE CARDS: each row of YtcamkbphognoaaaGreatDoorRows.lean that lists a variable, with what it lists TIED to the program's text (the seventh form; the later family's looks); each row that meets fmt, with fmt's text TOLD by the authors' own Lean function (tested against real Go, not proved from fmt's source: count such statements apart). THE CARD IS WHAT COUNTS. Prove the row's statement (the work); the ties are given (YtcamkbphognoaaaGreatDoorTie.lean); close each card by the builder's one call (the guide's Derived/Test/ToyasCard.lean, 'card_holds'). Laid BY PROGRAM, IN A SANDBOX (cutbox-door.mjs). By AI agents, Wed Nov 11 2026. No macro, syntax, notation, axiom, sorry.
-/
import Derived.Test.YtcamkbphognoaaaGreatDoorRows
import GoSem.ClaimSeven
namespace Go.Proofs.YtcamkbphognoaaaGreatDoor
namespace Rows

/-- THE TIED CARD OF 'annuluslaw7.RealHolds'. -/
def realHoldsCard : Claim7 := { stood := { row := realHoldsRow, standIns := [], harness := (true, "cf09a09a3e9b2592b6da3bf18044fc9ab371cbcba71ef33f030857d1f9590534"), looks := false }, kinds := [], alts := [], laidByText := true, laidKinds := [.data, .data, .data, .data, .data, .data], laidTests := true, laidLooks := .later }
def RealHoldsCardSaid : Prop := Claim7.holds Tryz.pinned (.plain (OpenSpec.ofChange realHoldsSpec)) realHoldsCard

/-- THE TIED CARD OF 'annuluslaw7.RealEnds'. -/
def realEndsCard : Claim7 := { stood := { row := realEndsRow, standIns := [], harness := (true, "cf09a09a3e9b2592b6da3bf18044fc9ab371cbcba71ef33f030857d1f9590534"), looks := false }, kinds := [], alts := [], laidByText := true, laidKinds := [.data, .data, .data, .data, .data], laidTests := true, laidLooks := .later }
def RealEndsCardSaid : Prop := Claim7.holds Tryz.pinned (.plain (OpenSpec.ofChange realEndsSpec)) realEndsCard

/-- THE TIED CARD OF 'annuluslaw8.GaussTells'. -/
def gaussTellsCard : Claim7 := { stood := { row := gaussTellsRow, standIns := [], harness := (true, "cf09a09a3e9b2592b6da3bf18044fc9ab371cbcba71ef33f030857d1f9590534"), looks := false }, kinds := [], alts := [], laidByText := true, laidKinds := [.data, .data, .data, .data], laidTests := true, laidLooks := .later }
def GaussTellsCardSaid : Prop := Claim7.holds Tryz.pinned (.plain (OpenSpec.ofChange gaussTellsSpec)) gaussTellsCard

/-- THE TIED CARD OF 'annuluslaw8.GaussLaws'. -/
def gaussLawsCard : Claim7 := { stood := { row := gaussLawsRow, standIns := [], harness := (true, "cf09a09a3e9b2592b6da3bf18044fc9ab371cbcba71ef33f030857d1f9590534"), looks := false }, kinds := [], alts := [], laidByText := true, laidKinds := [.data, .data, .data, .data], laidTests := true, laidLooks := .later }
def GaussLawsCardSaid : Prop := Claim7.holds Tryz.pinned (.plain (OpenSpec.ofChange gaussLawsSpec)) gaussLawsCard

/-- THE TIED CARD OF 'annuluslaw8.GaussFloats'. -/
def gaussFloatsCard : Claim7 := { stood := { row := gaussFloatsRow, standIns := [], harness := (true, "cf09a09a3e9b2592b6da3bf18044fc9ab371cbcba71ef33f030857d1f9590534"), looks := false }, kinds := [], alts := [], laidByText := true, laidKinds := [.data, .data, .data, .data], laidTests := true, laidLooks := .later }
def GaussFloatsCardSaid : Prop := Claim7.holds Tryz.pinned (.plain (OpenSpec.ofChange gaussFloatsSpec)) gaussFloatsCard

/-- THE TIED CARD OF 'annuluslaw8.GaussTurns'. -/
def gaussTurnsCard : Claim7 := { stood := { row := gaussTurnsRow, standIns := [], harness := (true, "cf09a09a3e9b2592b6da3bf18044fc9ab371cbcba71ef33f030857d1f9590534"), looks := false }, kinds := [], alts := [], laidByText := true, laidKinds := [.data, .data, .data, .data], laidTests := true, laidLooks := .later }
def GaussTurnsCardSaid : Prop := Claim7.holds Tryz.pinned (.plain (OpenSpec.ofChange gaussTurnsSpec)) gaussTurnsCard

/-- THE SECOND FORM's CARD OF 'annuluslaw7.RealHolds'. -/
def realHoldsUptoCard : Claim7 := { stood := { row := realHoldsUptoRow, standIns := [], harness := (true, "cf09a09a3e9b2592b6da3bf18044fc9ab371cbcba71ef33f030857d1f9590534"), looks := false }, kinds := [], alts := [], laidByText := true, laidKinds := [.data, .data, .data, .data, .data, .data], laidTests := true, laidLooks := .later }
def RealHoldsUptoCardSaid : Prop := Claim7.holds Tryz.pinned (.plain (OpenSpec.upto realHoldsSpec)) realHoldsUptoCard

/-- THE SECOND FORM's CARD OF 'annuluslaw7.RealEnds'. -/
def realEndsUptoCard : Claim7 := { stood := { row := realEndsUptoRow, standIns := [], harness := (true, "cf09a09a3e9b2592b6da3bf18044fc9ab371cbcba71ef33f030857d1f9590534"), looks := false }, kinds := [], alts := [], laidByText := true, laidKinds := [.data, .data, .data, .data, .data], laidTests := true, laidLooks := .later }
def RealEndsUptoCardSaid : Prop := Claim7.holds Tryz.pinned (.plain (OpenSpec.upto realEndsSpec)) realEndsUptoCard

/-- THE SECOND FORM's CARD OF 'annuluslaw8.GaussTells'. -/
def gaussTellsUptoCard : Claim7 := { stood := { row := gaussTellsUptoRow, standIns := [], harness := (true, "cf09a09a3e9b2592b6da3bf18044fc9ab371cbcba71ef33f030857d1f9590534"), looks := false }, kinds := [], alts := [], laidByText := true, laidKinds := [.data, .data, .data, .data], laidTests := true, laidLooks := .later }
def GaussTellsUptoCardSaid : Prop := Claim7.holds Tryz.pinned (.plain (OpenSpec.upto gaussTellsSpec)) gaussTellsUptoCard

/-- THE SECOND FORM's CARD OF 'annuluslaw8.GaussLaws'. -/
def gaussLawsUptoCard : Claim7 := { stood := { row := gaussLawsUptoRow, standIns := [], harness := (true, "cf09a09a3e9b2592b6da3bf18044fc9ab371cbcba71ef33f030857d1f9590534"), looks := false }, kinds := [], alts := [], laidByText := true, laidKinds := [.data, .data, .data, .data], laidTests := true, laidLooks := .later }
def GaussLawsUptoCardSaid : Prop := Claim7.holds Tryz.pinned (.plain (OpenSpec.upto gaussLawsSpec)) gaussLawsUptoCard

/-- THE SECOND FORM's CARD OF 'annuluslaw8.GaussFloats'. -/
def gaussFloatsUptoCard : Claim7 := { stood := { row := gaussFloatsUptoRow, standIns := [], harness := (true, "cf09a09a3e9b2592b6da3bf18044fc9ab371cbcba71ef33f030857d1f9590534"), looks := false }, kinds := [], alts := [], laidByText := true, laidKinds := [.data, .data, .data, .data], laidTests := true, laidLooks := .later }
def GaussFloatsUptoCardSaid : Prop := Claim7.holds Tryz.pinned (.plain (OpenSpec.upto gaussFloatsSpec)) gaussFloatsUptoCard

/-- THE SECOND FORM's CARD OF 'annuluslaw8.GaussTurns'. -/
def gaussTurnsUptoCard : Claim7 := { stood := { row := gaussTurnsUptoRow, standIns := [], harness := (true, "cf09a09a3e9b2592b6da3bf18044fc9ab371cbcba71ef33f030857d1f9590534"), looks := false }, kinds := [], alts := [], laidByText := true, laidKinds := [.data, .data, .data, .data], laidTests := true, laidLooks := .later }
def GaussTurnsUptoCardSaid : Prop := Claim7.holds Tryz.pinned (.plain (OpenSpec.upto gaussTurnsSpec)) gaussTurnsUptoCard
end Rows
end Go.Proofs.YtcamkbphognoaaaGreatDoor
