/-
  DERIVED. GIVEN WITH THE SEED: THE CARDS: each row of YtnjjfakjnkhhjaaGreatDoorRows.lean that lists a variable, with what it lists TIED to the program's text (the seventh form; the later family's looks); each row that meets fmt, with fmt's text TOLD by the authors' own Lean function (tested against real Go, not proved from fmt's source: count such statements apart). THE CARD IS WHAT COUNTS. Prove the row's statement (the work); the ties are given (YtnjjfakjnkhhjaaGreatDoorTie.lean); close each card by the builder's one call (the guide's Derived/Test/ToyasCard.lean, 'card_holds'). Laid BY PROGRAM, IN A SANDBOX (cutbox-door.mjs). By AI agents, Wed Nov 11 2026. No macro, syntax, notation, axiom, sorry.
-/
import Derived.Test.YtnjjfakjnkhhjaaGreatDoorRows
import GoSem.ClaimSeven
namespace Go.Proofs.YtnjjfakjnkhhjaaGreatDoor
namespace Rows

/-- THE TIED CARD OF 'annuluslaw10.DiscTells'. -/
def discTellsCard : Claim7 := { stood := { row := discTellsRow, standIns := [], harness := (true, "29815cb1344e6c99b96fffaad3edc864a8836ca9e718a5b83bdb5b58934d61fc"), looks := false }, kinds := [], alts := [], laidByText := true, laidKinds := [.data, .data, .data, .data, .data, .data], laidTests := true, laidLooks := .later }
def DiscTellsCardSaid : Prop := Claim7.holds Tryz.pinned (.plain (OpenSpec.ofChange discTellsSpec)) discTellsCard

/-- THE TIED CARD OF 'annuluslaw10.DiscRects'. -/
def discRectsCard : Claim7 := { stood := { row := discRectsRow, standIns := [], harness := (true, "29815cb1344e6c99b96fffaad3edc864a8836ca9e718a5b83bdb5b58934d61fc"), looks := false }, kinds := [], alts := [], laidByText := true, laidKinds := [.data, .data, .data, .data, .data, .data], laidTests := true, laidLooks := .later }
def DiscRectsCardSaid : Prop := Claim7.holds Tryz.pinned (.plain (OpenSpec.ofChange discRectsSpec)) discRectsCard

/-- THE TIED CARD OF 'annuluslaw10.DiscHolds'. -/
def discHoldsCard : Claim7 := { stood := { row := discHoldsRow, standIns := [], harness := (true, "29815cb1344e6c99b96fffaad3edc864a8836ca9e718a5b83bdb5b58934d61fc"), looks := false }, kinds := [], alts := [], laidByText := true, laidKinds := [.data, .data, .data, .data, .data, .data], laidTests := true, laidLooks := .later }
def DiscHoldsCardSaid : Prop := Claim7.holds Tryz.pinned (.plain (OpenSpec.ofChange discHoldsSpec)) discHoldsCard

/-- THE TIED CARD OF 'annuluslaw10.DiscOrder'. -/
def discOrderCard : Claim7 := { stood := { row := discOrderRow, standIns := [], harness := (true, "29815cb1344e6c99b96fffaad3edc864a8836ca9e718a5b83bdb5b58934d61fc"), looks := false }, kinds := [], alts := [], laidByText := true, laidKinds := [.data, .data, .data, .data, .data, .data], laidTests := true, laidLooks := .later }
def DiscOrderCardSaid : Prop := Claim7.holds Tryz.pinned (.plain (OpenSpec.ofChange discOrderSpec)) discOrderCard

/-- THE TIED CARD OF 'annuluslaw10.DiscBorders'. -/
def discBordersCard : Claim7 := { stood := { row := discBordersRow, standIns := [], harness := (true, "29815cb1344e6c99b96fffaad3edc864a8836ca9e718a5b83bdb5b58934d61fc"), looks := false }, kinds := [], alts := [], laidByText := true, laidKinds := [.data, .data, .data, .data, .data, .data], laidTests := true, laidLooks := .later }
def DiscBordersCardSaid : Prop := Claim7.holds Tryz.pinned (.plain (OpenSpec.ofChange discBordersSpec)) discBordersCard

/-- THE TIED CARD OF 'annuluslaw11.PolyTells'. -/
def polyTellsCard : Claim7 := { stood := { row := polyTellsRow, standIns := [], harness := (true, "29815cb1344e6c99b96fffaad3edc864a8836ca9e718a5b83bdb5b58934d61fc"), looks := false }, kinds := [], alts := [], laidByText := true, laidKinds := [.data, .data, .data, .data], laidTests := true, laidLooks := .later }
def PolyTellsCardSaid : Prop := Claim7.holds Tryz.pinned (.plain (OpenSpec.ofChange polyTellsSpec)) polyTellsCard

/-- THE TIED CARD OF 'annuluslaw11.PolyRoots'. -/
def polyRootsCard : Claim7 := { stood := { row := polyRootsRow, standIns := [], harness := (true, "29815cb1344e6c99b96fffaad3edc864a8836ca9e718a5b83bdb5b58934d61fc"), looks := false }, kinds := [], alts := [], laidByText := true, laidKinds := [.data, .data, .data, .data], laidTests := true, laidLooks := .later }
def PolyRootsCardSaid : Prop := Claim7.holds Tryz.pinned (.plain (OpenSpec.ofChange polyRootsSpec)) polyRootsCard

/-- THE TIED CARD OF 'annuluslaw11.PolyLaws'. -/
def polyLawsCard : Claim7 := { stood := { row := polyLawsRow, standIns := [], harness := (true, "29815cb1344e6c99b96fffaad3edc864a8836ca9e718a5b83bdb5b58934d61fc"), looks := false }, kinds := [], alts := [], laidByText := true, laidKinds := [.data, .data, .data, .data], laidTests := true, laidLooks := .later }
def PolyLawsCardSaid : Prop := Claim7.holds Tryz.pinned (.plain (OpenSpec.ofChange polyLawsSpec)) polyLawsCard

/-- THE TIED CARD OF 'annuluslaw11.PolyShifts'. -/
def polyShiftsCard : Claim7 := { stood := { row := polyShiftsRow, standIns := [], harness := (true, "29815cb1344e6c99b96fffaad3edc864a8836ca9e718a5b83bdb5b58934d61fc"), looks := false }, kinds := [], alts := [], laidByText := true, laidKinds := [.data, .data, .data, .data], laidTests := true, laidLooks := .later }
def PolyShiftsCardSaid : Prop := Claim7.holds Tryz.pinned (.plain (OpenSpec.ofChange polyShiftsSpec)) polyShiftsCard

/-- THE SECOND FORM's CARD OF 'annuluslaw10.DiscTells'. -/
def discTellsUptoCard : Claim7 := { stood := { row := discTellsUptoRow, standIns := [], harness := (true, "29815cb1344e6c99b96fffaad3edc864a8836ca9e718a5b83bdb5b58934d61fc"), looks := false }, kinds := [], alts := [], laidByText := true, laidKinds := [.data, .data, .data, .data, .data, .data], laidTests := true, laidLooks := .later }
def DiscTellsUptoCardSaid : Prop := Claim7.holds Tryz.pinned (.plain (OpenSpec.upto discTellsSpec)) discTellsUptoCard

/-- THE SECOND FORM's CARD OF 'annuluslaw10.DiscRects'. -/
def discRectsUptoCard : Claim7 := { stood := { row := discRectsUptoRow, standIns := [], harness := (true, "29815cb1344e6c99b96fffaad3edc864a8836ca9e718a5b83bdb5b58934d61fc"), looks := false }, kinds := [], alts := [], laidByText := true, laidKinds := [.data, .data, .data, .data, .data, .data], laidTests := true, laidLooks := .later }
def DiscRectsUptoCardSaid : Prop := Claim7.holds Tryz.pinned (.plain (OpenSpec.upto discRectsSpec)) discRectsUptoCard

/-- THE SECOND FORM's CARD OF 'annuluslaw10.DiscHolds'. -/
def discHoldsUptoCard : Claim7 := { stood := { row := discHoldsUptoRow, standIns := [], harness := (true, "29815cb1344e6c99b96fffaad3edc864a8836ca9e718a5b83bdb5b58934d61fc"), looks := false }, kinds := [], alts := [], laidByText := true, laidKinds := [.data, .data, .data, .data, .data, .data], laidTests := true, laidLooks := .later }
def DiscHoldsUptoCardSaid : Prop := Claim7.holds Tryz.pinned (.plain (OpenSpec.upto discHoldsSpec)) discHoldsUptoCard

/-- THE SECOND FORM's CARD OF 'annuluslaw10.DiscOrder'. -/
def discOrderUptoCard : Claim7 := { stood := { row := discOrderUptoRow, standIns := [], harness := (true, "29815cb1344e6c99b96fffaad3edc864a8836ca9e718a5b83bdb5b58934d61fc"), looks := false }, kinds := [], alts := [], laidByText := true, laidKinds := [.data, .data, .data, .data, .data, .data], laidTests := true, laidLooks := .later }
def DiscOrderUptoCardSaid : Prop := Claim7.holds Tryz.pinned (.plain (OpenSpec.upto discOrderSpec)) discOrderUptoCard

/-- THE SECOND FORM's CARD OF 'annuluslaw10.DiscBorders'. -/
def discBordersUptoCard : Claim7 := { stood := { row := discBordersUptoRow, standIns := [], harness := (true, "29815cb1344e6c99b96fffaad3edc864a8836ca9e718a5b83bdb5b58934d61fc"), looks := false }, kinds := [], alts := [], laidByText := true, laidKinds := [.data, .data, .data, .data, .data, .data], laidTests := true, laidLooks := .later }
def DiscBordersUptoCardSaid : Prop := Claim7.holds Tryz.pinned (.plain (OpenSpec.upto discBordersSpec)) discBordersUptoCard

/-- THE SECOND FORM's CARD OF 'annuluslaw11.PolyTells'. -/
def polyTellsUptoCard : Claim7 := { stood := { row := polyTellsUptoRow, standIns := [], harness := (true, "29815cb1344e6c99b96fffaad3edc864a8836ca9e718a5b83bdb5b58934d61fc"), looks := false }, kinds := [], alts := [], laidByText := true, laidKinds := [.data, .data, .data, .data], laidTests := true, laidLooks := .later }
def PolyTellsUptoCardSaid : Prop := Claim7.holds Tryz.pinned (.plain (OpenSpec.upto polyTellsSpec)) polyTellsUptoCard

/-- THE SECOND FORM's CARD OF 'annuluslaw11.PolyRoots'. -/
def polyRootsUptoCard : Claim7 := { stood := { row := polyRootsUptoRow, standIns := [], harness := (true, "29815cb1344e6c99b96fffaad3edc864a8836ca9e718a5b83bdb5b58934d61fc"), looks := false }, kinds := [], alts := [], laidByText := true, laidKinds := [.data, .data, .data, .data], laidTests := true, laidLooks := .later }
def PolyRootsUptoCardSaid : Prop := Claim7.holds Tryz.pinned (.plain (OpenSpec.upto polyRootsSpec)) polyRootsUptoCard

/-- THE SECOND FORM's CARD OF 'annuluslaw11.PolyLaws'. -/
def polyLawsUptoCard : Claim7 := { stood := { row := polyLawsUptoRow, standIns := [], harness := (true, "29815cb1344e6c99b96fffaad3edc864a8836ca9e718a5b83bdb5b58934d61fc"), looks := false }, kinds := [], alts := [], laidByText := true, laidKinds := [.data, .data, .data, .data], laidTests := true, laidLooks := .later }
def PolyLawsUptoCardSaid : Prop := Claim7.holds Tryz.pinned (.plain (OpenSpec.upto polyLawsSpec)) polyLawsUptoCard

/-- THE SECOND FORM's CARD OF 'annuluslaw11.PolyShifts'. -/
def polyShiftsUptoCard : Claim7 := { stood := { row := polyShiftsUptoRow, standIns := [], harness := (true, "29815cb1344e6c99b96fffaad3edc864a8836ca9e718a5b83bdb5b58934d61fc"), looks := false }, kinds := [], alts := [], laidByText := true, laidKinds := [.data, .data, .data, .data], laidTests := true, laidLooks := .later }
def PolyShiftsUptoCardSaid : Prop := Claim7.holds Tryz.pinned (.plain (OpenSpec.upto polyShiftsSpec)) polyShiftsUptoCard
end Rows
end Go.Proofs.YtnjjfakjnkhhjaaGreatDoor
