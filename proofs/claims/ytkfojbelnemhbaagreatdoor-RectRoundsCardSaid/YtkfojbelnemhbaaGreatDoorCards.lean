/-
  DERIVED. GIVEN WITH THE SEED: THE CARDS: each row of YtkfojbelnemhbaaGreatDoorRows.lean that lists a variable, with what it lists TIED to the program's text (the seventh form; the later family's looks); each row that meets fmt, with fmt's text TOLD by the authors' own Lean function (tested against real Go, not proved from fmt's source: count such statements apart). THE CARD IS WHAT COUNTS. Prove the row's statement (the work); the ties are given (YtkfojbelnemhbaaGreatDoorTie.lean); close each card by the builder's one call (the guide's Derived/Test/ToyasCard.lean, 'card_holds'). Laid BY PROGRAM, IN A SANDBOX (cutbox-door.mjs). By AI agents, Wed Nov 11 2026. No macro, syntax, notation, axiom, sorry.
-/
import Derived.Test.YtkfojbelnemhbaaGreatDoorRows
import GoSem.ClaimSeven
namespace Go.Proofs.YtkfojbelnemhbaaGreatDoor
namespace Rows

/-- THE TIED CARD OF 'annuluslaw9.RectTells'. -/
def rectTellsCard : Claim7 := { stood := { row := rectTellsRow, standIns := [], harness := (true, "7df35a9645920839b1ed3971f8431d46bb9fa89ae64f033f99e9ee87f490ce2e"), looks := false }, kinds := [], alts := [], laidByText := true, laidKinds := [.data, .data, .data, .data, .data, .data, .data], laidTests := true, laidLooks := .later }
def RectTellsCardSaid : Prop := Claim7.holds Tryz.pinned (.plain (OpenSpec.ofChange rectTellsSpec)) rectTellsCard

/-- THE TIED CARD OF 'annuluslaw9.RectRounds'. -/
def rectRoundsCard : Claim7 := { stood := { row := rectRoundsRow, standIns := [], harness := (true, "7df35a9645920839b1ed3971f8431d46bb9fa89ae64f033f99e9ee87f490ce2e"), looks := false }, kinds := [], alts := [], laidByText := true, laidKinds := [.data, .data, .data, .data, .data, .data, .data], laidTests := true, laidLooks := .later }
def RectRoundsCardSaid : Prop := Claim7.holds Tryz.pinned (.plain (OpenSpec.ofChange rectRoundsSpec)) rectRoundsCard

/-- THE TIED CARD OF 'annuluslaw9.RectHolds'. -/
def rectHoldsCard : Claim7 := { stood := { row := rectHoldsRow, standIns := [], harness := (true, "7df35a9645920839b1ed3971f8431d46bb9fa89ae64f033f99e9ee87f490ce2e"), looks := false }, kinds := [], alts := [], laidByText := true, laidKinds := [.data, .data, .data, .data, .data, .data, .data], laidTests := true, laidLooks := .later }
def RectHoldsCardSaid : Prop := Claim7.holds Tryz.pinned (.plain (OpenSpec.ofChange rectHoldsSpec)) rectHoldsCard

/-- THE TIED CARD OF 'annuluslaw9.RectLess'. -/
def rectLessCard : Claim7 := { stood := { row := rectLessRow, standIns := [], harness := (true, "7df35a9645920839b1ed3971f8431d46bb9fa89ae64f033f99e9ee87f490ce2e"), looks := false }, kinds := [], alts := [], laidByText := true, laidKinds := [.data, .data, .data, .data, .data, .data, .data], laidTests := true, laidLooks := .later }
def RectLessCardSaid : Prop := Claim7.holds Tryz.pinned (.plain (OpenSpec.ofChange rectLessSpec)) rectLessCard

/-- THE TIED CARD OF 'annuluslaw9.RectPoints'. -/
def rectPointsCard : Claim7 := { stood := { row := rectPointsRow, standIns := [], harness := (true, "7df35a9645920839b1ed3971f8431d46bb9fa89ae64f033f99e9ee87f490ce2e"), looks := false }, kinds := [], alts := [], laidByText := true, laidKinds := [.data, .data, .data, .data, .data, .data, .data], laidTests := true, laidLooks := .later }
def RectPointsCardSaid : Prop := Claim7.holds Tryz.pinned (.plain (OpenSpec.ofChange rectPointsSpec)) rectPointsCard

/-- THE TIED CARD OF 'annuluslaw10.DiscTells'. -/
def discTellsCard : Claim7 := { stood := { row := discTellsRow, standIns := [], harness := (true, "7df35a9645920839b1ed3971f8431d46bb9fa89ae64f033f99e9ee87f490ce2e"), looks := false }, kinds := [], alts := [], laidByText := true, laidKinds := [.data, .data, .data, .data, .data, .data], laidTests := true, laidLooks := .later }
def DiscTellsCardSaid : Prop := Claim7.holds Tryz.pinned (.plain (OpenSpec.ofChange discTellsSpec)) discTellsCard

/-- THE SECOND FORM's CARD OF 'annuluslaw9.RectTells'. -/
def rectTellsUptoCard : Claim7 := { stood := { row := rectTellsUptoRow, standIns := [], harness := (true, "7df35a9645920839b1ed3971f8431d46bb9fa89ae64f033f99e9ee87f490ce2e"), looks := false }, kinds := [], alts := [], laidByText := true, laidKinds := [.data, .data, .data, .data, .data, .data, .data], laidTests := true, laidLooks := .later }
def RectTellsUptoCardSaid : Prop := Claim7.holds Tryz.pinned (.plain (OpenSpec.upto rectTellsSpec)) rectTellsUptoCard

/-- THE SECOND FORM's CARD OF 'annuluslaw9.RectRounds'. -/
def rectRoundsUptoCard : Claim7 := { stood := { row := rectRoundsUptoRow, standIns := [], harness := (true, "7df35a9645920839b1ed3971f8431d46bb9fa89ae64f033f99e9ee87f490ce2e"), looks := false }, kinds := [], alts := [], laidByText := true, laidKinds := [.data, .data, .data, .data, .data, .data, .data], laidTests := true, laidLooks := .later }
def RectRoundsUptoCardSaid : Prop := Claim7.holds Tryz.pinned (.plain (OpenSpec.upto rectRoundsSpec)) rectRoundsUptoCard

/-- THE SECOND FORM's CARD OF 'annuluslaw9.RectHolds'. -/
def rectHoldsUptoCard : Claim7 := { stood := { row := rectHoldsUptoRow, standIns := [], harness := (true, "7df35a9645920839b1ed3971f8431d46bb9fa89ae64f033f99e9ee87f490ce2e"), looks := false }, kinds := [], alts := [], laidByText := true, laidKinds := [.data, .data, .data, .data, .data, .data, .data], laidTests := true, laidLooks := .later }
def RectHoldsUptoCardSaid : Prop := Claim7.holds Tryz.pinned (.plain (OpenSpec.upto rectHoldsSpec)) rectHoldsUptoCard

/-- THE SECOND FORM's CARD OF 'annuluslaw9.RectLess'. -/
def rectLessUptoCard : Claim7 := { stood := { row := rectLessUptoRow, standIns := [], harness := (true, "7df35a9645920839b1ed3971f8431d46bb9fa89ae64f033f99e9ee87f490ce2e"), looks := false }, kinds := [], alts := [], laidByText := true, laidKinds := [.data, .data, .data, .data, .data, .data, .data], laidTests := true, laidLooks := .later }
def RectLessUptoCardSaid : Prop := Claim7.holds Tryz.pinned (.plain (OpenSpec.upto rectLessSpec)) rectLessUptoCard

/-- THE SECOND FORM's CARD OF 'annuluslaw9.RectPoints'. -/
def rectPointsUptoCard : Claim7 := { stood := { row := rectPointsUptoRow, standIns := [], harness := (true, "7df35a9645920839b1ed3971f8431d46bb9fa89ae64f033f99e9ee87f490ce2e"), looks := false }, kinds := [], alts := [], laidByText := true, laidKinds := [.data, .data, .data, .data, .data, .data, .data], laidTests := true, laidLooks := .later }
def RectPointsUptoCardSaid : Prop := Claim7.holds Tryz.pinned (.plain (OpenSpec.upto rectPointsSpec)) rectPointsUptoCard

/-- THE SECOND FORM's CARD OF 'annuluslaw10.DiscTells'. -/
def discTellsUptoCard : Claim7 := { stood := { row := discTellsUptoRow, standIns := [], harness := (true, "7df35a9645920839b1ed3971f8431d46bb9fa89ae64f033f99e9ee87f490ce2e"), looks := false }, kinds := [], alts := [], laidByText := true, laidKinds := [.data, .data, .data, .data, .data, .data], laidTests := true, laidLooks := .later }
def DiscTellsUptoCardSaid : Prop := Claim7.holds Tryz.pinned (.plain (OpenSpec.upto discTellsSpec)) discTellsUptoCard
end Rows
end Go.Proofs.YtkfojbelnemhbaaGreatDoor
