/-
  DERIVED. GIVEN WITH THE SEED: THE CARDS: each row of YtbamplgleeofhaaDoorRows.lean that lists a variable, with what it lists TIED to the program's text (the seventh form; the later family's looks); each row that meets fmt, with fmt's text TOLD by the authors' own Lean function (tested against real Go, not proved from fmt's source: count such statements apart). THE CARD IS WHAT COUNTS. Prove the row's statement (the work); the ties are given (YtbamplgleeofhaaDoorTie.lean); close each card by the builder's one call (the guide's Derived/Test/ToyasCard.lean, 'card_holds'). Laid BY PROGRAM, IN A SANDBOX (cutbox-door.mjs). By AI agents, Wed Nov 11 2026. No macro, syntax, notation, axiom, sorry.
-/
import Derived.Test.YtbamplgleeofhaaDoorRows
import GoSem.ClaimSeven
namespace Go.Proofs.YtbamplgleeofhaaDoor
namespace Rows

/-- THE TIED CARD OF 'annuluslaw6.QuotSides'. -/
def quotSidesCard : Claim7 := { stood := { row := quotSidesRow, standIns := [], harness := (true, "b6eeae4949292a774df8fd92a0a5f0e7e7dd677ef623d28f742d07ef205a2a78"), looks := false }, kinds := [], alts := [], laidByText := true, laidKinds := [.data, .data, .data, .data], laidTests := true, laidLooks := .later }
def QuotSidesCardSaid : Prop := Claim7.holds Tryd.pinned (.plain (OpenSpec.ofChange quotSidesSpec)) quotSidesCard

/-- THE TIED CARD OF 'annuluslaw6.QuotExact'. -/
def quotExactCard : Claim7 := { stood := { row := quotExactRow, standIns := [], harness := (true, "b6eeae4949292a774df8fd92a0a5f0e7e7dd677ef623d28f742d07ef205a2a78"), looks := false }, kinds := [], alts := [], laidByText := true, laidKinds := [.data, .data, .data], laidTests := true, laidLooks := .later }
def QuotExactCardSaid : Prop := Claim7.holds Tryd.pinned (.plain (OpenSpec.ofChange quotExactSpec)) quotExactCard

/-- THE TIED CARD OF 'annuluslaw6.QuotNear'. -/
def quotNearCard : Claim7 := { stood := { row := quotNearRow, standIns := [], harness := (true, "b6eeae4949292a774df8fd92a0a5f0e7e7dd677ef623d28f742d07ef205a2a78"), looks := false }, kinds := [], alts := [], laidByText := true, laidKinds := [.data, .data], laidTests := true, laidLooks := .later }
def QuotNearCardSaid : Prop := Claim7.holds Tryd.pinned (.plain (OpenSpec.ofChange quotNearSpec)) quotNearCard

/-- THE TIED CARD OF 'annuluslaw6.QuotThirds'. -/
def quotThirdsCard : Claim7 := { stood := { row := quotThirdsRow, standIns := [], harness := (true, "b6eeae4949292a774df8fd92a0a5f0e7e7dd677ef623d28f742d07ef205a2a78"), looks := false }, kinds := [], alts := [], laidByText := true, laidKinds := [.data, .data], laidTests := true, laidLooks := .later }
def QuotThirdsCardSaid : Prop := Claim7.holds Tryd.pinned (.plain (OpenSpec.ofChange quotThirdsSpec)) quotThirdsCard

/-- THE SECOND FORM's CARD OF 'annuluslaw6.QuotSides'. -/
def quotSidesUptoCard : Claim7 := { stood := { row := quotSidesUptoRow, standIns := [], harness := (true, "b6eeae4949292a774df8fd92a0a5f0e7e7dd677ef623d28f742d07ef205a2a78"), looks := false }, kinds := [], alts := [], laidByText := true, laidKinds := [.data, .data, .data, .data], laidTests := true, laidLooks := .later }
def QuotSidesUptoCardSaid : Prop := Claim7.holds Tryd.pinned (.plain (OpenSpec.upto quotSidesSpec)) quotSidesUptoCard

/-- THE SECOND FORM's CARD OF 'annuluslaw6.QuotExact'. -/
def quotExactUptoCard : Claim7 := { stood := { row := quotExactUptoRow, standIns := [], harness := (true, "b6eeae4949292a774df8fd92a0a5f0e7e7dd677ef623d28f742d07ef205a2a78"), looks := false }, kinds := [], alts := [], laidByText := true, laidKinds := [.data, .data, .data], laidTests := true, laidLooks := .later }
def QuotExactUptoCardSaid : Prop := Claim7.holds Tryd.pinned (.plain (OpenSpec.upto quotExactSpec)) quotExactUptoCard

/-- THE SECOND FORM's CARD OF 'annuluslaw6.QuotNear'. -/
def quotNearUptoCard : Claim7 := { stood := { row := quotNearUptoRow, standIns := [], harness := (true, "b6eeae4949292a774df8fd92a0a5f0e7e7dd677ef623d28f742d07ef205a2a78"), looks := false }, kinds := [], alts := [], laidByText := true, laidKinds := [.data, .data], laidTests := true, laidLooks := .later }
def QuotNearUptoCardSaid : Prop := Claim7.holds Tryd.pinned (.plain (OpenSpec.upto quotNearSpec)) quotNearUptoCard

/-- THE SECOND FORM's CARD OF 'annuluslaw6.QuotThirds'. -/
def quotThirdsUptoCard : Claim7 := { stood := { row := quotThirdsUptoRow, standIns := [], harness := (true, "b6eeae4949292a774df8fd92a0a5f0e7e7dd677ef623d28f742d07ef205a2a78"), looks := false }, kinds := [], alts := [], laidByText := true, laidKinds := [.data, .data], laidTests := true, laidLooks := .later }
def QuotThirdsUptoCardSaid : Prop := Claim7.holds Tryd.pinned (.plain (OpenSpec.upto quotThirdsSpec)) quotThirdsUptoCard
end Rows
end Go.Proofs.YtbamplgleeofhaaDoor
