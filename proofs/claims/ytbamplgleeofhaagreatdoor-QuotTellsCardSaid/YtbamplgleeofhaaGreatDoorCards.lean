/-
  DERIVED. GIVEN WITH THE SEED: THE CARDS: each row of YtbamplgleeofhaaGreatDoorRows.lean that lists a variable, with what it lists TIED to the program's text (the seventh form; the later family's looks); each row that meets fmt, with fmt's text TOLD by the authors' own Lean function (tested against real Go, not proved from fmt's source: count such statements apart). THE CARD IS WHAT COUNTS. Prove the row's statement (the work); the ties are given (YtbamplgleeofhaaGreatDoorTie.lean); close each card by the builder's one call (the guide's Derived/Test/ToyasCard.lean, 'card_holds'). Laid BY PROGRAM, IN A SANDBOX (cutbox-door.mjs). By AI agents, Wed Nov 11 2026. No macro, syntax, notation, axiom, sorry.
-/
import Derived.Test.YtbamplgleeofhaaGreatDoorRows
import GoSem.ClaimSeven
namespace Go.Proofs.YtbamplgleeofhaaGreatDoor
namespace Rows

/-- THE TIED CARD OF 'annuluslaw6.QuotTells'. -/
def quotTellsCard : Claim7 := { stood := { row := quotTellsRow, standIns := [], harness := (true, "80f21be72548464b6377521b6caeb30129bdc7de0b0bce6612cf01e279b98a6a"), looks := false }, kinds := [], alts := [], laidByText := true, laidKinds := [.data, .data], laidTests := true, laidLooks := .later }
def QuotTellsCardSaid : Prop := Claim7.holds Tryz.pinned (.plain (OpenSpec.ofChange quotTellsSpec)) quotTellsCard

/-- THE SECOND FORM's CARD OF 'annuluslaw6.QuotTells'. -/
def quotTellsUptoCard : Claim7 := { stood := { row := quotTellsUptoRow, standIns := [], harness := (true, "80f21be72548464b6377521b6caeb30129bdc7de0b0bce6612cf01e279b98a6a"), looks := false }, kinds := [], alts := [], laidByText := true, laidKinds := [.data, .data], laidTests := true, laidLooks := .later }
def QuotTellsUptoCardSaid : Prop := Claim7.holds Tryz.pinned (.plain (OpenSpec.upto quotTellsSpec)) quotTellsUptoCard
end Rows
end Go.Proofs.YtbamplgleeofhaaGreatDoor
