/-
  DERIVED. GIVEN WITH THE SEED: THE CARDS: each row of YtgmencbhkkcpiaaGreatDoorRows.lean that lists a variable, with what it lists TIED to the program's text (the seventh form; the later family's looks); each row that meets fmt, with fmt's text TOLD by the authors' own Lean function (tested against real Go, not proved from fmt's source: count such statements apart). THE CARD IS WHAT COUNTS. Prove the row's statement (the work); the ties are given (YtgmencbhkkcpiaaGreatDoorTie.lean); close each card by the builder's one call (the guide's Derived/Test/ToyasCard.lean, 'card_holds'). Laid BY PROGRAM, IN A SANDBOX (cutbox-door.mjs). By AI agents, Wed Nov 11 2026. No macro, syntax, notation, axiom, sorry.
-/
import Derived.Test.YtgmencbhkkcpiaaGreatDoorRows
import GoSem.ClaimSeven
namespace Go.Proofs.YtgmencbhkkcpiaaGreatDoor
namespace Rows

/-- THE TIED CARD OF 'annuluslaw7.RealEnds'. -/
def realEndsCard : Claim7 := { stood := { row := realEndsRow, standIns := [], harness := (true, "aaa0234cab085525d84d8d75feb7afc1dac5c03d67de6bfd2b558858e72ae87b"), looks := false }, kinds := [], alts := [], laidByText := true, laidKinds := [.data, .data, .data, .data, .data], laidTests := true, laidLooks := .later }
def RealEndsCardSaid : Prop := Claim7.holds Tryz.pinned (.plain (OpenSpec.ofChange realEndsSpec)) realEndsCard

/-- THE SECOND FORM's CARD OF 'annuluslaw7.RealEnds'. -/
def realEndsUptoCard : Claim7 := { stood := { row := realEndsUptoRow, standIns := [], harness := (true, "aaa0234cab085525d84d8d75feb7afc1dac5c03d67de6bfd2b558858e72ae87b"), looks := false }, kinds := [], alts := [], laidByText := true, laidKinds := [.data, .data, .data, .data, .data], laidTests := true, laidLooks := .later }
def RealEndsUptoCardSaid : Prop := Claim7.holds Tryz.pinned (.plain (OpenSpec.upto realEndsSpec)) realEndsUptoCard
end Rows
end Go.Proofs.YtgmencbhkkcpiaaGreatDoor
