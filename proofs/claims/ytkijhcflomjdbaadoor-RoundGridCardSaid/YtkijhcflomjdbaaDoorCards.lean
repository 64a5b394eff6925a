/-
  DERIVED. GIVEN WITH THE SEED: THE CARDS: each row of YtkijhcflomjdbaaDoorRows.lean that lists a variable, with what it lists TIED to the program's text (the seventh form; the later family's looks); each row that meets fmt, with fmt's text TOLD by the authors' own Lean function (tested against real Go, not proved from fmt's source: count such statements apart). THE CARD IS WHAT COUNTS. Prove the row's statement (the work); the ties are given (YtkijhcflomjdbaaDoorTie.lean); close each card by the builder's one call (the guide's Derived/Test/ToyasCard.lean, 'card_holds'). Laid BY PROGRAM, IN A SANDBOX (cutbox-door.mjs). By AI agents, Wed Nov 11 2026. No macro, syntax, notation, axiom, sorry.
-/
import Derived.Test.YtkijhcflomjdbaaDoorRows
import GoSem.ClaimSeven
namespace Go.Proofs.YtkijhcflomjdbaaDoor
namespace Rows

/-- THE TIED CARD OF 'annuluslaw5.RoundTells'. -/
def roundTellsCard : Claim7 := { stood := { row := roundTellsRow, standIns := [], harness := (true, "bc705c67739b39cdbd4a3601234f5373f1c1327064ad03e534cf3dfd46a17d11"), looks := false }, kinds := [], alts := [], laidByText := true, laidKinds := [.data, .data, .data, .data], laidTests := true, laidLooks := .later }
def RoundTellsCardSaid : Prop := Claim7.holds Tryd.pinned (.plain (OpenSpec.ofChange roundTellsSpec)) roundTellsCard

/-- THE TIED CARD OF 'annuluslaw5.RoundSides'. -/
def roundSidesCard : Claim7 := { stood := { row := roundSidesRow, standIns := [], harness := (true, "bc705c67739b39cdbd4a3601234f5373f1c1327064ad03e534cf3dfd46a17d11"), looks := false }, kinds := [], alts := [], laidByText := true, laidKinds := [.data, .data, .data, .data], laidTests := true, laidLooks := .later }
def RoundSidesCardSaid : Prop := Claim7.holds Tryd.pinned (.plain (OpenSpec.ofChange roundSidesSpec)) roundSidesCard

/-- THE TIED CARD OF 'annuluslaw5.RoundTwice'. -/
def roundTwiceCard : Claim7 := { stood := { row := roundTwiceRow, standIns := [], harness := (true, "bc705c67739b39cdbd4a3601234f5373f1c1327064ad03e534cf3dfd46a17d11"), looks := false }, kinds := [], alts := [], laidByText := true, laidKinds := [.data, .data, .data, .data], laidTests := true, laidLooks := .later }
def RoundTwiceCardSaid : Prop := Claim7.holds Tryd.pinned (.plain (OpenSpec.ofChange roundTwiceSpec)) roundTwiceCard

/-- THE TIED CARD OF 'annuluslaw5.RoundGrid'. -/
def roundGridCard : Claim7 := { stood := { row := roundGridRow, standIns := [], harness := (true, "bc705c67739b39cdbd4a3601234f5373f1c1327064ad03e534cf3dfd46a17d11"), looks := false }, kinds := [], alts := [], laidByText := true, laidKinds := [.data, .data, .data, .data], laidTests := true, laidLooks := .later }
def RoundGridCardSaid : Prop := Claim7.holds Tryd.pinned (.plain (OpenSpec.ofChange roundGridSpec)) roundGridCard

/-- THE TIED CARD OF 'annuluslaw5.RoundHalves'. -/
def roundHalvesCard : Claim7 := { stood := { row := roundHalvesRow, standIns := [], harness := (true, "bc705c67739b39cdbd4a3601234f5373f1c1327064ad03e534cf3dfd46a17d11"), looks := false }, kinds := [], alts := [], laidByText := true, laidKinds := [.data, .data, .data, .data], laidTests := true, laidLooks := .later }
def RoundHalvesCardSaid : Prop := Claim7.holds Tryd.pinned (.plain (OpenSpec.ofChange roundHalvesSpec)) roundHalvesCard

/-- THE TIED CARD OF 'annuluslaw6.QuotSides'. -/
def quotSidesCard : Claim7 := { stood := { row := quotSidesRow, standIns := [], harness := (true, "bc705c67739b39cdbd4a3601234f5373f1c1327064ad03e534cf3dfd46a17d11"), looks := false }, kinds := [], alts := [], laidByText := true, laidKinds := [.data, .data, .data, .data], laidTests := true, laidLooks := .later }
def QuotSidesCardSaid : Prop := Claim7.holds Tryd.pinned (.plain (OpenSpec.ofChange quotSidesSpec)) quotSidesCard

/-- THE TIED CARD OF 'annuluslaw6.QuotExact'. -/
def quotExactCard : Claim7 := { stood := { row := quotExactRow, standIns := [], harness := (true, "bc705c67739b39cdbd4a3601234f5373f1c1327064ad03e534cf3dfd46a17d11"), looks := false }, kinds := [], alts := [], laidByText := true, laidKinds := [.data, .data, .data], laidTests := true, laidLooks := .later }
def QuotExactCardSaid : Prop := Claim7.holds Tryd.pinned (.plain (OpenSpec.ofChange quotExactSpec)) quotExactCard

/-- THE TIED CARD OF 'annuluslaw6.QuotNear'. -/
def quotNearCard : Claim7 := { stood := { row := quotNearRow, standIns := [], harness := (true, "bc705c67739b39cdbd4a3601234f5373f1c1327064ad03e534cf3dfd46a17d11"), looks := false }, kinds := [], alts := [], laidByText := true, laidKinds := [.data, .data], laidTests := true, laidLooks := .later }
def QuotNearCardSaid : Prop := Claim7.holds Tryd.pinned (.plain (OpenSpec.ofChange quotNearSpec)) quotNearCard

/-- THE TIED CARD OF 'annuluslaw6.QuotThirds'. -/
def quotThirdsCard : Claim7 := { stood := { row := quotThirdsRow, standIns := [], harness := (true, "bc705c67739b39cdbd4a3601234f5373f1c1327064ad03e534cf3dfd46a17d11"), looks := false }, kinds := [], alts := [], laidByText := true, laidKinds := [.data, .data], laidTests := true, laidLooks := .later }
def QuotThirdsCardSaid : Prop := Claim7.holds Tryd.pinned (.plain (OpenSpec.ofChange quotThirdsSpec)) quotThirdsCard

/-- THE SECOND FORM's CARD OF 'annuluslaw5.RoundTells'. -/
def roundTellsUptoCard : Claim7 := { stood := { row := roundTellsUptoRow, standIns := [], harness := (true, "bc705c67739b39cdbd4a3601234f5373f1c1327064ad03e534cf3dfd46a17d11"), looks := false }, kinds := [], alts := [], laidByText := true, laidKinds := [.data, .data, .data, .data], laidTests := true, laidLooks := .later }
def RoundTellsUptoCardSaid : Prop := Claim7.holds Tryd.pinned (.plain (OpenSpec.upto roundTellsSpec)) roundTellsUptoCard

/-- THE SECOND FORM's CARD OF 'annuluslaw5.RoundSides'. -/
def roundSidesUptoCard : Claim7 := { stood := { row := roundSidesUptoRow, standIns := [], harness := (true, "bc705c67739b39cdbd4a3601234f5373f1c1327064ad03e534cf3dfd46a17d11"), looks := false }, kinds := [], alts := [], laidByText := true, laidKinds := [.data, .data, .data, .data], laidTests := true, laidLooks := .later }
def RoundSidesUptoCardSaid : Prop := Claim7.holds Tryd.pinned (.plain (OpenSpec.upto roundSidesSpec)) roundSidesUptoCard

/-- THE SECOND FORM's CARD OF 'annuluslaw5.RoundTwice'. -/
def roundTwiceUptoCard : Claim7 := { stood := { row := roundTwiceUptoRow, standIns := [], harness := (true, "bc705c67739b39cdbd4a3601234f5373f1c1327064ad03e534cf3dfd46a17d11"), looks := false }, kinds := [], alts := [], laidByText := true, laidKinds := [.data, .data, .data, .data], laidTests := true, laidLooks := .later }
def RoundTwiceUptoCardSaid : Prop := Claim7.holds Tryd.pinned (.plain (OpenSpec.upto roundTwiceSpec)) roundTwiceUptoCard

/-- THE SECOND FORM's CARD OF 'annuluslaw5.RoundGrid'. -/
def roundGridUptoCard : Claim7 := { stood := { row := roundGridUptoRow, standIns := [], harness := (true, "bc705c67739b39cdbd4a3601234f5373f1c1327064ad03e534cf3dfd46a17d11"), looks := false }, kinds := [], alts := [], laidByText := true, laidKinds := [.data, .data, .data, .data], laidTests := true, laidLooks := .later }
def RoundGridUptoCardSaid : Prop := Claim7.holds Tryd.pinned (.plain (OpenSpec.upto roundGridSpec)) roundGridUptoCard

/-- THE SECOND FORM's CARD OF 'annuluslaw5.RoundHalves'. -/
def roundHalvesUptoCard : Claim7 := { stood := { row := roundHalvesUptoRow, standIns := [], harness := (true, "bc705c67739b39cdbd4a3601234f5373f1c1327064ad03e534cf3dfd46a17d11"), looks := false }, kinds := [], alts := [], laidByText := true, laidKinds := [.data, .data, .data, .data], laidTests := true, laidLooks := .later }
def RoundHalvesUptoCardSaid : Prop := Claim7.holds Tryd.pinned (.plain (OpenSpec.upto roundHalvesSpec)) roundHalvesUptoCard

/-- THE SECOND FORM's CARD OF 'annuluslaw6.QuotSides'. -/
def quotSidesUptoCard : Claim7 := { stood := { row := quotSidesUptoRow, standIns := [], harness := (true, "bc705c67739b39cdbd4a3601234f5373f1c1327064ad03e534cf3dfd46a17d11"), looks := false }, kinds := [], alts := [], laidByText := true, laidKinds := [.data, .data, .data, .data], laidTests := true, laidLooks := .later }
def QuotSidesUptoCardSaid : Prop := Claim7.holds Tryd.pinned (.plain (OpenSpec.upto quotSidesSpec)) quotSidesUptoCard

/-- THE SECOND FORM's CARD OF 'annuluslaw6.QuotExact'. -/
def quotExactUptoCard : Claim7 := { stood := { row := quotExactUptoRow, standIns := [], harness := (true, "bc705c67739b39cdbd4a3601234f5373f1c1327064ad03e534cf3dfd46a17d11"), looks := false }, kinds := [], alts := [], laidByText := true, laidKinds := [.data, .data, .data], laidTests := true, laidLooks := .later }
def QuotExactUptoCardSaid : Prop := Claim7.holds Tryd.pinned (.plain (OpenSpec.upto quotExactSpec)) quotExactUptoCard

/-- THE SECOND FORM's CARD OF 'annuluslaw6.QuotNear'. -/
def quotNearUptoCard : Claim7 := { stood := { row := quotNearUptoRow, standIns := [], harness := (true, "bc705c67739b39cdbd4a3601234f5373f1c1327064ad03e534cf3dfd46a17d11"), looks := false }, kinds := [], alts := [], laidByText := true, laidKinds := [.data, .data], laidTests := true, laidLooks := .later }
def QuotNearUptoCardSaid : Prop := Claim7.holds Tryd.pinned (.plain (OpenSpec.upto quotNearSpec)) quotNearUptoCard

/-- THE SECOND FORM's CARD OF 'annuluslaw6.QuotThirds'. -/
def quotThirdsUptoCard : Claim7 := { stood := { row := quotThirdsUptoRow, standIns := [], harness := (true, "bc705c67739b39cdbd4a3601234f5373f1c1327064ad03e534cf3dfd46a17d11"), looks := false }, kinds := [], alts := [], laidByText := true, laidKinds := [.data, .data], laidTests := true, laidLooks := .later }
def QuotThirdsUptoCardSaid : Prop := Claim7.holds Tryd.pinned (.plain (OpenSpec.upto quotThirdsSpec)) quotThirdsUptoCard
end Rows
end Go.Proofs.YtkijhcflomjdbaaDoor
