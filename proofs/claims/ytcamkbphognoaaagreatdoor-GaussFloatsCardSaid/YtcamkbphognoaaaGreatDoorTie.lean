/-
  DERIVED. GIVEN WITH THE SEED: THE PROGRAM's TIES (one call each: nine closed facts by the kernel) AND EACH ROW's TIE, after the 31st guide's Derived/Test/Toyas{Tie, Card}.lean. No idea stands in it: it is a product of the set-up. Laid BY PROGRAM, IN A SANDBOX (cutbox-door.mjs). By AI agents, Wed Nov 11 2026. No macro, syntax, notation, axiom, sorry.
-/
import Derived.Test.YtcamkbphognoaaaGreatDoorRows
import Derived.LaidByTextLater
import Derived.SevenTiedAt
import Derived.LaidSub
import Derived.LaidOnce
namespace Go.Proofs.YtcamkbphognoaaaGreatDoor
open Go
set_option maxRecDepth 100000
theorem seatTie1 : Tryz.prog.laidByTextLater [("math/bits.deBruijn32tab", Rows.laid_math_bits_deBruijn32tab), ("annulus/whole.sums", Rows.laid_annulus_whole_sums), ("annulus/whole.products", Rows.laid_annulus_whole_products), ("annulus/dyad.orders", Rows.laid_annulus_dyad_orders), ("annulus/round.outward", Rows.laid_annulus_round_outward), ("annulus/real.products", Rows.laid_annulus_real_products)] [.data, .data, .data, .data, .data, .data] true :=
  Program.laidByTextLater_by_one 87 8 37 (by kernel_rfl) (by kernel_rfl) (by kernel_rfl) (by kernel_rfl) (by kernel_rfl) (by kernel_rfl) (fun _ _ => by kernel_rfl)
theorem noOwnUnsafe : Tryz.pinned.checked.prog.headLifts.contains "ownunsafe" = false := by kernel_rfl
theorem tie : Tryz.prog.laidByTextLater [("math/bits.deBruijn32tab", Rows.laid_math_bits_deBruijn32tab), ("annulus/whole.sums", Rows.laid_annulus_whole_sums), ("annulus/whole.products", Rows.laid_annulus_whole_products), ("annulus/dyad.orders", Rows.laid_annulus_dyad_orders), ("annulus/round.outward", Rows.laid_annulus_round_outward), ("annulus/real.products", Rows.laid_annulus_real_products)] [.data, .data, .data, .data, .data, .data] true :=
  Program.laidByTextLater.sub seatTie1 ["math/bits.deBruijn32tab", "annulus/whole.sums", "annulus/whole.products", "annulus/dyad.orders", "annulus/round.outward", "annulus/real.products"] (by kernel_rfl) (by kernel_rfl)
theorem realHolds_row_tie : Rows.realHoldsRow.laidByTextAt .later Tryz.pinned [.data, .data, .data, .data, .data, .data] true :=
  OpenClaim.laidByTextAt_later rfl rfl tie noOwnUnsafe
theorem tie2 : Tryz.prog.laidByTextLater [("math/bits.deBruijn32tab", Rows.laid_math_bits_deBruijn32tab), ("annulus/whole.sums", Rows.laid_annulus_whole_sums), ("annulus/whole.products", Rows.laid_annulus_whole_products), ("annulus/dyad.orders", Rows.laid_annulus_dyad_orders), ("annulus/real.products", Rows.laid_annulus_real_products)] [.data, .data, .data, .data, .data] true :=
  Program.laidByTextLater.sub seatTie1 ["math/bits.deBruijn32tab", "annulus/whole.sums", "annulus/whole.products", "annulus/dyad.orders", "annulus/real.products"] (by kernel_rfl) (by kernel_rfl)
theorem realEnds_row_tie : Rows.realEndsRow.laidByTextAt .later Tryz.pinned [.data, .data, .data, .data, .data] true :=
  OpenClaim.laidByTextAt_later rfl rfl tie2 noOwnUnsafe
theorem tie3 : Tryz.prog.laidByTextLater [("math/bits.deBruijn32tab", Rows.laid_math_bits_deBruijn32tab), ("annulus/whole.sums", Rows.laid_annulus_whole_sums), ("annulus/whole.products", Rows.laid_annulus_whole_products), ("annulus/dyad.orders", Rows.laid_annulus_dyad_orders)] [.data, .data, .data, .data] true :=
  Program.laidByTextLater.sub seatTie1 ["math/bits.deBruijn32tab", "annulus/whole.sums", "annulus/whole.products", "annulus/dyad.orders"] (by kernel_rfl) (by kernel_rfl)
theorem gaussTells_row_tie : Rows.gaussTellsRow.laidByTextAt .later Tryz.pinned [.data, .data, .data, .data] true :=
  OpenClaim.laidByTextAt_later rfl rfl tie3 noOwnUnsafe
theorem gaussLaws_row_tie : Rows.gaussLawsRow.laidByTextAt .later Tryz.pinned [.data, .data, .data, .data] true :=
  OpenClaim.laidByTextAt_later rfl rfl tie3 noOwnUnsafe
theorem gaussFloats_row_tie : Rows.gaussFloatsRow.laidByTextAt .later Tryz.pinned [.data, .data, .data, .data] true :=
  OpenClaim.laidByTextAt_later rfl rfl tie3 noOwnUnsafe
theorem gaussTurns_row_tie : Rows.gaussTurnsRow.laidByTextAt .later Tryz.pinned [.data, .data, .data, .data] true :=
  OpenClaim.laidByTextAt_later rfl rfl tie3 noOwnUnsafe
theorem realHoldsUpto_row_tie : Rows.realHoldsUptoRow.laidByTextAt .later Tryz.pinned [.data, .data, .data, .data, .data, .data] true :=
  OpenClaim.laidByTextAt_later rfl rfl tie noOwnUnsafe
theorem realEndsUpto_row_tie : Rows.realEndsUptoRow.laidByTextAt .later Tryz.pinned [.data, .data, .data, .data, .data] true :=
  OpenClaim.laidByTextAt_later rfl rfl tie2 noOwnUnsafe
theorem gaussTellsUpto_row_tie : Rows.gaussTellsUptoRow.laidByTextAt .later Tryz.pinned [.data, .data, .data, .data] true :=
  OpenClaim.laidByTextAt_later rfl rfl tie3 noOwnUnsafe
theorem gaussLawsUpto_row_tie : Rows.gaussLawsUptoRow.laidByTextAt .later Tryz.pinned [.data, .data, .data, .data] true :=
  OpenClaim.laidByTextAt_later rfl rfl tie3 noOwnUnsafe
theorem gaussFloatsUpto_row_tie : Rows.gaussFloatsUptoRow.laidByTextAt .later Tryz.pinned [.data, .data, .data, .data] true :=
  OpenClaim.laidByTextAt_later rfl rfl tie3 noOwnUnsafe
theorem gaussTurnsUpto_row_tie : Rows.gaussTurnsUptoRow.laidByTextAt .later Tryz.pinned [.data, .data, .data, .data] true :=
  OpenClaim.laidByTextAt_later rfl rfl tie3 noOwnUnsafe
end Go.Proofs.YtcamkbphognoaaaGreatDoor
