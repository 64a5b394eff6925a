/-
  DERIVED. GIVEN WITH THE SEED: THE PROGRAM's TIES (one call each: nine closed facts by the kernel) AND EACH ROW's TIE, after the 31st guide's Derived/Test/Toyas{Tie, Card}.lean. No idea stands in it: it is a product of the set-up. Laid BY PROGRAM, IN A SANDBOX (cutbox-door.mjs). By AI agents, Wed Nov 11 2026. No macro, syntax, notation, axiom, sorry.
-/
import Derived.Test.YtnnnolmldmbaaaaGreatDoorRows
import Derived.LaidByTextLater
import Derived.SevenTiedAt
import Derived.LaidSub
import Derived.LaidOnce
namespace Go.Proofs.YtnnnolmldmbaaaaGreatDoor
open Go
set_option maxRecDepth 100000
theorem seatTie1 : Tryz.prog.laidByTextLater [("math/bits.deBruijn32tab", Rows.laid_math_bits_deBruijn32tab), ("annulus/whole.sums", Rows.laid_annulus_whole_sums), ("annulus/whole.products", Rows.laid_annulus_whole_products), ("annulus/dyad.orders", Rows.laid_annulus_dyad_orders), ("annulus/round.outward", Rows.laid_annulus_round_outward), ("annulus/real.products", Rows.laid_annulus_real_products)] [.data, .data, .data, .data, .data, .data] true :=
  Program.laidByTextLater_by_one 87 8 37 (by kernel_rfl) (by kernel_rfl) (by kernel_rfl) (by kernel_rfl) (by kernel_rfl) (by kernel_rfl) (fun _ _ => by kernel_rfl)
theorem noOwnUnsafe : Tryz.pinned.checked.prog.headLifts.contains "ownunsafe" = false := by kernel_rfl
theorem tie : Tryz.prog.laidByTextLater [("math/bits.deBruijn32tab", Rows.laid_math_bits_deBruijn32tab), ("annulus/whole.sums", Rows.laid_annulus_whole_sums), ("annulus/whole.products", Rows.laid_annulus_whole_products), ("annulus/dyad.orders", Rows.laid_annulus_dyad_orders), ("annulus/real.products", Rows.laid_annulus_real_products)] [.data, .data, .data, .data, .data] true :=
  Program.laidByTextLater.sub seatTie1 ["math/bits.deBruijn32tab", "annulus/whole.sums", "annulus/whole.products", "annulus/dyad.orders", "annulus/real.products"] (by kernel_rfl) (by kernel_rfl)
theorem realTells_row_tie : Rows.realTellsRow.laidByTextAt .later Tryz.pinned [.data, .data, .data, .data, .data] true :=
  OpenClaim.laidByTextAt_later rfl rfl tie noOwnUnsafe
theorem realEnds_row_tie : Rows.realEndsRow.laidByTextAt .later Tryz.pinned [.data, .data, .data, .data, .data] true :=
  OpenClaim.laidByTextAt_later rfl rfl tie noOwnUnsafe
theorem realLess_row_tie : Rows.realLessRow.laidByTextAt .later Tryz.pinned [.data, .data, .data, .data, .data] true :=
  OpenClaim.laidByTextAt_later rfl rfl tie noOwnUnsafe
theorem tie2 : Tryz.prog.laidByTextLater [("math/bits.deBruijn32tab", Rows.laid_math_bits_deBruijn32tab), ("annulus/whole.sums", Rows.laid_annulus_whole_sums), ("annulus/whole.products", Rows.laid_annulus_whole_products), ("annulus/dyad.orders", Rows.laid_annulus_dyad_orders), ("annulus/round.outward", Rows.laid_annulus_round_outward), ("annulus/real.products", Rows.laid_annulus_real_products)] [.data, .data, .data, .data, .data, .data] true :=
  Program.laidByTextLater.sub seatTie1 ["math/bits.deBruijn32tab", "annulus/whole.sums", "annulus/whole.products", "annulus/dyad.orders", "annulus/round.outward", "annulus/real.products"] (by kernel_rfl) (by kernel_rfl)
theorem realRounds_row_tie : Rows.realRoundsRow.laidByTextAt .later Tryz.pinned [.data, .data, .data, .data, .data, .data] true :=
  OpenClaim.laidByTextAt_later rfl rfl tie2 noOwnUnsafe
theorem realHolds_row_tie : Rows.realHoldsRow.laidByTextAt .later Tryz.pinned [.data, .data, .data, .data, .data, .data] true :=
  OpenClaim.laidByTextAt_later rfl rfl tie2 noOwnUnsafe
theorem tie3 : Tryz.prog.laidByTextLater [("math/bits.deBruijn32tab", Rows.laid_math_bits_deBruijn32tab), ("annulus/whole.products", Rows.laid_annulus_whole_products), ("annulus/dyad.orders", Rows.laid_annulus_dyad_orders), ("annulus/real.products", Rows.laid_annulus_real_products)] [.data, .data, .data, .data] true :=
  Program.laidByTextLater.sub seatTie1 ["math/bits.deBruijn32tab", "annulus/whole.products", "annulus/dyad.orders", "annulus/real.products"] (by kernel_rfl) (by kernel_rfl)
theorem realSigns_row_tie : Rows.realSignsRow.laidByTextAt .later Tryz.pinned [.data, .data, .data, .data] true :=
  OpenClaim.laidByTextAt_later rfl rfl tie3 noOwnUnsafe
theorem realTellsUpto_row_tie : Rows.realTellsUptoRow.laidByTextAt .later Tryz.pinned [.data, .data, .data, .data, .data] true :=
  OpenClaim.laidByTextAt_later rfl rfl tie noOwnUnsafe
theorem realRoundsUpto_row_tie : Rows.realRoundsUptoRow.laidByTextAt .later Tryz.pinned [.data, .data, .data, .data, .data, .data] true :=
  OpenClaim.laidByTextAt_later rfl rfl tie2 noOwnUnsafe
theorem realHoldsUpto_row_tie : Rows.realHoldsUptoRow.laidByTextAt .later Tryz.pinned [.data, .data, .data, .data, .data, .data] true :=
  OpenClaim.laidByTextAt_later rfl rfl tie2 noOwnUnsafe
theorem realEndsUpto_row_tie : Rows.realEndsUptoRow.laidByTextAt .later Tryz.pinned [.data, .data, .data, .data, .data] true :=
  OpenClaim.laidByTextAt_later rfl rfl tie noOwnUnsafe
theorem realLessUpto_row_tie : Rows.realLessUptoRow.laidByTextAt .later Tryz.pinned [.data, .data, .data, .data, .data] true :=
  OpenClaim.laidByTextAt_later rfl rfl tie noOwnUnsafe
theorem realSignsUpto_row_tie : Rows.realSignsUptoRow.laidByTextAt .later Tryz.pinned [.data, .data, .data, .data] true :=
  OpenClaim.laidByTextAt_later rfl rfl tie3 noOwnUnsafe
end Go.Proofs.YtnnnolmldmbaaaaGreatDoor
