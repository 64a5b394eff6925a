/-
  DERIVED. GIVEN WITH THE SEED: THE PROGRAM's TIES (one call each: nine closed facts by the kernel) AND EACH ROW's TIE, after the 31st guide's Derived/Test/Toyas{Tie, Card}.lean. No idea stands in it: it is a product of the set-up. Laid BY PROGRAM, IN A SANDBOX (cutbox-door.mjs). By AI agents, Wed Nov 11 2026. No macro, syntax, notation, axiom, sorry.
-/
import Derived.Test.YtgmencbhkkcpiaaGreatDoorRows
import Derived.LaidByTextLater
import Derived.SevenTiedAt
import Derived.LaidSub
import Derived.LaidOnce
namespace Go.Proofs.YtgmencbhkkcpiaaGreatDoor
open Go
set_option maxRecDepth 100000
theorem seatTie1 : Tryz.prog.laidByTextLater [("math/bits.deBruijn32tab", Rows.laid_math_bits_deBruijn32tab), ("annulus/whole.sums", Rows.laid_annulus_whole_sums), ("annulus/whole.products", Rows.laid_annulus_whole_products), ("annulus/dyad.orders", Rows.laid_annulus_dyad_orders), ("annulus/real.products", Rows.laid_annulus_real_products)] [.data, .data, .data, .data, .data] true :=
  Program.laidByTextLater_by_one 73 8 37 (by kernel_rfl) (by kernel_rfl) (by kernel_rfl) (by kernel_rfl) (by kernel_rfl) (by kernel_rfl) (fun _ _ => by kernel_rfl)
theorem noOwnUnsafe : Tryz.pinned.checked.prog.headLifts.contains "ownunsafe" = false := by kernel_rfl
theorem tie : Tryz.prog.laidByTextLater [("math/bits.deBruijn32tab", Rows.laid_math_bits_deBruijn32tab), ("annulus/whole.sums", Rows.laid_annulus_whole_sums), ("annulus/whole.products", Rows.laid_annulus_whole_products), ("annulus/dyad.orders", Rows.laid_annulus_dyad_orders), ("annulus/real.products", Rows.laid_annulus_real_products)] [.data, .data, .data, .data, .data] true :=
  Program.laidByTextLater.sub seatTie1 ["math/bits.deBruijn32tab", "annulus/whole.sums", "annulus/whole.products", "annulus/dyad.orders", "annulus/real.products"] (by kernel_rfl) (by kernel_rfl)
theorem realEnds_row_tie : Rows.realEndsRow.laidByTextAt .later Tryz.pinned [.data, .data, .data, .data, .data] true :=
  OpenClaim.laidByTextAt_later rfl rfl tie noOwnUnsafe
theorem realEndsUpto_row_tie : Rows.realEndsUptoRow.laidByTextAt .later Tryz.pinned [.data, .data, .data, .data, .data] true :=
  OpenClaim.laidByTextAt_later rfl rfl tie noOwnUnsafe
end Go.Proofs.YtgmencbhkkcpiaaGreatDoor
