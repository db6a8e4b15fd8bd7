/-
  DERIVED. GIVEN WITH THE SEED: THE PROGRAM's TIES (one call each: nine closed facts by the kernel) AND EACH ROW's TIE, after the 31st guide's Derived/Test/Toyas{Tie, Card}.lean. No idea stands in it: it is a product of the set-up. Laid BY PROGRAM, IN A SANDBOX (cutbox-door.mjs). By AI agents, Wed Nov 11 2026. No macro, syntax, notation, axiom, sorry.
-/
import Derived.Test.YthgoggiiabaccaaDoorRows
import Derived.LaidByTextLater
import Derived.SevenTiedAt
import Derived.LaidSub
import Derived.LaidOnce
namespace Go.Proofs.YthgoggiiabaccaaDoor
open Go
set_option maxRecDepth 100000
theorem seatTie1 : Tryd.prog.laidByTextLater [("pharos/fp.inverting", Rows.laid_pharos_fp_inverting), ("pharos/fp.modulus", Rows.laid_pharos_fp_modulus), ("pharos/fp.lift", Rows.laid_pharos_fp_lift), ("pharos/fp.half", Rows.laid_pharos_fp_half), ("pharos/fp.rooting", Rows.laid_pharos_fp_rooting)] [.data, .data, .data, .data, .data] true :=
  Program.laidByTextLater_by_one 34 8 7 (by kernel_rfl) (by kernel_rfl) (by kernel_rfl) (by kernel_rfl) (by kernel_rfl) (by kernel_rfl) (fun _ _ => by kernel_rfl)
theorem noOwnUnsafe : Tryd.pinned.checked.prog.headLifts.contains "ownunsafe" = false := by kernel_rfl
theorem tie : Tryd.prog.laidByTextLater [("pharos/fp.inverting", Rows.laid_pharos_fp_inverting), ("pharos/fp.modulus", Rows.laid_pharos_fp_modulus), ("pharos/fp.lift", Rows.laid_pharos_fp_lift), ("pharos/fp.half", Rows.laid_pharos_fp_half), ("pharos/fp.rooting", Rows.laid_pharos_fp_rooting)] [.data, .data, .data, .data, .data] true :=
  Program.laidByTextLater.sub seatTie1 ["pharos/fp.inverting", "pharos/fp.modulus", "pharos/fp.lift", "pharos/fp.half", "pharos/fp.rooting"] (by kernel_rfl) (by kernel_rfl)
theorem fpBytes_row_tie : Rows.fpBytesRow.laidByTextAt .later Tryd.pinned [.data, .data, .data, .data, .data] true :=
  OpenClaim.laidByTextAt_later rfl rfl tie noOwnUnsafe
theorem fpReckons_row_tie : Rows.fpReckonsRow.laidByTextAt .later Tryd.pinned [.data, .data, .data, .data, .data] true :=
  OpenClaim.laidByTextAt_later rfl rfl tie noOwnUnsafe
theorem fpLaws_row_tie : Rows.fpLawsRow.laidByTextAt .later Tryd.pinned [.data, .data, .data, .data, .data] true :=
  OpenClaim.laidByTextAt_later rfl rfl tie noOwnUnsafe
theorem fpPowers_row_tie : Rows.fpPowersRow.laidByTextAt .later Tryd.pinned [.data, .data, .data, .data, .data] true :=
  OpenClaim.laidByTextAt_later rfl rfl tie noOwnUnsafe
theorem fpRoots_row_tie : Rows.fpRootsRow.laidByTextAt .later Tryd.pinned [.data, .data, .data, .data, .data] true :=
  OpenClaim.laidByTextAt_later rfl rfl tie noOwnUnsafe
theorem fpSigns_row_tie : Rows.fpSignsRow.laidByTextAt .later Tryd.pinned [.data, .data, .data, .data, .data] true :=
  OpenClaim.laidByTextAt_later rfl rfl tie noOwnUnsafe
theorem fpSolves_row_tie : Rows.fpSolvesRow.laidByTextAt .later Tryd.pinned [.data, .data, .data, .data, .data] true :=
  OpenClaim.laidByTextAt_later rfl rfl tie noOwnUnsafe
theorem fpFermat_row_tie : Rows.fpFermatRow.laidByTextAt .later Tryd.pinned [.data, .data, .data, .data, .data] true :=
  OpenClaim.laidByTextAt_later rfl rfl tie noOwnUnsafe
theorem fpBytesUpto_row_tie : Rows.fpBytesUptoRow.laidByTextAt .later Tryd.pinned [.data, .data, .data, .data, .data] true :=
  OpenClaim.laidByTextAt_later rfl rfl tie noOwnUnsafe
theorem fpReckonsUpto_row_tie : Rows.fpReckonsUptoRow.laidByTextAt .later Tryd.pinned [.data, .data, .data, .data, .data] true :=
  OpenClaim.laidByTextAt_later rfl rfl tie noOwnUnsafe
theorem fpLawsUpto_row_tie : Rows.fpLawsUptoRow.laidByTextAt .later Tryd.pinned [.data, .data, .data, .data, .data] true :=
  OpenClaim.laidByTextAt_later rfl rfl tie noOwnUnsafe
theorem fpPowersUpto_row_tie : Rows.fpPowersUptoRow.laidByTextAt .later Tryd.pinned [.data, .data, .data, .data, .data] true :=
  OpenClaim.laidByTextAt_later rfl rfl tie noOwnUnsafe
theorem fpRootsUpto_row_tie : Rows.fpRootsUptoRow.laidByTextAt .later Tryd.pinned [.data, .data, .data, .data, .data] true :=
  OpenClaim.laidByTextAt_later rfl rfl tie noOwnUnsafe
theorem fpSignsUpto_row_tie : Rows.fpSignsUptoRow.laidByTextAt .later Tryd.pinned [.data, .data, .data, .data, .data] true :=
  OpenClaim.laidByTextAt_later rfl rfl tie noOwnUnsafe
theorem fpSolvesUpto_row_tie : Rows.fpSolvesUptoRow.laidByTextAt .later Tryd.pinned [.data, .data, .data, .data, .data] true :=
  OpenClaim.laidByTextAt_later rfl rfl tie noOwnUnsafe
theorem fpFermatUpto_row_tie : Rows.fpFermatUptoRow.laidByTextAt .later Tryd.pinned [.data, .data, .data, .data, .data] true :=
  OpenClaim.laidByTextAt_later rfl rfl tie noOwnUnsafe
end Go.Proofs.YthgoggiiabaccaaDoor
