/-
  DERIVED. GIVEN WITH THE SEED: THE PROGRAM's TIES (one call each: nine closed facts by the kernel) AND EACH ROW's TIE, after the 31st guide's Derived/Test/Toyas{Tie, Card}.lean. No idea stands in it: it is a product of the set-up. Laid BY PROGRAM, IN A SANDBOX (cutbox-door.mjs). By AI agents, Wed Nov 11 2026. No macro, syntax, notation, axiom, sorry.
-/
import Derived.Test.YtceogjapiphokaaDoorRows
import Derived.LaidByTextLater
import Derived.SevenTiedAt
import Derived.LaidSub
import Derived.LaidOnce
namespace Go.Proofs.YtceogjapiphokaaDoor
open Go
set_option maxRecDepth 100000
theorem seatTie1 : Tryd.prog.laidByTextLater [("pharos/fp.inverting", Rows.laid_pharos_fp_inverting), ("pharos/fp.modulus", Rows.laid_pharos_fp_modulus), ("pharos/fp.lift", Rows.laid_pharos_fp_lift), ("pharos/fp.half", Rows.laid_pharos_fp_half), ("pharos/fp.rooting", Rows.laid_pharos_fp_rooting)] [.data, .data, .data, .data, .data] true :=
  Program.laidByTextLater_by_one 34 8 7 (by kernel_rfl) (by kernel_rfl) (by kernel_rfl) (by kernel_rfl) (by kernel_rfl) (by kernel_rfl) (fun _ _ => by kernel_rfl)
theorem noOwnUnsafe : Tryd.pinned.checked.prog.headLifts.contains "ownunsafe" = false := by kernel_rfl
theorem tie : Tryd.prog.laidByTextLater [("pharos/fp.inverting", Rows.laid_pharos_fp_inverting), ("pharos/fp.modulus", Rows.laid_pharos_fp_modulus), ("pharos/fp.lift", Rows.laid_pharos_fp_lift), ("pharos/fp.half", Rows.laid_pharos_fp_half), ("pharos/fp.rooting", Rows.laid_pharos_fp_rooting)] [.data, .data, .data, .data, .data] true :=
  Program.laidByTextLater.sub seatTie1 ["pharos/fp.inverting", "pharos/fp.modulus", "pharos/fp.lift", "pharos/fp.half", "pharos/fp.rooting"] (by kernel_rfl) (by kernel_rfl)
theorem fp2Reckons_row_tie : Rows.fp2ReckonsRow.laidByTextAt .later Tryd.pinned [.data, .data, .data, .data, .data] true :=
  OpenClaim.laidByTextAt_later rfl rfl tie noOwnUnsafe
theorem fp2Laws_row_tie : Rows.fp2LawsRow.laidByTextAt .later Tryd.pinned [.data, .data, .data, .data, .data] true :=
  OpenClaim.laidByTextAt_later rfl rfl tie noOwnUnsafe
theorem fp2Powers_row_tie : Rows.fp2PowersRow.laidByTextAt .later Tryd.pinned [.data, .data, .data, .data, .data] true :=
  OpenClaim.laidByTextAt_later rfl rfl tie noOwnUnsafe
theorem fp2Roots_row_tie : Rows.fp2RootsRow.laidByTextAt .later Tryd.pinned [.data, .data, .data, .data, .data] true :=
  OpenClaim.laidByTextAt_later rfl rfl tie noOwnUnsafe
theorem fp2Signs_row_tie : Rows.fp2SignsRow.laidByTextAt .later Tryd.pinned [.data, .data, .data, .data, .data] true :=
  OpenClaim.laidByTextAt_later rfl rfl tie noOwnUnsafe
theorem fp2Norms_row_tie : Rows.fp2NormsRow.laidByTextAt .later Tryd.pinned [.data, .data, .data, .data, .data] true :=
  OpenClaim.laidByTextAt_later rfl rfl tie noOwnUnsafe
theorem fp2ReckonsUpto_row_tie : Rows.fp2ReckonsUptoRow.laidByTextAt .later Tryd.pinned [.data, .data, .data, .data, .data] true :=
  OpenClaim.laidByTextAt_later rfl rfl tie noOwnUnsafe
theorem fp2LawsUpto_row_tie : Rows.fp2LawsUptoRow.laidByTextAt .later Tryd.pinned [.data, .data, .data, .data, .data] true :=
  OpenClaim.laidByTextAt_later rfl rfl tie noOwnUnsafe
theorem fp2PowersUpto_row_tie : Rows.fp2PowersUptoRow.laidByTextAt .later Tryd.pinned [.data, .data, .data, .data, .data] true :=
  OpenClaim.laidByTextAt_later rfl rfl tie noOwnUnsafe
theorem fp2RootsUpto_row_tie : Rows.fp2RootsUptoRow.laidByTextAt .later Tryd.pinned [.data, .data, .data, .data, .data] true :=
  OpenClaim.laidByTextAt_later rfl rfl tie noOwnUnsafe
theorem fp2SignsUpto_row_tie : Rows.fp2SignsUptoRow.laidByTextAt .later Tryd.pinned [.data, .data, .data, .data, .data] true :=
  OpenClaim.laidByTextAt_later rfl rfl tie noOwnUnsafe
theorem fp2NormsUpto_row_tie : Rows.fp2NormsUptoRow.laidByTextAt .later Tryd.pinned [.data, .data, .data, .data, .data] true :=
  OpenClaim.laidByTextAt_later rfl rfl tie noOwnUnsafe
end Go.Proofs.YtceogjapiphokaaDoor
