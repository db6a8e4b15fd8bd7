/-
  DERIVED. GIVEN WITH THE SEED: THE PROGRAM's TIES (one call each: nine closed facts by the kernel) AND EACH ROW's TIE, after the 31st guide's Derived/Test/Toyas{Tie, Card}.lean. No idea stands in it: it is a product of the set-up. Laid BY PROGRAM, IN A SANDBOX (cutbox-door.mjs). By AI agents, Wed Nov 11 2026. No macro, syntax, notation, axiom, sorry.
-/
import Derived.Test.YthkmeodnlidpfaaDoorRows
import Derived.LaidByTextLater
import Derived.SevenTiedAt
import Derived.LaidSub
import Derived.LaidOnce
namespace Go.Proofs.YthkmeodnlidpfaaDoor
open Go
set_option maxRecDepth 100000
theorem seatTie1 : Tryd.prog.laidByTextLater [("pharos/fp.inverting", Rows.laid_pharos_fp_inverting), ("pharos/fp.modulus", Rows.laid_pharos_fp_modulus), ("pharos/fp.lift", Rows.laid_pharos_fp_lift)] [.data, .data, .data] true :=
  Program.laidByTextLater_by_one 24 8 7 (by kernel_rfl) (by kernel_rfl) (by kernel_rfl) (by kernel_rfl) (by kernel_rfl) (by kernel_rfl) (fun _ _ => by kernel_rfl)
theorem noOwnUnsafe : Tryd.pinned.checked.prog.headLifts.contains "ownunsafe" = false := by kernel_rfl
theorem tie : Tryd.prog.laidByTextLater [("pharos/fp.inverting", Rows.laid_pharos_fp_inverting), ("pharos/fp.modulus", Rows.laid_pharos_fp_modulus), ("pharos/fp.lift", Rows.laid_pharos_fp_lift)] [.data, .data, .data] true :=
  Program.laidByTextLater.sub seatTie1 ["pharos/fp.inverting", "pharos/fp.modulus", "pharos/fp.lift"] (by kernel_rfl) (by kernel_rfl)
theorem millerDigits_row_tie : Rows.millerDigitsRow.laidByTextAt .later Tryd.pinned [.data, .data, .data] true :=
  OpenClaim.laidByTextAt_later rfl rfl tie noOwnUnsafe
theorem millerDigitsUpto_row_tie : Rows.millerDigitsUptoRow.laidByTextAt .later Tryd.pinned [.data, .data, .data] true :=
  OpenClaim.laidByTextAt_later rfl rfl tie noOwnUnsafe
end Go.Proofs.YthkmeodnlidpfaaDoor
