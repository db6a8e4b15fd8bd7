/-
  DERIVED. GIVEN WITH THE SEED: THE PROGRAM's TIES (one call each: nine closed facts by the kernel) AND EACH ROW's TIE, after the 31st guide's Derived/Test/Toyas{Tie, Card}.lean. No idea stands in it: it is a product of the set-up. Laid BY PROGRAM, IN A SANDBOX (cutbox-door.mjs). By AI agents, Wed Nov 11 2026. No macro, syntax, notation, axiom, sorry.
-/
import Derived.Test.YtfakhlafilbjkaaGreatDoorRows
import Derived.LaidByTextLater
import Derived.SevenTiedAt
import Derived.LaidSub
import Derived.LaidOnce
namespace Go.Proofs.YtfakhlafilbjkaaGreatDoor
open Go
set_option maxRecDepth 100000
theorem seatTie1 : Tryz.prog.laidByTextLater [("pharos/fp.inverting", Rows.laid_pharos_fp_inverting), ("pharos/fp.modulus", Rows.laid_pharos_fp_modulus), ("pharos/fp.lift", Rows.laid_pharos_fp_lift), ("pharos/fp.half", Rows.laid_pharos_fp_half), ("pharos/fp.rooting", Rows.laid_pharos_fp_rooting), ("pharos/sha.roundWords", Rows.laid_pharos_sha_roundWords)] [.data, .data, .data, .data, .data, .data] true :=
  Program.laidByTextLater_by_one 39 8 65 (by kernel_rfl) (by kernel_rfl) (by kernel_rfl) (by kernel_rfl) (by kernel_rfl) (by kernel_rfl) (fun _ _ => by kernel_rfl)
theorem noOwnUnsafe : Tryz.pinned.checked.prog.headLifts.contains "ownunsafe" = false := by kernel_rfl
theorem tie : Tryz.prog.laidByTextLater [("pharos/fp.inverting", Rows.laid_pharos_fp_inverting), ("pharos/fp.modulus", Rows.laid_pharos_fp_modulus), ("pharos/fp.lift", Rows.laid_pharos_fp_lift), ("pharos/fp.half", Rows.laid_pharos_fp_half), ("pharos/fp.rooting", Rows.laid_pharos_fp_rooting), ("pharos/sha.roundWords", Rows.laid_pharos_sha_roundWords)] [.data, .data, .data, .data, .data, .data] true :=
  Program.laidByTextLater.sub seatTie1 ["pharos/fp.inverting", "pharos/fp.modulus", "pharos/fp.lift", "pharos/fp.half", "pharos/fp.rooting", "pharos/sha.roundWords"] (by kernel_rfl) (by kernel_rfl)
theorem rulesBegin_row_tie : Rows.rulesBeginRow.laidByTextAt .later Tryz.pinned [.data, .data, .data, .data, .data, .data] true :=
  OpenClaim.laidByTextAt_later rfl rfl tie noOwnUnsafe
theorem rulesBetter_row_tie : Rows.rulesBetterRow.laidByTextAt .later Tryz.pinned [.data, .data, .data, .data, .data, .data] true :=
  OpenClaim.laidByTextAt_later rfl rfl tie noOwnUnsafe
theorem rulesKinds_row_tie : Rows.rulesKindsRow.laidByTextAt .later Tryz.pinned [.data, .data, .data, .data, .data, .data] true :=
  OpenClaim.laidByTextAt_later rfl rfl tie noOwnUnsafe
theorem rulesSettings_row_tie : Rows.rulesSettingsRow.laidByTextAt .later Tryz.pinned [.data, .data, .data, .data, .data, .data] true :=
  OpenClaim.laidByTextAt_later rfl rfl tie noOwnUnsafe
theorem rulesMarks_row_tie : Rows.rulesMarksRow.laidByTextAt .later Tryz.pinned [.data, .data, .data, .data, .data, .data] true :=
  OpenClaim.laidByTextAt_later rfl rfl tie noOwnUnsafe
theorem rulesBeginUpto_row_tie : Rows.rulesBeginUptoRow.laidByTextAt .later Tryz.pinned [.data, .data, .data, .data, .data, .data] true :=
  OpenClaim.laidByTextAt_later rfl rfl tie noOwnUnsafe
theorem rulesBetterUpto_row_tie : Rows.rulesBetterUptoRow.laidByTextAt .later Tryz.pinned [.data, .data, .data, .data, .data, .data] true :=
  OpenClaim.laidByTextAt_later rfl rfl tie noOwnUnsafe
theorem rulesKindsUpto_row_tie : Rows.rulesKindsUptoRow.laidByTextAt .later Tryz.pinned [.data, .data, .data, .data, .data, .data] true :=
  OpenClaim.laidByTextAt_later rfl rfl tie noOwnUnsafe
theorem rulesSettingsUpto_row_tie : Rows.rulesSettingsUptoRow.laidByTextAt .later Tryz.pinned [.data, .data, .data, .data, .data, .data] true :=
  OpenClaim.laidByTextAt_later rfl rfl tie noOwnUnsafe
theorem rulesMarksUpto_row_tie : Rows.rulesMarksUptoRow.laidByTextAt .later Tryz.pinned [.data, .data, .data, .data, .data, .data] true :=
  OpenClaim.laidByTextAt_later rfl rfl tie noOwnUnsafe
end Go.Proofs.YtfakhlafilbjkaaGreatDoor
