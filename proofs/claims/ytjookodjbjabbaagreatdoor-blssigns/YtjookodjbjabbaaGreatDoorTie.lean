/-
  DERIVED. GIVEN WITH THE SEED: THE PROGRAM's TIES (one call each: nine closed facts by the kernel) AND EACH ROW's TIE, after the 31st guide's Derived/Test/Toyas{Tie, Card}.lean. No idea stands in it: it is a product of the set-up. Laid BY PROGRAM, IN A SANDBOX (cutbox-door.mjs). By AI agents, Wed Nov 11 2026. No macro, syntax, notation, axiom, sorry.
-/
import Derived.Test.YtjookodjbjabbaaGreatDoorRows
import Derived.LaidByTextLater
import Derived.SevenTiedAt
import Derived.LaidSub
import Derived.LaidOnce
namespace Go.Proofs.YtjookodjbjabbaaGreatDoor
open Go
set_option maxRecDepth 100000
theorem seatTie1 : Tryz.prog.laidByTextLater [("pharos/fp.inverting", Rows.laid_pharos_fp_inverting), ("pharos/fp.modulus", Rows.laid_pharos_fp_modulus), ("pharos/fp.lift", Rows.laid_pharos_fp_lift), ("pharos/fp.half", Rows.laid_pharos_fp_half), ("pharos/fp.rooting", Rows.laid_pharos_fp_rooting), ("pharos/fr.modulus", Rows.laid_pharos_fr_modulus), ("pharos/fr.lift", Rows.laid_pharos_fr_lift), ("pharos/sha.roundWords", Rows.laid_pharos_sha_roundWords)] [.data, .data, .data, .data, .data, .data, .data, .data] true :=
  Program.laidByTextLater_by_one 49 8 65 (by kernel_rfl) (by kernel_rfl) (by kernel_rfl) (by kernel_rfl) (by kernel_rfl) (by kernel_rfl) (fun _ _ => by kernel_rfl)
theorem noOwnUnsafe : Tryz.pinned.checked.prog.headLifts.contains "ownunsafe" = false := by kernel_rfl
theorem tie : Tryz.prog.laidByTextLater [("pharos/fp.inverting", Rows.laid_pharos_fp_inverting), ("pharos/fp.modulus", Rows.laid_pharos_fp_modulus), ("pharos/fp.lift", Rows.laid_pharos_fp_lift), ("pharos/fp.half", Rows.laid_pharos_fp_half), ("pharos/fp.rooting", Rows.laid_pharos_fp_rooting), ("pharos/fr.modulus", Rows.laid_pharos_fr_modulus), ("pharos/fr.lift", Rows.laid_pharos_fr_lift), ("pharos/sha.roundWords", Rows.laid_pharos_sha_roundWords)] [.data, .data, .data, .data, .data, .data, .data, .data] true :=
  Program.laidByTextLater.sub seatTie1 ["pharos/fp.inverting", "pharos/fp.modulus", "pharos/fp.lift", "pharos/fp.half", "pharos/fp.rooting", "pharos/fr.modulus", "pharos/fr.lift", "pharos/sha.roundWords"] (by kernel_rfl) (by kernel_rfl)
theorem blsSigns_row_tie : Rows.blsSignsRow.laidByTextAt .later Tryz.pinned [.data, .data, .data, .data, .data, .data, .data, .data] true :=
  OpenClaim.laidByTextAt_later rfl rfl tie noOwnUnsafe
theorem tie2 : Tryz.prog.laidByTextLater [("pharos/fp.inverting", Rows.laid_pharos_fp_inverting), ("pharos/fp.modulus", Rows.laid_pharos_fp_modulus), ("pharos/fp.lift", Rows.laid_pharos_fp_lift), ("pharos/fp.half", Rows.laid_pharos_fp_half), ("pharos/fp.rooting", Rows.laid_pharos_fp_rooting), ("pharos/fr.modulus", Rows.laid_pharos_fr_modulus), ("pharos/sha.roundWords", Rows.laid_pharos_sha_roundWords)] [.data, .data, .data, .data, .data, .data, .data] true :=
  Program.laidByTextLater.sub seatTie1 ["pharos/fp.inverting", "pharos/fp.modulus", "pharos/fp.lift", "pharos/fp.half", "pharos/fp.rooting", "pharos/fr.modulus", "pharos/sha.roundWords"] (by kernel_rfl) (by kernel_rfl)
theorem blsKeys_row_tie : Rows.blsKeysRow.laidByTextAt .later Tryz.pinned [.data, .data, .data, .data, .data, .data, .data] true :=
  OpenClaim.laidByTextAt_later rfl rfl tie2 noOwnUnsafe
theorem blsSignsUpto_row_tie : Rows.blsSignsUptoRow.laidByTextAt .later Tryz.pinned [.data, .data, .data, .data, .data, .data, .data, .data] true :=
  OpenClaim.laidByTextAt_later rfl rfl tie noOwnUnsafe
theorem blsKeysUpto_row_tie : Rows.blsKeysUptoRow.laidByTextAt .later Tryz.pinned [.data, .data, .data, .data, .data, .data, .data] true :=
  OpenClaim.laidByTextAt_later rfl rfl tie2 noOwnUnsafe
end Go.Proofs.YtjookodjbjabbaaGreatDoor
