/-
  DERIVED. GIVEN WITH THE SEED: THE CARDS: each row of YtjookodjbjabbaaGreatDoorRows.lean that lists a variable, with what it lists TIED to the program's text (the seventh form; the later family's looks); each row that meets fmt, with fmt's text TOLD by the authors' own Lean function (tested against real Go, not proved from fmt's source: count such statements apart). THE CARD IS WHAT COUNTS. Prove the row's statement (the work); the ties are given (YtjookodjbjabbaaGreatDoorTie.lean); close each card by the builder's one call (the guide's Derived/Test/ToyasCard.lean, 'card_holds'). Laid BY PROGRAM, IN A SANDBOX (cutbox-door.mjs). By AI agents, Wed Nov 11 2026. No macro, syntax, notation, axiom, sorry.
-/
import Derived.Test.YtjookodjbjabbaaGreatDoorRows
import GoSem.ClaimSeven
namespace Go.Proofs.YtjookodjbjabbaaGreatDoor
namespace Rows

/-- THE TIED CARD OF 'pharoslaw16.BlsSigns'. -/
def blsSignsCard : Claim7 := { stood := { row := blsSignsRow, standIns := [], harness := (true, "29a69f61b534b7818efc679ee1298faa42921e49cbaa610f4fdaa6895bf101cc"), looks := false }, kinds := [], alts := [], laidByText := true, laidKinds := [.data, .data, .data, .data, .data, .data, .data, .data], laidTests := true, laidLooks := .later }
def BlsSignsCardSaid : Prop := Claim7.holds Tryz.pinned (.plain (OpenSpec.ofChange blsSignsSpec)) blsSignsCard

/-- THE TIED CARD OF 'pharoslaw16.BlsKeys'. -/
def blsKeysCard : Claim7 := { stood := { row := blsKeysRow, standIns := [], harness := (true, "29a69f61b534b7818efc679ee1298faa42921e49cbaa610f4fdaa6895bf101cc"), looks := false }, kinds := [], alts := [], laidByText := true, laidKinds := [.data, .data, .data, .data, .data, .data, .data], laidTests := true, laidLooks := .later }
def BlsKeysCardSaid : Prop := Claim7.holds Tryz.pinned (.plain (OpenSpec.ofChange blsKeysSpec)) blsKeysCard

/-- THE SECOND FORM's CARD OF 'pharoslaw16.BlsSigns'. -/
def blsSignsUptoCard : Claim7 := { stood := { row := blsSignsUptoRow, standIns := [], harness := (true, "29a69f61b534b7818efc679ee1298faa42921e49cbaa610f4fdaa6895bf101cc"), looks := false }, kinds := [], alts := [], laidByText := true, laidKinds := [.data, .data, .data, .data, .data, .data, .data, .data], laidTests := true, laidLooks := .later }
def BlsSignsUptoCardSaid : Prop := Claim7.holds Tryz.pinned (.plain (OpenSpec.upto blsSignsSpec)) blsSignsUptoCard

/-- THE SECOND FORM's CARD OF 'pharoslaw16.BlsKeys'. -/
def blsKeysUptoCard : Claim7 := { stood := { row := blsKeysUptoRow, standIns := [], harness := (true, "29a69f61b534b7818efc679ee1298faa42921e49cbaa610f4fdaa6895bf101cc"), looks := false }, kinds := [], alts := [], laidByText := true, laidKinds := [.data, .data, .data, .data, .data, .data, .data], laidTests := true, laidLooks := .later }
def BlsKeysUptoCardSaid : Prop := Claim7.holds Tryz.pinned (.plain (OpenSpec.upto blsKeysSpec)) blsKeysUptoCard
end Rows
end Go.Proofs.YtjookodjbjabbaaGreatDoor
