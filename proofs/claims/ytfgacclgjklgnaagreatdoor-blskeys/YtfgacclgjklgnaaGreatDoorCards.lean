/-
  DERIVED. GIVEN WITH THE SEED: THE CARDS: each row of YtfgacclgjklgnaaGreatDoorRows.lean that lists a variable, with what it lists TIED to the program's text (the seventh form; the later family's looks); each row that meets fmt, with fmt's text TOLD by the authors' own Lean function (tested against real Go, not proved from fmt's source: count such statements apart). THE CARD IS WHAT COUNTS. Prove the row's statement (the work); the ties are given (YtfgacclgjklgnaaGreatDoorTie.lean); close each card by the builder's one call (the guide's Derived/Test/ToyasCard.lean, 'card_holds'). Laid BY PROGRAM, IN A SANDBOX (cutbox-door.mjs). By AI agents, Wed Nov 11 2026. No macro, syntax, notation, axiom, sorry.
-/
import Derived.Test.YtfgacclgjklgnaaGreatDoorRows
import GoSem.ClaimSeven
namespace Go.Proofs.YtfgacclgjklgnaaGreatDoor
namespace Rows

/-- THE TIED CARD OF 'pharoslaw16.BlsSigns'. -/
def blsSignsCard : Claim7 := { stood := { row := blsSignsRow, standIns := [], harness := (true, "9c1fc21e59a65755eedef7f38c6f09627e1892a4f07c52f27b3b74220f93fe2d"), looks := false }, kinds := [], alts := [], laidByText := true, laidKinds := [.data, .data, .data, .data, .data, .data, .data, .data], laidTests := true, laidLooks := .later }
def BlsSignsCardSaid : Prop := Claim7.holds Tryz.pinned (.plain (OpenSpec.ofChange blsSignsSpec)) blsSignsCard

/-- THE TIED CARD OF 'pharoslaw16.BlsLong'. -/
def blsLongCard : Claim7 := { stood := { row := blsLongRow, standIns := [], harness := (true, "9c1fc21e59a65755eedef7f38c6f09627e1892a4f07c52f27b3b74220f93fe2d"), looks := false }, kinds := [], alts := [], laidByText := true, laidKinds := [.data, .data, .data, .data, .data, .data, .data], laidTests := true, laidLooks := .later }
def BlsLongCardSaid : Prop := Claim7.holds Tryz.pinned (.plain (OpenSpec.ofChange blsLongSpec)) blsLongCard

/-- THE TIED CARD OF 'pharoslaw16.BlsKeys'. -/
def blsKeysCard : Claim7 := { stood := { row := blsKeysRow, standIns := [], harness := (true, "9c1fc21e59a65755eedef7f38c6f09627e1892a4f07c52f27b3b74220f93fe2d"), looks := false }, kinds := [], alts := [], laidByText := true, laidKinds := [.data, .data, .data, .data, .data, .data, .data], laidTests := true, laidLooks := .later }
def BlsKeysCardSaid : Prop := Claim7.holds Tryz.pinned (.plain (OpenSpec.ofChange blsKeysSpec)) blsKeysCard

/-- THE TIED CARD OF 'pharoslaw16.BlsAggregates'. -/
def blsAggregatesCard : Claim7 := { stood := { row := blsAggregatesRow, standIns := [], harness := (true, "9c1fc21e59a65755eedef7f38c6f09627e1892a4f07c52f27b3b74220f93fe2d"), looks := false }, kinds := [], alts := [], laidByText := true, laidKinds := [.data, .data, .data, .data, .data, .data, .data], laidTests := true, laidLooks := .later }
def BlsAggregatesCardSaid : Prop := Claim7.holds Tryz.pinned (.plain (OpenSpec.ofChange blsAggregatesSpec)) blsAggregatesCard

/-- THE TIED CARD OF 'pharoslaw16.BlsVerifies'. -/
def blsVerifiesCard : Claim7 := { stood := { row := blsVerifiesRow, standIns := [], harness := (true, "9c1fc21e59a65755eedef7f38c6f09627e1892a4f07c52f27b3b74220f93fe2d"), looks := false }, kinds := [], alts := [], laidByText := true, laidKinds := [.data, .data, .data, .data, .data, .data, .data], laidTests := true, laidLooks := .later }
def BlsVerifiesCardSaid : Prop := Claim7.holds Tryz.pinned (.plain (OpenSpec.ofChange blsVerifiesSpec)) blsVerifiesCard

/-- THE TIED CARD OF 'pharoslaw16.BlsFast'. -/
def blsFastCard : Claim7 := { stood := { row := blsFastRow, standIns := [], harness := (true, "9c1fc21e59a65755eedef7f38c6f09627e1892a4f07c52f27b3b74220f93fe2d"), looks := false }, kinds := [], alts := [], laidByText := true, laidKinds := [.data, .data, .data, .data, .data, .data, .data], laidTests := true, laidLooks := .later }
def BlsFastCardSaid : Prop := Claim7.holds Tryz.pinned (.plain (OpenSpec.ofChange blsFastSpec)) blsFastCard

/-- THE TIED CARD OF 'pharoslaw16.BlsMany'. -/
def blsManyCard : Claim7 := { stood := { row := blsManyRow, standIns := [], harness := (true, "9c1fc21e59a65755eedef7f38c6f09627e1892a4f07c52f27b3b74220f93fe2d"), looks := false }, kinds := [], alts := [], laidByText := true, laidKinds := [.data, .data, .data, .data, .data, .data, .data], laidTests := true, laidLooks := .later }
def BlsManyCardSaid : Prop := Claim7.holds Tryz.pinned (.plain (OpenSpec.ofChange blsManySpec)) blsManyCard

/-- THE TIED CARD OF 'pharoslaw16.BlsParts'. -/
def blsPartsCard : Claim7 := { stood := { row := blsPartsRow, standIns := [], harness := (true, "9c1fc21e59a65755eedef7f38c6f09627e1892a4f07c52f27b3b74220f93fe2d"), looks := false }, kinds := [], alts := [], laidByText := true, laidKinds := [.data, .data, .data, .data, .data, .data, .data, .data], laidTests := true, laidLooks := .later }
def BlsPartsCardSaid : Prop := Claim7.holds Tryz.pinned (.plain (OpenSpec.ofChange blsPartsSpec)) blsPartsCard

/-- THE SECOND FORM's CARD OF 'pharoslaw16.BlsSigns'. -/
def blsSignsUptoCard : Claim7 := { stood := { row := blsSignsUptoRow, standIns := [], harness := (true, "9c1fc21e59a65755eedef7f38c6f09627e1892a4f07c52f27b3b74220f93fe2d"), looks := false }, kinds := [], alts := [], laidByText := true, laidKinds := [.data, .data, .data, .data, .data, .data, .data, .data], laidTests := true, laidLooks := .later }
def BlsSignsUptoCardSaid : Prop := Claim7.holds Tryz.pinned (.plain (OpenSpec.upto blsSignsSpec)) blsSignsUptoCard

/-- THE SECOND FORM's CARD OF 'pharoslaw16.BlsLong'. -/
def blsLongUptoCard : Claim7 := { stood := { row := blsLongUptoRow, standIns := [], harness := (true, "9c1fc21e59a65755eedef7f38c6f09627e1892a4f07c52f27b3b74220f93fe2d"), looks := false }, kinds := [], alts := [], laidByText := true, laidKinds := [.data, .data, .data, .data, .data, .data, .data], laidTests := true, laidLooks := .later }
def BlsLongUptoCardSaid : Prop := Claim7.holds Tryz.pinned (.plain (OpenSpec.upto blsLongSpec)) blsLongUptoCard

/-- THE SECOND FORM's CARD OF 'pharoslaw16.BlsKeys'. -/
def blsKeysUptoCard : Claim7 := { stood := { row := blsKeysUptoRow, standIns := [], harness := (true, "9c1fc21e59a65755eedef7f38c6f09627e1892a4f07c52f27b3b74220f93fe2d"), looks := false }, kinds := [], alts := [], laidByText := true, laidKinds := [.data, .data, .data, .data, .data, .data, .data], laidTests := true, laidLooks := .later }
def BlsKeysUptoCardSaid : Prop := Claim7.holds Tryz.pinned (.plain (OpenSpec.upto blsKeysSpec)) blsKeysUptoCard

/-- THE SECOND FORM's CARD OF 'pharoslaw16.BlsAggregates'. -/
def blsAggregatesUptoCard : Claim7 := { stood := { row := blsAggregatesUptoRow, standIns := [], harness := (true, "9c1fc21e59a65755eedef7f38c6f09627e1892a4f07c52f27b3b74220f93fe2d"), looks := false }, kinds := [], alts := [], laidByText := true, laidKinds := [.data, .data, .data, .data, .data, .data, .data], laidTests := true, laidLooks := .later }
def BlsAggregatesUptoCardSaid : Prop := Claim7.holds Tryz.pinned (.plain (OpenSpec.upto blsAggregatesSpec)) blsAggregatesUptoCard

/-- THE SECOND FORM's CARD OF 'pharoslaw16.BlsVerifies'. -/
def blsVerifiesUptoCard : Claim7 := { stood := { row := blsVerifiesUptoRow, standIns := [], harness := (true, "9c1fc21e59a65755eedef7f38c6f09627e1892a4f07c52f27b3b74220f93fe2d"), looks := false }, kinds := [], alts := [], laidByText := true, laidKinds := [.data, .data, .data, .data, .data, .data, .data], laidTests := true, laidLooks := .later }
def BlsVerifiesUptoCardSaid : Prop := Claim7.holds Tryz.pinned (.plain (OpenSpec.upto blsVerifiesSpec)) blsVerifiesUptoCard

/-- THE SECOND FORM's CARD OF 'pharoslaw16.BlsFast'. -/
def blsFastUptoCard : Claim7 := { stood := { row := blsFastUptoRow, standIns := [], harness := (true, "9c1fc21e59a65755eedef7f38c6f09627e1892a4f07c52f27b3b74220f93fe2d"), looks := false }, kinds := [], alts := [], laidByText := true, laidKinds := [.data, .data, .data, .data, .data, .data, .data], laidTests := true, laidLooks := .later }
def BlsFastUptoCardSaid : Prop := Claim7.holds Tryz.pinned (.plain (OpenSpec.upto blsFastSpec)) blsFastUptoCard

/-- THE SECOND FORM's CARD OF 'pharoslaw16.BlsMany'. -/
def blsManyUptoCard : Claim7 := { stood := { row := blsManyUptoRow, standIns := [], harness := (true, "9c1fc21e59a65755eedef7f38c6f09627e1892a4f07c52f27b3b74220f93fe2d"), looks := false }, kinds := [], alts := [], laidByText := true, laidKinds := [.data, .data, .data, .data, .data, .data, .data], laidTests := true, laidLooks := .later }
def BlsManyUptoCardSaid : Prop := Claim7.holds Tryz.pinned (.plain (OpenSpec.upto blsManySpec)) blsManyUptoCard

/-- THE SECOND FORM's CARD OF 'pharoslaw16.BlsParts'. -/
def blsPartsUptoCard : Claim7 := { stood := { row := blsPartsUptoRow, standIns := [], harness := (true, "9c1fc21e59a65755eedef7f38c6f09627e1892a4f07c52f27b3b74220f93fe2d"), looks := false }, kinds := [], alts := [], laidByText := true, laidKinds := [.data, .data, .data, .data, .data, .data, .data, .data], laidTests := true, laidLooks := .later }
def BlsPartsUptoCardSaid : Prop := Claim7.holds Tryz.pinned (.plain (OpenSpec.upto blsPartsSpec)) blsPartsUptoCard
end Rows
end Go.Proofs.YtfgacclgjklgnaaGreatDoor
