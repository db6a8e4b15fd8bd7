/-
  DERIVED. GIVEN WITH THE SEED: THE CARDS: each row of YtdkmalaffcfoeaaGreatDoorRows.lean that lists a variable, with what it lists TIED to the program's text (the seventh form; the later family's looks); each row that meets fmt, with fmt's text TOLD by the authors' own Lean function (tested against real Go, not proved from fmt's source: count such statements apart). THE CARD IS WHAT COUNTS. Prove the row's statement (the work); the ties are given (YtdkmalaffcfoeaaGreatDoorTie.lean); close each card by the builder's one call (the guide's Derived/Test/ToyasCard.lean, 'card_holds'). Laid BY PROGRAM, IN A SANDBOX (cutbox-door.mjs). By AI agents, Wed Nov 11 2026. No macro, syntax, notation, axiom, sorry.
-/
import Derived.Test.YtdkmalaffcfoeaaGreatDoorRows
import GoSem.ClaimSeven
namespace Go.Proofs.YtdkmalaffcfoeaaGreatDoor
namespace Rows

/-- THE TIED CARD OF 'pharoslaw14.SwuMaps'. -/
def swuMapsCard : Claim7 := { stood := { row := swuMapsRow, standIns := [], harness := (true, "4c8841d3bd595f4c8eb8053c76ac677b87c2f4cbea2a86cd1dcf3e61a6365928"), looks := false }, kinds := [], alts := [], laidByText := true, laidKinds := [.data, .data, .data, .data, .data], laidTests := true, laidLooks := .later }
def SwuMapsCardSaid : Prop := Claim7.holds Tryz.pinned (.plain (OpenSpec.ofChange swuMapsSpec)) swuMapsCard

/-- THE TIED CARD OF 'pharoslaw14.SwuIso'. -/
def swuIsoCard : Claim7 := { stood := { row := swuIsoRow, standIns := [], harness := (true, "4c8841d3bd595f4c8eb8053c76ac677b87c2f4cbea2a86cd1dcf3e61a6365928"), looks := false }, kinds := [], alts := [], laidByText := true, laidKinds := [.data, .data, .data, .data, .data], laidTests := true, laidLooks := .later }
def SwuIsoCardSaid : Prop := Claim7.holds Tryz.pinned (.plain (OpenSpec.ofChange swuIsoSpec)) swuIsoCard

/-- THE TIED CARD OF 'pharoslaw14.SwuSigns'. -/
def swuSignsCard : Claim7 := { stood := { row := swuSignsRow, standIns := [], harness := (true, "4c8841d3bd595f4c8eb8053c76ac677b87c2f4cbea2a86cd1dcf3e61a6365928"), looks := false }, kinds := [], alts := [], laidByText := true, laidKinds := [.data, .data, .data, .data, .data], laidTests := true, laidLooks := .later }
def SwuSignsCardSaid : Prop := Claim7.holds Tryz.pinned (.plain (OpenSpec.ofChange swuSignsSpec)) swuSignsCard

/-- THE SECOND FORM's CARD OF 'pharoslaw14.SwuMaps'. -/
def swuMapsUptoCard : Claim7 := { stood := { row := swuMapsUptoRow, standIns := [], harness := (true, "4c8841d3bd595f4c8eb8053c76ac677b87c2f4cbea2a86cd1dcf3e61a6365928"), looks := false }, kinds := [], alts := [], laidByText := true, laidKinds := [.data, .data, .data, .data, .data], laidTests := true, laidLooks := .later }
def SwuMapsUptoCardSaid : Prop := Claim7.holds Tryz.pinned (.plain (OpenSpec.upto swuMapsSpec)) swuMapsUptoCard

/-- THE SECOND FORM's CARD OF 'pharoslaw14.SwuIso'. -/
def swuIsoUptoCard : Claim7 := { stood := { row := swuIsoUptoRow, standIns := [], harness := (true, "4c8841d3bd595f4c8eb8053c76ac677b87c2f4cbea2a86cd1dcf3e61a6365928"), looks := false }, kinds := [], alts := [], laidByText := true, laidKinds := [.data, .data, .data, .data, .data], laidTests := true, laidLooks := .later }
def SwuIsoUptoCardSaid : Prop := Claim7.holds Tryz.pinned (.plain (OpenSpec.upto swuIsoSpec)) swuIsoUptoCard

/-- THE SECOND FORM's CARD OF 'pharoslaw14.SwuSigns'. -/
def swuSignsUptoCard : Claim7 := { stood := { row := swuSignsUptoRow, standIns := [], harness := (true, "4c8841d3bd595f4c8eb8053c76ac677b87c2f4cbea2a86cd1dcf3e61a6365928"), looks := false }, kinds := [], alts := [], laidByText := true, laidKinds := [.data, .data, .data, .data, .data], laidTests := true, laidLooks := .later }
def SwuSignsUptoCardSaid : Prop := Claim7.holds Tryz.pinned (.plain (OpenSpec.upto swuSignsSpec)) swuSignsUptoCard
end Rows
end Go.Proofs.YtdkmalaffcfoeaaGreatDoor
