/-
  DERIVED. GIVEN WITH THE SEED: THE CARDS: each row of YtgogiehnilpepaaDoorRows.lean that lists a variable, with what it lists TIED to the program's text (the seventh form; the later family's looks); each row that meets fmt, with fmt's text TOLD by the authors' own Lean function (tested against real Go, not proved from fmt's source: count such statements apart). THE CARD IS WHAT COUNTS. Prove the row's statement (the work); the ties are given (YtgogiehnilpepaaDoorTie.lean); close each card by the builder's one call (the guide's Derived/Test/ToyasCard.lean, 'card_holds'). Laid BY PROGRAM, IN A SANDBOX (cutbox-door.mjs). By AI agents, Wed Nov 11 2026. No macro, syntax, notation, axiom, sorry.
-/
import Derived.Test.YtgogiehnilpepaaDoorRows
import GoSem.ClaimSeven
namespace Go.Proofs.YtgogiehnilpepaaDoor
namespace Rows

/-- THE TIED CARD OF 'pharoslaw4.FrBytes'. -/
def frBytesCard : Claim7 := { stood := { row := frBytesRow, standIns := [], harness := (true, "964a7046bf97af6191b972191bf33ffc4f8c291cc9c5b3bd1bce408d679b945a"), looks := false }, kinds := [], alts := [], laidByText := true, laidKinds := [.data, .data, .data], laidTests := true, laidLooks := .later }
def FrBytesCardSaid : Prop := Claim7.holds Tryd.pinned (.plain (OpenSpec.ofChange frBytesSpec)) frBytesCard

/-- THE TIED CARD OF 'pharoslaw4.FrReckons'. -/
def frReckonsCard : Claim7 := { stood := { row := frReckonsRow, standIns := [], harness := (true, "964a7046bf97af6191b972191bf33ffc4f8c291cc9c5b3bd1bce408d679b945a"), looks := false }, kinds := [], alts := [], laidByText := true, laidKinds := [.data, .data, .data], laidTests := true, laidLooks := .later }
def FrReckonsCardSaid : Prop := Claim7.holds Tryd.pinned (.plain (OpenSpec.ofChange frReckonsSpec)) frReckonsCard

/-- THE TIED CARD OF 'pharoslaw4.FrLaws'. -/
def frLawsCard : Claim7 := { stood := { row := frLawsRow, standIns := [], harness := (true, "964a7046bf97af6191b972191bf33ffc4f8c291cc9c5b3bd1bce408d679b945a"), looks := false }, kinds := [], alts := [], laidByText := true, laidKinds := [.data, .data, .data], laidTests := true, laidLooks := .later }
def FrLawsCardSaid : Prop := Claim7.holds Tryd.pinned (.plain (OpenSpec.ofChange frLawsSpec)) frLawsCard

/-- THE TIED CARD OF 'pharoslaw4.FrBits'. -/
def frBitsCard : Claim7 := { stood := { row := frBitsRow, standIns := [], harness := (true, "964a7046bf97af6191b972191bf33ffc4f8c291cc9c5b3bd1bce408d679b945a"), looks := false }, kinds := [], alts := [], laidByText := true, laidKinds := [.data, .data, .data], laidTests := true, laidLooks := .later }
def FrBitsCardSaid : Prop := Claim7.holds Tryd.pinned (.plain (OpenSpec.ofChange frBitsSpec)) frBitsCard

/-- THE SECOND FORM's CARD OF 'pharoslaw4.FrBytes'. -/
def frBytesUptoCard : Claim7 := { stood := { row := frBytesUptoRow, standIns := [], harness := (true, "964a7046bf97af6191b972191bf33ffc4f8c291cc9c5b3bd1bce408d679b945a"), looks := false }, kinds := [], alts := [], laidByText := true, laidKinds := [.data, .data, .data], laidTests := true, laidLooks := .later }
def FrBytesUptoCardSaid : Prop := Claim7.holds Tryd.pinned (.plain (OpenSpec.upto frBytesSpec)) frBytesUptoCard

/-- THE SECOND FORM's CARD OF 'pharoslaw4.FrReckons'. -/
def frReckonsUptoCard : Claim7 := { stood := { row := frReckonsUptoRow, standIns := [], harness := (true, "964a7046bf97af6191b972191bf33ffc4f8c291cc9c5b3bd1bce408d679b945a"), looks := false }, kinds := [], alts := [], laidByText := true, laidKinds := [.data, .data, .data], laidTests := true, laidLooks := .later }
def FrReckonsUptoCardSaid : Prop := Claim7.holds Tryd.pinned (.plain (OpenSpec.upto frReckonsSpec)) frReckonsUptoCard

/-- THE SECOND FORM's CARD OF 'pharoslaw4.FrLaws'. -/
def frLawsUptoCard : Claim7 := { stood := { row := frLawsUptoRow, standIns := [], harness := (true, "964a7046bf97af6191b972191bf33ffc4f8c291cc9c5b3bd1bce408d679b945a"), looks := false }, kinds := [], alts := [], laidByText := true, laidKinds := [.data, .data, .data], laidTests := true, laidLooks := .later }
def FrLawsUptoCardSaid : Prop := Claim7.holds Tryd.pinned (.plain (OpenSpec.upto frLawsSpec)) frLawsUptoCard

/-- THE SECOND FORM's CARD OF 'pharoslaw4.FrBits'. -/
def frBitsUptoCard : Claim7 := { stood := { row := frBitsUptoRow, standIns := [], harness := (true, "964a7046bf97af6191b972191bf33ffc4f8c291cc9c5b3bd1bce408d679b945a"), looks := false }, kinds := [], alts := [], laidByText := true, laidKinds := [.data, .data, .data], laidTests := true, laidLooks := .later }
def FrBitsUptoCardSaid : Prop := Claim7.holds Tryd.pinned (.plain (OpenSpec.upto frBitsSpec)) frBitsUptoCard
end Rows
end Go.Proofs.YtgogiehnilpepaaDoor
