/-
  DERIVED. GIVEN WITH THE SEED: THE CARDS: each row of YtlimfhjjadbjgaaDoorRows.lean that lists a variable, with what it lists TIED to the program's text (the seventh form; the later family's looks); each row that meets fmt, with fmt's text TOLD by the authors' own Lean function (tested against real Go, not proved from fmt's source: count such statements apart). THE CARD IS WHAT COUNTS. Prove the row's statement (the work); the ties are given (YtlimfhjjadbjgaaDoorTie.lean); close each card by the builder's one call (the guide's Derived/Test/ToyasCard.lean, 'card_holds'). Laid BY PROGRAM, IN A SANDBOX (cutbox-door.mjs). By AI agents, Wed Nov 11 2026. No macro, syntax, notation, axiom, sorry.
-/
import Derived.Test.YtlimfhjjadbjgaaDoorRows
import GoSem.ClaimSeven
namespace Go.Proofs.YtlimfhjjadbjgaaDoor
namespace Rows

/-- THE TIED CARD OF 'pharoslaw13.XmdExpands'. -/
def xmdExpandsCard : Claim7 := { stood := { row := xmdExpandsRow, standIns := [], harness := (true, "8e5e2df6fe3ab2aa8c091e596b99be6466093ba3c7d07b4a188c08b5e36834a0"), looks := false }, kinds := [], alts := [], laidByText := true, laidKinds := [.data, .data, .data], laidTests := true, laidLooks := .later }
def XmdExpandsCardSaid : Prop := Claim7.holds Tryd.pinned (.plain (OpenSpec.ofChange xmdExpandsSpec)) xmdExpandsCard

/-- THE TIED CARD OF 'pharoslaw13.XmdLengths'. -/
def xmdLengthsCard : Claim7 := { stood := { row := xmdLengthsRow, standIns := [], harness := (true, "8e5e2df6fe3ab2aa8c091e596b99be6466093ba3c7d07b4a188c08b5e36834a0"), looks := false }, kinds := [], alts := [], laidByText := true, laidKinds := [.data, .data, .data], laidTests := true, laidLooks := .later }
def XmdLengthsCardSaid : Prop := Claim7.holds Tryd.pinned (.plain (OpenSpec.ofChange xmdLengthsSpec)) xmdLengthsCard

/-- THE TIED CARD OF 'pharoslaw13.XmdFields'. -/
def xmdFieldsCard : Claim7 := { stood := { row := xmdFieldsRow, standIns := [], harness := (true, "8e5e2df6fe3ab2aa8c091e596b99be6466093ba3c7d07b4a188c08b5e36834a0"), looks := false }, kinds := [], alts := [], laidByText := true, laidKinds := [.data, .data, .data], laidTests := true, laidLooks := .later }
def XmdFieldsCardSaid : Prop := Claim7.holds Tryd.pinned (.plain (OpenSpec.ofChange xmdFieldsSpec)) xmdFieldsCard

/-- THE SECOND FORM's CARD OF 'pharoslaw13.XmdExpands'. -/
def xmdExpandsUptoCard : Claim7 := { stood := { row := xmdExpandsUptoRow, standIns := [], harness := (true, "8e5e2df6fe3ab2aa8c091e596b99be6466093ba3c7d07b4a188c08b5e36834a0"), looks := false }, kinds := [], alts := [], laidByText := true, laidKinds := [.data, .data, .data], laidTests := true, laidLooks := .later }
def XmdExpandsUptoCardSaid : Prop := Claim7.holds Tryd.pinned (.plain (OpenSpec.upto xmdExpandsSpec)) xmdExpandsUptoCard

/-- THE SECOND FORM's CARD OF 'pharoslaw13.XmdLengths'. -/
def xmdLengthsUptoCard : Claim7 := { stood := { row := xmdLengthsUptoRow, standIns := [], harness := (true, "8e5e2df6fe3ab2aa8c091e596b99be6466093ba3c7d07b4a188c08b5e36834a0"), looks := false }, kinds := [], alts := [], laidByText := true, laidKinds := [.data, .data, .data], laidTests := true, laidLooks := .later }
def XmdLengthsUptoCardSaid : Prop := Claim7.holds Tryd.pinned (.plain (OpenSpec.upto xmdLengthsSpec)) xmdLengthsUptoCard

/-- THE SECOND FORM's CARD OF 'pharoslaw13.XmdFields'. -/
def xmdFieldsUptoCard : Claim7 := { stood := { row := xmdFieldsUptoRow, standIns := [], harness := (true, "8e5e2df6fe3ab2aa8c091e596b99be6466093ba3c7d07b4a188c08b5e36834a0"), looks := false }, kinds := [], alts := [], laidByText := true, laidKinds := [.data, .data, .data], laidTests := true, laidLooks := .later }
def XmdFieldsUptoCardSaid : Prop := Claim7.holds Tryd.pinned (.plain (OpenSpec.upto xmdFieldsSpec)) xmdFieldsUptoCard
end Rows
end Go.Proofs.YtlimfhjjadbjgaaDoor
