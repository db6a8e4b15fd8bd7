/-
  DERIVED. GIVEN WITH THE SEED: THE CARDS: each row of YtmpcccpnblfloaaDoorRows.lean that lists a variable, with what it lists TIED to the program's text (the seventh form; the later family's looks); each row that meets fmt, with fmt's text TOLD by the authors' own Lean function (tested against real Go, not proved from fmt's source: count such statements apart). THE CARD IS WHAT COUNTS. Prove the row's statement (the work); the ties are given (YtmpcccpnblfloaaDoorTie.lean); close each card by the builder's one call (the guide's Derived/Test/ToyasCard.lean, 'card_holds'). Laid BY PROGRAM, IN A SANDBOX (cutbox-door.mjs). By AI agents, Wed Nov 11 2026. No macro, syntax, notation, axiom, sorry.
-/
import Derived.Test.YtmpcccpnblfloaaDoorRows
import GoSem.ClaimSeven
namespace Go.Proofs.YtmpcccpnblfloaaDoor
namespace Rows

/-- THE TIED CARD OF 'pharoslaw8.G1Affine'. -/
def g1AffineCard : Claim7 := { stood := { row := g1AffineRow, standIns := [], harness := (true, "f0d15eabe9e7c7ad78001d174f6f3045899071268c319d21cbd72bc8767a4fb5"), looks := false }, kinds := [], alts := [], laidByText := true, laidKinds := [.data, .data, .data], laidTests := true, laidLooks := .later }
def G1AffineCardSaid : Prop := Claim7.holds Tryd.pinned (.plain (OpenSpec.ofChange g1AffineSpec)) g1AffineCard

/-- THE TIED CARD OF 'pharoslaw8.G1Adds'. -/
def g1AddsCard : Claim7 := { stood := { row := g1AddsRow, standIns := [], harness := (true, "f0d15eabe9e7c7ad78001d174f6f3045899071268c319d21cbd72bc8767a4fb5"), looks := false }, kinds := [], alts := [], laidByText := true, laidKinds := [.data, .data, .data, .data, .data], laidTests := true, laidLooks := .later }
def G1AddsCardSaid : Prop := Claim7.holds Tryd.pinned (.plain (OpenSpec.ofChange g1AddsSpec)) g1AddsCard

/-- THE SECOND FORM's CARD OF 'pharoslaw8.G1Affine'. -/
def g1AffineUptoCard : Claim7 := { stood := { row := g1AffineUptoRow, standIns := [], harness := (true, "f0d15eabe9e7c7ad78001d174f6f3045899071268c319d21cbd72bc8767a4fb5"), looks := false }, kinds := [], alts := [], laidByText := true, laidKinds := [.data, .data, .data], laidTests := true, laidLooks := .later }
def G1AffineUptoCardSaid : Prop := Claim7.holds Tryd.pinned (.plain (OpenSpec.upto g1AffineSpec)) g1AffineUptoCard

/-- THE SECOND FORM's CARD OF 'pharoslaw8.G1Adds'. -/
def g1AddsUptoCard : Claim7 := { stood := { row := g1AddsUptoRow, standIns := [], harness := (true, "f0d15eabe9e7c7ad78001d174f6f3045899071268c319d21cbd72bc8767a4fb5"), looks := false }, kinds := [], alts := [], laidByText := true, laidKinds := [.data, .data, .data, .data, .data], laidTests := true, laidLooks := .later }
def G1AddsUptoCardSaid : Prop := Claim7.holds Tryd.pinned (.plain (OpenSpec.upto g1AddsSpec)) g1AddsUptoCard
end Rows
end Go.Proofs.YtmpcccpnblfloaaDoor
