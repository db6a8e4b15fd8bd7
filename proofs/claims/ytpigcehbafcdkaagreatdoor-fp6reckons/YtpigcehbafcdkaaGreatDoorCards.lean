/-
  DERIVED. GIVEN WITH THE SEED: THE CARDS: each row of YtpigcehbafcdkaaGreatDoorRows.lean that lists a variable, with what it lists TIED to the program's text (the seventh form; the later family's looks); each row that meets fmt, with fmt's text TOLD by the authors' own Lean function (tested against real Go, not proved from fmt's source: count such statements apart). THE CARD IS WHAT COUNTS. Prove the row's statement (the work); the ties are given (YtpigcehbafcdkaaGreatDoorTie.lean); close each card by the builder's one call (the guide's Derived/Test/ToyasCard.lean, 'card_holds'). Laid BY PROGRAM, IN A SANDBOX (cutbox-door.mjs). By AI agents, Wed Nov 11 2026. No macro, syntax, notation, axiom, sorry.
-/
import Derived.Test.YtpigcehbafcdkaaGreatDoorRows
import GoSem.ClaimSeven
namespace Go.Proofs.YtpigcehbafcdkaaGreatDoor
namespace Rows

/-- THE TIED CARD OF 'pharoslaw6.Fp6Reckons'. -/
def fp6ReckonsCard : Claim7 := { stood := { row := fp6ReckonsRow, standIns := [], harness := (true, "b42838c10e379b29b334a73d5339d3c9e7583a094a2c6f289eaabd59ce76b611"), looks := false }, kinds := [], alts := [], laidByText := true, laidKinds := [.data, .data, .data], laidTests := true, laidLooks := .later }
def Fp6ReckonsCardSaid : Prop := Claim7.holds Tryz.pinned (.plain (OpenSpec.ofChange fp6ReckonsSpec)) fp6ReckonsCard

/-- THE SECOND FORM's CARD OF 'pharoslaw6.Fp6Reckons'. -/
def fp6ReckonsUptoCard : Claim7 := { stood := { row := fp6ReckonsUptoRow, standIns := [], harness := (true, "b42838c10e379b29b334a73d5339d3c9e7583a094a2c6f289eaabd59ce76b611"), looks := false }, kinds := [], alts := [], laidByText := true, laidKinds := [.data, .data, .data], laidTests := true, laidLooks := .later }
def Fp6ReckonsUptoCardSaid : Prop := Claim7.holds Tryz.pinned (.plain (OpenSpec.upto fp6ReckonsSpec)) fp6ReckonsUptoCard
end Rows
end Go.Proofs.YtpigcehbafcdkaaGreatDoor
