/-
  DERIVED. GIVEN WITH THE SEED: THE CARDS: each row of YthkmeodnlidpfaaDoorRows.lean that lists a variable, with what it lists TIED to the program's text (the seventh form; the later family's looks); each row that meets fmt, with fmt's text TOLD by the authors' own Lean function (tested against real Go, not proved from fmt's source: count such statements apart). THE CARD IS WHAT COUNTS. Prove the row's statement (the work); the ties are given (YthkmeodnlidpfaaDoorTie.lean); close each card by the builder's one call (the guide's Derived/Test/ToyasCard.lean, 'card_holds'). Laid BY PROGRAM, IN A SANDBOX (cutbox-door.mjs). By AI agents, Wed Nov 11 2026. No macro, syntax, notation, axiom, sorry.
-/
import Derived.Test.YthkmeodnlidpfaaDoorRows
import GoSem.ClaimSeven
namespace Go.Proofs.YthkmeodnlidpfaaDoor
namespace Rows

/-- THE TIED CARD OF 'pharoslaw11.MillerDigits'. -/
def millerDigitsCard : Claim7 := { stood := { row := millerDigitsRow, standIns := [], harness := (true, "7078a3f4a45839fc6d09e34e79416da93a260de336a9b80a0451ac28201784ad"), looks := false }, kinds := [], alts := [], laidByText := true, laidKinds := [.data, .data, .data], laidTests := true, laidLooks := .later }
def MillerDigitsCardSaid : Prop := Claim7.holds Tryd.pinned (.plain (OpenSpec.ofChange millerDigitsSpec)) millerDigitsCard

/-- THE SECOND FORM's CARD OF 'pharoslaw11.MillerDigits'. -/
def millerDigitsUptoCard : Claim7 := { stood := { row := millerDigitsUptoRow, standIns := [], harness := (true, "7078a3f4a45839fc6d09e34e79416da93a260de336a9b80a0451ac28201784ad"), looks := false }, kinds := [], alts := [], laidByText := true, laidKinds := [.data, .data, .data], laidTests := true, laidLooks := .later }
def MillerDigitsUptoCardSaid : Prop := Claim7.holds Tryd.pinned (.plain (OpenSpec.upto millerDigitsSpec)) millerDigitsUptoCard
end Rows
end Go.Proofs.YthkmeodnlidpfaaDoor
