/-
  DERIVED. GIVEN WITH THE SEED: THE CARDS: each row of YtbpifgcbkhohbaaGreatDoorRows.lean that lists a variable, with what it lists TIED to the program's text (the seventh form; the later family's looks); each row that meets fmt, with fmt's text TOLD by the authors' own Lean function (tested against real Go, not proved from fmt's source: count such statements apart). THE CARD IS WHAT COUNTS. Prove the row's statement (the work); the ties are given (YtbpifgcbkhohbaaGreatDoorTie.lean); close each card by the builder's one call (the guide's Derived/Test/ToyasCard.lean, 'card_holds'). Laid BY PROGRAM, IN A SANDBOX (cutbox-door.mjs). By AI agents, Wed Nov 11 2026. No macro, syntax, notation, axiom, sorry.
-/
import Derived.Test.YtbpifgcbkhohbaaGreatDoorRows
import GoSem.ClaimSeven
namespace Go.Proofs.YtbpifgcbkhohbaaGreatDoor
namespace Rows

/-- THE TIED CARD OF 'pharoslaw7.Fp12Reckons'. -/
def fp12ReckonsCard : Claim7 := { stood := { row := fp12ReckonsRow, standIns := [], harness := (true, "c1c74d78a1fa1ac4ef32059758fcb9262920a06f31349115471c75e274155867"), looks := false }, kinds := [], alts := [], laidByText := true, laidKinds := [.data, .data, .data], laidTests := true, laidLooks := .later }
def Fp12ReckonsCardSaid : Prop := Claim7.holds Tryz.pinned (.plain (OpenSpec.ofChange fp12ReckonsSpec)) fp12ReckonsCard

/-- THE TIED CARD OF 'pharoslaw7.Fp12Frobs'. -/
def fp12FrobsCard : Claim7 := { stood := { row := fp12FrobsRow, standIns := [], harness := (true, "c1c74d78a1fa1ac4ef32059758fcb9262920a06f31349115471c75e274155867"), looks := false }, kinds := [], alts := [], laidByText := true, laidKinds := [.data, .data, .data], laidTests := true, laidLooks := .later }
def Fp12FrobsCardSaid : Prop := Claim7.holds Tryz.pinned (.plain (OpenSpec.ofChange fp12FrobsSpec)) fp12FrobsCard

/-- THE TIED CARD OF 'pharoslaw7.Fp12Powers'. -/
def fp12PowersCard : Claim7 := { stood := { row := fp12PowersRow, standIns := [], harness := (true, "c1c74d78a1fa1ac4ef32059758fcb9262920a06f31349115471c75e274155867"), looks := false }, kinds := [], alts := [], laidByText := true, laidKinds := [.data, .data, .data], laidTests := true, laidLooks := .later }
def Fp12PowersCardSaid : Prop := Claim7.holds Tryz.pinned (.plain (OpenSpec.ofChange fp12PowersSpec)) fp12PowersCard

/-- THE SECOND FORM's CARD OF 'pharoslaw7.Fp12Reckons'. -/
def fp12ReckonsUptoCard : Claim7 := { stood := { row := fp12ReckonsUptoRow, standIns := [], harness := (true, "c1c74d78a1fa1ac4ef32059758fcb9262920a06f31349115471c75e274155867"), looks := false }, kinds := [], alts := [], laidByText := true, laidKinds := [.data, .data, .data], laidTests := true, laidLooks := .later }
def Fp12ReckonsUptoCardSaid : Prop := Claim7.holds Tryz.pinned (.plain (OpenSpec.upto fp12ReckonsSpec)) fp12ReckonsUptoCard

/-- THE SECOND FORM's CARD OF 'pharoslaw7.Fp12Frobs'. -/
def fp12FrobsUptoCard : Claim7 := { stood := { row := fp12FrobsUptoRow, standIns := [], harness := (true, "c1c74d78a1fa1ac4ef32059758fcb9262920a06f31349115471c75e274155867"), looks := false }, kinds := [], alts := [], laidByText := true, laidKinds := [.data, .data, .data], laidTests := true, laidLooks := .later }
def Fp12FrobsUptoCardSaid : Prop := Claim7.holds Tryz.pinned (.plain (OpenSpec.upto fp12FrobsSpec)) fp12FrobsUptoCard

/-- THE SECOND FORM's CARD OF 'pharoslaw7.Fp12Powers'. -/
def fp12PowersUptoCard : Claim7 := { stood := { row := fp12PowersUptoRow, standIns := [], harness := (true, "c1c74d78a1fa1ac4ef32059758fcb9262920a06f31349115471c75e274155867"), looks := false }, kinds := [], alts := [], laidByText := true, laidKinds := [.data, .data, .data], laidTests := true, laidLooks := .later }
def Fp12PowersUptoCardSaid : Prop := Claim7.holds Tryz.pinned (.plain (OpenSpec.upto fp12PowersSpec)) fp12PowersUptoCard
end Rows
end Go.Proofs.YtbpifgcbkhohbaaGreatDoor
