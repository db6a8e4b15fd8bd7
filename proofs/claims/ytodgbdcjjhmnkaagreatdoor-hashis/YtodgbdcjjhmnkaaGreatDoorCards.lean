/-
  DERIVED. GIVEN WITH THE SEED: THE CARDS: each row of YtodgbdcjjhmnkaaGreatDoorRows.lean that lists a variable, with what it lists TIED to the program's text (the seventh form; the later family's looks); each row that meets fmt, with fmt's text TOLD by the authors' own Lean function (tested against real Go, not proved from fmt's source: count such statements apart). THE CARD IS WHAT COUNTS. Prove the row's statement (the work); the ties are given (YtodgbdcjjhmnkaaGreatDoorTie.lean); close each card by the builder's one call (the guide's Derived/Test/ToyasCard.lean, 'card_holds'). Laid BY PROGRAM, IN A SANDBOX (cutbox-door.mjs). By AI agents, Wed Nov 11 2026. No macro, syntax, notation, axiom, sorry.
-/
import Derived.Test.YtodgbdcjjhmnkaaGreatDoorRows
import GoSem.ClaimSeven
namespace Go.Proofs.YtodgbdcjjhmnkaaGreatDoor
namespace Rows

/-- THE TIED CARD OF 'pharoslaw15.HashIs'. -/
def hashIsCard : Claim7 := { stood := { row := hashIsRow, standIns := [], harness := (true, "c6ddaabfd1edb2953cf9cf8e25b8bddaad4f5ee45b80af405c06916618b9eb16"), looks := false }, kinds := [], alts := [], laidByText := true, laidKinds := [.data, .data, .data, .data, .data, .data], laidTests := true, laidLooks := .later }
def HashIsCardSaid : Prop := Claim7.holds Tryz.pinned (.plain (OpenSpec.ofChange hashIsSpec)) hashIsCard

/-- THE TIED CARD OF 'pharoslaw15.HashClears'. -/
def hashClearsCard : Claim7 := { stood := { row := hashClearsRow, standIns := [], harness := (true, "c6ddaabfd1edb2953cf9cf8e25b8bddaad4f5ee45b80af405c06916618b9eb16"), looks := false }, kinds := [], alts := [], laidByText := true, laidKinds := [.data, .data, .data, .data, .data, .data], laidTests := true, laidLooks := .later }
def HashClearsCardSaid : Prop := Claim7.holds Tryz.pinned (.plain (OpenSpec.ofChange hashClearsSpec)) hashClearsCard

/-- THE SECOND FORM's CARD OF 'pharoslaw15.HashIs'. -/
def hashIsUptoCard : Claim7 := { stood := { row := hashIsUptoRow, standIns := [], harness := (true, "c6ddaabfd1edb2953cf9cf8e25b8bddaad4f5ee45b80af405c06916618b9eb16"), looks := false }, kinds := [], alts := [], laidByText := true, laidKinds := [.data, .data, .data, .data, .data, .data], laidTests := true, laidLooks := .later }
def HashIsUptoCardSaid : Prop := Claim7.holds Tryz.pinned (.plain (OpenSpec.upto hashIsSpec)) hashIsUptoCard

/-- THE SECOND FORM's CARD OF 'pharoslaw15.HashClears'. -/
def hashClearsUptoCard : Claim7 := { stood := { row := hashClearsUptoRow, standIns := [], harness := (true, "c6ddaabfd1edb2953cf9cf8e25b8bddaad4f5ee45b80af405c06916618b9eb16"), looks := false }, kinds := [], alts := [], laidByText := true, laidKinds := [.data, .data, .data, .data, .data, .data], laidTests := true, laidLooks := .later }
def HashClearsUptoCardSaid : Prop := Claim7.holds Tryz.pinned (.plain (OpenSpec.upto hashClearsSpec)) hashClearsUptoCard
end Rows
end Go.Proofs.YtodgbdcjjhmnkaaGreatDoor
