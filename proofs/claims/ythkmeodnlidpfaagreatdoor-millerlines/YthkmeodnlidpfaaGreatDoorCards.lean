/-
  DERIVED. GIVEN WITH THE SEED: THE CARDS: each row of YthkmeodnlidpfaaGreatDoorRows.lean that lists a variable, with what it lists TIED to the program's text (the seventh form; the later family's looks); each row that meets fmt, with fmt's text TOLD by the authors' own Lean function (tested against real Go, not proved from fmt's source: count such statements apart). THE CARD IS WHAT COUNTS. Prove the row's statement (the work); the ties are given (YthkmeodnlidpfaaGreatDoorTie.lean); close each card by the builder's one call (the guide's Derived/Test/ToyasCard.lean, 'card_holds'). Laid BY PROGRAM, IN A SANDBOX (cutbox-door.mjs). By AI agents, Wed Nov 11 2026. No macro, syntax, notation, axiom, sorry.
-/
import Derived.Test.YthkmeodnlidpfaaGreatDoorRows
import GoSem.ClaimSeven
namespace Go.Proofs.YthkmeodnlidpfaaGreatDoor
namespace Rows

/-- THE TIED CARD OF 'pharoslaw11.MillerLines'. -/
def millerLinesCard : Claim7 := { stood := { row := millerLinesRow, standIns := [], harness := (true, "d0764ec11cd2f53bddda74f595d85363e97233807856b55aef03aea8fa6e75a2"), looks := false }, kinds := [], alts := [], laidByText := true, laidKinds := [.data, .data, .data], laidTests := true, laidLooks := .later }
def MillerLinesCardSaid : Prop := Claim7.holds Tryz.pinned (.plain (OpenSpec.ofChange millerLinesSpec)) millerLinesCard

/-- THE TIED CARD OF 'pharoslaw11.MillerLoops'. -/
def millerLoopsCard : Claim7 := { stood := { row := millerLoopsRow, standIns := [], harness := (true, "d0764ec11cd2f53bddda74f595d85363e97233807856b55aef03aea8fa6e75a2"), looks := false }, kinds := [], alts := [], laidByText := true, laidKinds := [.data, .data, .data], laidTests := true, laidLooks := .later }
def MillerLoopsCardSaid : Prop := Claim7.holds Tryz.pinned (.plain (OpenSpec.ofChange millerLoopsSpec)) millerLoopsCard

/-- THE SECOND FORM's CARD OF 'pharoslaw11.MillerLines'. -/
def millerLinesUptoCard : Claim7 := { stood := { row := millerLinesUptoRow, standIns := [], harness := (true, "d0764ec11cd2f53bddda74f595d85363e97233807856b55aef03aea8fa6e75a2"), looks := false }, kinds := [], alts := [], laidByText := true, laidKinds := [.data, .data, .data], laidTests := true, laidLooks := .later }
def MillerLinesUptoCardSaid : Prop := Claim7.holds Tryz.pinned (.plain (OpenSpec.upto millerLinesSpec)) millerLinesUptoCard

/-- THE SECOND FORM's CARD OF 'pharoslaw11.MillerLoops'. -/
def millerLoopsUptoCard : Claim7 := { stood := { row := millerLoopsUptoRow, standIns := [], harness := (true, "d0764ec11cd2f53bddda74f595d85363e97233807856b55aef03aea8fa6e75a2"), looks := false }, kinds := [], alts := [], laidByText := true, laidKinds := [.data, .data, .data], laidTests := true, laidLooks := .later }
def MillerLoopsUptoCardSaid : Prop := Claim7.holds Tryz.pinned (.plain (OpenSpec.upto millerLoopsSpec)) millerLoopsUptoCard
end Rows
end Go.Proofs.YthkmeodnlidpfaaGreatDoor
