/-
  DERIVED. GIVEN WITH THE SEED: THE CARDS: each row of YtamddkjccmhgaaaGreatDoorRows.lean that lists a variable, with what it lists TIED to the program's text (the seventh form; the later family's looks); each row that meets fmt, with fmt's text TOLD by the authors' own Lean function (tested against real Go, not proved from fmt's source: count such statements apart). THE CARD IS WHAT COUNTS. Prove the row's statement (the work); the ties are given (YtamddkjccmhgaaaGreatDoorTie.lean); close each card by the builder's one call (the guide's Derived/Test/ToyasCard.lean, 'card_holds'). Laid BY PROGRAM, IN A SANDBOX (cutbox-door.mjs). By AI agents, Wed Nov 11 2026. No macro, syntax, notation, axiom, sorry.
-/
import Derived.Test.YtamddkjccmhgaaaGreatDoorRows
import GoSem.ClaimSeven
namespace Go.Proofs.YtamddkjccmhgaaaGreatDoor
namespace Rows

/-- THE TIED CARD OF 'pharoslaw10.PointsDecode1'. -/
def pointsDecode1Card : Claim7 := { stood := { row := pointsDecode1Row, standIns := [], harness := (true, "8094c1cfa9b10ea8f000fb8e1031013029e5aefe98feb3335820ec063b8521a7"), looks := false }, kinds := [], alts := [], laidByText := true, laidKinds := [.data, .data, .data, .data, .data], laidTests := true, laidLooks := .later }
def PointsDecode1CardSaid : Prop := Claim7.holds Tryz.pinned (.plain (OpenSpec.ofChange pointsDecode1Spec)) pointsDecode1Card

/-- THE TIED CARD OF 'pharoslaw10.PointsDecode2'. -/
def pointsDecode2Card : Claim7 := { stood := { row := pointsDecode2Row, standIns := [], harness := (true, "8094c1cfa9b10ea8f000fb8e1031013029e5aefe98feb3335820ec063b8521a7"), looks := false }, kinds := [], alts := [], laidByText := true, laidKinds := [.data, .data, .data, .data, .data], laidTests := true, laidLooks := .later }
def PointsDecode2CardSaid : Prop := Claim7.holds Tryz.pinned (.plain (OpenSpec.ofChange pointsDecode2Spec)) pointsDecode2Card

/-- THE TIED CARD OF 'pharoslaw10.PointsBack'. -/
def pointsBackCard : Claim7 := { stood := { row := pointsBackRow, standIns := [], harness := (true, "8094c1cfa9b10ea8f000fb8e1031013029e5aefe98feb3335820ec063b8521a7"), looks := false }, kinds := [], alts := [], laidByText := true, laidKinds := [.data, .data, .data, .data, .data], laidTests := true, laidLooks := .later }
def PointsBackCardSaid : Prop := Claim7.holds Tryz.pinned (.plain (OpenSpec.ofChange pointsBackSpec)) pointsBackCard

/-- THE TIED CARD OF 'pharoslaw10.PointsFlags'. -/
def pointsFlagsCard : Claim7 := { stood := { row := pointsFlagsRow, standIns := [], harness := (true, "8094c1cfa9b10ea8f000fb8e1031013029e5aefe98feb3335820ec063b8521a7"), looks := false }, kinds := [], alts := [], laidByText := true, laidKinds := [.data, .data, .data, .data, .data], laidTests := true, laidLooks := .later }
def PointsFlagsCardSaid : Prop := Claim7.holds Tryz.pinned (.plain (OpenSpec.ofChange pointsFlagsSpec)) pointsFlagsCard

/-- THE TIED CARD OF 'pharoslaw10.PointsOutside'. -/
def pointsOutsideCard : Claim7 := { stood := { row := pointsOutsideRow, standIns := [], harness := (true, "8094c1cfa9b10ea8f000fb8e1031013029e5aefe98feb3335820ec063b8521a7"), looks := false }, kinds := [], alts := [], laidByText := true, laidKinds := [.data, .data, .data, .data, .data], laidTests := true, laidLooks := .later }
def PointsOutsideCardSaid : Prop := Claim7.holds Tryz.pinned (.plain (OpenSpec.ofChange pointsOutsideSpec)) pointsOutsideCard

/-- THE SECOND FORM's CARD OF 'pharoslaw10.PointsDecode1'. -/
def pointsDecode1UptoCard : Claim7 := { stood := { row := pointsDecode1UptoRow, standIns := [], harness := (true, "8094c1cfa9b10ea8f000fb8e1031013029e5aefe98feb3335820ec063b8521a7"), looks := false }, kinds := [], alts := [], laidByText := true, laidKinds := [.data, .data, .data, .data, .data], laidTests := true, laidLooks := .later }
def PointsDecode1UptoCardSaid : Prop := Claim7.holds Tryz.pinned (.plain (OpenSpec.upto pointsDecode1Spec)) pointsDecode1UptoCard

/-- THE SECOND FORM's CARD OF 'pharoslaw10.PointsDecode2'. -/
def pointsDecode2UptoCard : Claim7 := { stood := { row := pointsDecode2UptoRow, standIns := [], harness := (true, "8094c1cfa9b10ea8f000fb8e1031013029e5aefe98feb3335820ec063b8521a7"), looks := false }, kinds := [], alts := [], laidByText := true, laidKinds := [.data, .data, .data, .data, .data], laidTests := true, laidLooks := .later }
def PointsDecode2UptoCardSaid : Prop := Claim7.holds Tryz.pinned (.plain (OpenSpec.upto pointsDecode2Spec)) pointsDecode2UptoCard

/-- THE SECOND FORM's CARD OF 'pharoslaw10.PointsBack'. -/
def pointsBackUptoCard : Claim7 := { stood := { row := pointsBackUptoRow, standIns := [], harness := (true, "8094c1cfa9b10ea8f000fb8e1031013029e5aefe98feb3335820ec063b8521a7"), looks := false }, kinds := [], alts := [], laidByText := true, laidKinds := [.data, .data, .data, .data, .data], laidTests := true, laidLooks := .later }
def PointsBackUptoCardSaid : Prop := Claim7.holds Tryz.pinned (.plain (OpenSpec.upto pointsBackSpec)) pointsBackUptoCard

/-- THE SECOND FORM's CARD OF 'pharoslaw10.PointsFlags'. -/
def pointsFlagsUptoCard : Claim7 := { stood := { row := pointsFlagsUptoRow, standIns := [], harness := (true, "8094c1cfa9b10ea8f000fb8e1031013029e5aefe98feb3335820ec063b8521a7"), looks := false }, kinds := [], alts := [], laidByText := true, laidKinds := [.data, .data, .data, .data, .data], laidTests := true, laidLooks := .later }
def PointsFlagsUptoCardSaid : Prop := Claim7.holds Tryz.pinned (.plain (OpenSpec.upto pointsFlagsSpec)) pointsFlagsUptoCard

/-- THE SECOND FORM's CARD OF 'pharoslaw10.PointsOutside'. -/
def pointsOutsideUptoCard : Claim7 := { stood := { row := pointsOutsideUptoRow, standIns := [], harness := (true, "8094c1cfa9b10ea8f000fb8e1031013029e5aefe98feb3335820ec063b8521a7"), looks := false }, kinds := [], alts := [], laidByText := true, laidKinds := [.data, .data, .data, .data, .data], laidTests := true, laidLooks := .later }
def PointsOutsideUptoCardSaid : Prop := Claim7.holds Tryz.pinned (.plain (OpenSpec.upto pointsOutsideSpec)) pointsOutsideUptoCard
end Rows
end Go.Proofs.YtamddkjccmhgaaaGreatDoor
