/-
  DERIVED. GIVEN WITH THE SEED: THE CARDS: each row of YtmpcccpnblfloaaGreatDoorRows.lean that lists a variable, with what it lists TIED to the program's text (the seventh form; the later family's looks); each row that meets fmt, with fmt's text TOLD by the authors' own Lean function (tested against real Go, not proved from fmt's source: count such statements apart). THE CARD IS WHAT COUNTS. Prove the row's statement (the work); the ties are given (YtmpcccpnblfloaaGreatDoorTie.lean); close each card by the builder's one call (the guide's Derived/Test/ToyasCard.lean, 'card_holds'). Laid BY PROGRAM, IN A SANDBOX (cutbox-door.mjs). By AI agents, Wed Nov 11 2026. No macro, syntax, notation, axiom, sorry.
-/
import Derived.Test.YtmpcccpnblfloaaGreatDoorRows
import GoSem.ClaimSeven
namespace Go.Proofs.YtmpcccpnblfloaaGreatDoor
namespace Rows

/-- THE TIED CARD OF 'pharoslaw8.G1Lifts'. -/
def g1LiftsCard : Claim7 := { stood := { row := g1LiftsRow, standIns := [], harness := (true, "436b90abc6973f4fbe666889c07ba40407ea37ce3aac2f45df8d7f72ba40a538"), looks := false }, kinds := [], alts := [], laidByText := true, laidKinds := [.data, .data, .data, .data, .data], laidTests := true, laidLooks := .later }
def G1LiftsCardSaid : Prop := Claim7.holds Tryz.pinned (.plain (OpenSpec.ofChange g1LiftsSpec)) g1LiftsCard

/-- THE TIED CARD OF 'pharoslaw8.G1Laws'. -/
def g1LawsCard : Claim7 := { stood := { row := g1LawsRow, standIns := [], harness := (true, "436b90abc6973f4fbe666889c07ba40407ea37ce3aac2f45df8d7f72ba40a538"), looks := false }, kinds := [], alts := [], laidByText := true, laidKinds := [.data, .data, .data, .data, .data], laidTests := true, laidLooks := .later }
def G1LawsCardSaid : Prop := Claim7.holds Tryz.pinned (.plain (OpenSpec.ofChange g1LawsSpec)) g1LawsCard

/-- THE TIED CARD OF 'pharoslaw8.G1Times'. -/
def g1TimesCard : Claim7 := { stood := { row := g1TimesRow, standIns := [], harness := (true, "436b90abc6973f4fbe666889c07ba40407ea37ce3aac2f45df8d7f72ba40a538"), looks := false }, kinds := [], alts := [], laidByText := true, laidKinds := [.data, .data, .data, .data, .data], laidTests := true, laidLooks := .later }
def G1TimesCardSaid : Prop := Claim7.holds Tryz.pinned (.plain (OpenSpec.ofChange g1TimesSpec)) g1TimesCard

/-- THE TIED CARD OF 'pharoslaw8.G1Scalars'. -/
def g1ScalarsCard : Claim7 := { stood := { row := g1ScalarsRow, standIns := [], harness := (true, "436b90abc6973f4fbe666889c07ba40407ea37ce3aac2f45df8d7f72ba40a538"), looks := false }, kinds := [], alts := [], laidByText := true, laidKinds := [.data, .data, .data, .data, .data], laidTests := true, laidLooks := .later }
def G1ScalarsCardSaid : Prop := Claim7.holds Tryz.pinned (.plain (OpenSpec.ofChange g1ScalarsSpec)) g1ScalarsCard

/-- THE TIED CARD OF 'pharoslaw8.G1Groups'. -/
def g1GroupsCard : Claim7 := { stood := { row := g1GroupsRow, standIns := [], harness := (true, "436b90abc6973f4fbe666889c07ba40407ea37ce3aac2f45df8d7f72ba40a538"), looks := false }, kinds := [], alts := [], laidByText := true, laidKinds := [.data, .data, .data, .data, .data], laidTests := true, laidLooks := .later }
def G1GroupsCardSaid : Prop := Claim7.holds Tryz.pinned (.plain (OpenSpec.ofChange g1GroupsSpec)) g1GroupsCard

/-- THE SECOND FORM's CARD OF 'pharoslaw8.G1Lifts'. -/
def g1LiftsUptoCard : Claim7 := { stood := { row := g1LiftsUptoRow, standIns := [], harness := (true, "436b90abc6973f4fbe666889c07ba40407ea37ce3aac2f45df8d7f72ba40a538"), looks := false }, kinds := [], alts := [], laidByText := true, laidKinds := [.data, .data, .data, .data, .data], laidTests := true, laidLooks := .later }
def G1LiftsUptoCardSaid : Prop := Claim7.holds Tryz.pinned (.plain (OpenSpec.upto g1LiftsSpec)) g1LiftsUptoCard

/-- THE SECOND FORM's CARD OF 'pharoslaw8.G1Laws'. -/
def g1LawsUptoCard : Claim7 := { stood := { row := g1LawsUptoRow, standIns := [], harness := (true, "436b90abc6973f4fbe666889c07ba40407ea37ce3aac2f45df8d7f72ba40a538"), looks := false }, kinds := [], alts := [], laidByText := true, laidKinds := [.data, .data, .data, .data, .data], laidTests := true, laidLooks := .later }
def G1LawsUptoCardSaid : Prop := Claim7.holds Tryz.pinned (.plain (OpenSpec.upto g1LawsSpec)) g1LawsUptoCard

/-- THE SECOND FORM's CARD OF 'pharoslaw8.G1Times'. -/
def g1TimesUptoCard : Claim7 := { stood := { row := g1TimesUptoRow, standIns := [], harness := (true, "436b90abc6973f4fbe666889c07ba40407ea37ce3aac2f45df8d7f72ba40a538"), looks := false }, kinds := [], alts := [], laidByText := true, laidKinds := [.data, .data, .data, .data, .data], laidTests := true, laidLooks := .later }
def G1TimesUptoCardSaid : Prop := Claim7.holds Tryz.pinned (.plain (OpenSpec.upto g1TimesSpec)) g1TimesUptoCard

/-- THE SECOND FORM's CARD OF 'pharoslaw8.G1Scalars'. -/
def g1ScalarsUptoCard : Claim7 := { stood := { row := g1ScalarsUptoRow, standIns := [], harness := (true, "436b90abc6973f4fbe666889c07ba40407ea37ce3aac2f45df8d7f72ba40a538"), looks := false }, kinds := [], alts := [], laidByText := true, laidKinds := [.data, .data, .data, .data, .data], laidTests := true, laidLooks := .later }
def G1ScalarsUptoCardSaid : Prop := Claim7.holds Tryz.pinned (.plain (OpenSpec.upto g1ScalarsSpec)) g1ScalarsUptoCard

/-- THE SECOND FORM's CARD OF 'pharoslaw8.G1Groups'. -/
def g1GroupsUptoCard : Claim7 := { stood := { row := g1GroupsUptoRow, standIns := [], harness := (true, "436b90abc6973f4fbe666889c07ba40407ea37ce3aac2f45df8d7f72ba40a538"), looks := false }, kinds := [], alts := [], laidByText := true, laidKinds := [.data, .data, .data, .data, .data], laidTests := true, laidLooks := .later }
def G1GroupsUptoCardSaid : Prop := Claim7.holds Tryz.pinned (.plain (OpenSpec.upto g1GroupsSpec)) g1GroupsUptoCard
end Rows
end Go.Proofs.YtmpcccpnblfloaaGreatDoor
