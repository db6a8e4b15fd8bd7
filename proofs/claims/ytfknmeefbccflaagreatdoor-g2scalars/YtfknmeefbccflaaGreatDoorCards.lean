/-
  DERIVED. GIVEN WITH THE SEED: THE CARDS: each row of YtfknmeefbccflaaGreatDoorRows.lean that lists a variable, with what it lists TIED to the program's text (the seventh form; the later family's looks); each row that meets fmt, with fmt's text TOLD by the authors' own Lean function (tested against real Go, not proved from fmt's source: count such statements apart). THE CARD IS WHAT COUNTS. Prove the row's statement (the work); the ties are given (YtfknmeefbccflaaGreatDoorTie.lean); close each card by the builder's one call (the guide's Derived/Test/ToyasCard.lean, 'card_holds'). Laid BY PROGRAM, IN A SANDBOX (cutbox-door.mjs). By AI agents, Wed Nov 11 2026. No macro, syntax, notation, axiom, sorry.
-/
import Derived.Test.YtfknmeefbccflaaGreatDoorRows
import GoSem.ClaimSeven
namespace Go.Proofs.YtfknmeefbccflaaGreatDoor
namespace Rows

/-- THE TIED CARD OF 'pharoslaw9.G2Affine'. -/
def g2AffineCard : Claim7 := { stood := { row := g2AffineRow, standIns := [], harness := (true, "c9a0320bac4845a6e40a64d559919fb41c0261a775bb2cbe8f2621ae021c1f84"), looks := false }, kinds := [], alts := [], laidByText := true, laidKinds := [.data, .data, .data], laidTests := true, laidLooks := .later }
def G2AffineCardSaid : Prop := Claim7.holds Tryz.pinned (.plain (OpenSpec.ofChange g2AffineSpec)) g2AffineCard

/-- THE TIED CARD OF 'pharoslaw9.G2Lifts'. -/
def g2LiftsCard : Claim7 := { stood := { row := g2LiftsRow, standIns := [], harness := (true, "c9a0320bac4845a6e40a64d559919fb41c0261a775bb2cbe8f2621ae021c1f84"), looks := false }, kinds := [], alts := [], laidByText := true, laidKinds := [.data, .data, .data, .data, .data], laidTests := true, laidLooks := .later }
def G2LiftsCardSaid : Prop := Claim7.holds Tryz.pinned (.plain (OpenSpec.ofChange g2LiftsSpec)) g2LiftsCard

/-- THE TIED CARD OF 'pharoslaw9.G2Adds'. -/
def g2AddsCard : Claim7 := { stood := { row := g2AddsRow, standIns := [], harness := (true, "c9a0320bac4845a6e40a64d559919fb41c0261a775bb2cbe8f2621ae021c1f84"), looks := false }, kinds := [], alts := [], laidByText := true, laidKinds := [.data, .data, .data, .data, .data], laidTests := true, laidLooks := .later }
def G2AddsCardSaid : Prop := Claim7.holds Tryz.pinned (.plain (OpenSpec.ofChange g2AddsSpec)) g2AddsCard

/-- THE TIED CARD OF 'pharoslaw9.G2Laws'. -/
def g2LawsCard : Claim7 := { stood := { row := g2LawsRow, standIns := [], harness := (true, "c9a0320bac4845a6e40a64d559919fb41c0261a775bb2cbe8f2621ae021c1f84"), looks := false }, kinds := [], alts := [], laidByText := true, laidKinds := [.data, .data, .data, .data, .data], laidTests := true, laidLooks := .later }
def G2LawsCardSaid : Prop := Claim7.holds Tryz.pinned (.plain (OpenSpec.ofChange g2LawsSpec)) g2LawsCard

/-- THE TIED CARD OF 'pharoslaw9.G2Times'. -/
def g2TimesCard : Claim7 := { stood := { row := g2TimesRow, standIns := [], harness := (true, "c9a0320bac4845a6e40a64d559919fb41c0261a775bb2cbe8f2621ae021c1f84"), looks := false }, kinds := [], alts := [], laidByText := true, laidKinds := [.data, .data, .data, .data, .data], laidTests := true, laidLooks := .later }
def G2TimesCardSaid : Prop := Claim7.holds Tryz.pinned (.plain (OpenSpec.ofChange g2TimesSpec)) g2TimesCard

/-- THE TIED CARD OF 'pharoslaw9.G2Scalars'. -/
def g2ScalarsCard : Claim7 := { stood := { row := g2ScalarsRow, standIns := [], harness := (true, "c9a0320bac4845a6e40a64d559919fb41c0261a775bb2cbe8f2621ae021c1f84"), looks := false }, kinds := [], alts := [], laidByText := true, laidKinds := [.data, .data, .data, .data, .data], laidTests := true, laidLooks := .later }
def G2ScalarsCardSaid : Prop := Claim7.holds Tryz.pinned (.plain (OpenSpec.ofChange g2ScalarsSpec)) g2ScalarsCard

/-- THE TIED CARD OF 'pharoslaw9.G2Groups'. -/
def g2GroupsCard : Claim7 := { stood := { row := g2GroupsRow, standIns := [], harness := (true, "c9a0320bac4845a6e40a64d559919fb41c0261a775bb2cbe8f2621ae021c1f84"), looks := false }, kinds := [], alts := [], laidByText := true, laidKinds := [.data, .data, .data, .data, .data], laidTests := true, laidLooks := .later }
def G2GroupsCardSaid : Prop := Claim7.holds Tryz.pinned (.plain (OpenSpec.ofChange g2GroupsSpec)) g2GroupsCard

/-- THE SECOND FORM's CARD OF 'pharoslaw9.G2Affine'. -/
def g2AffineUptoCard : Claim7 := { stood := { row := g2AffineUptoRow, standIns := [], harness := (true, "c9a0320bac4845a6e40a64d559919fb41c0261a775bb2cbe8f2621ae021c1f84"), looks := false }, kinds := [], alts := [], laidByText := true, laidKinds := [.data, .data, .data], laidTests := true, laidLooks := .later }
def G2AffineUptoCardSaid : Prop := Claim7.holds Tryz.pinned (.plain (OpenSpec.upto g2AffineSpec)) g2AffineUptoCard

/-- THE SECOND FORM's CARD OF 'pharoslaw9.G2Lifts'. -/
def g2LiftsUptoCard : Claim7 := { stood := { row := g2LiftsUptoRow, standIns := [], harness := (true, "c9a0320bac4845a6e40a64d559919fb41c0261a775bb2cbe8f2621ae021c1f84"), looks := false }, kinds := [], alts := [], laidByText := true, laidKinds := [.data, .data, .data, .data, .data], laidTests := true, laidLooks := .later }
def G2LiftsUptoCardSaid : Prop := Claim7.holds Tryz.pinned (.plain (OpenSpec.upto g2LiftsSpec)) g2LiftsUptoCard

/-- THE SECOND FORM's CARD OF 'pharoslaw9.G2Adds'. -/
def g2AddsUptoCard : Claim7 := { stood := { row := g2AddsUptoRow, standIns := [], harness := (true, "c9a0320bac4845a6e40a64d559919fb41c0261a775bb2cbe8f2621ae021c1f84"), looks := false }, kinds := [], alts := [], laidByText := true, laidKinds := [.data, .data, .data, .data, .data], laidTests := true, laidLooks := .later }
def G2AddsUptoCardSaid : Prop := Claim7.holds Tryz.pinned (.plain (OpenSpec.upto g2AddsSpec)) g2AddsUptoCard

/-- THE SECOND FORM's CARD OF 'pharoslaw9.G2Laws'. -/
def g2LawsUptoCard : Claim7 := { stood := { row := g2LawsUptoRow, standIns := [], harness := (true, "c9a0320bac4845a6e40a64d559919fb41c0261a775bb2cbe8f2621ae021c1f84"), looks := false }, kinds := [], alts := [], laidByText := true, laidKinds := [.data, .data, .data, .data, .data], laidTests := true, laidLooks := .later }
def G2LawsUptoCardSaid : Prop := Claim7.holds Tryz.pinned (.plain (OpenSpec.upto g2LawsSpec)) g2LawsUptoCard

/-- THE SECOND FORM's CARD OF 'pharoslaw9.G2Times'. -/
def g2TimesUptoCard : Claim7 := { stood := { row := g2TimesUptoRow, standIns := [], harness := (true, "c9a0320bac4845a6e40a64d559919fb41c0261a775bb2cbe8f2621ae021c1f84"), looks := false }, kinds := [], alts := [], laidByText := true, laidKinds := [.data, .data, .data, .data, .data], laidTests := true, laidLooks := .later }
def G2TimesUptoCardSaid : Prop := Claim7.holds Tryz.pinned (.plain (OpenSpec.upto g2TimesSpec)) g2TimesUptoCard

/-- THE SECOND FORM's CARD OF 'pharoslaw9.G2Scalars'. -/
def g2ScalarsUptoCard : Claim7 := { stood := { row := g2ScalarsUptoRow, standIns := [], harness := (true, "c9a0320bac4845a6e40a64d559919fb41c0261a775bb2cbe8f2621ae021c1f84"), looks := false }, kinds := [], alts := [], laidByText := true, laidKinds := [.data, .data, .data, .data, .data], laidTests := true, laidLooks := .later }
def G2ScalarsUptoCardSaid : Prop := Claim7.holds Tryz.pinned (.plain (OpenSpec.upto g2ScalarsSpec)) g2ScalarsUptoCard

/-- THE SECOND FORM's CARD OF 'pharoslaw9.G2Groups'. -/
def g2GroupsUptoCard : Claim7 := { stood := { row := g2GroupsUptoRow, standIns := [], harness := (true, "c9a0320bac4845a6e40a64d559919fb41c0261a775bb2cbe8f2621ae021c1f84"), looks := false }, kinds := [], alts := [], laidByText := true, laidKinds := [.data, .data, .data, .data, .data], laidTests := true, laidLooks := .later }
def G2GroupsUptoCardSaid : Prop := Claim7.holds Tryz.pinned (.plain (OpenSpec.upto g2GroupsSpec)) g2GroupsUptoCard
end Rows
end Go.Proofs.YtfknmeefbccflaaGreatDoor
