/-
  DERIVED. GIVEN WITH THE SEED: THE CARDS: each row of YthgoggiiabaccaaDoorRows.lean that lists a variable, with what it lists TIED to the program's text (the seventh form; the later family's looks); each row that meets fmt, with fmt's text TOLD by the authors' own Lean function (tested against real Go, not proved from fmt's source: count such statements apart). THE CARD IS WHAT COUNTS. Prove the row's statement (the work); the ties are given (YthgoggiiabaccaaDoorTie.lean); close each card by the builder's one call (the guide's Derived/Test/ToyasCard.lean, 'card_holds'). Laid BY PROGRAM, IN A SANDBOX (cutbox-door.mjs). By AI agents, Wed Nov 11 2026. No macro, syntax, notation, axiom, sorry.
-/
import Derived.Test.YthgoggiiabaccaaDoorRows
import GoSem.ClaimSeven
namespace Go.Proofs.YthgoggiiabaccaaDoor
namespace Rows

/-- THE TIED CARD OF 'pharoslaw3.FpBytes'. -/
def fpBytesCard : Claim7 := { stood := { row := fpBytesRow, standIns := [], harness := (true, "87d8b442978dd09f4efee067d578e787540226667b99f20f568e7c84437afc42"), looks := false }, kinds := [], alts := [], laidByText := true, laidKinds := [.data, .data, .data, .data, .data], laidTests := true, laidLooks := .later }
def FpBytesCardSaid : Prop := Claim7.holds Tryd.pinned (.plain (OpenSpec.ofChange fpBytesSpec)) fpBytesCard

/-- THE TIED CARD OF 'pharoslaw3.FpReckons'. -/
def fpReckonsCard : Claim7 := { stood := { row := fpReckonsRow, standIns := [], harness := (true, "87d8b442978dd09f4efee067d578e787540226667b99f20f568e7c84437afc42"), looks := false }, kinds := [], alts := [], laidByText := true, laidKinds := [.data, .data, .data, .data, .data], laidTests := true, laidLooks := .later }
def FpReckonsCardSaid : Prop := Claim7.holds Tryd.pinned (.plain (OpenSpec.ofChange fpReckonsSpec)) fpReckonsCard

/-- THE TIED CARD OF 'pharoslaw3.FpLaws'. -/
def fpLawsCard : Claim7 := { stood := { row := fpLawsRow, standIns := [], harness := (true, "87d8b442978dd09f4efee067d578e787540226667b99f20f568e7c84437afc42"), looks := false }, kinds := [], alts := [], laidByText := true, laidKinds := [.data, .data, .data, .data, .data], laidTests := true, laidLooks := .later }
def FpLawsCardSaid : Prop := Claim7.holds Tryd.pinned (.plain (OpenSpec.ofChange fpLawsSpec)) fpLawsCard

/-- THE TIED CARD OF 'pharoslaw3.FpPowers'. -/
def fpPowersCard : Claim7 := { stood := { row := fpPowersRow, standIns := [], harness := (true, "87d8b442978dd09f4efee067d578e787540226667b99f20f568e7c84437afc42"), looks := false }, kinds := [], alts := [], laidByText := true, laidKinds := [.data, .data, .data, .data, .data], laidTests := true, laidLooks := .later }
def FpPowersCardSaid : Prop := Claim7.holds Tryd.pinned (.plain (OpenSpec.ofChange fpPowersSpec)) fpPowersCard

/-- THE TIED CARD OF 'pharoslaw3.FpRoots'. -/
def fpRootsCard : Claim7 := { stood := { row := fpRootsRow, standIns := [], harness := (true, "87d8b442978dd09f4efee067d578e787540226667b99f20f568e7c84437afc42"), looks := false }, kinds := [], alts := [], laidByText := true, laidKinds := [.data, .data, .data, .data, .data], laidTests := true, laidLooks := .later }
def FpRootsCardSaid : Prop := Claim7.holds Tryd.pinned (.plain (OpenSpec.ofChange fpRootsSpec)) fpRootsCard

/-- THE TIED CARD OF 'pharoslaw3.FpSigns'. -/
def fpSignsCard : Claim7 := { stood := { row := fpSignsRow, standIns := [], harness := (true, "87d8b442978dd09f4efee067d578e787540226667b99f20f568e7c84437afc42"), looks := false }, kinds := [], alts := [], laidByText := true, laidKinds := [.data, .data, .data, .data, .data], laidTests := true, laidLooks := .later }
def FpSignsCardSaid : Prop := Claim7.holds Tryd.pinned (.plain (OpenSpec.ofChange fpSignsSpec)) fpSignsCard

/-- THE TIED CARD OF 'pharoslaw3.FpSolves'. -/
def fpSolvesCard : Claim7 := { stood := { row := fpSolvesRow, standIns := [], harness := (true, "87d8b442978dd09f4efee067d578e787540226667b99f20f568e7c84437afc42"), looks := false }, kinds := [], alts := [], laidByText := true, laidKinds := [.data, .data, .data, .data, .data], laidTests := true, laidLooks := .later }
def FpSolvesCardSaid : Prop := Claim7.holds Tryd.pinned (.plain (OpenSpec.ofChange fpSolvesSpec)) fpSolvesCard

/-- THE TIED CARD OF 'pharoslaw3.FpFermat'. -/
def fpFermatCard : Claim7 := { stood := { row := fpFermatRow, standIns := [], harness := (true, "87d8b442978dd09f4efee067d578e787540226667b99f20f568e7c84437afc42"), looks := false }, kinds := [], alts := [], laidByText := true, laidKinds := [.data, .data, .data, .data, .data], laidTests := true, laidLooks := .later }
def FpFermatCardSaid : Prop := Claim7.holds Tryd.pinned (.plain (OpenSpec.ofChange fpFermatSpec)) fpFermatCard

/-- THE SECOND FORM's CARD OF 'pharoslaw3.FpBytes'. -/
def fpBytesUptoCard : Claim7 := { stood := { row := fpBytesUptoRow, standIns := [], harness := (true, "87d8b442978dd09f4efee067d578e787540226667b99f20f568e7c84437afc42"), looks := false }, kinds := [], alts := [], laidByText := true, laidKinds := [.data, .data, .data, .data, .data], laidTests := true, laidLooks := .later }
def FpBytesUptoCardSaid : Prop := Claim7.holds Tryd.pinned (.plain (OpenSpec.upto fpBytesSpec)) fpBytesUptoCard

/-- THE SECOND FORM's CARD OF 'pharoslaw3.FpReckons'. -/
def fpReckonsUptoCard : Claim7 := { stood := { row := fpReckonsUptoRow, standIns := [], harness := (true, "87d8b442978dd09f4efee067d578e787540226667b99f20f568e7c84437afc42"), looks := false }, kinds := [], alts := [], laidByText := true, laidKinds := [.data, .data, .data, .data, .data], laidTests := true, laidLooks := .later }
def FpReckonsUptoCardSaid : Prop := Claim7.holds Tryd.pinned (.plain (OpenSpec.upto fpReckonsSpec)) fpReckonsUptoCard

/-- THE SECOND FORM's CARD OF 'pharoslaw3.FpLaws'. -/
def fpLawsUptoCard : Claim7 := { stood := { row := fpLawsUptoRow, standIns := [], harness := (true, "87d8b442978dd09f4efee067d578e787540226667b99f20f568e7c84437afc42"), looks := false }, kinds := [], alts := [], laidByText := true, laidKinds := [.data, .data, .data, .data, .data], laidTests := true, laidLooks := .later }
def FpLawsUptoCardSaid : Prop := Claim7.holds Tryd.pinned (.plain (OpenSpec.upto fpLawsSpec)) fpLawsUptoCard

/-- THE SECOND FORM's CARD OF 'pharoslaw3.FpPowers'. -/
def fpPowersUptoCard : Claim7 := { stood := { row := fpPowersUptoRow, standIns := [], harness := (true, "87d8b442978dd09f4efee067d578e787540226667b99f20f568e7c84437afc42"), looks := false }, kinds := [], alts := [], laidByText := true, laidKinds := [.data, .data, .data, .data, .data], laidTests := true, laidLooks := .later }
def FpPowersUptoCardSaid : Prop := Claim7.holds Tryd.pinned (.plain (OpenSpec.upto fpPowersSpec)) fpPowersUptoCard

/-- THE SECOND FORM's CARD OF 'pharoslaw3.FpRoots'. -/
def fpRootsUptoCard : Claim7 := { stood := { row := fpRootsUptoRow, standIns := [], harness := (true, "87d8b442978dd09f4efee067d578e787540226667b99f20f568e7c84437afc42"), looks := false }, kinds := [], alts := [], laidByText := true, laidKinds := [.data, .data, .data, .data, .data], laidTests := true, laidLooks := .later }
def FpRootsUptoCardSaid : Prop := Claim7.holds Tryd.pinned (.plain (OpenSpec.upto fpRootsSpec)) fpRootsUptoCard

/-- THE SECOND FORM's CARD OF 'pharoslaw3.FpSigns'. -/
def fpSignsUptoCard : Claim7 := { stood := { row := fpSignsUptoRow, standIns := [], harness := (true, "87d8b442978dd09f4efee067d578e787540226667b99f20f568e7c84437afc42"), looks := false }, kinds := [], alts := [], laidByText := true, laidKinds := [.data, .data, .data, .data, .data], laidTests := true, laidLooks := .later }
def FpSignsUptoCardSaid : Prop := Claim7.holds Tryd.pinned (.plain (OpenSpec.upto fpSignsSpec)) fpSignsUptoCard

/-- THE SECOND FORM's CARD OF 'pharoslaw3.FpSolves'. -/
def fpSolvesUptoCard : Claim7 := { stood := { row := fpSolvesUptoRow, standIns := [], harness := (true, "87d8b442978dd09f4efee067d578e787540226667b99f20f568e7c84437afc42"), looks := false }, kinds := [], alts := [], laidByText := true, laidKinds := [.data, .data, .data, .data, .data], laidTests := true, laidLooks := .later }
def FpSolvesUptoCardSaid : Prop := Claim7.holds Tryd.pinned (.plain (OpenSpec.upto fpSolvesSpec)) fpSolvesUptoCard

/-- THE SECOND FORM's CARD OF 'pharoslaw3.FpFermat'. -/
def fpFermatUptoCard : Claim7 := { stood := { row := fpFermatUptoRow, standIns := [], harness := (true, "87d8b442978dd09f4efee067d578e787540226667b99f20f568e7c84437afc42"), looks := false }, kinds := [], alts := [], laidByText := true, laidKinds := [.data, .data, .data, .data, .data], laidTests := true, laidLooks := .later }
def FpFermatUptoCardSaid : Prop := Claim7.holds Tryd.pinned (.plain (OpenSpec.upto fpFermatSpec)) fpFermatUptoCard
end Rows
end Go.Proofs.YthgoggiiabaccaaDoor
