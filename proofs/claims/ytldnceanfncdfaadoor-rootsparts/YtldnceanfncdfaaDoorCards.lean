/-
  DERIVED. GIVEN WITH THE SEED: THE CARDS: each row of YtldnceanfncdfaaDoorRows.lean that lists a variable, with what it lists TIED to the program's text (the seventh form; the later family's looks); each row that meets fmt, with fmt's text TOLD by the authors' own Lean function (tested against real Go, not proved from fmt's source: count such statements apart). THE CARD IS WHAT COUNTS. Prove the row's statement (the work); the ties are given (YtldnceanfncdfaaDoorTie.lean); close each card by the builder's one call (the guide's Derived/Test/ToyasCard.lean, 'card_holds'). Laid BY PROGRAM, IN A SANDBOX (cutbox-door.mjs). By AI agents, Wed Nov 11 2026. No macro, syntax, notation, axiom, sorry.
-/
import Derived.Test.YtldnceanfncdfaaDoorRows
import GoSem.ClaimSeven
namespace Go.Proofs.YtldnceanfncdfaaDoor
namespace Rows

/-- THE TIED CARD OF 'pharoslaw20.RootsAll'. -/
def rootsAllCard : Claim7 := { stood := { row := rootsAllRow, standIns := [], harness := (true, "43a4c92728ac246dd5f80ca8967345ee765694b9b527d0e653d53cae999734da"), looks := false }, kinds := [], alts := [], laidByText := true, laidKinds := [.data], laidTests := true, laidLooks := .later }
def RootsAllCardSaid : Prop := Claim7.holds Tryd.pinned (.plain (OpenSpec.ofChange rootsAllSpec)) rootsAllCard

/-- THE TIED CARD OF 'pharoslaw20.RootsParts'. -/
def rootsPartsCard : Claim7 := { stood := { row := rootsPartsRow, standIns := [], harness := (true, "43a4c92728ac246dd5f80ca8967345ee765694b9b527d0e653d53cae999734da"), looks := false }, kinds := [], alts := [], laidByText := true, laidKinds := [.data], laidTests := true, laidLooks := .later }
def RootsPartsCardSaid : Prop := Claim7.holds Tryd.pinned (.plain (OpenSpec.ofChange rootsPartsSpec)) rootsPartsCard

/-- THE TIED CARD OF 'pharoslaw20.RootsFields'. -/
def rootsFieldsCard : Claim7 := { stood := { row := rootsFieldsRow, standIns := [], harness := (true, "43a4c92728ac246dd5f80ca8967345ee765694b9b527d0e653d53cae999734da"), looks := false }, kinds := [], alts := [], laidByText := true, laidKinds := [.data], laidTests := true, laidLooks := .later }
def RootsFieldsCardSaid : Prop := Claim7.holds Tryd.pinned (.plain (OpenSpec.ofChange rootsFieldsSpec)) rootsFieldsCard

/-- THE TIED CARD OF 'pharoslaw20.RootsTell'. -/
def rootsTellCard : Claim7 := { stood := { row := rootsTellRow, standIns := [], harness := (true, "43a4c92728ac246dd5f80ca8967345ee765694b9b527d0e653d53cae999734da"), looks := false }, kinds := [], alts := [], laidByText := true, laidKinds := [.data], laidTests := true, laidLooks := .later }
def RootsTellCardSaid : Prop := Claim7.holds Tryd.pinned (.plain (OpenSpec.ofChange rootsTellSpec)) rootsTellCard

/-- THE SECOND FORM's CARD OF 'pharoslaw20.RootsAll'. -/
def rootsAllUptoCard : Claim7 := { stood := { row := rootsAllUptoRow, standIns := [], harness := (true, "43a4c92728ac246dd5f80ca8967345ee765694b9b527d0e653d53cae999734da"), looks := false }, kinds := [], alts := [], laidByText := true, laidKinds := [.data], laidTests := true, laidLooks := .later }
def RootsAllUptoCardSaid : Prop := Claim7.holds Tryd.pinned (.plain (OpenSpec.upto rootsAllSpec)) rootsAllUptoCard

/-- THE SECOND FORM's CARD OF 'pharoslaw20.RootsParts'. -/
def rootsPartsUptoCard : Claim7 := { stood := { row := rootsPartsUptoRow, standIns := [], harness := (true, "43a4c92728ac246dd5f80ca8967345ee765694b9b527d0e653d53cae999734da"), looks := false }, kinds := [], alts := [], laidByText := true, laidKinds := [.data], laidTests := true, laidLooks := .later }
def RootsPartsUptoCardSaid : Prop := Claim7.holds Tryd.pinned (.plain (OpenSpec.upto rootsPartsSpec)) rootsPartsUptoCard

/-- THE SECOND FORM's CARD OF 'pharoslaw20.RootsFields'. -/
def rootsFieldsUptoCard : Claim7 := { stood := { row := rootsFieldsUptoRow, standIns := [], harness := (true, "43a4c92728ac246dd5f80ca8967345ee765694b9b527d0e653d53cae999734da"), looks := false }, kinds := [], alts := [], laidByText := true, laidKinds := [.data], laidTests := true, laidLooks := .later }
def RootsFieldsUptoCardSaid : Prop := Claim7.holds Tryd.pinned (.plain (OpenSpec.upto rootsFieldsSpec)) rootsFieldsUptoCard

/-- THE SECOND FORM's CARD OF 'pharoslaw20.RootsTell'. -/
def rootsTellUptoCard : Claim7 := { stood := { row := rootsTellUptoRow, standIns := [], harness := (true, "43a4c92728ac246dd5f80ca8967345ee765694b9b527d0e653d53cae999734da"), looks := false }, kinds := [], alts := [], laidByText := true, laidKinds := [.data], laidTests := true, laidLooks := .later }
def RootsTellUptoCardSaid : Prop := Claim7.holds Tryd.pinned (.plain (OpenSpec.upto rootsTellSpec)) rootsTellUptoCard
end Rows
end Go.Proofs.YtldnceanfncdfaaDoor
