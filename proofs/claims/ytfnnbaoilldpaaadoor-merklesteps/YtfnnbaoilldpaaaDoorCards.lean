/-
  DERIVED. GIVEN WITH THE SEED: THE CARDS: each row of YtfnnbaoilldpaaaDoorRows.lean that lists a variable, with what it lists TIED to the program's text (the seventh form; the later family's looks); each row that meets fmt, with fmt's text TOLD by the authors' own Lean function (tested against real Go, not proved from fmt's source: count such statements apart). THE CARD IS WHAT COUNTS. Prove the row's statement (the work); the ties are given (YtfnnbaoilldpaaaDoorTie.lean); close each card by the builder's one call (the guide's Derived/Test/ToyasCard.lean, 'card_holds'). Laid BY PROGRAM, IN A SANDBOX (cutbox-door.mjs). By AI agents, Wed Nov 11 2026. No macro, syntax, notation, axiom, sorry.
-/
import Derived.Test.YtfnnbaoilldpaaaDoorRows
import GoSem.ClaimSeven
namespace Go.Proofs.YtfnnbaoilldpaaaDoor
namespace Rows

/-- THE TIED CARD OF 'pharoslaw18.MerkleRoots'. -/
def merkleRootsCard : Claim7 := { stood := { row := merkleRootsRow, standIns := [], harness := (true, "b92116fefba4b9d3ab4491180f0f8e0c26831ebdaeea70dc39b18f70697d51e0"), looks := false }, kinds := [], alts := [], laidByText := true, laidKinds := [.data], laidTests := true, laidLooks := .later }
def MerkleRootsCardSaid : Prop := Claim7.holds Tryd.pinned (.plain (OpenSpec.ofChange merkleRootsSpec)) merkleRootsCard

/-- THE TIED CARD OF 'pharoslaw18.MerkleBranches'. -/
def merkleBranchesCard : Claim7 := { stood := { row := merkleBranchesRow, standIns := [], harness := (true, "b92116fefba4b9d3ab4491180f0f8e0c26831ebdaeea70dc39b18f70697d51e0"), looks := false }, kinds := [], alts := [], laidByText := true, laidKinds := [.data], laidTests := true, laidLooks := .later }
def MerkleBranchesCardSaid : Prop := Claim7.holds Tryd.pinned (.plain (OpenSpec.ofChange merkleBranchesSpec)) merkleBranchesCard

/-- THE TIED CARD OF 'pharoslaw18.MerkleVerifies'. -/
def merkleVerifiesCard : Claim7 := { stood := { row := merkleVerifiesRow, standIns := [], harness := (true, "b92116fefba4b9d3ab4491180f0f8e0c26831ebdaeea70dc39b18f70697d51e0"), looks := false }, kinds := [], alts := [], laidByText := true, laidKinds := [.data], laidTests := true, laidLooks := .later }
def MerkleVerifiesCardSaid : Prop := Claim7.holds Tryd.pinned (.plain (OpenSpec.ofChange merkleVerifiesSpec)) merkleVerifiesCard

/-- THE TIED CARD OF 'pharoslaw18.MerkleSteps'. -/
def merkleStepsCard : Claim7 := { stood := { row := merkleStepsRow, standIns := [], harness := (true, "b92116fefba4b9d3ab4491180f0f8e0c26831ebdaeea70dc39b18f70697d51e0"), looks := false }, kinds := [], alts := [], laidByText := true, laidKinds := [.data], laidTests := true, laidLooks := .later }
def MerkleStepsCardSaid : Prop := Claim7.holds Tryd.pinned (.plain (OpenSpec.ofChange merkleStepsSpec)) merkleStepsCard

/-- THE TIED CARD OF 'pharoslaw18.MerkleGrows'. -/
def merkleGrowsCard : Claim7 := { stood := { row := merkleGrowsRow, standIns := [], harness := (true, "b92116fefba4b9d3ab4491180f0f8e0c26831ebdaeea70dc39b18f70697d51e0"), looks := false }, kinds := [], alts := [], laidByText := true, laidKinds := [.data], laidTests := true, laidLooks := .later }
def MerkleGrowsCardSaid : Prop := Claim7.holds Tryd.pinned (.plain (OpenSpec.ofChange merkleGrowsSpec)) merkleGrowsCard

/-- THE TIED CARD OF 'pharoslaw18.MerkleAll'. -/
def merkleAllCard : Claim7 := { stood := { row := merkleAllRow, standIns := [], harness := (true, "b92116fefba4b9d3ab4491180f0f8e0c26831ebdaeea70dc39b18f70697d51e0"), looks := false }, kinds := [], alts := [], laidByText := true, laidKinds := [.data], laidTests := true, laidLooks := .later }
def MerkleAllCardSaid : Prop := Claim7.holds Tryd.pinned (.plain (OpenSpec.ofChange merkleAllSpec)) merkleAllCard

/-- THE TIED CARD OF 'pharoslaw18.MerkleUnder'. -/
def merkleUnderCard : Claim7 := { stood := { row := merkleUnderRow, standIns := [], harness := (true, "b92116fefba4b9d3ab4491180f0f8e0c26831ebdaeea70dc39b18f70697d51e0"), looks := false }, kinds := [], alts := [], laidByText := true, laidKinds := [.data], laidTests := true, laidLooks := .later }
def MerkleUnderCardSaid : Prop := Claim7.holds Tryd.pinned (.plain (OpenSpec.ofChange merkleUnderSpec)) merkleUnderCard

/-- THE SECOND FORM's CARD OF 'pharoslaw18.MerkleRoots'. -/
def merkleRootsUptoCard : Claim7 := { stood := { row := merkleRootsUptoRow, standIns := [], harness := (true, "b92116fefba4b9d3ab4491180f0f8e0c26831ebdaeea70dc39b18f70697d51e0"), looks := false }, kinds := [], alts := [], laidByText := true, laidKinds := [.data], laidTests := true, laidLooks := .later }
def MerkleRootsUptoCardSaid : Prop := Claim7.holds Tryd.pinned (.plain (OpenSpec.upto merkleRootsSpec)) merkleRootsUptoCard

/-- THE SECOND FORM's CARD OF 'pharoslaw18.MerkleBranches'. -/
def merkleBranchesUptoCard : Claim7 := { stood := { row := merkleBranchesUptoRow, standIns := [], harness := (true, "b92116fefba4b9d3ab4491180f0f8e0c26831ebdaeea70dc39b18f70697d51e0"), looks := false }, kinds := [], alts := [], laidByText := true, laidKinds := [.data], laidTests := true, laidLooks := .later }
def MerkleBranchesUptoCardSaid : Prop := Claim7.holds Tryd.pinned (.plain (OpenSpec.upto merkleBranchesSpec)) merkleBranchesUptoCard

/-- THE SECOND FORM's CARD OF 'pharoslaw18.MerkleVerifies'. -/
def merkleVerifiesUptoCard : Claim7 := { stood := { row := merkleVerifiesUptoRow, standIns := [], harness := (true, "b92116fefba4b9d3ab4491180f0f8e0c26831ebdaeea70dc39b18f70697d51e0"), looks := false }, kinds := [], alts := [], laidByText := true, laidKinds := [.data], laidTests := true, laidLooks := .later }
def MerkleVerifiesUptoCardSaid : Prop := Claim7.holds Tryd.pinned (.plain (OpenSpec.upto merkleVerifiesSpec)) merkleVerifiesUptoCard

/-- THE SECOND FORM's CARD OF 'pharoslaw18.MerkleSteps'. -/
def merkleStepsUptoCard : Claim7 := { stood := { row := merkleStepsUptoRow, standIns := [], harness := (true, "b92116fefba4b9d3ab4491180f0f8e0c26831ebdaeea70dc39b18f70697d51e0"), looks := false }, kinds := [], alts := [], laidByText := true, laidKinds := [.data], laidTests := true, laidLooks := .later }
def MerkleStepsUptoCardSaid : Prop := Claim7.holds Tryd.pinned (.plain (OpenSpec.upto merkleStepsSpec)) merkleStepsUptoCard

/-- THE SECOND FORM's CARD OF 'pharoslaw18.MerkleGrows'. -/
def merkleGrowsUptoCard : Claim7 := { stood := { row := merkleGrowsUptoRow, standIns := [], harness := (true, "b92116fefba4b9d3ab4491180f0f8e0c26831ebdaeea70dc39b18f70697d51e0"), looks := false }, kinds := [], alts := [], laidByText := true, laidKinds := [.data], laidTests := true, laidLooks := .later }
def MerkleGrowsUptoCardSaid : Prop := Claim7.holds Tryd.pinned (.plain (OpenSpec.upto merkleGrowsSpec)) merkleGrowsUptoCard

/-- THE SECOND FORM's CARD OF 'pharoslaw18.MerkleAll'. -/
def merkleAllUptoCard : Claim7 := { stood := { row := merkleAllUptoRow, standIns := [], harness := (true, "b92116fefba4b9d3ab4491180f0f8e0c26831ebdaeea70dc39b18f70697d51e0"), looks := false }, kinds := [], alts := [], laidByText := true, laidKinds := [.data], laidTests := true, laidLooks := .later }
def MerkleAllUptoCardSaid : Prop := Claim7.holds Tryd.pinned (.plain (OpenSpec.upto merkleAllSpec)) merkleAllUptoCard

/-- THE SECOND FORM's CARD OF 'pharoslaw18.MerkleUnder'. -/
def merkleUnderUptoCard : Claim7 := { stood := { row := merkleUnderUptoRow, standIns := [], harness := (true, "b92116fefba4b9d3ab4491180f0f8e0c26831ebdaeea70dc39b18f70697d51e0"), looks := false }, kinds := [], alts := [], laidByText := true, laidKinds := [.data], laidTests := true, laidLooks := .later }
def MerkleUnderUptoCardSaid : Prop := Claim7.holds Tryd.pinned (.plain (OpenSpec.upto merkleUnderSpec)) merkleUnderUptoCard
end Rows
end Go.Proofs.YtfnnbaoilldpaaaDoor
