/-
  DERIVED. GIVEN WITH THE SEED: THE CARDS: each row of YtceogjapiphokaaDoorRows.lean that lists a variable, with what it lists TIED to the program's text (the seventh form; the later family's looks); each row that meets fmt, with fmt's text TOLD by the authors' own Lean function (tested against real Go, not proved from fmt's source: count such statements apart). THE CARD IS WHAT COUNTS. Prove the row's statement (the work); the ties are given (YtceogjapiphokaaDoorTie.lean); close each card by the builder's one call (the guide's Derived/Test/ToyasCard.lean, 'card_holds'). Laid BY PROGRAM, IN A SANDBOX (cutbox-door.mjs). By AI agents, Wed Nov 11 2026. No macro, syntax, notation, axiom, sorry.
-/
import Derived.Test.YtceogjapiphokaaDoorRows
import GoSem.ClaimSeven
namespace Go.Proofs.YtceogjapiphokaaDoor
namespace Rows

/-- THE TIED CARD OF 'pharoslaw5.Fp2Reckons'. -/
def fp2ReckonsCard : Claim7 := { stood := { row := fp2ReckonsRow, standIns := [], harness := (true, "0db93e31c7fbc6653b082a4a4b7e929c48db8400a0bd85d0bca945f9f60b794c"), looks := false }, kinds := [], alts := [], laidByText := true, laidKinds := [.data, .data, .data, .data, .data], laidTests := true, laidLooks := .later }
def Fp2ReckonsCardSaid : Prop := Claim7.holds Tryd.pinned (.plain (OpenSpec.ofChange fp2ReckonsSpec)) fp2ReckonsCard

/-- THE TIED CARD OF 'pharoslaw5.Fp2Laws'. -/
def fp2LawsCard : Claim7 := { stood := { row := fp2LawsRow, standIns := [], harness := (true, "0db93e31c7fbc6653b082a4a4b7e929c48db8400a0bd85d0bca945f9f60b794c"), looks := false }, kinds := [], alts := [], laidByText := true, laidKinds := [.data, .data, .data, .data, .data], laidTests := true, laidLooks := .later }
def Fp2LawsCardSaid : Prop := Claim7.holds Tryd.pinned (.plain (OpenSpec.ofChange fp2LawsSpec)) fp2LawsCard

/-- THE TIED CARD OF 'pharoslaw5.Fp2Powers'. -/
def fp2PowersCard : Claim7 := { stood := { row := fp2PowersRow, standIns := [], harness := (true, "0db93e31c7fbc6653b082a4a4b7e929c48db8400a0bd85d0bca945f9f60b794c"), looks := false }, kinds := [], alts := [], laidByText := true, laidKinds := [.data, .data, .data, .data, .data], laidTests := true, laidLooks := .later }
def Fp2PowersCardSaid : Prop := Claim7.holds Tryd.pinned (.plain (OpenSpec.ofChange fp2PowersSpec)) fp2PowersCard

/-- THE TIED CARD OF 'pharoslaw5.Fp2Roots'. -/
def fp2RootsCard : Claim7 := { stood := { row := fp2RootsRow, standIns := [], harness := (true, "0db93e31c7fbc6653b082a4a4b7e929c48db8400a0bd85d0bca945f9f60b794c"), looks := false }, kinds := [], alts := [], laidByText := true, laidKinds := [.data, .data, .data, .data, .data], laidTests := true, laidLooks := .later }
def Fp2RootsCardSaid : Prop := Claim7.holds Tryd.pinned (.plain (OpenSpec.ofChange fp2RootsSpec)) fp2RootsCard

/-- THE TIED CARD OF 'pharoslaw5.Fp2Signs'. -/
def fp2SignsCard : Claim7 := { stood := { row := fp2SignsRow, standIns := [], harness := (true, "0db93e31c7fbc6653b082a4a4b7e929c48db8400a0bd85d0bca945f9f60b794c"), looks := false }, kinds := [], alts := [], laidByText := true, laidKinds := [.data, .data, .data, .data, .data], laidTests := true, laidLooks := .later }
def Fp2SignsCardSaid : Prop := Claim7.holds Tryd.pinned (.plain (OpenSpec.ofChange fp2SignsSpec)) fp2SignsCard

/-- THE TIED CARD OF 'pharoslaw5.Fp2Norms'. -/
def fp2NormsCard : Claim7 := { stood := { row := fp2NormsRow, standIns := [], harness := (true, "0db93e31c7fbc6653b082a4a4b7e929c48db8400a0bd85d0bca945f9f60b794c"), looks := false }, kinds := [], alts := [], laidByText := true, laidKinds := [.data, .data, .data, .data, .data], laidTests := true, laidLooks := .later }
def Fp2NormsCardSaid : Prop := Claim7.holds Tryd.pinned (.plain (OpenSpec.ofChange fp2NormsSpec)) fp2NormsCard

/-- THE SECOND FORM's CARD OF 'pharoslaw5.Fp2Reckons'. -/
def fp2ReckonsUptoCard : Claim7 := { stood := { row := fp2ReckonsUptoRow, standIns := [], harness := (true, "0db93e31c7fbc6653b082a4a4b7e929c48db8400a0bd85d0bca945f9f60b794c"), looks := false }, kinds := [], alts := [], laidByText := true, laidKinds := [.data, .data, .data, .data, .data], laidTests := true, laidLooks := .later }
def Fp2ReckonsUptoCardSaid : Prop := Claim7.holds Tryd.pinned (.plain (OpenSpec.upto fp2ReckonsSpec)) fp2ReckonsUptoCard

/-- THE SECOND FORM's CARD OF 'pharoslaw5.Fp2Laws'. -/
def fp2LawsUptoCard : Claim7 := { stood := { row := fp2LawsUptoRow, standIns := [], harness := (true, "0db93e31c7fbc6653b082a4a4b7e929c48db8400a0bd85d0bca945f9f60b794c"), looks := false }, kinds := [], alts := [], laidByText := true, laidKinds := [.data, .data, .data, .data, .data], laidTests := true, laidLooks := .later }
def Fp2LawsUptoCardSaid : Prop := Claim7.holds Tryd.pinned (.plain (OpenSpec.upto fp2LawsSpec)) fp2LawsUptoCard

/-- THE SECOND FORM's CARD OF 'pharoslaw5.Fp2Powers'. -/
def fp2PowersUptoCard : Claim7 := { stood := { row := fp2PowersUptoRow, standIns := [], harness := (true, "0db93e31c7fbc6653b082a4a4b7e929c48db8400a0bd85d0bca945f9f60b794c"), looks := false }, kinds := [], alts := [], laidByText := true, laidKinds := [.data, .data, .data, .data, .data], laidTests := true, laidLooks := .later }
def Fp2PowersUptoCardSaid : Prop := Claim7.holds Tryd.pinned (.plain (OpenSpec.upto fp2PowersSpec)) fp2PowersUptoCard

/-- THE SECOND FORM's CARD OF 'pharoslaw5.Fp2Roots'. -/
def fp2RootsUptoCard : Claim7 := { stood := { row := fp2RootsUptoRow, standIns := [], harness := (true, "0db93e31c7fbc6653b082a4a4b7e929c48db8400a0bd85d0bca945f9f60b794c"), looks := false }, kinds := [], alts := [], laidByText := true, laidKinds := [.data, .data, .data, .data, .data], laidTests := true, laidLooks := .later }
def Fp2RootsUptoCardSaid : Prop := Claim7.holds Tryd.pinned (.plain (OpenSpec.upto fp2RootsSpec)) fp2RootsUptoCard

/-- THE SECOND FORM's CARD OF 'pharoslaw5.Fp2Signs'. -/
def fp2SignsUptoCard : Claim7 := { stood := { row := fp2SignsUptoRow, standIns := [], harness := (true, "0db93e31c7fbc6653b082a4a4b7e929c48db8400a0bd85d0bca945f9f60b794c"), looks := false }, kinds := [], alts := [], laidByText := true, laidKinds := [.data, .data, .data, .data, .data], laidTests := true, laidLooks := .later }
def Fp2SignsUptoCardSaid : Prop := Claim7.holds Tryd.pinned (.plain (OpenSpec.upto fp2SignsSpec)) fp2SignsUptoCard

/-- THE SECOND FORM's CARD OF 'pharoslaw5.Fp2Norms'. -/
def fp2NormsUptoCard : Claim7 := { stood := { row := fp2NormsUptoRow, standIns := [], harness := (true, "0db93e31c7fbc6653b082a4a4b7e929c48db8400a0bd85d0bca945f9f60b794c"), looks := false }, kinds := [], alts := [], laidByText := true, laidKinds := [.data, .data, .data, .data, .data], laidTests := true, laidLooks := .later }
def Fp2NormsUptoCardSaid : Prop := Claim7.holds Tryd.pinned (.plain (OpenSpec.upto fp2NormsSpec)) fp2NormsUptoCard
end Rows
end Go.Proofs.YtceogjapiphokaaDoor
