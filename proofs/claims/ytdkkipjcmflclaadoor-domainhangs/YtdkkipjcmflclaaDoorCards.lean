/-
  DERIVED. GIVEN WITH THE SEED: THE CARDS: each row of YtdkkipjcmflclaaDoorRows.lean that lists a variable, with what it lists TIED to the program's text (the seventh form; the later family's looks); each row that meets fmt, with fmt's text TOLD by the authors' own Lean function (tested against real Go, not proved from fmt's source: count such statements apart). THE CARD IS WHAT COUNTS. Prove the row's statement (the work); the ties are given (YtdkkipjcmflclaaDoorTie.lean); close each card by the builder's one call (the guide's Derived/Test/ToyasCard.lean, 'card_holds'). Laid BY PROGRAM, IN A SANDBOX (cutbox-door.mjs). By AI agents, Wed Nov 11 2026. No macro, syntax, notation, axiom, sorry.
-/
import Derived.Test.YtdkkipjcmflclaaDoorRows
import GoSem.ClaimSeven
namespace Go.Proofs.YtdkkipjcmflclaaDoor
namespace Rows

/-- THE TIED CARD OF 'pharoslaw22.DomainTells'. -/
def domainTellsCard : Claim7 := { stood := { row := domainTellsRow, standIns := [], harness := (true, "f2318630cb380a2a00364cc236cae78050020756a3f25a6ff0974ee051651e1b"), looks := false }, kinds := [], alts := [], laidByText := true, laidKinds := [.data], laidTests := true, laidLooks := .later }
def DomainTellsCardSaid : Prop := Claim7.holds Tryd.pinned (.plain (OpenSpec.ofChange domainTellsSpec)) domainTellsCard

/-- THE TIED CARD OF 'pharoslaw22.DomainHangs'. -/
def domainHangsCard : Claim7 := { stood := { row := domainHangsRow, standIns := [], harness := (true, "f2318630cb380a2a00364cc236cae78050020756a3f25a6ff0974ee051651e1b"), looks := false }, kinds := [], alts := [], laidByText := true, laidKinds := [.data], laidTests := true, laidLooks := .later }
def DomainHangsCardSaid : Prop := Claim7.holds Tryd.pinned (.plain (OpenSpec.ofChange domainHangsSpec)) domainHangsCard

/-- THE SECOND FORM's CARD OF 'pharoslaw22.DomainTells'. -/
def domainTellsUptoCard : Claim7 := { stood := { row := domainTellsUptoRow, standIns := [], harness := (true, "f2318630cb380a2a00364cc236cae78050020756a3f25a6ff0974ee051651e1b"), looks := false }, kinds := [], alts := [], laidByText := true, laidKinds := [.data], laidTests := true, laidLooks := .later }
def DomainTellsUptoCardSaid : Prop := Claim7.holds Tryd.pinned (.plain (OpenSpec.upto domainTellsSpec)) domainTellsUptoCard

/-- THE SECOND FORM's CARD OF 'pharoslaw22.DomainHangs'. -/
def domainHangsUptoCard : Claim7 := { stood := { row := domainHangsUptoRow, standIns := [], harness := (true, "f2318630cb380a2a00364cc236cae78050020756a3f25a6ff0974ee051651e1b"), looks := false }, kinds := [], alts := [], laidByText := true, laidKinds := [.data], laidTests := true, laidLooks := .later }
def DomainHangsUptoCardSaid : Prop := Claim7.holds Tryd.pinned (.plain (OpenSpec.upto domainHangsSpec)) domainHangsUptoCard
end Rows
end Go.Proofs.YtdkkipjcmflclaaDoor
