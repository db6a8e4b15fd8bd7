/-
  DERIVED. GIVEN WITH THE SEED: THE CARDS: each row of YtpigcehbafcdkaaDoorRows.lean that lists a variable, with what it lists TIED to the program's text (the seventh form; the later family's looks); each row that meets fmt, with fmt's text TOLD by the authors' own Lean function (tested against real Go, not proved from fmt's source: count such statements apart). THE CARD IS WHAT COUNTS. Prove the row's statement (the work); the ties are given (YtpigcehbafcdkaaDoorTie.lean); close each card by the builder's one call (the guide's Derived/Test/ToyasCard.lean, 'card_holds'). Laid BY PROGRAM, IN A SANDBOX (cutbox-door.mjs). By AI agents, Wed Nov 11 2026. No macro, syntax, notation, axiom, sorry.
-/
import Derived.Test.YtpigcehbafcdkaaDoorRows
import GoSem.ClaimSeven
namespace Go.Proofs.YtpigcehbafcdkaaDoor
namespace Rows

/-- THE TIED CARD OF 'pharoslaw6.Fp6Laws'. -/
def fp6LawsCard : Claim7 := { stood := { row := fp6LawsRow, standIns := [], harness := (true, "2c5372edce72d2124c325275f68c46e926871b579ad504024782a2a2ab5eb293"), looks := false }, kinds := [], alts := [], laidByText := true, laidKinds := [.data, .data, .data], laidTests := true, laidLooks := .later }
def Fp6LawsCardSaid : Prop := Claim7.holds Tryd.pinned (.plain (OpenSpec.ofChange fp6LawsSpec)) fp6LawsCard

/-- THE TIED CARD OF 'pharoslaw6.Fp6Frobs'. -/
def fp6FrobsCard : Claim7 := { stood := { row := fp6FrobsRow, standIns := [], harness := (true, "2c5372edce72d2124c325275f68c46e926871b579ad504024782a2a2ab5eb293"), looks := false }, kinds := [], alts := [], laidByText := true, laidKinds := [.data, .data, .data], laidTests := true, laidLooks := .later }
def Fp6FrobsCardSaid : Prop := Claim7.holds Tryd.pinned (.plain (OpenSpec.ofChange fp6FrobsSpec)) fp6FrobsCard

/-- THE SECOND FORM's CARD OF 'pharoslaw6.Fp6Laws'. -/
def fp6LawsUptoCard : Claim7 := { stood := { row := fp6LawsUptoRow, standIns := [], harness := (true, "2c5372edce72d2124c325275f68c46e926871b579ad504024782a2a2ab5eb293"), looks := false }, kinds := [], alts := [], laidByText := true, laidKinds := [.data, .data, .data], laidTests := true, laidLooks := .later }
def Fp6LawsUptoCardSaid : Prop := Claim7.holds Tryd.pinned (.plain (OpenSpec.upto fp6LawsSpec)) fp6LawsUptoCard

/-- THE SECOND FORM's CARD OF 'pharoslaw6.Fp6Frobs'. -/
def fp6FrobsUptoCard : Claim7 := { stood := { row := fp6FrobsUptoRow, standIns := [], harness := (true, "2c5372edce72d2124c325275f68c46e926871b579ad504024782a2a2ab5eb293"), looks := false }, kinds := [], alts := [], laidByText := true, laidKinds := [.data, .data, .data], laidTests := true, laidLooks := .later }
def Fp6FrobsUptoCardSaid : Prop := Claim7.holds Tryd.pinned (.plain (OpenSpec.upto fp6FrobsSpec)) fp6FrobsUptoCard
end Rows
end Go.Proofs.YtpigcehbafcdkaaDoor
