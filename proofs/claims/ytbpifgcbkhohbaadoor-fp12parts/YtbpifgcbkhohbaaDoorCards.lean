/-
  DERIVED. GIVEN WITH THE SEED: THE CARDS: each row of YtbpifgcbkhohbaaDoorRows.lean that lists a variable, with what it lists TIED to the program's text (the seventh form; the later family's looks); each row that meets fmt, with fmt's text TOLD by the authors' own Lean function (tested against real Go, not proved from fmt's source: count such statements apart). THE CARD IS WHAT COUNTS. Prove the row's statement (the work); the ties are given (YtbpifgcbkhohbaaDoorTie.lean); close each card by the builder's one call (the guide's Derived/Test/ToyasCard.lean, 'card_holds'). Laid BY PROGRAM, IN A SANDBOX (cutbox-door.mjs). By AI agents, Wed Nov 11 2026. No macro, syntax, notation, axiom, sorry.
-/
import Derived.Test.YtbpifgcbkhohbaaDoorRows
import GoSem.ClaimSeven
namespace Go.Proofs.YtbpifgcbkhohbaaDoor
namespace Rows

/-- THE TIED CARD OF 'pharoslaw7.Fp12Laws'. -/
def fp12LawsCard : Claim7 := { stood := { row := fp12LawsRow, standIns := [], harness := (true, "12d1c4d52ab94c487edb8fe22f816a3c525e8772cccdd205b1904a58d6f7cbe6"), looks := false }, kinds := [], alts := [], laidByText := true, laidKinds := [.data, .data, .data], laidTests := true, laidLooks := .later }
def Fp12LawsCardSaid : Prop := Claim7.holds Tryd.pinned (.plain (OpenSpec.ofChange fp12LawsSpec)) fp12LawsCard

/-- THE TIED CARD OF 'pharoslaw7.Fp12Parts'. -/
def fp12PartsCard : Claim7 := { stood := { row := fp12PartsRow, standIns := [], harness := (true, "12d1c4d52ab94c487edb8fe22f816a3c525e8772cccdd205b1904a58d6f7cbe6"), looks := false }, kinds := [], alts := [], laidByText := true, laidKinds := [.data, .data, .data], laidTests := true, laidLooks := .later }
def Fp12PartsCardSaid : Prop := Claim7.holds Tryd.pinned (.plain (OpenSpec.ofChange fp12PartsSpec)) fp12PartsCard

/-- THE TIED CARD OF 'pharoslaw7.Fp12Norms'. -/
def fp12NormsCard : Claim7 := { stood := { row := fp12NormsRow, standIns := [], harness := (true, "12d1c4d52ab94c487edb8fe22f816a3c525e8772cccdd205b1904a58d6f7cbe6"), looks := false }, kinds := [], alts := [], laidByText := true, laidKinds := [.data, .data, .data], laidTests := true, laidLooks := .later }
def Fp12NormsCardSaid : Prop := Claim7.holds Tryd.pinned (.plain (OpenSpec.ofChange fp12NormsSpec)) fp12NormsCard

/-- THE SECOND FORM's CARD OF 'pharoslaw7.Fp12Laws'. -/
def fp12LawsUptoCard : Claim7 := { stood := { row := fp12LawsUptoRow, standIns := [], harness := (true, "12d1c4d52ab94c487edb8fe22f816a3c525e8772cccdd205b1904a58d6f7cbe6"), looks := false }, kinds := [], alts := [], laidByText := true, laidKinds := [.data, .data, .data], laidTests := true, laidLooks := .later }
def Fp12LawsUptoCardSaid : Prop := Claim7.holds Tryd.pinned (.plain (OpenSpec.upto fp12LawsSpec)) fp12LawsUptoCard

/-- THE SECOND FORM's CARD OF 'pharoslaw7.Fp12Parts'. -/
def fp12PartsUptoCard : Claim7 := { stood := { row := fp12PartsUptoRow, standIns := [], harness := (true, "12d1c4d52ab94c487edb8fe22f816a3c525e8772cccdd205b1904a58d6f7cbe6"), looks := false }, kinds := [], alts := [], laidByText := true, laidKinds := [.data, .data, .data], laidTests := true, laidLooks := .later }
def Fp12PartsUptoCardSaid : Prop := Claim7.holds Tryd.pinned (.plain (OpenSpec.upto fp12PartsSpec)) fp12PartsUptoCard

/-- THE SECOND FORM's CARD OF 'pharoslaw7.Fp12Norms'. -/
def fp12NormsUptoCard : Claim7 := { stood := { row := fp12NormsUptoRow, standIns := [], harness := (true, "12d1c4d52ab94c487edb8fe22f816a3c525e8772cccdd205b1904a58d6f7cbe6"), looks := false }, kinds := [], alts := [], laidByText := true, laidKinds := [.data, .data, .data], laidTests := true, laidLooks := .later }
def Fp12NormsUptoCardSaid : Prop := Claim7.holds Tryd.pinned (.plain (OpenSpec.upto fp12NormsSpec)) fp12NormsUptoCard
end Rows
end Go.Proofs.YtbpifgcbkhohbaaDoor
