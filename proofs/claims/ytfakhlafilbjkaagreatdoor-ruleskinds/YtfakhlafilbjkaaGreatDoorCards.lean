/-
  DERIVED. GIVEN WITH THE SEED: THE CARDS: each row of YtfakhlafilbjkaaGreatDoorRows.lean that lists a variable, with what it lists TIED to the program's text (the seventh form; the later family's looks); each row that meets fmt, with fmt's text TOLD by the authors' own Lean function (tested against real Go, not proved from fmt's source: count such statements apart). THE CARD IS WHAT COUNTS. Prove the row's statement (the work); the ties are given (YtfakhlafilbjkaaGreatDoorTie.lean); close each card by the builder's one call (the guide's Derived/Test/ToyasCard.lean, 'card_holds'). Laid BY PROGRAM, IN A SANDBOX (cutbox-door.mjs). By AI agents, Wed Nov 11 2026. No macro, syntax, notation, axiom, sorry.
-/
import Derived.Test.YtfakhlafilbjkaaGreatDoorRows
import GoSem.ClaimSeven
namespace Go.Proofs.YtfakhlafilbjkaaGreatDoor
namespace Rows

/-- THE TIED CARD OF 'pharoslaw23.RulesBegin'. -/
def rulesBeginCard : Claim7 := { stood := { row := rulesBeginRow, standIns := [], harness := (true, "6b16bc03c34bd4f6e4e12d4743638303f4650dea26c87840b8e1c73dfcbb475c"), looks := false }, kinds := [], alts := [], laidByText := true, laidKinds := [.data, .data, .data, .data, .data, .data], laidTests := true, laidLooks := .later }
def RulesBeginCardSaid : Prop := Claim7.holds Tryz.pinned (.plain (OpenSpec.ofChange rulesBeginSpec)) rulesBeginCard

/-- THE TIED CARD OF 'pharoslaw23.RulesBetter'. -/
def rulesBetterCard : Claim7 := { stood := { row := rulesBetterRow, standIns := [], harness := (true, "6b16bc03c34bd4f6e4e12d4743638303f4650dea26c87840b8e1c73dfcbb475c"), looks := false }, kinds := [], alts := [], laidByText := true, laidKinds := [.data, .data, .data, .data, .data, .data], laidTests := true, laidLooks := .later }
def RulesBetterCardSaid : Prop := Claim7.holds Tryz.pinned (.plain (OpenSpec.ofChange rulesBetterSpec)) rulesBetterCard

/-- THE TIED CARD OF 'pharoslaw23.RulesKinds'. -/
def rulesKindsCard : Claim7 := { stood := { row := rulesKindsRow, standIns := [], harness := (true, "6b16bc03c34bd4f6e4e12d4743638303f4650dea26c87840b8e1c73dfcbb475c"), looks := false }, kinds := [], alts := [], laidByText := true, laidKinds := [.data, .data, .data, .data, .data, .data], laidTests := true, laidLooks := .later }
def RulesKindsCardSaid : Prop := Claim7.holds Tryz.pinned (.plain (OpenSpec.ofChange rulesKindsSpec)) rulesKindsCard

/-- THE TIED CARD OF 'pharoslaw23.RulesSettings'. -/
def rulesSettingsCard : Claim7 := { stood := { row := rulesSettingsRow, standIns := [], harness := (true, "6b16bc03c34bd4f6e4e12d4743638303f4650dea26c87840b8e1c73dfcbb475c"), looks := false }, kinds := [], alts := [], laidByText := true, laidKinds := [.data, .data, .data, .data, .data, .data], laidTests := true, laidLooks := .later }
def RulesSettingsCardSaid : Prop := Claim7.holds Tryz.pinned (.plain (OpenSpec.ofChange rulesSettingsSpec)) rulesSettingsCard

/-- THE TIED CARD OF 'pharoslaw23.RulesMarks'. -/
def rulesMarksCard : Claim7 := { stood := { row := rulesMarksRow, standIns := [], harness := (true, "6b16bc03c34bd4f6e4e12d4743638303f4650dea26c87840b8e1c73dfcbb475c"), looks := false }, kinds := [], alts := [], laidByText := true, laidKinds := [.data, .data, .data, .data, .data, .data], laidTests := true, laidLooks := .later }
def RulesMarksCardSaid : Prop := Claim7.holds Tryz.pinned (.plain (OpenSpec.ofChange rulesMarksSpec)) rulesMarksCard

/-- THE SECOND FORM's CARD OF 'pharoslaw23.RulesBegin'. -/
def rulesBeginUptoCard : Claim7 := { stood := { row := rulesBeginUptoRow, standIns := [], harness := (true, "6b16bc03c34bd4f6e4e12d4743638303f4650dea26c87840b8e1c73dfcbb475c"), looks := false }, kinds := [], alts := [], laidByText := true, laidKinds := [.data, .data, .data, .data, .data, .data], laidTests := true, laidLooks := .later }
def RulesBeginUptoCardSaid : Prop := Claim7.holds Tryz.pinned (.plain (OpenSpec.upto rulesBeginSpec)) rulesBeginUptoCard

/-- THE SECOND FORM's CARD OF 'pharoslaw23.RulesBetter'. -/
def rulesBetterUptoCard : Claim7 := { stood := { row := rulesBetterUptoRow, standIns := [], harness := (true, "6b16bc03c34bd4f6e4e12d4743638303f4650dea26c87840b8e1c73dfcbb475c"), looks := false }, kinds := [], alts := [], laidByText := true, laidKinds := [.data, .data, .data, .data, .data, .data], laidTests := true, laidLooks := .later }
def RulesBetterUptoCardSaid : Prop := Claim7.holds Tryz.pinned (.plain (OpenSpec.upto rulesBetterSpec)) rulesBetterUptoCard

/-- THE SECOND FORM's CARD OF 'pharoslaw23.RulesKinds'. -/
def rulesKindsUptoCard : Claim7 := { stood := { row := rulesKindsUptoRow, standIns := [], harness := (true, "6b16bc03c34bd4f6e4e12d4743638303f4650dea26c87840b8e1c73dfcbb475c"), looks := false }, kinds := [], alts := [], laidByText := true, laidKinds := [.data, .data, .data, .data, .data, .data], laidTests := true, laidLooks := .later }
def RulesKindsUptoCardSaid : Prop := Claim7.holds Tryz.pinned (.plain (OpenSpec.upto rulesKindsSpec)) rulesKindsUptoCard

/-- THE SECOND FORM's CARD OF 'pharoslaw23.RulesSettings'. -/
def rulesSettingsUptoCard : Claim7 := { stood := { row := rulesSettingsUptoRow, standIns := [], harness := (true, "6b16bc03c34bd4f6e4e12d4743638303f4650dea26c87840b8e1c73dfcbb475c"), looks := false }, kinds := [], alts := [], laidByText := true, laidKinds := [.data, .data, .data, .data, .data, .data], laidTests := true, laidLooks := .later }
def RulesSettingsUptoCardSaid : Prop := Claim7.holds Tryz.pinned (.plain (OpenSpec.upto rulesSettingsSpec)) rulesSettingsUptoCard

/-- THE SECOND FORM's CARD OF 'pharoslaw23.RulesMarks'. -/
def rulesMarksUptoCard : Claim7 := { stood := { row := rulesMarksUptoRow, standIns := [], harness := (true, "6b16bc03c34bd4f6e4e12d4743638303f4650dea26c87840b8e1c73dfcbb475c"), looks := false }, kinds := [], alts := [], laidByText := true, laidKinds := [.data, .data, .data, .data, .data, .data], laidTests := true, laidLooks := .later }
def RulesMarksUptoCardSaid : Prop := Claim7.holds Tryz.pinned (.plain (OpenSpec.upto rulesMarksSpec)) rulesMarksUptoCard
end Rows
end Go.Proofs.YtfakhlafilbjkaaGreatDoor
