/-
  DERIVED. GIVEN WITH THE SEED: THE CARDS: each row of YtpnpiblphnpfiaaGreatDoorRows.lean that lists a variable, with what it lists TIED to the program's text (the seventh form; the later family's looks); each row that meets fmt, with fmt's text TOLD by the authors' own Lean function (tested against real Go, not proved from fmt's source: count such statements apart). THE CARD IS WHAT COUNTS. Prove the row's statement (the work); the ties are given (YtpnpiblphnpfiaaGreatDoorTie.lean); close each card by the builder's one call (the guide's Derived/Test/ToyasCard.lean, 'card_holds'). Laid BY PROGRAM, IN A SANDBOX (cutbox-door.mjs). By AI agents, Wed Nov 11 2026. No macro, syntax, notation, axiom, sorry.
-/
import Derived.Test.YtpnpiblphnpfiaaGreatDoorRows
import GoSem.ClaimSeven
namespace Go.Proofs.YtpnpiblphnpfiaaGreatDoor
namespace Rows

/-- THE TIED CARD OF 'pharoslaw12.PairingIs'. -/
def pairingIsCard : Claim7 := { stood := { row := pairingIsRow, standIns := [], harness := (true, "e65fe1d826ab8effba31d3363711c473cb67dfa7220b543af10da4b062e07cba"), looks := false }, kinds := [], alts := [], laidByText := true, laidKinds := [.data, .data, .data], laidTests := true, laidLooks := .later }
def PairingIsCardSaid : Prop := Claim7.holds Tryz.pinned (.plain (OpenSpec.ofChange pairingIsSpec)) pairingIsCard

/-- THE TIED CARD OF 'pharoslaw12.PairingFinal'. -/
def pairingFinalCard : Claim7 := { stood := { row := pairingFinalRow, standIns := [], harness := (true, "e65fe1d826ab8effba31d3363711c473cb67dfa7220b543af10da4b062e07cba"), looks := false }, kinds := [], alts := [], laidByText := true, laidKinds := [.data, .data, .data], laidTests := true, laidLooks := .later }
def PairingFinalCardSaid : Prop := Claim7.holds Tryz.pinned (.plain (OpenSpec.ofChange pairingFinalSpec)) pairingFinalCard

/-- THE TIED CARD OF 'pharoslaw12.PairingBilinear'. -/
def pairingBilinearCard : Claim7 := { stood := { row := pairingBilinearRow, standIns := [], harness := (true, "e65fe1d826ab8effba31d3363711c473cb67dfa7220b543af10da4b062e07cba"), looks := false }, kinds := [], alts := [], laidByText := true, laidKinds := [.data, .data, .data, .data, .data], laidTests := true, laidLooks := .later }
def PairingBilinearCardSaid : Prop := Claim7.holds Tryz.pinned (.plain (OpenSpec.ofChange pairingBilinearSpec)) pairingBilinearCard

/-- THE TIED CARD OF 'pharoslaw12.PairingChecks'. -/
def pairingChecksCard : Claim7 := { stood := { row := pairingChecksRow, standIns := [], harness := (true, "e65fe1d826ab8effba31d3363711c473cb67dfa7220b543af10da4b062e07cba"), looks := false }, kinds := [], alts := [], laidByText := true, laidKinds := [.data, .data, .data, .data, .data], laidTests := true, laidLooks := .later }
def PairingChecksCardSaid : Prop := Claim7.holds Tryz.pinned (.plain (OpenSpec.ofChange pairingChecksSpec)) pairingChecksCard

/-- THE TIED CARD OF 'pharoslaw12.PairingOrder'. -/
def pairingOrderCard : Claim7 := { stood := { row := pairingOrderRow, standIns := [], harness := (true, "e65fe1d826ab8effba31d3363711c473cb67dfa7220b543af10da4b062e07cba"), looks := false }, kinds := [], alts := [], laidByText := true, laidKinds := [.data, .data, .data, .data, .data], laidTests := true, laidLooks := .later }
def PairingOrderCardSaid : Prop := Claim7.holds Tryz.pinned (.plain (OpenSpec.ofChange pairingOrderSpec)) pairingOrderCard

/-- THE TIED CARD OF 'pharoslaw12.PairingTurns'. -/
def pairingTurnsCard : Claim7 := { stood := { row := pairingTurnsRow, standIns := [], harness := (true, "e65fe1d826ab8effba31d3363711c473cb67dfa7220b543af10da4b062e07cba"), looks := false }, kinds := [], alts := [], laidByText := true, laidKinds := [.data, .data, .data], laidTests := true, laidLooks := .later }
def PairingTurnsCardSaid : Prop := Claim7.holds Tryz.pinned (.plain (OpenSpec.ofChange pairingTurnsSpec)) pairingTurnsCard

/-- THE TIED CARD OF 'pharoslaw12.PairingMoves'. -/
def pairingMovesCard : Claim7 := { stood := { row := pairingMovesRow, standIns := [], harness := (true, "e65fe1d826ab8effba31d3363711c473cb67dfa7220b543af10da4b062e07cba"), looks := false }, kinds := [], alts := [], laidByText := true, laidKinds := [.data, .data, .data, .data, .data], laidTests := true, laidLooks := .later }
def PairingMovesCardSaid : Prop := Claim7.holds Tryz.pinned (.plain (OpenSpec.ofChange pairingMovesSpec)) pairingMovesCard

/-- THE SECOND FORM's CARD OF 'pharoslaw12.PairingIs'. -/
def pairingIsUptoCard : Claim7 := { stood := { row := pairingIsUptoRow, standIns := [], harness := (true, "e65fe1d826ab8effba31d3363711c473cb67dfa7220b543af10da4b062e07cba"), looks := false }, kinds := [], alts := [], laidByText := true, laidKinds := [.data, .data, .data], laidTests := true, laidLooks := .later }
def PairingIsUptoCardSaid : Prop := Claim7.holds Tryz.pinned (.plain (OpenSpec.upto pairingIsSpec)) pairingIsUptoCard

/-- THE SECOND FORM's CARD OF 'pharoslaw12.PairingFinal'. -/
def pairingFinalUptoCard : Claim7 := { stood := { row := pairingFinalUptoRow, standIns := [], harness := (true, "e65fe1d826ab8effba31d3363711c473cb67dfa7220b543af10da4b062e07cba"), looks := false }, kinds := [], alts := [], laidByText := true, laidKinds := [.data, .data, .data], laidTests := true, laidLooks := .later }
def PairingFinalUptoCardSaid : Prop := Claim7.holds Tryz.pinned (.plain (OpenSpec.upto pairingFinalSpec)) pairingFinalUptoCard

/-- THE SECOND FORM's CARD OF 'pharoslaw12.PairingBilinear'. -/
def pairingBilinearUptoCard : Claim7 := { stood := { row := pairingBilinearUptoRow, standIns := [], harness := (true, "e65fe1d826ab8effba31d3363711c473cb67dfa7220b543af10da4b062e07cba"), looks := false }, kinds := [], alts := [], laidByText := true, laidKinds := [.data, .data, .data, .data, .data], laidTests := true, laidLooks := .later }
def PairingBilinearUptoCardSaid : Prop := Claim7.holds Tryz.pinned (.plain (OpenSpec.upto pairingBilinearSpec)) pairingBilinearUptoCard

/-- THE SECOND FORM's CARD OF 'pharoslaw12.PairingChecks'. -/
def pairingChecksUptoCard : Claim7 := { stood := { row := pairingChecksUptoRow, standIns := [], harness := (true, "e65fe1d826ab8effba31d3363711c473cb67dfa7220b543af10da4b062e07cba"), looks := false }, kinds := [], alts := [], laidByText := true, laidKinds := [.data, .data, .data, .data, .data], laidTests := true, laidLooks := .later }
def PairingChecksUptoCardSaid : Prop := Claim7.holds Tryz.pinned (.plain (OpenSpec.upto pairingChecksSpec)) pairingChecksUptoCard

/-- THE SECOND FORM's CARD OF 'pharoslaw12.PairingOrder'. -/
def pairingOrderUptoCard : Claim7 := { stood := { row := pairingOrderUptoRow, standIns := [], harness := (true, "e65fe1d826ab8effba31d3363711c473cb67dfa7220b543af10da4b062e07cba"), looks := false }, kinds := [], alts := [], laidByText := true, laidKinds := [.data, .data, .data, .data, .data], laidTests := true, laidLooks := .later }
def PairingOrderUptoCardSaid : Prop := Claim7.holds Tryz.pinned (.plain (OpenSpec.upto pairingOrderSpec)) pairingOrderUptoCard

/-- THE SECOND FORM's CARD OF 'pharoslaw12.PairingTurns'. -/
def pairingTurnsUptoCard : Claim7 := { stood := { row := pairingTurnsUptoRow, standIns := [], harness := (true, "e65fe1d826ab8effba31d3363711c473cb67dfa7220b543af10da4b062e07cba"), looks := false }, kinds := [], alts := [], laidByText := true, laidKinds := [.data, .data, .data], laidTests := true, laidLooks := .later }
def PairingTurnsUptoCardSaid : Prop := Claim7.holds Tryz.pinned (.plain (OpenSpec.upto pairingTurnsSpec)) pairingTurnsUptoCard

/-- THE SECOND FORM's CARD OF 'pharoslaw12.PairingMoves'. -/
def pairingMovesUptoCard : Claim7 := { stood := { row := pairingMovesUptoRow, standIns := [], harness := (true, "e65fe1d826ab8effba31d3363711c473cb67dfa7220b543af10da4b062e07cba"), looks := false }, kinds := [], alts := [], laidByText := true, laidKinds := [.data, .data, .data, .data, .data], laidTests := true, laidLooks := .later }
def PairingMovesUptoCardSaid : Prop := Claim7.holds Tryz.pinned (.plain (OpenSpec.upto pairingMovesSpec)) pairingMovesUptoCard
end Rows
end Go.Proofs.YtpnpiblphnpfiaaGreatDoor
