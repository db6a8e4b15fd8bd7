/-
  NARROWER THAN 'FOR EVERY INPUT', by the rows' own cells (each row's printed sentence says how): PairingIs: laid · PairingFinal: laid · PairingBilinear: laid · PairingChecks: laid · PairingOrder: laid · PairingTurns: laid · PairingMoves: laid.
  DERIVED. THE GIVEN ROWS OF THIS SEAT. 7 by the template 'for every input the law returns true; each argument reads behind the call as it read before'; 0 by the template 'total and deterministic' (their statements: YtpnpiblphnpfiaaGreatDoorTotals.lean).
  GIVEN WITH THE SEED: the statements are not yours to turn. If you find one false, say at which input.
  Laid BY PROGRAM, IN A SANDBOX (cutbox-rows.mjs): the forced cells as the released guide's own fill.sh prints them over the translation ef42956b4eb1e5c0… (all of the seat's roots in one cut). By AI agents, Wed Nov 11 2026. No macro, syntax, notation, axiom, sorry.
-/
import Derived.Test.YtpnpiblphnpfiaaGreatDoorChecked
import GoSem.Claim
import GoSem.ClaimJoined
import GoSem.ClaimMapViews
import Derived.JoinedTies
import Derived.KernelRfl
namespace Go.Proofs.YtpnpiblphnpfiaaGreatDoor
/- THE CELL 'sum', in the pinned program and in every row, IS THE sha256 OF THE DUMP (.gsa) THAT YtpnpiblphnpfiaaGreatDoorProg.lean LOADS. Nothing in Lean hashes anything: it is a label: what it is worth is what the hold of that sum in a sandbox is worth. -/
noncomputable def Tryz.pinned : Pinned := { name := "ytpnpiblphnpfiaagreatdoor", sum := "ef42956b4eb1e5c01a59dbdd9a2c95f8f38f43cd72464b05471a1710a6ad7bdc", checked := Tryz.checked }
namespace Rows
def none {H : Type} : Left H := { results := [], args := [] }

/- WHAT THE LISTED PACKAGE-LEVEL VARIABLES READ AS WHEN THE CALL BEGINS. Each datum BY PROGRAM (the guide's laid-datum.mjs) off the statement by which the dump's own 'gosem.cut.vars' lays the variable. In a bare row this is a premise. The card (YtpnpiblphnpfiaaGreatDoorCards.lean) ties it to the program's text. -/
def laid_pharos_fp_inverting {H : Type} : DataW H := .agg [.lit (.int .u64 13402431016077863593), .lit (.int .u64 2210141511517208575), .lit (.int .u64 7435674573564081700), .lit (.int .u64 7239337960414712511), .lit (.int .u64 5412103778470702295), .lit (.int .u64 1873798617647539866)]
def laid_pharos_fp_modulus {H : Type} : DataW H := .agg [.lit (.int .u64 13402431016077863595), .lit (.int .u64 2210141511517208575), .lit (.int .u64 7435674573564081700), .lit (.int .u64 7239337960414712511), .lit (.int .u64 5412103778470702295), .lit (.int .u64 1873798617647539866)]
def laid_pharos_fp_lift {H : Type} : DataW H := .agg [.lit (.int .u64 17644856173732828998), .lit (.int .u64 754043588434789617), .lit (.int .u64 10224657059481499349), .lit (.int .u64 7488229067341005760), .lit (.int .u64 11130996698012816685), .lit (.int .u64 1267921511277847466)]
def laid_pharos_fr_modulus {H : Type} : DataW H := .agg [.lit (.int .u64 18446744069414584321), .lit (.int .u64 6034159408538082302), .lit (.int .u64 3691218898639771653), .lit (.int .u64 8353516859464449352), .lit (.int .u64 0), .lit (.int .u64 0)]
def laid_pharos_fr_lift {H : Type} : DataW H := .agg [.lit (.int .u64 14279814937963099055), .lit (.int .u64 1963020886675057040), .lit (.int .u64 8345518043873801240), .lit (.int .u64 7938258146690806761), .lit (.int .u64 0), .lit (.int .u64 0)]

/-- 'pharoslaw12.PairingIs': WHATEVER THE INPUT: true; the input reads as it did. -/
def pairingIsSpec : ChangeSpec := { name := "pairingIs", fn := fun _ => fun
  | [d1, d2, d3] => { results := [.lit (.bool true)], args := [d1, d2, d3] }
  | _ => none }
def pairingIsRow : OpenClaim := { program := "ytpnpiblphnpfiaagreatdoor", sum := "ef42956b4eb1e5c01a59dbdd9a2c95f8f38f43cd72464b05471a1710a6ad7bdc", func := "pharos/pharoslaw12.PairingIs", spec := "pairingIs", inPlace := ["math/bits.Add64", "math/bits.Sub64"], unfollowed := true, recurses := true, named := ["pharos/fp.modulus", "pharos/fp.lift", "pharos/fp.inverting"], apart := false, laid := [("pharos/fp.inverting", laid_pharos_fp_inverting), ("pharos/fp.modulus", laid_pharos_fp_modulus), ("pharos/fp.lift", laid_pharos_fp_lift)] }
def PairingIsSaid : Prop := pairingIsRow.holds Tryz.pinned (OpenSpec.ofChange pairingIsSpec)

/-- ITS FALSE NEIGHBOUR: 'it returns false'. Refute it at one input. -/
def pairingIsWrong : ChangeSpec := { name := "pairingIs", fn := fun _ => fun
  | [d1, d2, d3] => { results := [.lit (.bool false)], args := [d1, d2, d3] }
  | _ => none }
def PairingIsWrongFalsely : Prop := pairingIsRow.holds Tryz.pinned (OpenSpec.ofChange pairingIsWrong)

/-- 'pharoslaw12.PairingFinal': WHATEVER THE INPUT: true; the input reads as it did. -/
def pairingFinalSpec : ChangeSpec := { name := "pairingFinal", fn := fun _ => fun
  | [d] => { results := [.lit (.bool true)], args := [d] }
  | _ => none }
def pairingFinalRow : OpenClaim := { program := "ytpnpiblphnpfiaagreatdoor", sum := "ef42956b4eb1e5c01a59dbdd9a2c95f8f38f43cd72464b05471a1710a6ad7bdc", func := "pharos/pharoslaw12.PairingFinal", spec := "pairingFinal", inPlace := ["math/bits.Add64", "math/bits.Sub64"], unfollowed := true, recurses := true, named := ["pharos/fp.modulus", "pharos/fp.lift", "pharos/fp.inverting"], apart := false, laid := [("pharos/fp.inverting", laid_pharos_fp_inverting), ("pharos/fp.modulus", laid_pharos_fp_modulus), ("pharos/fp.lift", laid_pharos_fp_lift)] }
def PairingFinalSaid : Prop := pairingFinalRow.holds Tryz.pinned (OpenSpec.ofChange pairingFinalSpec)

/-- ITS FALSE NEIGHBOUR: 'it returns false'. Refute it at one input. -/
def pairingFinalWrong : ChangeSpec := { name := "pairingFinal", fn := fun _ => fun
  | [d] => { results := [.lit (.bool false)], args := [d] }
  | _ => none }
def PairingFinalWrongFalsely : Prop := pairingFinalRow.holds Tryz.pinned (OpenSpec.ofChange pairingFinalWrong)

/-- 'pharoslaw12.PairingBilinear': WHATEVER THE INPUT: true; the input reads as it did. -/
def pairingBilinearSpec : ChangeSpec := { name := "pairingBilinear", fn := fun _ => fun
  | [d1, d2, d3, d4] => { results := [.lit (.bool true)], args := [d1, d2, d3, d4] }
  | _ => none }
def pairingBilinearRow : OpenClaim := { program := "ytpnpiblphnpfiaagreatdoor", sum := "ef42956b4eb1e5c01a59dbdd9a2c95f8f38f43cd72464b05471a1710a6ad7bdc", func := "pharos/pharoslaw12.PairingBilinear", spec := "pairingBilinear", inPlace := ["math/bits.Add64", "math/bits.Sub64"], unfollowed := true, recurses := true, named := ["pharos/fp.modulus", "pharos/fp.lift", "pharos/fp.inverting", "pharos/fr.lift", "pharos/fr.modulus"], apart := false, laid := [("pharos/fp.inverting", laid_pharos_fp_inverting), ("pharos/fp.modulus", laid_pharos_fp_modulus), ("pharos/fp.lift", laid_pharos_fp_lift), ("pharos/fr.modulus", laid_pharos_fr_modulus), ("pharos/fr.lift", laid_pharos_fr_lift)] }
def PairingBilinearSaid : Prop := pairingBilinearRow.holds Tryz.pinned (OpenSpec.ofChange pairingBilinearSpec)

/-- ITS FALSE NEIGHBOUR: 'it returns false'. Refute it at one input. -/
def pairingBilinearWrong : ChangeSpec := { name := "pairingBilinear", fn := fun _ => fun
  | [d1, d2, d3, d4] => { results := [.lit (.bool false)], args := [d1, d2, d3, d4] }
  | _ => none }
def PairingBilinearWrongFalsely : Prop := pairingBilinearRow.holds Tryz.pinned (OpenSpec.ofChange pairingBilinearWrong)

/-- 'pharoslaw12.PairingChecks': WHATEVER THE INPUT: true; the input reads as it did. -/
def pairingChecksSpec : ChangeSpec := { name := "pairingChecks", fn := fun _ => fun
  | [d1, d2, d3] => { results := [.lit (.bool true)], args := [d1, d2, d3] }
  | _ => none }
def pairingChecksRow : OpenClaim := { program := "ytpnpiblphnpfiaagreatdoor", sum := "ef42956b4eb1e5c01a59dbdd9a2c95f8f38f43cd72464b05471a1710a6ad7bdc", func := "pharos/pharoslaw12.PairingChecks", spec := "pairingChecks", inPlace := ["math/bits.Add64", "math/bits.Sub64"], unfollowed := true, recurses := true, named := ["pharos/fp.modulus", "pharos/fp.lift", "pharos/fp.inverting", "pharos/fr.lift", "pharos/fr.modulus"], apart := false, laid := [("pharos/fp.inverting", laid_pharos_fp_inverting), ("pharos/fp.modulus", laid_pharos_fp_modulus), ("pharos/fp.lift", laid_pharos_fp_lift), ("pharos/fr.modulus", laid_pharos_fr_modulus), ("pharos/fr.lift", laid_pharos_fr_lift)] }
def PairingChecksSaid : Prop := pairingChecksRow.holds Tryz.pinned (OpenSpec.ofChange pairingChecksSpec)

/-- ITS FALSE NEIGHBOUR: 'it returns false'. Refute it at one input. -/
def pairingChecksWrong : ChangeSpec := { name := "pairingChecks", fn := fun _ => fun
  | [d1, d2, d3] => { results := [.lit (.bool false)], args := [d1, d2, d3] }
  | _ => none }
def PairingChecksWrongFalsely : Prop := pairingChecksRow.holds Tryz.pinned (OpenSpec.ofChange pairingChecksWrong)

/-- 'pharoslaw12.PairingOrder': WHATEVER THE INPUT: true; the input reads as it did. -/
def pairingOrderSpec : ChangeSpec := { name := "pairingOrder", fn := fun _ => fun
  | [d] => { results := [.lit (.bool true)], args := [d] }
  | _ => none }
def pairingOrderRow : OpenClaim := { program := "ytpnpiblphnpfiaagreatdoor", sum := "ef42956b4eb1e5c01a59dbdd9a2c95f8f38f43cd72464b05471a1710a6ad7bdc", func := "pharos/pharoslaw12.PairingOrder", spec := "pairingOrder", inPlace := ["math/bits.Add64", "math/bits.Sub64"], unfollowed := true, recurses := true, named := ["pharos/fp.modulus", "pharos/fp.lift", "pharos/fp.inverting", "pharos/fr.lift", "pharos/fr.modulus"], apart := false, laid := [("pharos/fp.inverting", laid_pharos_fp_inverting), ("pharos/fp.modulus", laid_pharos_fp_modulus), ("pharos/fp.lift", laid_pharos_fp_lift), ("pharos/fr.modulus", laid_pharos_fr_modulus), ("pharos/fr.lift", laid_pharos_fr_lift)] }
def PairingOrderSaid : Prop := pairingOrderRow.holds Tryz.pinned (OpenSpec.ofChange pairingOrderSpec)

/-- ITS FALSE NEIGHBOUR: 'it returns false'. Refute it at one input. -/
def pairingOrderWrong : ChangeSpec := { name := "pairingOrder", fn := fun _ => fun
  | [d] => { results := [.lit (.bool false)], args := [d] }
  | _ => none }
def PairingOrderWrongFalsely : Prop := pairingOrderRow.holds Tryz.pinned (OpenSpec.ofChange pairingOrderWrong)

/-- 'pharoslaw12.PairingTurns': WHATEVER THE INPUT: true; the input reads as it did. -/
def pairingTurnsSpec : ChangeSpec := { name := "pairingTurns", fn := fun _ => fun
  | [d1, d2] => { results := [.lit (.bool true)], args := [d1, d2] }
  | _ => none }
def pairingTurnsRow : OpenClaim := { program := "ytpnpiblphnpfiaagreatdoor", sum := "ef42956b4eb1e5c01a59dbdd9a2c95f8f38f43cd72464b05471a1710a6ad7bdc", func := "pharos/pharoslaw12.PairingTurns", spec := "pairingTurns", inPlace := ["math/bits.Add64", "math/bits.Sub64"], unfollowed := true, recurses := true, named := ["pharos/fp.modulus", "pharos/fp.lift", "pharos/fp.inverting"], apart := false, laid := [("pharos/fp.inverting", laid_pharos_fp_inverting), ("pharos/fp.modulus", laid_pharos_fp_modulus), ("pharos/fp.lift", laid_pharos_fp_lift)] }
def PairingTurnsSaid : Prop := pairingTurnsRow.holds Tryz.pinned (OpenSpec.ofChange pairingTurnsSpec)

/-- ITS FALSE NEIGHBOUR: 'it returns false'. Refute it at one input. -/
def pairingTurnsWrong : ChangeSpec := { name := "pairingTurns", fn := fun _ => fun
  | [d1, d2] => { results := [.lit (.bool false)], args := [d1, d2] }
  | _ => none }
def PairingTurnsWrongFalsely : Prop := pairingTurnsRow.holds Tryz.pinned (OpenSpec.ofChange pairingTurnsWrong)

/-- 'pharoslaw12.PairingMoves': WHATEVER THE INPUT: true; the input reads as it did. -/
def pairingMovesSpec : ChangeSpec := { name := "pairingMoves", fn := fun _ => fun
  | [d1, d2, d3] => { results := [.lit (.bool true)], args := [d1, d2, d3] }
  | _ => none }
def pairingMovesRow : OpenClaim := { program := "ytpnpiblphnpfiaagreatdoor", sum := "ef42956b4eb1e5c01a59dbdd9a2c95f8f38f43cd72464b05471a1710a6ad7bdc", func := "pharos/pharoslaw12.PairingMoves", spec := "pairingMoves", inPlace := ["math/bits.Add64", "math/bits.Sub64"], unfollowed := true, recurses := true, named := ["pharos/fp.modulus", "pharos/fp.lift", "pharos/fp.inverting", "pharos/fr.lift", "pharos/fr.modulus"], apart := false, laid := [("pharos/fp.inverting", laid_pharos_fp_inverting), ("pharos/fp.modulus", laid_pharos_fp_modulus), ("pharos/fp.lift", laid_pharos_fp_lift), ("pharos/fr.modulus", laid_pharos_fr_modulus), ("pharos/fr.lift", laid_pharos_fr_lift)] }
def PairingMovesSaid : Prop := pairingMovesRow.holds Tryz.pinned (OpenSpec.ofChange pairingMovesSpec)

/-- ITS FALSE NEIGHBOUR: 'it returns false'. Refute it at one input. -/
def pairingMovesWrong : ChangeSpec := { name := "pairingMoves", fn := fun _ => fun
  | [d1, d2, d3] => { results := [.lit (.bool false)], args := [d1, d2, d3] }
  | _ => none }
def PairingMovesWrongFalsely : Prop := pairingMovesRow.holds Tryz.pinned (OpenSpec.ofChange pairingMovesWrong)

/- THE SECOND FORM. 'bulk': how many values and letters a reading holds, each counted each time it is reached (what is shared counts as often as it is met; a slice's spare places count too). A statement '..UptoSaid' is the law's where the arguments, and the package variables that the reading takes, are together of bulk at most 1048576: NARROWER than '..Said'. Prove '..Said' where nothing that the law and all that it calls make is longer than what came in: it says more and counts as full. Else prove '..UptoSaid'. A law counts once. -/
mutual
def uptoBulk {H : Type} : DataW H → Nat
  | .lit (.string bytes) => bytes.length + 1
  | .lit _ => 1
  | .nil => 1
  | .ptr d => uptoBulk d + 1
  | .slice elems spare => uptoBulkAll elems + uptoBulkAll spare + 1
  | .agg parts => uptoBulkAll parts + 1
  | .iface _ d => uptoBulk d + 1
  | .map entries => uptoBulkEntries entries + 1
  | .held _ => 1
def uptoBulkAll {H : Type} : List (DataW H) → Nat
  | [] => 0
  | d :: r => uptoBulk d + uptoBulkAll r
def uptoBulkEntries {H : Type} : List (Lit × DataW H) → Nat
  | [] => 0
  | x :: r => uptoBulkEntry x + uptoBulkEntries r
def uptoBulkEntry {H : Type} : Lit × DataW H → Nat
  | (.string bytes, d) => bytes.length + uptoBulk d + 1
  | (_, d) => uptoBulk d + 1
 end
def uptoSmall : (H : Type) → List (DataW H) → Bool := fun _ ds => decide (uptoBulkAll ds ≤ 1048576)
def OpenSpec.upto (s : _root_.Go.ChangeSpec) : _root_.Go.OpenSpec := { _root_.Go.OpenSpec.ofChange s with cond := some uptoSmall }

/-- 'pharoslaw12.PairingIs', WHERE WHAT IT READS IS OF BULK AT MOST 1048576: true; the input reads as it did. -/
def pairingIsUptoRow : OpenClaim := { program := "ytpnpiblphnpfiaagreatdoor", sum := "ef42956b4eb1e5c01a59dbdd9a2c95f8f38f43cd72464b05471a1710a6ad7bdc", func := "pharos/pharoslaw12.PairingIs", spec := "pairingIs", inPlace := ["math/bits.Add64", "math/bits.Sub64"], unfollowed := true, recurses := true, named := ["pharos/fp.modulus", "pharos/fp.lift", "pharos/fp.inverting"], apart := false, laid := [("pharos/fp.inverting", laid_pharos_fp_inverting), ("pharos/fp.modulus", laid_pharos_fp_modulus), ("pharos/fp.lift", laid_pharos_fp_lift)], narrowed := true }
def PairingIsUptoSaid : Prop := pairingIsUptoRow.holds Tryz.pinned (OpenSpec.upto pairingIsSpec)

/-- 'pharoslaw12.PairingFinal', WHERE WHAT IT READS IS OF BULK AT MOST 1048576: true; the input reads as it did. -/
def pairingFinalUptoRow : OpenClaim := { program := "ytpnpiblphnpfiaagreatdoor", sum := "ef42956b4eb1e5c01a59dbdd9a2c95f8f38f43cd72464b05471a1710a6ad7bdc", func := "pharos/pharoslaw12.PairingFinal", spec := "pairingFinal", inPlace := ["math/bits.Add64", "math/bits.Sub64"], unfollowed := true, recurses := true, named := ["pharos/fp.modulus", "pharos/fp.lift", "pharos/fp.inverting"], apart := false, laid := [("pharos/fp.inverting", laid_pharos_fp_inverting), ("pharos/fp.modulus", laid_pharos_fp_modulus), ("pharos/fp.lift", laid_pharos_fp_lift)], narrowed := true }
def PairingFinalUptoSaid : Prop := pairingFinalUptoRow.holds Tryz.pinned (OpenSpec.upto pairingFinalSpec)

/-- 'pharoslaw12.PairingBilinear', WHERE WHAT IT READS IS OF BULK AT MOST 1048576: true; the input reads as it did. -/
def pairingBilinearUptoRow : OpenClaim := { program := "ytpnpiblphnpfiaagreatdoor", sum := "ef42956b4eb1e5c01a59dbdd9a2c95f8f38f43cd72464b05471a1710a6ad7bdc", func := "pharos/pharoslaw12.PairingBilinear", spec := "pairingBilinear", inPlace := ["math/bits.Add64", "math/bits.Sub64"], unfollowed := true, recurses := true, named := ["pharos/fp.modulus", "pharos/fp.lift", "pharos/fp.inverting", "pharos/fr.lift", "pharos/fr.modulus"], apart := false, laid := [("pharos/fp.inverting", laid_pharos_fp_inverting), ("pharos/fp.modulus", laid_pharos_fp_modulus), ("pharos/fp.lift", laid_pharos_fp_lift), ("pharos/fr.modulus", laid_pharos_fr_modulus), ("pharos/fr.lift", laid_pharos_fr_lift)], narrowed := true }
def PairingBilinearUptoSaid : Prop := pairingBilinearUptoRow.holds Tryz.pinned (OpenSpec.upto pairingBilinearSpec)

/-- 'pharoslaw12.PairingChecks', WHERE WHAT IT READS IS OF BULK AT MOST 1048576: true; the input reads as it did. -/
def pairingChecksUptoRow : OpenClaim := { program := "ytpnpiblphnpfiaagreatdoor", sum := "ef42956b4eb1e5c01a59dbdd9a2c95f8f38f43cd72464b05471a1710a6ad7bdc", func := "pharos/pharoslaw12.PairingChecks", spec := "pairingChecks", inPlace := ["math/bits.Add64", "math/bits.Sub64"], unfollowed := true, recurses := true, named := ["pharos/fp.modulus", "pharos/fp.lift", "pharos/fp.inverting", "pharos/fr.lift", "pharos/fr.modulus"], apart := false, laid := [("pharos/fp.inverting", laid_pharos_fp_inverting), ("pharos/fp.modulus", laid_pharos_fp_modulus), ("pharos/fp.lift", laid_pharos_fp_lift), ("pharos/fr.modulus", laid_pharos_fr_modulus), ("pharos/fr.lift", laid_pharos_fr_lift)], narrowed := true }
def PairingChecksUptoSaid : Prop := pairingChecksUptoRow.holds Tryz.pinned (OpenSpec.upto pairingChecksSpec)

/-- 'pharoslaw12.PairingOrder', WHERE WHAT IT READS IS OF BULK AT MOST 1048576: true; the input reads as it did. -/
def pairingOrderUptoRow : OpenClaim := { program := "ytpnpiblphnpfiaagreatdoor", sum := "ef42956b4eb1e5c01a59dbdd9a2c95f8f38f43cd72464b05471a1710a6ad7bdc", func := "pharos/pharoslaw12.PairingOrder", spec := "pairingOrder", inPlace := ["math/bits.Add64", "math/bits.Sub64"], unfollowed := true, recurses := true, named := ["pharos/fp.modulus", "pharos/fp.lift", "pharos/fp.inverting", "pharos/fr.lift", "pharos/fr.modulus"], apart := false, laid := [("pharos/fp.inverting", laid_pharos_fp_inverting), ("pharos/fp.modulus", laid_pharos_fp_modulus), ("pharos/fp.lift", laid_pharos_fp_lift), ("pharos/fr.modulus", laid_pharos_fr_modulus), ("pharos/fr.lift", laid_pharos_fr_lift)], narrowed := true }
def PairingOrderUptoSaid : Prop := pairingOrderUptoRow.holds Tryz.pinned (OpenSpec.upto pairingOrderSpec)

/-- 'pharoslaw12.PairingTurns', WHERE WHAT IT READS IS OF BULK AT MOST 1048576: true; the input reads as it did. -/
def pairingTurnsUptoRow : OpenClaim := { program := "ytpnpiblphnpfiaagreatdoor", sum := "ef42956b4eb1e5c01a59dbdd9a2c95f8f38f43cd72464b05471a1710a6ad7bdc", func := "pharos/pharoslaw12.PairingTurns", spec := "pairingTurns", inPlace := ["math/bits.Add64", "math/bits.Sub64"], unfollowed := true, recurses := true, named := ["pharos/fp.modulus", "pharos/fp.lift", "pharos/fp.inverting"], apart := false, laid := [("pharos/fp.inverting", laid_pharos_fp_inverting), ("pharos/fp.modulus", laid_pharos_fp_modulus), ("pharos/fp.lift", laid_pharos_fp_lift)], narrowed := true }
def PairingTurnsUptoSaid : Prop := pairingTurnsUptoRow.holds Tryz.pinned (OpenSpec.upto pairingTurnsSpec)

/-- 'pharoslaw12.PairingMoves', WHERE WHAT IT READS IS OF BULK AT MOST 1048576: true; the input reads as it did. -/
def pairingMovesUptoRow : OpenClaim := { program := "ytpnpiblphnpfiaagreatdoor", sum := "ef42956b4eb1e5c01a59dbdd9a2c95f8f38f43cd72464b05471a1710a6ad7bdc", func := "pharos/pharoslaw12.PairingMoves", spec := "pairingMoves", inPlace := ["math/bits.Add64", "math/bits.Sub64"], unfollowed := true, recurses := true, named := ["pharos/fp.modulus", "pharos/fp.lift", "pharos/fp.inverting", "pharos/fr.lift", "pharos/fr.modulus"], apart := false, laid := [("pharos/fp.inverting", laid_pharos_fp_inverting), ("pharos/fp.modulus", laid_pharos_fp_modulus), ("pharos/fp.lift", laid_pharos_fp_lift), ("pharos/fr.modulus", laid_pharos_fr_modulus), ("pharos/fr.lift", laid_pharos_fr_lift)], narrowed := true }
def PairingMovesUptoSaid : Prop := pairingMovesUptoRow.holds Tryz.pinned (OpenSpec.upto pairingMovesSpec)

end Rows
end Go.Proofs.YtpnpiblphnpfiaaGreatDoor
