/-
  NARROWER THAN 'FOR EVERY INPUT', by the rows' own cells (each row's printed sentence says how): FrBytes: laid · FrReckons: laid · FrLaws: laid · FrBits: laid.
  DERIVED. THE GIVEN ROWS OF THIS SEAT. 4 by the template 'for every input the law returns true; each argument reads behind the call as it read before'; 0 by the template 'total and deterministic' (their statements: YtgogiehnilpepaaDoorTotals.lean).
  GIVEN WITH THE SEED: the statements are not yours to turn. If you find one false, say at which input.
  Laid BY PROGRAM, IN A SANDBOX (cutbox-rows.mjs): the forced cells as the released guide's own fill.sh prints them over the translation a60c4e5dd9a483d1… (all of the seat's roots in one cut). By AI agents, Wed Nov 11 2026. No macro, syntax, notation, axiom, sorry.
-/
import Derived.Test.YtgogiehnilpepaaDoorChecked
import GoSem.Claim
import GoSem.ClaimJoined
import GoSem.ClaimMapViews
import Derived.JoinedTies
import Derived.KernelRfl
namespace Go.Proofs.YtgogiehnilpepaaDoor
/- THE CELL 'sum', in the pinned program and in every row, IS THE sha256 OF THE DUMP (.gsa) THAT YtgogiehnilpepaaDoorProg.lean LOADS. Nothing in Lean hashes anything: it is a label: what it is worth is what the hold of that sum in a sandbox is worth. -/
noncomputable def Tryd.pinned : Pinned := { name := "ytgogiehnilpepaadoor", sum := "a60c4e5dd9a483d16c490aa5a803094c209daa45aade976c2bff91eddbedef01", checked := Tryd.checked }
namespace Rows
def none {H : Type} : Left H := { results := [], args := [] }

/- WHAT THE LISTED PACKAGE-LEVEL VARIABLES READ AS WHEN THE CALL BEGINS. Each datum BY PROGRAM (the guide's laid-datum.mjs) off the statement by which the dump's own 'gosem.cut.vars' lays the variable. In a bare row this is a premise. The card (YtgogiehnilpepaaDoorCards.lean) ties it to the program's text. -/
def laid_pharos_fr_inverting {H : Type} : DataW H := .agg [.lit (.int .u64 18446744069414584319), .lit (.int .u64 6034159408538082302), .lit (.int .u64 3691218898639771653), .lit (.int .u64 8353516859464449352), .lit (.int .u64 0), .lit (.int .u64 0)]
def laid_pharos_fr_modulus {H : Type} : DataW H := .agg [.lit (.int .u64 18446744069414584321), .lit (.int .u64 6034159408538082302), .lit (.int .u64 3691218898639771653), .lit (.int .u64 8353516859464449352), .lit (.int .u64 0), .lit (.int .u64 0)]
def laid_pharos_fr_lift {H : Type} : DataW H := .agg [.lit (.int .u64 14279814937963099055), .lit (.int .u64 1963020886675057040), .lit (.int .u64 8345518043873801240), .lit (.int .u64 7938258146690806761), .lit (.int .u64 0), .lit (.int .u64 0)]

/-- 'pharoslaw4.FrBytes': WHATEVER THE INPUT: true; the input reads as it did. -/
def frBytesSpec : ChangeSpec := { name := "frBytes", fn := fun _ => fun
  | [d1, d2, d3] => { results := [.lit (.bool true)], args := [d1, d2, d3] }
  | _ => none }
def frBytesRow : OpenClaim := { program := "ytgogiehnilpepaadoor", sum := "a60c4e5dd9a483d16c490aa5a803094c209daa45aade976c2bff91eddbedef01", func := "pharos/pharoslaw4.FrBytes", spec := "frBytes", inPlace := ["math/bits.Add64", "math/bits.Sub64"], unfollowed := true, recurses := true, named := ["pharos/fr.inverting", "pharos/fr.modulus", "pharos/fr.lift"], apart := false, laid := [("pharos/fr.inverting", laid_pharos_fr_inverting), ("pharos/fr.modulus", laid_pharos_fr_modulus), ("pharos/fr.lift", laid_pharos_fr_lift)] }
def FrBytesSaid : Prop := frBytesRow.holds Tryd.pinned (OpenSpec.ofChange frBytesSpec)

/-- ITS FALSE NEIGHBOUR: 'it returns false'. Refute it at one input. -/
def frBytesWrong : ChangeSpec := { name := "frBytes", fn := fun _ => fun
  | [d1, d2, d3] => { results := [.lit (.bool false)], args := [d1, d2, d3] }
  | _ => none }
def FrBytesWrongFalsely : Prop := frBytesRow.holds Tryd.pinned (OpenSpec.ofChange frBytesWrong)

/-- 'pharoslaw4.FrReckons': WHATEVER THE INPUT: true; the input reads as it did. -/
def frReckonsSpec : ChangeSpec := { name := "frReckons", fn := fun _ => fun
  | [d1, d2] => { results := [.lit (.bool true)], args := [d1, d2] }
  | _ => none }
def frReckonsRow : OpenClaim := { program := "ytgogiehnilpepaadoor", sum := "a60c4e5dd9a483d16c490aa5a803094c209daa45aade976c2bff91eddbedef01", func := "pharos/pharoslaw4.FrReckons", spec := "frReckons", inPlace := ["math/bits.Add64", "math/bits.Sub64"], unfollowed := true, recurses := true, named := ["pharos/fr.inverting", "pharos/fr.modulus", "pharos/fr.lift"], apart := false, laid := [("pharos/fr.inverting", laid_pharos_fr_inverting), ("pharos/fr.modulus", laid_pharos_fr_modulus), ("pharos/fr.lift", laid_pharos_fr_lift)] }
def FrReckonsSaid : Prop := frReckonsRow.holds Tryd.pinned (OpenSpec.ofChange frReckonsSpec)

/-- ITS FALSE NEIGHBOUR: 'it returns false'. Refute it at one input. -/
def frReckonsWrong : ChangeSpec := { name := "frReckons", fn := fun _ => fun
  | [d1, d2] => { results := [.lit (.bool false)], args := [d1, d2] }
  | _ => none }
def FrReckonsWrongFalsely : Prop := frReckonsRow.holds Tryd.pinned (OpenSpec.ofChange frReckonsWrong)

/-- 'pharoslaw4.FrLaws': WHATEVER THE INPUT: true; the input reads as it did. -/
def frLawsSpec : ChangeSpec := { name := "frLaws", fn := fun _ => fun
  | [d1, d2, d3] => { results := [.lit (.bool true)], args := [d1, d2, d3] }
  | _ => none }
def frLawsRow : OpenClaim := { program := "ytgogiehnilpepaadoor", sum := "a60c4e5dd9a483d16c490aa5a803094c209daa45aade976c2bff91eddbedef01", func := "pharos/pharoslaw4.FrLaws", spec := "frLaws", inPlace := ["math/bits.Add64", "math/bits.Sub64"], unfollowed := true, recurses := true, named := ["pharos/fr.inverting", "pharos/fr.modulus", "pharos/fr.lift"], apart := false, laid := [("pharos/fr.inverting", laid_pharos_fr_inverting), ("pharos/fr.modulus", laid_pharos_fr_modulus), ("pharos/fr.lift", laid_pharos_fr_lift)] }
def FrLawsSaid : Prop := frLawsRow.holds Tryd.pinned (OpenSpec.ofChange frLawsSpec)

/-- ITS FALSE NEIGHBOUR: 'it returns false'. Refute it at one input. -/
def frLawsWrong : ChangeSpec := { name := "frLaws", fn := fun _ => fun
  | [d1, d2, d3] => { results := [.lit (.bool false)], args := [d1, d2, d3] }
  | _ => none }
def FrLawsWrongFalsely : Prop := frLawsRow.holds Tryd.pinned (OpenSpec.ofChange frLawsWrong)

/-- 'pharoslaw4.FrBits': WHATEVER THE INPUT: true; the input reads as it did. -/
def frBitsSpec : ChangeSpec := { name := "frBits", fn := fun _ => fun
  | [d1, d2] => { results := [.lit (.bool true)], args := [d1, d2] }
  | _ => none }
def frBitsRow : OpenClaim := { program := "ytgogiehnilpepaadoor", sum := "a60c4e5dd9a483d16c490aa5a803094c209daa45aade976c2bff91eddbedef01", func := "pharos/pharoslaw4.FrBits", spec := "frBits", inPlace := ["math/bits.Add64", "math/bits.Sub64"], unfollowed := true, recurses := true, named := ["pharos/fr.inverting", "pharos/fr.modulus", "pharos/fr.lift"], apart := false, laid := [("pharos/fr.inverting", laid_pharos_fr_inverting), ("pharos/fr.modulus", laid_pharos_fr_modulus), ("pharos/fr.lift", laid_pharos_fr_lift)] }
def FrBitsSaid : Prop := frBitsRow.holds Tryd.pinned (OpenSpec.ofChange frBitsSpec)

/-- ITS FALSE NEIGHBOUR: 'it returns false'. Refute it at one input. -/
def frBitsWrong : ChangeSpec := { name := "frBits", fn := fun _ => fun
  | [d1, d2] => { results := [.lit (.bool false)], args := [d1, d2] }
  | _ => none }
def FrBitsWrongFalsely : Prop := frBitsRow.holds Tryd.pinned (OpenSpec.ofChange frBitsWrong)

/- THE SECOND FORM. 'bulk': how many values and letters a reading holds, each counted each time it is reached (what is shared counts as often as it is met; a slice's spare places count too). A statement '..UptoSaid' is the law's where the arguments, and the package variables that the reading takes, are together of bulk at most 1048576: NARROWER than '..Said'. Prove '..Said' where nothing that the law and all that it calls make is longer than what came in: it says more and counts as full. Else prove '..UptoSaid'. A law counts once. -/
mutual
def uptoBulk {H : Type} : DataW H → Nat
  | .lit (.string bytes) => bytes.length + 1
  | .lit _ => 1
  | .nil => 1
  | .ptr d => uptoBulk d + 1
  | .slice elems spare => uptoBulkAll elems + uptoBulkAll spare + 1
  | .agg parts => uptoBulkAll parts + 1
  | .iface _ d => uptoBulk d + 1
  | .map entries => uptoBulkEntries entries + 1
  | .held _ => 1
def uptoBulkAll {H : Type} : List (DataW H) → Nat
  | [] => 0
  | d :: r => uptoBulk d + uptoBulkAll r
def uptoBulkEntries {H : Type} : List (Lit × DataW H) → Nat
  | [] => 0
  | x :: r => uptoBulkEntry x + uptoBulkEntries r
def uptoBulkEntry {H : Type} : Lit × DataW H → Nat
  | (.string bytes, d) => bytes.length + uptoBulk d + 1
  | (_, d) => uptoBulk d + 1
 end
def uptoSmall : (H : Type) → List (DataW H) → Bool := fun _ ds => decide (uptoBulkAll ds ≤ 1048576)
def OpenSpec.upto (s : _root_.Go.ChangeSpec) : _root_.Go.OpenSpec := { _root_.Go.OpenSpec.ofChange s with cond := some uptoSmall }

/-- 'pharoslaw4.FrBytes', WHERE WHAT IT READS IS OF BULK AT MOST 1048576: true; the input reads as it did. -/
def frBytesUptoRow : OpenClaim := { program := "ytgogiehnilpepaadoor", sum := "a60c4e5dd9a483d16c490aa5a803094c209daa45aade976c2bff91eddbedef01", func := "pharos/pharoslaw4.FrBytes", spec := "frBytes", inPlace := ["math/bits.Add64", "math/bits.Sub64"], unfollowed := true, recurses := true, named := ["pharos/fr.inverting", "pharos/fr.modulus", "pharos/fr.lift"], apart := false, laid := [("pharos/fr.inverting", laid_pharos_fr_inverting), ("pharos/fr.modulus", laid_pharos_fr_modulus), ("pharos/fr.lift", laid_pharos_fr_lift)], narrowed := true }
def FrBytesUptoSaid : Prop := frBytesUptoRow.holds Tryd.pinned (OpenSpec.upto frBytesSpec)

/-- 'pharoslaw4.FrReckons', WHERE WHAT IT READS IS OF BULK AT MOST 1048576: true; the input reads as it did. -/
def frReckonsUptoRow : OpenClaim := { program := "ytgogiehnilpepaadoor", sum := "a60c4e5dd9a483d16c490aa5a803094c209daa45aade976c2bff91eddbedef01", func := "pharos/pharoslaw4.FrReckons", spec := "frReckons", inPlace := ["math/bits.Add64", "math/bits.Sub64"], unfollowed := true, recurses := true, named := ["pharos/fr.inverting", "pharos/fr.modulus", "pharos/fr.lift"], apart := false, laid := [("pharos/fr.inverting", laid_pharos_fr_inverting), ("pharos/fr.modulus", laid_pharos_fr_modulus), ("pharos/fr.lift", laid_pharos_fr_lift)], narrowed := true }
def FrReckonsUptoSaid : Prop := frReckonsUptoRow.holds Tryd.pinned (OpenSpec.upto frReckonsSpec)

/-- 'pharoslaw4.FrLaws', WHERE WHAT IT READS IS OF BULK AT MOST 1048576: true; the input reads as it did. -/
def frLawsUptoRow : OpenClaim := { program := "ytgogiehnilpepaadoor", sum := "a60c4e5dd9a483d16c490aa5a803094c209daa45aade976c2bff91eddbedef01", func := "pharos/pharoslaw4.FrLaws", spec := "frLaws", inPlace := ["math/bits.Add64", "math/bits.Sub64"], unfollowed := true, recurses := true, named := ["pharos/fr.inverting", "pharos/fr.modulus", "pharos/fr.lift"], apart := false, laid := [("pharos/fr.inverting", laid_pharos_fr_inverting), ("pharos/fr.modulus", laid_pharos_fr_modulus), ("pharos/fr.lift", laid_pharos_fr_lift)], narrowed := true }
def FrLawsUptoSaid : Prop := frLawsUptoRow.holds Tryd.pinned (OpenSpec.upto frLawsSpec)

/-- 'pharoslaw4.FrBits', WHERE WHAT IT READS IS OF BULK AT MOST 1048576: true; the input reads as it did. -/
def frBitsUptoRow : OpenClaim := { program := "ytgogiehnilpepaadoor", sum := "a60c4e5dd9a483d16c490aa5a803094c209daa45aade976c2bff91eddbedef01", func := "pharos/pharoslaw4.FrBits", spec := "frBits", inPlace := ["math/bits.Add64", "math/bits.Sub64"], unfollowed := true, recurses := true, named := ["pharos/fr.inverting", "pharos/fr.modulus", "pharos/fr.lift"], apart := false, laid := [("pharos/fr.inverting", laid_pharos_fr_inverting), ("pharos/fr.modulus", laid_pharos_fr_modulus), ("pharos/fr.lift", laid_pharos_fr_lift)], narrowed := true }
def FrBitsUptoSaid : Prop := frBitsUptoRow.holds Tryd.pinned (OpenSpec.upto frBitsSpec)

end Rows
end Go.Proofs.YtgogiehnilpepaaDoor
