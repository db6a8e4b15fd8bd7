/-
  NARROWER THAN 'FOR EVERY INPUT', by the rows' own cells (each row's printed sentence says how): MillerLines: laid · MillerLoops: laid.
  DERIVED. THE GIVEN ROWS OF THIS SEAT. 2 by the template 'for every input the law returns true; each argument reads behind the call as it read before'; 0 by the template 'total and deterministic' (their statements: YthkmeodnlidpfaaGreatDoorTotals.lean).
  GIVEN WITH THE SEED: the statements are not yours to turn. If you find one false, say at which input.
  Laid BY PROGRAM, IN A SANDBOX (cutbox-rows.mjs): the forced cells as the released guide's own fill.sh prints them over the translation 97a5e042b88938a4… (all of the seat's roots in one cut). By AI agents, Wed Nov 11 2026. No macro, syntax, notation, axiom, sorry.
-/
import Derived.Test.YthkmeodnlidpfaaGreatDoorChecked
import GoSem.Claim
import GoSem.ClaimJoined
import GoSem.ClaimMapViews
import Derived.JoinedTies
import Derived.KernelRfl
namespace Go.Proofs.YthkmeodnlidpfaaGreatDoor
/- THE CELL 'sum', in the pinned program and in every row, IS THE sha256 OF THE DUMP (.gsa) THAT YthkmeodnlidpfaaGreatDoorProg.lean LOADS. Nothing in Lean hashes anything: it is a label: what it is worth is what the hold of that sum in a sandbox is worth. -/
noncomputable def Tryz.pinned : Pinned := { name := "ythkmeodnlidpfaagreatdoor", sum := "97a5e042b88938a46e3370b3e7f76506f14815d12f34a704ef4ff1f186e4d57a", checked := Tryz.checked }
namespace Rows
def none {H : Type} : Left H := { results := [], args := [] }

/- WHAT THE LISTED PACKAGE-LEVEL VARIABLES READ AS WHEN THE CALL BEGINS. Each datum BY PROGRAM (the guide's laid-datum.mjs) off the statement by which the dump's own 'gosem.cut.vars' lays the variable. In a bare row this is a premise. The card (YthkmeodnlidpfaaGreatDoorCards.lean) ties it to the program's text. -/
def laid_pharos_fp_inverting {H : Type} : DataW H := .agg [.lit (.int .u64 13402431016077863593), .lit (.int .u64 2210141511517208575), .lit (.int .u64 7435674573564081700), .lit (.int .u64 7239337960414712511), .lit (.int .u64 5412103778470702295), .lit (.int .u64 1873798617647539866)]
def laid_pharos_fp_modulus {H : Type} : DataW H := .agg [.lit (.int .u64 13402431016077863595), .lit (.int .u64 2210141511517208575), .lit (.int .u64 7435674573564081700), .lit (.int .u64 7239337960414712511), .lit (.int .u64 5412103778470702295), .lit (.int .u64 1873798617647539866)]
def laid_pharos_fp_lift {H : Type} : DataW H := .agg [.lit (.int .u64 17644856173732828998), .lit (.int .u64 754043588434789617), .lit (.int .u64 10224657059481499349), .lit (.int .u64 7488229067341005760), .lit (.int .u64 11130996698012816685), .lit (.int .u64 1267921511277847466)]

/-- 'pharoslaw11.MillerLines': WHATEVER THE INPUT: true; the input reads as it did. -/
def millerLinesSpec : ChangeSpec := { name := "millerLines", fn := fun _ => fun
  | [d1, d2, d3, d4, d5] => { results := [.lit (.bool true)], args := [d1, d2, d3, d4, d5] }
  | _ => none }
def millerLinesRow : OpenClaim := { program := "ythkmeodnlidpfaagreatdoor", sum := "97a5e042b88938a46e3370b3e7f76506f14815d12f34a704ef4ff1f186e4d57a", func := "pharos/pharoslaw11.MillerLines", spec := "millerLines", inPlace := ["math/bits.Add64", "math/bits.Sub64"], unfollowed := true, recurses := true, named := ["pharos/fp.modulus", "pharos/fp.lift", "pharos/fp.inverting"], apart := false, laid := [("pharos/fp.inverting", laid_pharos_fp_inverting), ("pharos/fp.modulus", laid_pharos_fp_modulus), ("pharos/fp.lift", laid_pharos_fp_lift)] }
def MillerLinesSaid : Prop := millerLinesRow.holds Tryz.pinned (OpenSpec.ofChange millerLinesSpec)

/-- ITS FALSE NEIGHBOUR: 'it returns false'. Refute it at one input. -/
def millerLinesWrong : ChangeSpec := { name := "millerLines", fn := fun _ => fun
  | [d1, d2, d3, d4, d5] => { results := [.lit (.bool false)], args := [d1, d2, d3, d4, d5] }
  | _ => none }
def MillerLinesWrongFalsely : Prop := millerLinesRow.holds Tryz.pinned (OpenSpec.ofChange millerLinesWrong)

/-- 'pharoslaw11.MillerLoops': WHATEVER THE INPUT: true; the input reads as it did. -/
def millerLoopsSpec : ChangeSpec := { name := "millerLoops", fn := fun _ => fun
  | [d1, d2, d3] => { results := [.lit (.bool true)], args := [d1, d2, d3] }
  | _ => none }
def millerLoopsRow : OpenClaim := { program := "ythkmeodnlidpfaagreatdoor", sum := "97a5e042b88938a46e3370b3e7f76506f14815d12f34a704ef4ff1f186e4d57a", func := "pharos/pharoslaw11.MillerLoops", spec := "millerLoops", inPlace := ["math/bits.Add64", "math/bits.Sub64"], unfollowed := true, recurses := true, named := ["pharos/fp.modulus", "pharos/fp.lift", "pharos/fp.inverting"], apart := false, laid := [("pharos/fp.inverting", laid_pharos_fp_inverting), ("pharos/fp.modulus", laid_pharos_fp_modulus), ("pharos/fp.lift", laid_pharos_fp_lift)] }
def MillerLoopsSaid : Prop := millerLoopsRow.holds Tryz.pinned (OpenSpec.ofChange millerLoopsSpec)

/-- ITS FALSE NEIGHBOUR: 'it returns false'. Refute it at one input. -/
def millerLoopsWrong : ChangeSpec := { name := "millerLoops", fn := fun _ => fun
  | [d1, d2, d3] => { results := [.lit (.bool false)], args := [d1, d2, d3] }
  | _ => none }
def MillerLoopsWrongFalsely : Prop := millerLoopsRow.holds Tryz.pinned (OpenSpec.ofChange millerLoopsWrong)

/- THE SECOND FORM. 'bulk': how many values and letters a reading holds, each counted each time it is reached (what is shared counts as often as it is met; a slice's spare places count too). A statement '..UptoSaid' is the law's where the arguments, and the package variables that the reading takes, are together of bulk at most 1048576: NARROWER than '..Said'. Prove '..Said' where nothing that the law and all that it calls make is longer than what came in: it says more and counts as full. Else prove '..UptoSaid'. A law counts once. -/
mutual
def uptoBulk {H : Type} : DataW H → Nat
  | .lit (.string bytes) => bytes.length + 1
  | .lit _ => 1
  | .nil => 1
  | .ptr d => uptoBulk d + 1
  | .slice elems spare => uptoBulkAll elems + uptoBulkAll spare + 1
  | .agg parts => uptoBulkAll parts + 1
  | .iface _ d => uptoBulk d + 1
  | .map entries => uptoBulkEntries entries + 1
  | .held _ => 1
def uptoBulkAll {H : Type} : List (DataW H) → Nat
  | [] => 0
  | d :: r => uptoBulk d + uptoBulkAll r
def uptoBulkEntries {H : Type} : List (Lit × DataW H) → Nat
  | [] => 0
  | x :: r => uptoBulkEntry x + uptoBulkEntries r
def uptoBulkEntry {H : Type} : Lit × DataW H → Nat
  | (.string bytes, d) => bytes.length + uptoBulk d + 1
  | (_, d) => uptoBulk d + 1
 end
def uptoSmall : (H : Type) → List (DataW H) → Bool := fun _ ds => decide (uptoBulkAll ds ≤ 1048576)
def OpenSpec.upto (s : _root_.Go.ChangeSpec) : _root_.Go.OpenSpec := { _root_.Go.OpenSpec.ofChange s with cond := some uptoSmall }

/-- 'pharoslaw11.MillerLines', WHERE WHAT IT READS IS OF BULK AT MOST 1048576: true; the input reads as it did. -/
def millerLinesUptoRow : OpenClaim := { program := "ythkmeodnlidpfaagreatdoor", sum := "97a5e042b88938a46e3370b3e7f76506f14815d12f34a704ef4ff1f186e4d57a", func := "pharos/pharoslaw11.MillerLines", spec := "millerLines", inPlace := ["math/bits.Add64", "math/bits.Sub64"], unfollowed := true, recurses := true, named := ["pharos/fp.modulus", "pharos/fp.lift", "pharos/fp.inverting"], apart := false, laid := [("pharos/fp.inverting", laid_pharos_fp_inverting), ("pharos/fp.modulus", laid_pharos_fp_modulus), ("pharos/fp.lift", laid_pharos_fp_lift)], narrowed := true }
def MillerLinesUptoSaid : Prop := millerLinesUptoRow.holds Tryz.pinned (OpenSpec.upto millerLinesSpec)

/-- 'pharoslaw11.MillerLoops', WHERE WHAT IT READS IS OF BULK AT MOST 1048576: true; the input reads as it did. -/
def millerLoopsUptoRow : OpenClaim := { program := "ythkmeodnlidpfaagreatdoor", sum := "97a5e042b88938a46e3370b3e7f76506f14815d12f34a704ef4ff1f186e4d57a", func := "pharos/pharoslaw11.MillerLoops", spec := "millerLoops", inPlace := ["math/bits.Add64", "math/bits.Sub64"], unfollowed := true, recurses := true, named := ["pharos/fp.modulus", "pharos/fp.lift", "pharos/fp.inverting"], apart := false, laid := [("pharos/fp.inverting", laid_pharos_fp_inverting), ("pharos/fp.modulus", laid_pharos_fp_modulus), ("pharos/fp.lift", laid_pharos_fp_lift)], narrowed := true }
def MillerLoopsUptoSaid : Prop := millerLoopsUptoRow.holds Tryz.pinned (OpenSpec.upto millerLoopsSpec)

end Rows
end Go.Proofs.YthkmeodnlidpfaaGreatDoor
