/-
  NARROWER THAN 'FOR EVERY INPUT', by the rows' own cells (each row's printed sentence says how): Fp12Laws: laid · Fp12Parts: laid · Fp12Norms: laid.
  DERIVED. THE GIVEN ROWS OF THIS SEAT. 3 by the template 'for every input the law returns true; each argument reads behind the call as it read before'; 0 by the template 'total and deterministic' (their statements: YtbpifgcbkhohbaaDoorTotals.lean).
  GIVEN WITH THE SEED: the statements are not yours to turn. If you find one false, say at which input.
  Laid BY PROGRAM, IN A SANDBOX (cutbox-rows.mjs): the forced cells as the released guide's own fill.sh prints them over the translation a99c69d0b65d42f8… (all of the seat's roots in one cut). By AI agents, Wed Nov 11 2026. No macro, syntax, notation, axiom, sorry.
-/
import Derived.Test.YtbpifgcbkhohbaaDoorChecked
import GoSem.Claim
import GoSem.ClaimJoined
import GoSem.ClaimMapViews
import Derived.JoinedTies
import Derived.KernelRfl
namespace Go.Proofs.YtbpifgcbkhohbaaDoor
/- THE CELL 'sum', in the pinned program and in every row, IS THE sha256 OF THE DUMP (.gsa) THAT YtbpifgcbkhohbaaDoorProg.lean LOADS. Nothing in Lean hashes anything: it is a label: what it is worth is what the hold of that sum in a sandbox is worth. -/
noncomputable def Tryd.pinned : Pinned := { name := "ytbpifgcbkhohbaadoor", sum := "a99c69d0b65d42f8b6269e271366c7698f0509fdc20a96ecd1b91166cffd51ec", checked := Tryd.checked }
namespace Rows
def none {H : Type} : Left H := { results := [], args := [] }

/- WHAT THE LISTED PACKAGE-LEVEL VARIABLES READ AS WHEN THE CALL BEGINS. Each datum BY PROGRAM (the guide's laid-datum.mjs) off the statement by which the dump's own 'gosem.cut.vars' lays the variable. In a bare row this is a premise. The card (YtbpifgcbkhohbaaDoorCards.lean) ties it to the program's text. -/
def laid_pharos_fp_inverting {H : Type} : DataW H := .agg [.lit (.int .u64 13402431016077863593), .lit (.int .u64 2210141511517208575), .lit (.int .u64 7435674573564081700), .lit (.int .u64 7239337960414712511), .lit (.int .u64 5412103778470702295), .lit (.int .u64 1873798617647539866)]
def laid_pharos_fp_modulus {H : Type} : DataW H := .agg [.lit (.int .u64 13402431016077863595), .lit (.int .u64 2210141511517208575), .lit (.int .u64 7435674573564081700), .lit (.int .u64 7239337960414712511), .lit (.int .u64 5412103778470702295), .lit (.int .u64 1873798617647539866)]
def laid_pharos_fp_lift {H : Type} : DataW H := .agg [.lit (.int .u64 17644856173732828998), .lit (.int .u64 754043588434789617), .lit (.int .u64 10224657059481499349), .lit (.int .u64 7488229067341005760), .lit (.int .u64 11130996698012816685), .lit (.int .u64 1267921511277847466)]

/-- 'pharoslaw7.Fp12Laws': WHATEVER THE INPUT: true; the input reads as it did. -/
def fp12LawsSpec : ChangeSpec := { name := "fp12Laws", fn := fun _ => fun
  | [d1, d2, d3] => { results := [.lit (.bool true)], args := [d1, d2, d3] }
  | _ => none }
def fp12LawsRow : OpenClaim := { program := "ytbpifgcbkhohbaadoor", sum := "a99c69d0b65d42f8b6269e271366c7698f0509fdc20a96ecd1b91166cffd51ec", func := "pharos/pharoslaw7.Fp12Laws", spec := "fp12Laws", inPlace := ["math/bits.Add64", "math/bits.Sub64"], unfollowed := true, recurses := true, named := ["pharos/fp.lift", "pharos/fp.modulus", "pharos/fp.inverting"], apart := false, laid := [("pharos/fp.inverting", laid_pharos_fp_inverting), ("pharos/fp.modulus", laid_pharos_fp_modulus), ("pharos/fp.lift", laid_pharos_fp_lift)] }
def Fp12LawsSaid : Prop := fp12LawsRow.holds Tryd.pinned (OpenSpec.ofChange fp12LawsSpec)

/-- ITS FALSE NEIGHBOUR: 'it returns false'. Refute it at one input. -/
def fp12LawsWrong : ChangeSpec := { name := "fp12Laws", fn := fun _ => fun
  | [d1, d2, d3] => { results := [.lit (.bool false)], args := [d1, d2, d3] }
  | _ => none }
def Fp12LawsWrongFalsely : Prop := fp12LawsRow.holds Tryd.pinned (OpenSpec.ofChange fp12LawsWrong)

/-- 'pharoslaw7.Fp12Parts': WHATEVER THE INPUT: true; the input reads as it did. -/
def fp12PartsSpec : ChangeSpec := { name := "fp12Parts", fn := fun _ => fun
  | [d1, d2] => { results := [.lit (.bool true)], args := [d1, d2] }
  | _ => none }
def fp12PartsRow : OpenClaim := { program := "ytbpifgcbkhohbaadoor", sum := "a99c69d0b65d42f8b6269e271366c7698f0509fdc20a96ecd1b91166cffd51ec", func := "pharos/pharoslaw7.Fp12Parts", spec := "fp12Parts", inPlace := ["math/bits.Add64", "math/bits.Sub64"], unfollowed := true, recurses := true, named := ["pharos/fp.lift", "pharos/fp.modulus", "pharos/fp.inverting"], apart := false, laid := [("pharos/fp.inverting", laid_pharos_fp_inverting), ("pharos/fp.modulus", laid_pharos_fp_modulus), ("pharos/fp.lift", laid_pharos_fp_lift)] }
def Fp12PartsSaid : Prop := fp12PartsRow.holds Tryd.pinned (OpenSpec.ofChange fp12PartsSpec)

/-- ITS FALSE NEIGHBOUR: 'it returns false'. Refute it at one input. -/
def fp12PartsWrong : ChangeSpec := { name := "fp12Parts", fn := fun _ => fun
  | [d1, d2] => { results := [.lit (.bool false)], args := [d1, d2] }
  | _ => none }
def Fp12PartsWrongFalsely : Prop := fp12PartsRow.holds Tryd.pinned (OpenSpec.ofChange fp12PartsWrong)

/-- 'pharoslaw7.Fp12Norms': WHATEVER THE INPUT: true; the input reads as it did. -/
def fp12NormsSpec : ChangeSpec := { name := "fp12Norms", fn := fun _ => fun
  | [d1, d2] => { results := [.lit (.bool true)], args := [d1, d2] }
  | _ => none }
def fp12NormsRow : OpenClaim := { program := "ytbpifgcbkhohbaadoor", sum := "a99c69d0b65d42f8b6269e271366c7698f0509fdc20a96ecd1b91166cffd51ec", func := "pharos/pharoslaw7.Fp12Norms", spec := "fp12Norms", inPlace := ["math/bits.Add64", "math/bits.Sub64"], unfollowed := true, recurses := true, named := ["pharos/fp.lift", "pharos/fp.modulus", "pharos/fp.inverting"], apart := false, laid := [("pharos/fp.inverting", laid_pharos_fp_inverting), ("pharos/fp.modulus", laid_pharos_fp_modulus), ("pharos/fp.lift", laid_pharos_fp_lift)] }
def Fp12NormsSaid : Prop := fp12NormsRow.holds Tryd.pinned (OpenSpec.ofChange fp12NormsSpec)

/-- ITS FALSE NEIGHBOUR: 'it returns false'. Refute it at one input. -/
def fp12NormsWrong : ChangeSpec := { name := "fp12Norms", fn := fun _ => fun
  | [d1, d2] => { results := [.lit (.bool false)], args := [d1, d2] }
  | _ => none }
def Fp12NormsWrongFalsely : Prop := fp12NormsRow.holds Tryd.pinned (OpenSpec.ofChange fp12NormsWrong)

/- THE SECOND FORM. 'bulk': how many values and letters a reading holds, each counted each time it is reached (what is shared counts as often as it is met; a slice's spare places count too). A statement '..UptoSaid' is the law's where the arguments, and the package variables that the reading takes, are together of bulk at most 1048576: NARROWER than '..Said'. Prove '..Said' where nothing that the law and all that it calls make is longer than what came in: it says more and counts as full. Else prove '..UptoSaid'. A law counts once. -/
mutual
def uptoBulk {H : Type} : DataW H → Nat
  | .lit (.string bytes) => bytes.length + 1
  | .lit _ => 1
  | .nil => 1
  | .ptr d => uptoBulk d + 1
  | .slice elems spare => uptoBulkAll elems + uptoBulkAll spare + 1
  | .agg parts => uptoBulkAll parts + 1
  | .iface _ d => uptoBulk d + 1
  | .map entries => uptoBulkEntries entries + 1
  | .held _ => 1
def uptoBulkAll {H : Type} : List (DataW H) → Nat
  | [] => 0
  | d :: r => uptoBulk d + uptoBulkAll r
def uptoBulkEntries {H : Type} : List (Lit × DataW H) → Nat
  | [] => 0
  | x :: r => uptoBulkEntry x + uptoBulkEntries r
def uptoBulkEntry {H : Type} : Lit × DataW H → Nat
  | (.string bytes, d) => bytes.length + uptoBulk d + 1
  | (_, d) => uptoBulk d + 1
 end
def uptoSmall : (H : Type) → List (DataW H) → Bool := fun _ ds => decide (uptoBulkAll ds ≤ 1048576)
def OpenSpec.upto (s : _root_.Go.ChangeSpec) : _root_.Go.OpenSpec := { _root_.Go.OpenSpec.ofChange s with cond := some uptoSmall }

/-- 'pharoslaw7.Fp12Laws', WHERE WHAT IT READS IS OF BULK AT MOST 1048576: true; the input reads as it did. -/
def fp12LawsUptoRow : OpenClaim := { program := "ytbpifgcbkhohbaadoor", sum := "a99c69d0b65d42f8b6269e271366c7698f0509fdc20a96ecd1b91166cffd51ec", func := "pharos/pharoslaw7.Fp12Laws", spec := "fp12Laws", inPlace := ["math/bits.Add64", "math/bits.Sub64"], unfollowed := true, recurses := true, named := ["pharos/fp.lift", "pharos/fp.modulus", "pharos/fp.inverting"], apart := false, laid := [("pharos/fp.inverting", laid_pharos_fp_inverting), ("pharos/fp.modulus", laid_pharos_fp_modulus), ("pharos/fp.lift", laid_pharos_fp_lift)], narrowed := true }
def Fp12LawsUptoSaid : Prop := fp12LawsUptoRow.holds Tryd.pinned (OpenSpec.upto fp12LawsSpec)

/-- 'pharoslaw7.Fp12Parts', WHERE WHAT IT READS IS OF BULK AT MOST 1048576: true; the input reads as it did. -/
def fp12PartsUptoRow : OpenClaim := { program := "ytbpifgcbkhohbaadoor", sum := "a99c69d0b65d42f8b6269e271366c7698f0509fdc20a96ecd1b91166cffd51ec", func := "pharos/pharoslaw7.Fp12Parts", spec := "fp12Parts", inPlace := ["math/bits.Add64", "math/bits.Sub64"], unfollowed := true, recurses := true, named := ["pharos/fp.lift", "pharos/fp.modulus", "pharos/fp.inverting"], apart := false, laid := [("pharos/fp.inverting", laid_pharos_fp_inverting), ("pharos/fp.modulus", laid_pharos_fp_modulus), ("pharos/fp.lift", laid_pharos_fp_lift)], narrowed := true }
def Fp12PartsUptoSaid : Prop := fp12PartsUptoRow.holds Tryd.pinned (OpenSpec.upto fp12PartsSpec)

/-- 'pharoslaw7.Fp12Norms', WHERE WHAT IT READS IS OF BULK AT MOST 1048576: true; the input reads as it did. -/
def fp12NormsUptoRow : OpenClaim := { program := "ytbpifgcbkhohbaadoor", sum := "a99c69d0b65d42f8b6269e271366c7698f0509fdc20a96ecd1b91166cffd51ec", func := "pharos/pharoslaw7.Fp12Norms", spec := "fp12Norms", inPlace := ["math/bits.Add64", "math/bits.Sub64"], unfollowed := true, recurses := true, named := ["pharos/fp.lift", "pharos/fp.modulus", "pharos/fp.inverting"], apart := false, laid := [("pharos/fp.inverting", laid_pharos_fp_inverting), ("pharos/fp.modulus", laid_pharos_fp_modulus), ("pharos/fp.lift", laid_pharos_fp_lift)], narrowed := true }
def Fp12NormsUptoSaid : Prop := fp12NormsUptoRow.holds Tryd.pinned (OpenSpec.upto fp12NormsSpec)

end Rows
end Go.Proofs.YtbpifgcbkhohbaaDoor
