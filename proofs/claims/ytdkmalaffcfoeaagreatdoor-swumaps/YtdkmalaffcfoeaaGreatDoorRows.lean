/-
  NARROWER THAN 'FOR EVERY INPUT', by the rows' own cells (each row's printed sentence says how): SwuMaps: laid · SwuIso: laid · SwuSigns: laid.
  DERIVED. THE GIVEN ROWS OF THIS SEAT. 3 by the template 'for every input the law returns true; each argument reads behind the call as it read before'; 0 by the template 'total and deterministic' (their statements: YtdkmalaffcfoeaaGreatDoorTotals.lean).
  GIVEN WITH THE SEED: the statements are not yours to turn. If you find one false, say at which input.
  Laid BY PROGRAM, IN A SANDBOX (cutbox-rows.mjs): the forced cells as the released guide's own fill.sh prints them over the translation de8999ab24bb5245… (all of the seat's roots in one cut). By AI agents, Wed Nov 11 2026. No macro, syntax, notation, axiom, sorry.
-/
import Derived.Test.YtdkmalaffcfoeaaGreatDoorChecked
import GoSem.Claim
import GoSem.ClaimJoined
import GoSem.ClaimMapViews
import Derived.JoinedTies
import Derived.KernelRfl
namespace Go.Proofs.YtdkmalaffcfoeaaGreatDoor
/- THE CELL 'sum', in the pinned program and in every row, IS THE sha256 OF THE DUMP (.gsa) THAT YtdkmalaffcfoeaaGreatDoorProg.lean LOADS. Nothing in Lean hashes anything: it is a label: what it is worth is what the hold of that sum in a sandbox is worth. -/
noncomputable def Tryz.pinned : Pinned := { name := "ytdkmalaffcfoeaagreatdoor", sum := "de8999ab24bb52456bd15a9905b26db1f45fe6087f715f49ae7b669b12913340", checked := Tryz.checked }
namespace Rows
def none {H : Type} : Left H := { results := [], args := [] }

/- WHAT THE LISTED PACKAGE-LEVEL VARIABLES READ AS WHEN THE CALL BEGINS. Each datum BY PROGRAM (the guide's laid-datum.mjs) off the statement by which the dump's own 'gosem.cut.vars' lays the variable. In a bare row this is a premise. The card (YtdkmalaffcfoeaaGreatDoorCards.lean) ties it to the program's text. -/
def laid_pharos_fp_inverting {H : Type} : DataW H := .agg [.lit (.int .u64 13402431016077863593), .lit (.int .u64 2210141511517208575), .lit (.int .u64 7435674573564081700), .lit (.int .u64 7239337960414712511), .lit (.int .u64 5412103778470702295), .lit (.int .u64 1873798617647539866)]
def laid_pharos_fp_modulus {H : Type} : DataW H := .agg [.lit (.int .u64 13402431016077863595), .lit (.int .u64 2210141511517208575), .lit (.int .u64 7435674573564081700), .lit (.int .u64 7239337960414712511), .lit (.int .u64 5412103778470702295), .lit (.int .u64 1873798617647539866)]
def laid_pharos_fp_lift {H : Type} : DataW H := .agg [.lit (.int .u64 17644856173732828998), .lit (.int .u64 754043588434789617), .lit (.int .u64 10224657059481499349), .lit (.int .u64 7488229067341005760), .lit (.int .u64 11130996698012816685), .lit (.int .u64 1267921511277847466)]
def laid_pharos_fp_half {H : Type} : DataW H := .agg [.lit (.int .u64 15924587544893707605), .lit (.int .u64 1105070755758604287), .lit (.int .u64 12941209323636816658), .lit (.int .u64 12843041017062132063), .lit (.int .u64 2706051889235351147), .lit (.int .u64 936899308823769933)]
def laid_pharos_fp_rooting {H : Type} : DataW H := .agg [.lit (.int .u64 17185665809301629611), .lit (.int .u64 552535377879302143), .lit (.int .u64 15693976698673184137), .lit (.int .u64 15644892545385841839), .lit (.int .u64 10576397981472451381), .lit (.int .u64 468449654411884966)]

/-- 'pharoslaw14.SwuMaps': WHATEVER THE INPUT: true; the input reads as it did. -/
def swuMapsSpec : ChangeSpec := { name := "swuMaps", fn := fun _ => fun
  | [d1, d2] => { results := [.lit (.bool true)], args := [d1, d2] }
  | _ => none }
def swuMapsRow : OpenClaim := { program := "ytdkmalaffcfoeaagreatdoor", sum := "de8999ab24bb52456bd15a9905b26db1f45fe6087f715f49ae7b669b12913340", func := "pharos/pharoslaw14.SwuMaps", spec := "swuMaps", inPlace := ["math/bits.Add64", "math/bits.Sub64"], unfollowed := true, recurses := true, named := ["pharos/fp.modulus", "pharos/fp.lift", "pharos/fp.inverting", "pharos/fp.rooting", "pharos/fp.half"], apart := false, laid := [("pharos/fp.inverting", laid_pharos_fp_inverting), ("pharos/fp.modulus", laid_pharos_fp_modulus), ("pharos/fp.lift", laid_pharos_fp_lift), ("pharos/fp.half", laid_pharos_fp_half), ("pharos/fp.rooting", laid_pharos_fp_rooting)] }
def SwuMapsSaid : Prop := swuMapsRow.holds Tryz.pinned (OpenSpec.ofChange swuMapsSpec)

/-- ITS FALSE NEIGHBOUR: 'it returns false'. Refute it at one input. -/
def swuMapsWrong : ChangeSpec := { name := "swuMaps", fn := fun _ => fun
  | [d1, d2] => { results := [.lit (.bool false)], args := [d1, d2] }
  | _ => none }
def SwuMapsWrongFalsely : Prop := swuMapsRow.holds Tryz.pinned (OpenSpec.ofChange swuMapsWrong)

/-- 'pharoslaw14.SwuIso': WHATEVER THE INPUT: true; the input reads as it did. -/
def swuIsoSpec : ChangeSpec := { name := "swuIso", fn := fun _ => fun
  | [d1, d2, d3] => { results := [.lit (.bool true)], args := [d1, d2, d3] }
  | _ => none }
def swuIsoRow : OpenClaim := { program := "ytdkmalaffcfoeaagreatdoor", sum := "de8999ab24bb52456bd15a9905b26db1f45fe6087f715f49ae7b669b12913340", func := "pharos/pharoslaw14.SwuIso", spec := "swuIso", inPlace := ["math/bits.Add64", "math/bits.Sub64"], unfollowed := true, recurses := true, named := ["pharos/fp.modulus", "pharos/fp.lift", "pharos/fp.inverting", "pharos/fp.rooting", "pharos/fp.half"], apart := false, laid := [("pharos/fp.inverting", laid_pharos_fp_inverting), ("pharos/fp.modulus", laid_pharos_fp_modulus), ("pharos/fp.lift", laid_pharos_fp_lift), ("pharos/fp.half", laid_pharos_fp_half), ("pharos/fp.rooting", laid_pharos_fp_rooting)] }
def SwuIsoSaid : Prop := swuIsoRow.holds Tryz.pinned (OpenSpec.ofChange swuIsoSpec)

/-- ITS FALSE NEIGHBOUR: 'it returns false'. Refute it at one input. -/
def swuIsoWrong : ChangeSpec := { name := "swuIso", fn := fun _ => fun
  | [d1, d2, d3] => { results := [.lit (.bool false)], args := [d1, d2, d3] }
  | _ => none }
def SwuIsoWrongFalsely : Prop := swuIsoRow.holds Tryz.pinned (OpenSpec.ofChange swuIsoWrong)

/-- 'pharoslaw14.SwuSigns': WHATEVER THE INPUT: true; the input reads as it did. -/
def swuSignsSpec : ChangeSpec := { name := "swuSigns", fn := fun _ => fun
  | [d1, d2] => { results := [.lit (.bool true)], args := [d1, d2] }
  | _ => none }
def swuSignsRow : OpenClaim := { program := "ytdkmalaffcfoeaagreatdoor", sum := "de8999ab24bb52456bd15a9905b26db1f45fe6087f715f49ae7b669b12913340", func := "pharos/pharoslaw14.SwuSigns", spec := "swuSigns", inPlace := ["math/bits.Add64", "math/bits.Sub64"], unfollowed := true, recurses := true, named := ["pharos/fp.modulus", "pharos/fp.lift", "pharos/fp.inverting", "pharos/fp.rooting", "pharos/fp.half"], apart := false, laid := [("pharos/fp.inverting", laid_pharos_fp_inverting), ("pharos/fp.modulus", laid_pharos_fp_modulus), ("pharos/fp.lift", laid_pharos_fp_lift), ("pharos/fp.half", laid_pharos_fp_half), ("pharos/fp.rooting", laid_pharos_fp_rooting)] }
def SwuSignsSaid : Prop := swuSignsRow.holds Tryz.pinned (OpenSpec.ofChange swuSignsSpec)

/-- ITS FALSE NEIGHBOUR: 'it returns false'. Refute it at one input. -/
def swuSignsWrong : ChangeSpec := { name := "swuSigns", fn := fun _ => fun
  | [d1, d2] => { results := [.lit (.bool false)], args := [d1, d2] }
  | _ => none }
def SwuSignsWrongFalsely : Prop := swuSignsRow.holds Tryz.pinned (OpenSpec.ofChange swuSignsWrong)

/- THE SECOND FORM. 'bulk': how many values and letters a reading holds, each counted each time it is reached (what is shared counts as often as it is met; a slice's spare places count too). A statement '..UptoSaid' is the law's where the arguments, and the package variables that the reading takes, are together of bulk at most 1048576: NARROWER than '..Said'. Prove '..Said' where nothing that the law and all that it calls make is longer than what came in: it says more and counts as full. Else prove '..UptoSaid'. A law counts once. -/
mutual
def uptoBulk {H : Type} : DataW H → Nat
  | .lit (.string bytes) => bytes.length + 1
  | .lit _ => 1
  | .nil => 1
  | .ptr d => uptoBulk d + 1
  | .slice elems spare => uptoBulkAll elems + uptoBulkAll spare + 1
  | .agg parts => uptoBulkAll parts + 1
  | .iface _ d => uptoBulk d + 1
  | .map entries => uptoBulkEntries entries + 1
  | .held _ => 1
def uptoBulkAll {H : Type} : List (DataW H) → Nat
  | [] => 0
  | d :: r => uptoBulk d + uptoBulkAll r
def uptoBulkEntries {H : Type} : List (Lit × DataW H) → Nat
  | [] => 0
  | x :: r => uptoBulkEntry x + uptoBulkEntries r
def uptoBulkEntry {H : Type} : Lit × DataW H → Nat
  | (.string bytes, d) => bytes.length + uptoBulk d + 1
  | (_, d) => uptoBulk d + 1
 end
def uptoSmall : (H : Type) → List (DataW H) → Bool := fun _ ds => decide (uptoBulkAll ds ≤ 1048576)
def OpenSpec.upto (s : _root_.Go.ChangeSpec) : _root_.Go.OpenSpec := { _root_.Go.OpenSpec.ofChange s with cond := some uptoSmall }

/-- 'pharoslaw14.SwuMaps', WHERE WHAT IT READS IS OF BULK AT MOST 1048576: true; the input reads as it did. -/
def swuMapsUptoRow : OpenClaim := { program := "ytdkmalaffcfoeaagreatdoor", sum := "de8999ab24bb52456bd15a9905b26db1f45fe6087f715f49ae7b669b12913340", func := "pharos/pharoslaw14.SwuMaps", spec := "swuMaps", inPlace := ["math/bits.Add64", "math/bits.Sub64"], unfollowed := true, recurses := true, named := ["pharos/fp.modulus", "pharos/fp.lift", "pharos/fp.inverting", "pharos/fp.rooting", "pharos/fp.half"], apart := false, laid := [("pharos/fp.inverting", laid_pharos_fp_inverting), ("pharos/fp.modulus", laid_pharos_fp_modulus), ("pharos/fp.lift", laid_pharos_fp_lift), ("pharos/fp.half", laid_pharos_fp_half), ("pharos/fp.rooting", laid_pharos_fp_rooting)], narrowed := true }
def SwuMapsUptoSaid : Prop := swuMapsUptoRow.holds Tryz.pinned (OpenSpec.upto swuMapsSpec)

/-- 'pharoslaw14.SwuIso', WHERE WHAT IT READS IS OF BULK AT MOST 1048576: true; the input reads as it did. -/
def swuIsoUptoRow : OpenClaim := { program := "ytdkmalaffcfoeaagreatdoor", sum := "de8999ab24bb52456bd15a9905b26db1f45fe6087f715f49ae7b669b12913340", func := "pharos/pharoslaw14.SwuIso", spec := "swuIso", inPlace := ["math/bits.Add64", "math/bits.Sub64"], unfollowed := true, recurses := true, named := ["pharos/fp.modulus", "pharos/fp.lift", "pharos/fp.inverting", "pharos/fp.rooting", "pharos/fp.half"], apart := false, laid := [("pharos/fp.inverting", laid_pharos_fp_inverting), ("pharos/fp.modulus", laid_pharos_fp_modulus), ("pharos/fp.lift", laid_pharos_fp_lift), ("pharos/fp.half", laid_pharos_fp_half), ("pharos/fp.rooting", laid_pharos_fp_rooting)], narrowed := true }
def SwuIsoUptoSaid : Prop := swuIsoUptoRow.holds Tryz.pinned (OpenSpec.upto swuIsoSpec)

/-- 'pharoslaw14.SwuSigns', WHERE WHAT IT READS IS OF BULK AT MOST 1048576: true; the input reads as it did. -/
def swuSignsUptoRow : OpenClaim := { program := "ytdkmalaffcfoeaagreatdoor", sum := "de8999ab24bb52456bd15a9905b26db1f45fe6087f715f49ae7b669b12913340", func := "pharos/pharoslaw14.SwuSigns", spec := "swuSigns", inPlace := ["math/bits.Add64", "math/bits.Sub64"], unfollowed := true, recurses := true, named := ["pharos/fp.modulus", "pharos/fp.lift", "pharos/fp.inverting", "pharos/fp.rooting", "pharos/fp.half"], apart := false, laid := [("pharos/fp.inverting", laid_pharos_fp_inverting), ("pharos/fp.modulus", laid_pharos_fp_modulus), ("pharos/fp.lift", laid_pharos_fp_lift), ("pharos/fp.half", laid_pharos_fp_half), ("pharos/fp.rooting", laid_pharos_fp_rooting)], narrowed := true }
def SwuSignsUptoSaid : Prop := swuSignsUptoRow.holds Tryz.pinned (OpenSpec.upto swuSignsSpec)

end Rows
end Go.Proofs.YtdkmalaffcfoeaaGreatDoor
