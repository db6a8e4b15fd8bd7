/-
  NARROWER THAN 'FOR EVERY INPUT', by the rows' own cells (each row's printed sentence says how): FpBytes: laid · FpReckons: laid · FpLaws: laid · FpPowers: laid · FpRoots: laid · FpSigns: laid · FpSolves: laid · FpFermat: laid.
  DERIVED. THE GIVEN ROWS OF THIS SEAT. 8 by the template 'for every input the law returns true; each argument reads behind the call as it read before'; 0 by the template 'total and deterministic' (their statements: YthgoggiiabaccaaDoorTotals.lean).
  GIVEN WITH THE SEED: the statements are not yours to turn. If you find one false, say at which input.
  Laid BY PROGRAM, IN A SANDBOX (cutbox-rows.mjs): the forced cells as the released guide's own fill.sh prints them over the translation 969dbffd52102c22… (all of the seat's roots in one cut). By AI agents, Wed Nov 11 2026. No macro, syntax, notation, axiom, sorry.
-/
import Derived.Test.YthgoggiiabaccaaDoorChecked
import GoSem.Claim
import GoSem.ClaimJoined
import GoSem.ClaimMapViews
import Derived.JoinedTies
import Derived.KernelRfl
namespace Go.Proofs.YthgoggiiabaccaaDoor
/- THE CELL 'sum', in the pinned program and in every row, IS THE sha256 OF THE DUMP (.gsa) THAT YthgoggiiabaccaaDoorProg.lean LOADS. Nothing in Lean hashes anything: it is a label: what it is worth is what the hold of that sum in a sandbox is worth. -/
noncomputable def Tryd.pinned : Pinned := { name := "ythgoggiiabaccaadoor", sum := "969dbffd52102c2222f57ecbc811d8b0f1408ab19af39634020e48400ef6dc31", checked := Tryd.checked }
namespace Rows
def none {H : Type} : Left H := { results := [], args := [] }

/- WHAT THE LISTED PACKAGE-LEVEL VARIABLES READ AS WHEN THE CALL BEGINS. Each datum BY PROGRAM (the guide's laid-datum.mjs) off the statement by which the dump's own 'gosem.cut.vars' lays the variable. In a bare row this is a premise. The card (YthgoggiiabaccaaDoorCards.lean) ties it to the program's text. -/
def laid_pharos_fp_inverting {H : Type} : DataW H := .agg [.lit (.int .u64 13402431016077863593), .lit (.int .u64 2210141511517208575), .lit (.int .u64 7435674573564081700), .lit (.int .u64 7239337960414712511), .lit (.int .u64 5412103778470702295), .lit (.int .u64 1873798617647539866)]
def laid_pharos_fp_modulus {H : Type} : DataW H := .agg [.lit (.int .u64 13402431016077863595), .lit (.int .u64 2210141511517208575), .lit (.int .u64 7435674573564081700), .lit (.int .u64 7239337960414712511), .lit (.int .u64 5412103778470702295), .lit (.int .u64 1873798617647539866)]
def laid_pharos_fp_lift {H : Type} : DataW H := .agg [.lit (.int .u64 17644856173732828998), .lit (.int .u64 754043588434789617), .lit (.int .u64 10224657059481499349), .lit (.int .u64 7488229067341005760), .lit (.int .u64 11130996698012816685), .lit (.int .u64 1267921511277847466)]
def laid_pharos_fp_half {H : Type} : DataW H := .agg [.lit (.int .u64 15924587544893707605), .lit (.int .u64 1105070755758604287), .lit (.int .u64 12941209323636816658), .lit (.int .u64 12843041017062132063), .lit (.int .u64 2706051889235351147), .lit (.int .u64 936899308823769933)]
def laid_pharos_fp_rooting {H : Type} : DataW H := .agg [.lit (.int .u64 17185665809301629611), .lit (.int .u64 552535377879302143), .lit (.int .u64 15693976698673184137), .lit (.int .u64 15644892545385841839), .lit (.int .u64 10576397981472451381), .lit (.int .u64 468449654411884966)]

/-- 'pharoslaw3.FpBytes': WHATEVER THE INPUT: true; the input reads as it did. -/
def fpBytesSpec : ChangeSpec := { name := "fpBytes", fn := fun _ => fun
  | [d1, d2, d3] => { results := [.lit (.bool true)], args := [d1, d2, d3] }
  | _ => none }
def fpBytesRow : OpenClaim := { program := "ythgoggiiabaccaadoor", sum := "969dbffd52102c2222f57ecbc811d8b0f1408ab19af39634020e48400ef6dc31", func := "pharos/pharoslaw3.FpBytes", spec := "fpBytes", inPlace := ["math/bits.Add64", "math/bits.Sub64"], unfollowed := true, recurses := true, named := ["pharos/fp.lift", "pharos/fp.modulus", "pharos/fp.rooting", "pharos/fp.half", "pharos/fp.inverting"], apart := false, laid := [("pharos/fp.inverting", laid_pharos_fp_inverting), ("pharos/fp.modulus", laid_pharos_fp_modulus), ("pharos/fp.lift", laid_pharos_fp_lift), ("pharos/fp.half", laid_pharos_fp_half), ("pharos/fp.rooting", laid_pharos_fp_rooting)] }
def FpBytesSaid : Prop := fpBytesRow.holds Tryd.pinned (OpenSpec.ofChange fpBytesSpec)

/-- ITS FALSE NEIGHBOUR: 'it returns false'. Refute it at one input. -/
def fpBytesWrong : ChangeSpec := { name := "fpBytes", fn := fun _ => fun
  | [d1, d2, d3] => { results := [.lit (.bool false)], args := [d1, d2, d3] }
  | _ => none }
def FpBytesWrongFalsely : Prop := fpBytesRow.holds Tryd.pinned (OpenSpec.ofChange fpBytesWrong)

/-- 'pharoslaw3.FpReckons': WHATEVER THE INPUT: true; the input reads as it did. -/
def fpReckonsSpec : ChangeSpec := { name := "fpReckons", fn := fun _ => fun
  | [d1, d2] => { results := [.lit (.bool true)], args := [d1, d2] }
  | _ => none }
def fpReckonsRow : OpenClaim := { program := "ythgoggiiabaccaadoor", sum := "969dbffd52102c2222f57ecbc811d8b0f1408ab19af39634020e48400ef6dc31", func := "pharos/pharoslaw3.FpReckons", spec := "fpReckons", inPlace := ["math/bits.Add64", "math/bits.Sub64"], unfollowed := true, recurses := true, named := ["pharos/fp.lift", "pharos/fp.modulus", "pharos/fp.rooting", "pharos/fp.half", "pharos/fp.inverting"], apart := false, laid := [("pharos/fp.inverting", laid_pharos_fp_inverting), ("pharos/fp.modulus", laid_pharos_fp_modulus), ("pharos/fp.lift", laid_pharos_fp_lift), ("pharos/fp.half", laid_pharos_fp_half), ("pharos/fp.rooting", laid_pharos_fp_rooting)] }
def FpReckonsSaid : Prop := fpReckonsRow.holds Tryd.pinned (OpenSpec.ofChange fpReckonsSpec)

/-- ITS FALSE NEIGHBOUR: 'it returns false'. Refute it at one input. -/
def fpReckonsWrong : ChangeSpec := { name := "fpReckons", fn := fun _ => fun
  | [d1, d2] => { results := [.lit (.bool false)], args := [d1, d2] }
  | _ => none }
def FpReckonsWrongFalsely : Prop := fpReckonsRow.holds Tryd.pinned (OpenSpec.ofChange fpReckonsWrong)

/-- 'pharoslaw3.FpLaws': WHATEVER THE INPUT: true; the input reads as it did. -/
def fpLawsSpec : ChangeSpec := { name := "fpLaws", fn := fun _ => fun
  | [d1, d2, d3] => { results := [.lit (.bool true)], args := [d1, d2, d3] }
  | _ => none }
def fpLawsRow : OpenClaim := { program := "ythgoggiiabaccaadoor", sum := "969dbffd52102c2222f57ecbc811d8b0f1408ab19af39634020e48400ef6dc31", func := "pharos/pharoslaw3.FpLaws", spec := "fpLaws", inPlace := ["math/bits.Add64", "math/bits.Sub64"], unfollowed := true, recurses := true, named := ["pharos/fp.lift", "pharos/fp.modulus", "pharos/fp.rooting", "pharos/fp.half", "pharos/fp.inverting"], apart := false, laid := [("pharos/fp.inverting", laid_pharos_fp_inverting), ("pharos/fp.modulus", laid_pharos_fp_modulus), ("pharos/fp.lift", laid_pharos_fp_lift), ("pharos/fp.half", laid_pharos_fp_half), ("pharos/fp.rooting", laid_pharos_fp_rooting)] }
def FpLawsSaid : Prop := fpLawsRow.holds Tryd.pinned (OpenSpec.ofChange fpLawsSpec)

/-- ITS FALSE NEIGHBOUR: 'it returns false'. Refute it at one input. -/
def fpLawsWrong : ChangeSpec := { name := "fpLaws", fn := fun _ => fun
  | [d1, d2, d3] => { results := [.lit (.bool false)], args := [d1, d2, d3] }
  | _ => none }
def FpLawsWrongFalsely : Prop := fpLawsRow.holds Tryd.pinned (OpenSpec.ofChange fpLawsWrong)

/-- 'pharoslaw3.FpPowers': WHATEVER THE INPUT: true; the input reads as it did. -/
def fpPowersSpec : ChangeSpec := { name := "fpPowers", fn := fun _ => fun
  | [d1, d2, d3] => { results := [.lit (.bool true)], args := [d1, d2, d3] }
  | _ => none }
def fpPowersRow : OpenClaim := { program := "ythgoggiiabaccaadoor", sum := "969dbffd52102c2222f57ecbc811d8b0f1408ab19af39634020e48400ef6dc31", func := "pharos/pharoslaw3.FpPowers", spec := "fpPowers", inPlace := ["math/bits.Add64", "math/bits.Sub64"], unfollowed := true, recurses := true, named := ["pharos/fp.lift", "pharos/fp.modulus", "pharos/fp.rooting", "pharos/fp.half", "pharos/fp.inverting"], apart := false, laid := [("pharos/fp.inverting", laid_pharos_fp_inverting), ("pharos/fp.modulus", laid_pharos_fp_modulus), ("pharos/fp.lift", laid_pharos_fp_lift), ("pharos/fp.half", laid_pharos_fp_half), ("pharos/fp.rooting", laid_pharos_fp_rooting)] }
def FpPowersSaid : Prop := fpPowersRow.holds Tryd.pinned (OpenSpec.ofChange fpPowersSpec)

/-- ITS FALSE NEIGHBOUR: 'it returns false'. Refute it at one input. -/
def fpPowersWrong : ChangeSpec := { name := "fpPowers", fn := fun _ => fun
  | [d1, d2, d3] => { results := [.lit (.bool false)], args := [d1, d2, d3] }
  | _ => none }
def FpPowersWrongFalsely : Prop := fpPowersRow.holds Tryd.pinned (OpenSpec.ofChange fpPowersWrong)

/-- 'pharoslaw3.FpRoots': WHATEVER THE INPUT: true; the input reads as it did. -/
def fpRootsSpec : ChangeSpec := { name := "fpRoots", fn := fun _ => fun
  | [d] => { results := [.lit (.bool true)], args := [d] }
  | _ => none }
def fpRootsRow : OpenClaim := { program := "ythgoggiiabaccaadoor", sum := "969dbffd52102c2222f57ecbc811d8b0f1408ab19af39634020e48400ef6dc31", func := "pharos/pharoslaw3.FpRoots", spec := "fpRoots", inPlace := ["math/bits.Add64", "math/bits.Sub64"], unfollowed := true, recurses := true, named := ["pharos/fp.lift", "pharos/fp.modulus", "pharos/fp.rooting", "pharos/fp.half", "pharos/fp.inverting"], apart := false, laid := [("pharos/fp.inverting", laid_pharos_fp_inverting), ("pharos/fp.modulus", laid_pharos_fp_modulus), ("pharos/fp.lift", laid_pharos_fp_lift), ("pharos/fp.half", laid_pharos_fp_half), ("pharos/fp.rooting", laid_pharos_fp_rooting)] }
def FpRootsSaid : Prop := fpRootsRow.holds Tryd.pinned (OpenSpec.ofChange fpRootsSpec)

/-- ITS FALSE NEIGHBOUR: 'it returns false'. Refute it at one input. -/
def fpRootsWrong : ChangeSpec := { name := "fpRoots", fn := fun _ => fun
  | [d] => { results := [.lit (.bool false)], args := [d] }
  | _ => none }
def FpRootsWrongFalsely : Prop := fpRootsRow.holds Tryd.pinned (OpenSpec.ofChange fpRootsWrong)

/-- 'pharoslaw3.FpSigns': WHATEVER THE INPUT: true; the input reads as it did. -/
def fpSignsSpec : ChangeSpec := { name := "fpSigns", fn := fun _ => fun
  | [d] => { results := [.lit (.bool true)], args := [d] }
  | _ => none }
def fpSignsRow : OpenClaim := { program := "ythgoggiiabaccaadoor", sum := "969dbffd52102c2222f57ecbc811d8b0f1408ab19af39634020e48400ef6dc31", func := "pharos/pharoslaw3.FpSigns", spec := "fpSigns", inPlace := ["math/bits.Add64", "math/bits.Sub64"], unfollowed := true, recurses := true, named := ["pharos/fp.lift", "pharos/fp.modulus", "pharos/fp.rooting", "pharos/fp.half", "pharos/fp.inverting"], apart := false, laid := [("pharos/fp.inverting", laid_pharos_fp_inverting), ("pharos/fp.modulus", laid_pharos_fp_modulus), ("pharos/fp.lift", laid_pharos_fp_lift), ("pharos/fp.half", laid_pharos_fp_half), ("pharos/fp.rooting", laid_pharos_fp_rooting)] }
def FpSignsSaid : Prop := fpSignsRow.holds Tryd.pinned (OpenSpec.ofChange fpSignsSpec)

/-- ITS FALSE NEIGHBOUR: 'it returns false'. Refute it at one input. -/
def fpSignsWrong : ChangeSpec := { name := "fpSigns", fn := fun _ => fun
  | [d] => { results := [.lit (.bool false)], args := [d] }
  | _ => none }
def FpSignsWrongFalsely : Prop := fpSignsRow.holds Tryd.pinned (OpenSpec.ofChange fpSignsWrong)

/-- 'pharoslaw3.FpSolves': WHATEVER THE INPUT: true; the input reads as it did. -/
def fpSolvesSpec : ChangeSpec := { name := "fpSolves", fn := fun _ => fun
  | [d1, d2] => { results := [.lit (.bool true)], args := [d1, d2] }
  | _ => none }
def fpSolvesRow : OpenClaim := { program := "ythgoggiiabaccaadoor", sum := "969dbffd52102c2222f57ecbc811d8b0f1408ab19af39634020e48400ef6dc31", func := "pharos/pharoslaw3.FpSolves", spec := "fpSolves", inPlace := ["math/bits.Add64", "math/bits.Sub64"], unfollowed := true, recurses := true, named := ["pharos/fp.lift", "pharos/fp.modulus", "pharos/fp.rooting", "pharos/fp.half", "pharos/fp.inverting"], apart := false, laid := [("pharos/fp.inverting", laid_pharos_fp_inverting), ("pharos/fp.modulus", laid_pharos_fp_modulus), ("pharos/fp.lift", laid_pharos_fp_lift), ("pharos/fp.half", laid_pharos_fp_half), ("pharos/fp.rooting", laid_pharos_fp_rooting)] }
def FpSolvesSaid : Prop := fpSolvesRow.holds Tryd.pinned (OpenSpec.ofChange fpSolvesSpec)

/-- ITS FALSE NEIGHBOUR: 'it returns false'. Refute it at one input. -/
def fpSolvesWrong : ChangeSpec := { name := "fpSolves", fn := fun _ => fun
  | [d1, d2] => { results := [.lit (.bool false)], args := [d1, d2] }
  | _ => none }
def FpSolvesWrongFalsely : Prop := fpSolvesRow.holds Tryd.pinned (OpenSpec.ofChange fpSolvesWrong)

/-- 'pharoslaw3.FpFermat': WHATEVER THE INPUT: true; the input reads as it did. -/
def fpFermatSpec : ChangeSpec := { name := "fpFermat", fn := fun _ => fun
  | [d] => { results := [.lit (.bool true)], args := [d] }
  | _ => none }
def fpFermatRow : OpenClaim := { program := "ythgoggiiabaccaadoor", sum := "969dbffd52102c2222f57ecbc811d8b0f1408ab19af39634020e48400ef6dc31", func := "pharos/pharoslaw3.FpFermat", spec := "fpFermat", inPlace := ["math/bits.Add64", "math/bits.Sub64"], unfollowed := true, recurses := true, named := ["pharos/fp.lift", "pharos/fp.modulus", "pharos/fp.rooting", "pharos/fp.half", "pharos/fp.inverting"], apart := false, laid := [("pharos/fp.inverting", laid_pharos_fp_inverting), ("pharos/fp.modulus", laid_pharos_fp_modulus), ("pharos/fp.lift", laid_pharos_fp_lift), ("pharos/fp.half", laid_pharos_fp_half), ("pharos/fp.rooting", laid_pharos_fp_rooting)] }
def FpFermatSaid : Prop := fpFermatRow.holds Tryd.pinned (OpenSpec.ofChange fpFermatSpec)

/-- ITS FALSE NEIGHBOUR: 'it returns false'. Refute it at one input. -/
def fpFermatWrong : ChangeSpec := { name := "fpFermat", fn := fun _ => fun
  | [d] => { results := [.lit (.bool false)], args := [d] }
  | _ => none }
def FpFermatWrongFalsely : Prop := fpFermatRow.holds Tryd.pinned (OpenSpec.ofChange fpFermatWrong)

/- THE SECOND FORM. 'bulk': how many values and letters a reading holds, each counted each time it is reached (what is shared counts as often as it is met; a slice's spare places count too). A statement '..UptoSaid' is the law's where the arguments, and the package variables that the reading takes, are together of bulk at most 1048576: NARROWER than '..Said'. Prove '..Said' where nothing that the law and all that it calls make is longer than what came in: it says more and counts as full. Else prove '..UptoSaid'. A law counts once. -/
mutual
def uptoBulk {H : Type} : DataW H → Nat
  | .lit (.string bytes) => bytes.length + 1
  | .lit _ => 1
  | .nil => 1
  | .ptr d => uptoBulk d + 1
  | .slice elems spare => uptoBulkAll elems + uptoBulkAll spare + 1
  | .agg parts => uptoBulkAll parts + 1
  | .iface _ d => uptoBulk d + 1
  | .map entries => uptoBulkEntries entries + 1
  | .held _ => 1
def uptoBulkAll {H : Type} : List (DataW H) → Nat
  | [] => 0
  | d :: r => uptoBulk d + uptoBulkAll r
def uptoBulkEntries {H : Type} : List (Lit × DataW H) → Nat
  | [] => 0
  | x :: r => uptoBulkEntry x + uptoBulkEntries r
def uptoBulkEntry {H : Type} : Lit × DataW H → Nat
  | (.string bytes, d) => bytes.length + uptoBulk d + 1
  | (_, d) => uptoBulk d + 1
 end
def uptoSmall : (H : Type) → List (DataW H) → Bool := fun _ ds => decide (uptoBulkAll ds ≤ 1048576)
def OpenSpec.upto (s : _root_.Go.ChangeSpec) : _root_.Go.OpenSpec := { _root_.Go.OpenSpec.ofChange s with cond := some uptoSmall }

/-- 'pharoslaw3.FpBytes', WHERE WHAT IT READS IS OF BULK AT MOST 1048576: true; the input reads as it did. -/
def fpBytesUptoRow : OpenClaim := { program := "ythgoggiiabaccaadoor", sum := "969dbffd52102c2222f57ecbc811d8b0f1408ab19af39634020e48400ef6dc31", func := "pharos/pharoslaw3.FpBytes", spec := "fpBytes", inPlace := ["math/bits.Add64", "math/bits.Sub64"], unfollowed := true, recurses := true, named := ["pharos/fp.lift", "pharos/fp.modulus", "pharos/fp.rooting", "pharos/fp.half", "pharos/fp.inverting"], apart := false, laid := [("pharos/fp.inverting", laid_pharos_fp_inverting), ("pharos/fp.modulus", laid_pharos_fp_modulus), ("pharos/fp.lift", laid_pharos_fp_lift), ("pharos/fp.half", laid_pharos_fp_half), ("pharos/fp.rooting", laid_pharos_fp_rooting)], narrowed := true }
def FpBytesUptoSaid : Prop := fpBytesUptoRow.holds Tryd.pinned (OpenSpec.upto fpBytesSpec)

/-- 'pharoslaw3.FpReckons', WHERE WHAT IT READS IS OF BULK AT MOST 1048576: true; the input reads as it did. -/
def fpReckonsUptoRow : OpenClaim := { program := "ythgoggiiabaccaadoor", sum := "969dbffd52102c2222f57ecbc811d8b0f1408ab19af39634020e48400ef6dc31", func := "pharos/pharoslaw3.FpReckons", spec := "fpReckons", inPlace := ["math/bits.Add64", "math/bits.Sub64"], unfollowed := true, recurses := true, named := ["pharos/fp.lift", "pharos/fp.modulus", "pharos/fp.rooting", "pharos/fp.half", "pharos/fp.inverting"], apart := false, laid := [("pharos/fp.inverting", laid_pharos_fp_inverting), ("pharos/fp.modulus", laid_pharos_fp_modulus), ("pharos/fp.lift", laid_pharos_fp_lift), ("pharos/fp.half", laid_pharos_fp_half), ("pharos/fp.rooting", laid_pharos_fp_rooting)], narrowed := true }
def FpReckonsUptoSaid : Prop := fpReckonsUptoRow.holds Tryd.pinned (OpenSpec.upto fpReckonsSpec)

/-- 'pharoslaw3.FpLaws', WHERE WHAT IT READS IS OF BULK AT MOST 1048576: true; the input reads as it did. -/
def fpLawsUptoRow : OpenClaim := { program := "ythgoggiiabaccaadoor", sum := "969dbffd52102c2222f57ecbc811d8b0f1408ab19af39634020e48400ef6dc31", func := "pharos/pharoslaw3.FpLaws", spec := "fpLaws", inPlace := ["math/bits.Add64", "math/bits.Sub64"], unfollowed := true, recurses := true, named := ["pharos/fp.lift", "pharos/fp.modulus", "pharos/fp.rooting", "pharos/fp.half", "pharos/fp.inverting"], apart := false, laid := [("pharos/fp.inverting", laid_pharos_fp_inverting), ("pharos/fp.modulus", laid_pharos_fp_modulus), ("pharos/fp.lift", laid_pharos_fp_lift), ("pharos/fp.half", laid_pharos_fp_half), ("pharos/fp.rooting", laid_pharos_fp_rooting)], narrowed := true }
def FpLawsUptoSaid : Prop := fpLawsUptoRow.holds Tryd.pinned (OpenSpec.upto fpLawsSpec)

/-- 'pharoslaw3.FpPowers', WHERE WHAT IT READS IS OF BULK AT MOST 1048576: true; the input reads as it did. -/
def fpPowersUptoRow : OpenClaim := { program := "ythgoggiiabaccaadoor", sum := "969dbffd52102c2222f57ecbc811d8b0f1408ab19af39634020e48400ef6dc31", func := "pharos/pharoslaw3.FpPowers", spec := "fpPowers", inPlace := ["math/bits.Add64", "math/bits.Sub64"], unfollowed := true, recurses := true, named := ["pharos/fp.lift", "pharos/fp.modulus", "pharos/fp.rooting", "pharos/fp.half", "pharos/fp.inverting"], apart := false, laid := [("pharos/fp.inverting", laid_pharos_fp_inverting), ("pharos/fp.modulus", laid_pharos_fp_modulus), ("pharos/fp.lift", laid_pharos_fp_lift), ("pharos/fp.half", laid_pharos_fp_half), ("pharos/fp.rooting", laid_pharos_fp_rooting)], narrowed := true }
def FpPowersUptoSaid : Prop := fpPowersUptoRow.holds Tryd.pinned (OpenSpec.upto fpPowersSpec)

/-- 'pharoslaw3.FpRoots', WHERE WHAT IT READS IS OF BULK AT MOST 1048576: true; the input reads as it did. -/
def fpRootsUptoRow : OpenClaim := { program := "ythgoggiiabaccaadoor", sum := "969dbffd52102c2222f57ecbc811d8b0f1408ab19af39634020e48400ef6dc31", func := "pharos/pharoslaw3.FpRoots", spec := "fpRoots", inPlace := ["math/bits.Add64", "math/bits.Sub64"], unfollowed := true, recurses := true, named := ["pharos/fp.lift", "pharos/fp.modulus", "pharos/fp.rooting", "pharos/fp.half", "pharos/fp.inverting"], apart := false, laid := [("pharos/fp.inverting", laid_pharos_fp_inverting), ("pharos/fp.modulus", laid_pharos_fp_modulus), ("pharos/fp.lift", laid_pharos_fp_lift), ("pharos/fp.half", laid_pharos_fp_half), ("pharos/fp.rooting", laid_pharos_fp_rooting)], narrowed := true }
def FpRootsUptoSaid : Prop := fpRootsUptoRow.holds Tryd.pinned (OpenSpec.upto fpRootsSpec)

/-- 'pharoslaw3.FpSigns', WHERE WHAT IT READS IS OF BULK AT MOST 1048576: true; the input reads as it did. -/
def fpSignsUptoRow : OpenClaim := { program := "ythgoggiiabaccaadoor", sum := "969dbffd52102c2222f57ecbc811d8b0f1408ab19af39634020e48400ef6dc31", func := "pharos/pharoslaw3.FpSigns", spec := "fpSigns", inPlace := ["math/bits.Add64", "math/bits.Sub64"], unfollowed := true, recurses := true, named := ["pharos/fp.lift", "pharos/fp.modulus", "pharos/fp.rooting", "pharos/fp.half", "pharos/fp.inverting"], apart := false, laid := [("pharos/fp.inverting", laid_pharos_fp_inverting), ("pharos/fp.modulus", laid_pharos_fp_modulus), ("pharos/fp.lift", laid_pharos_fp_lift), ("pharos/fp.half", laid_pharos_fp_half), ("pharos/fp.rooting", laid_pharos_fp_rooting)], narrowed := true }
def FpSignsUptoSaid : Prop := fpSignsUptoRow.holds Tryd.pinned (OpenSpec.upto fpSignsSpec)

/-- 'pharoslaw3.FpSolves', WHERE WHAT IT READS IS OF BULK AT MOST 1048576: true; the input reads as it did. -/
def fpSolvesUptoRow : OpenClaim := { program := "ythgoggiiabaccaadoor", sum := "969dbffd52102c2222f57ecbc811d8b0f1408ab19af39634020e48400ef6dc31", func := "pharos/pharoslaw3.FpSolves", spec := "fpSolves", inPlace := ["math/bits.Add64", "math/bits.Sub64"], unfollowed := true, recurses := true, named := ["pharos/fp.lift", "pharos/fp.modulus", "pharos/fp.rooting", "pharos/fp.half", "pharos/fp.inverting"], apart := false, laid := [("pharos/fp.inverting", laid_pharos_fp_inverting), ("pharos/fp.modulus", laid_pharos_fp_modulus), ("pharos/fp.lift", laid_pharos_fp_lift), ("pharos/fp.half", laid_pharos_fp_half), ("pharos/fp.rooting", laid_pharos_fp_rooting)], narrowed := true }
def FpSolvesUptoSaid : Prop := fpSolvesUptoRow.holds Tryd.pinned (OpenSpec.upto fpSolvesSpec)

/-- 'pharoslaw3.FpFermat', WHERE WHAT IT READS IS OF BULK AT MOST 1048576: true; the input reads as it did. -/
def fpFermatUptoRow : OpenClaim := { program := "ythgoggiiabaccaadoor", sum := "969dbffd52102c2222f57ecbc811d8b0f1408ab19af39634020e48400ef6dc31", func := "pharos/pharoslaw3.FpFermat", spec := "fpFermat", inPlace := ["math/bits.Add64", "math/bits.Sub64"], unfollowed := true, recurses := true, named := ["pharos/fp.lift", "pharos/fp.modulus", "pharos/fp.rooting", "pharos/fp.half", "pharos/fp.inverting"], apart := false, laid := [("pharos/fp.inverting", laid_pharos_fp_inverting), ("pharos/fp.modulus", laid_pharos_fp_modulus), ("pharos/fp.lift", laid_pharos_fp_lift), ("pharos/fp.half", laid_pharos_fp_half), ("pharos/fp.rooting", laid_pharos_fp_rooting)], narrowed := true }
def FpFermatUptoSaid : Prop := fpFermatUptoRow.holds Tryd.pinned (OpenSpec.upto fpFermatSpec)

end Rows
end Go.Proofs.YthgoggiiabaccaaDoor
