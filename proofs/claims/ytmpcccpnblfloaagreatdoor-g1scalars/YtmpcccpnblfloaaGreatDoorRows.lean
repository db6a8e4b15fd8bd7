/-
  NARROWER THAN 'FOR EVERY INPUT', by the rows' own cells (each row's printed sentence says how): G1Lifts: laid · G1Laws: laid · G1Times: laid · G1Scalars: laid · G1Groups: laid.
  DERIVED. THE GIVEN ROWS OF THIS SEAT. 5 by the template 'for every input the law returns true; each argument reads behind the call as it read before'; 0 by the template 'total and deterministic' (their statements: YtmpcccpnblfloaaGreatDoorTotals.lean).
  GIVEN WITH THE SEED: the statements are not yours to turn. If you find one false, say at which input.
  Laid BY PROGRAM, IN A SANDBOX (cutbox-rows.mjs): the forced cells as the released guide's own fill.sh prints them over the translation b78b7818946afe38… (all of the seat's roots in one cut). By AI agents, Wed Nov 11 2026. No macro, syntax, notation, axiom, sorry.
-/
import Derived.Test.YtmpcccpnblfloaaGreatDoorChecked
import GoSem.Claim
import GoSem.ClaimJoined
import GoSem.ClaimMapViews
import Derived.JoinedTies
import Derived.KernelRfl
namespace Go.Proofs.YtmpcccpnblfloaaGreatDoor
/- THE CELL 'sum', in the pinned program and in every row, IS THE sha256 OF THE DUMP (.gsa) THAT YtmpcccpnblfloaaGreatDoorProg.lean LOADS. Nothing in Lean hashes anything: it is a label: what it is worth is what the hold of that sum in a sandbox is worth. -/
noncomputable def Tryz.pinned : Pinned := { name := "ytmpcccpnblfloaagreatdoor", sum := "b78b7818946afe3888b7578d75d0ae6372b5c3b2ca8538071d29839c3055ec86", checked := Tryz.checked }
namespace Rows
def none {H : Type} : Left H := { results := [], args := [] }

/- WHAT THE LISTED PACKAGE-LEVEL VARIABLES READ AS WHEN THE CALL BEGINS. Each datum BY PROGRAM (the guide's laid-datum.mjs) off the statement by which the dump's own 'gosem.cut.vars' lays the variable. In a bare row this is a premise. The card (YtmpcccpnblfloaaGreatDoorCards.lean) ties it to the program's text. -/
def laid_pharos_fp_inverting {H : Type} : DataW H := .agg [.lit (.int .u64 13402431016077863593), .lit (.int .u64 2210141511517208575), .lit (.int .u64 7435674573564081700), .lit (.int .u64 7239337960414712511), .lit (.int .u64 5412103778470702295), .lit (.int .u64 1873798617647539866)]
def laid_pharos_fp_modulus {H : Type} : DataW H := .agg [.lit (.int .u64 13402431016077863595), .lit (.int .u64 2210141511517208575), .lit (.int .u64 7435674573564081700), .lit (.int .u64 7239337960414712511), .lit (.int .u64 5412103778470702295), .lit (.int .u64 1873798617647539866)]
def laid_pharos_fp_lift {H : Type} : DataW H := .agg [.lit (.int .u64 17644856173732828998), .lit (.int .u64 754043588434789617), .lit (.int .u64 10224657059481499349), .lit (.int .u64 7488229067341005760), .lit (.int .u64 11130996698012816685), .lit (.int .u64 1267921511277847466)]
def laid_pharos_fp_half {H : Type} : DataW H := .agg [.lit (.int .u64 15924587544893707605), .lit (.int .u64 1105070755758604287), .lit (.int .u64 12941209323636816658), .lit (.int .u64 12843041017062132063), .lit (.int .u64 2706051889235351147), .lit (.int .u64 936899308823769933)]
def laid_pharos_fp_rooting {H : Type} : DataW H := .agg [.lit (.int .u64 17185665809301629611), .lit (.int .u64 552535377879302143), .lit (.int .u64 15693976698673184137), .lit (.int .u64 15644892545385841839), .lit (.int .u64 10576397981472451381), .lit (.int .u64 468449654411884966)]
def laid_pharos_fr_modulus {H : Type} : DataW H := .agg [.lit (.int .u64 18446744069414584321), .lit (.int .u64 6034159408538082302), .lit (.int .u64 3691218898639771653), .lit (.int .u64 8353516859464449352), .lit (.int .u64 0), .lit (.int .u64 0)]
def laid_pharos_fr_lift {H : Type} : DataW H := .agg [.lit (.int .u64 14279814937963099055), .lit (.int .u64 1963020886675057040), .lit (.int .u64 8345518043873801240), .lit (.int .u64 7938258146690806761), .lit (.int .u64 0), .lit (.int .u64 0)]

/-- 'pharoslaw8.G1Lifts': WHATEVER THE INPUT: true; the input reads as it did. -/
def g1LiftsSpec : ChangeSpec := { name := "g1Lifts", fn := fun _ => fun
  | [d1, d2] => { results := [.lit (.bool true)], args := [d1, d2] }
  | _ => none }
def g1LiftsRow : OpenClaim := { program := "ytmpcccpnblfloaagreatdoor", sum := "b78b7818946afe3888b7578d75d0ae6372b5c3b2ca8538071d29839c3055ec86", func := "pharos/pharoslaw8.G1Lifts", spec := "g1Lifts", inPlace := ["math/bits.Add64", "math/bits.Sub64"], unfollowed := true, recurses := true, named := ["pharos/fp.modulus", "pharos/fp.lift", "pharos/fp.inverting", "pharos/fp.rooting", "pharos/fp.half"], apart := false, laid := [("pharos/fp.inverting", laid_pharos_fp_inverting), ("pharos/fp.modulus", laid_pharos_fp_modulus), ("pharos/fp.lift", laid_pharos_fp_lift), ("pharos/fp.half", laid_pharos_fp_half), ("pharos/fp.rooting", laid_pharos_fp_rooting)] }
def G1LiftsSaid : Prop := g1LiftsRow.holds Tryz.pinned (OpenSpec.ofChange g1LiftsSpec)

/-- ITS FALSE NEIGHBOUR: 'it returns false'. Refute it at one input. -/
def g1LiftsWrong : ChangeSpec := { name := "g1Lifts", fn := fun _ => fun
  | [d1, d2] => { results := [.lit (.bool false)], args := [d1, d2] }
  | _ => none }
def G1LiftsWrongFalsely : Prop := g1LiftsRow.holds Tryz.pinned (OpenSpec.ofChange g1LiftsWrong)

/-- 'pharoslaw8.G1Laws': WHATEVER THE INPUT: true; the input reads as it did. -/
def g1LawsSpec : ChangeSpec := { name := "g1Laws", fn := fun _ => fun
  | [d1, d2, d3, d4, d5] => { results := [.lit (.bool true)], args := [d1, d2, d3, d4, d5] }
  | _ => none }
def g1LawsRow : OpenClaim := { program := "ytmpcccpnblfloaagreatdoor", sum := "b78b7818946afe3888b7578d75d0ae6372b5c3b2ca8538071d29839c3055ec86", func := "pharos/pharoslaw8.G1Laws", spec := "g1Laws", inPlace := ["math/bits.Add64", "math/bits.Sub64"], unfollowed := true, recurses := true, named := ["pharos/fp.modulus", "pharos/fp.lift", "pharos/fp.inverting", "pharos/fp.rooting", "pharos/fp.half"], apart := false, laid := [("pharos/fp.inverting", laid_pharos_fp_inverting), ("pharos/fp.modulus", laid_pharos_fp_modulus), ("pharos/fp.lift", laid_pharos_fp_lift), ("pharos/fp.half", laid_pharos_fp_half), ("pharos/fp.rooting", laid_pharos_fp_rooting)] }
def G1LawsSaid : Prop := g1LawsRow.holds Tryz.pinned (OpenSpec.ofChange g1LawsSpec)

/-- ITS FALSE NEIGHBOUR: 'it returns false'. Refute it at one input. -/
def g1LawsWrong : ChangeSpec := { name := "g1Laws", fn := fun _ => fun
  | [d1, d2, d3, d4, d5] => { results := [.lit (.bool false)], args := [d1, d2, d3, d4, d5] }
  | _ => none }
def G1LawsWrongFalsely : Prop := g1LawsRow.holds Tryz.pinned (OpenSpec.ofChange g1LawsWrong)

/-- 'pharoslaw8.G1Times': WHATEVER THE INPUT: true; the input reads as it did. -/
def g1TimesSpec : ChangeSpec := { name := "g1Times", fn := fun _ => fun
  | [d1, d2, d3, d4] => { results := [.lit (.bool true)], args := [d1, d2, d3, d4] }
  | _ => none }
def g1TimesRow : OpenClaim := { program := "ytmpcccpnblfloaagreatdoor", sum := "b78b7818946afe3888b7578d75d0ae6372b5c3b2ca8538071d29839c3055ec86", func := "pharos/pharoslaw8.G1Times", spec := "g1Times", inPlace := ["math/bits.Add64", "math/bits.Sub64"], unfollowed := true, recurses := true, named := ["pharos/fp.modulus", "pharos/fp.lift", "pharos/fp.inverting", "pharos/fp.rooting", "pharos/fp.half"], apart := false, laid := [("pharos/fp.inverting", laid_pharos_fp_inverting), ("pharos/fp.modulus", laid_pharos_fp_modulus), ("pharos/fp.lift", laid_pharos_fp_lift), ("pharos/fp.half", laid_pharos_fp_half), ("pharos/fp.rooting", laid_pharos_fp_rooting)] }
def G1TimesSaid : Prop := g1TimesRow.holds Tryz.pinned (OpenSpec.ofChange g1TimesSpec)

/-- ITS FALSE NEIGHBOUR: 'it returns false'. Refute it at one input. -/
def g1TimesWrong : ChangeSpec := { name := "g1Times", fn := fun _ => fun
  | [d1, d2, d3, d4] => { results := [.lit (.bool false)], args := [d1, d2, d3, d4] }
  | _ => none }
def G1TimesWrongFalsely : Prop := g1TimesRow.holds Tryz.pinned (OpenSpec.ofChange g1TimesWrong)

/-- 'pharoslaw8.G1Scalars': WHATEVER THE INPUT: true; the input reads as it did. -/
def g1ScalarsSpec : ChangeSpec := { name := "g1Scalars", fn := fun _ => fun
  | [d1, d2, d3] => { results := [.lit (.bool true)], args := [d1, d2, d3] }
  | _ => none }
def g1ScalarsRow : OpenClaim := { program := "ytmpcccpnblfloaagreatdoor", sum := "b78b7818946afe3888b7578d75d0ae6372b5c3b2ca8538071d29839c3055ec86", func := "pharos/pharoslaw8.G1Scalars", spec := "g1Scalars", inPlace := ["math/bits.Add64", "math/bits.Sub64"], unfollowed := true, recurses := true, named := ["pharos/fp.modulus", "pharos/fp.lift", "pharos/fp.inverting", "pharos/fr.lift", "pharos/fr.modulus"], apart := false, laid := [("pharos/fp.inverting", laid_pharos_fp_inverting), ("pharos/fp.modulus", laid_pharos_fp_modulus), ("pharos/fp.lift", laid_pharos_fp_lift), ("pharos/fr.modulus", laid_pharos_fr_modulus), ("pharos/fr.lift", laid_pharos_fr_lift)] }
def G1ScalarsSaid : Prop := g1ScalarsRow.holds Tryz.pinned (OpenSpec.ofChange g1ScalarsSpec)

/-- ITS FALSE NEIGHBOUR: 'it returns false'. Refute it at one input. -/
def g1ScalarsWrong : ChangeSpec := { name := "g1Scalars", fn := fun _ => fun
  | [d1, d2, d3] => { results := [.lit (.bool false)], args := [d1, d2, d3] }
  | _ => none }
def G1ScalarsWrongFalsely : Prop := g1ScalarsRow.holds Tryz.pinned (OpenSpec.ofChange g1ScalarsWrong)

/-- 'pharoslaw8.G1Groups': WHATEVER THE INPUT: true; the input reads as it did. -/
def g1GroupsSpec : ChangeSpec := { name := "g1Groups", fn := fun _ => fun
  | [d1, d2, d3] => { results := [.lit (.bool true)], args := [d1, d2, d3] }
  | _ => none }
def g1GroupsRow : OpenClaim := { program := "ytmpcccpnblfloaagreatdoor", sum := "b78b7818946afe3888b7578d75d0ae6372b5c3b2ca8538071d29839c3055ec86", func := "pharos/pharoslaw8.G1Groups", spec := "g1Groups", inPlace := ["math/bits.Add64", "math/bits.Sub64"], unfollowed := true, recurses := true, named := ["pharos/fp.modulus", "pharos/fp.lift", "pharos/fp.inverting", "pharos/fp.rooting", "pharos/fp.half"], apart := false, laid := [("pharos/fp.inverting", laid_pharos_fp_inverting), ("pharos/fp.modulus", laid_pharos_fp_modulus), ("pharos/fp.lift", laid_pharos_fp_lift), ("pharos/fp.half", laid_pharos_fp_half), ("pharos/fp.rooting", laid_pharos_fp_rooting)] }
def G1GroupsSaid : Prop := g1GroupsRow.holds Tryz.pinned (OpenSpec.ofChange g1GroupsSpec)

/-- ITS FALSE NEIGHBOUR: 'it returns false'. Refute it at one input. -/
def g1GroupsWrong : ChangeSpec := { name := "g1Groups", fn := fun _ => fun
  | [d1, d2, d3] => { results := [.lit (.bool false)], args := [d1, d2, d3] }
  | _ => none }
def G1GroupsWrongFalsely : Prop := g1GroupsRow.holds Tryz.pinned (OpenSpec.ofChange g1GroupsWrong)

/- THE SECOND FORM. 'bulk': how many values and letters a reading holds, each counted each time it is reached (what is shared counts as often as it is met; a slice's spare places count too). A statement '..UptoSaid' is the law's where the arguments, and the package variables that the reading takes, are together of bulk at most 1048576: NARROWER than '..Said'. Prove '..Said' where nothing that the law and all that it calls make is longer than what came in: it says more and counts as full. Else prove '..UptoSaid'. A law counts once. -/
mutual
def uptoBulk {H : Type} : DataW H → Nat
  | .lit (.string bytes) => bytes.length + 1
  | .lit _ => 1
  | .nil => 1
  | .ptr d => uptoBulk d + 1
  | .slice elems spare => uptoBulkAll elems + uptoBulkAll spare + 1
  | .agg parts => uptoBulkAll parts + 1
  | .iface _ d => uptoBulk d + 1
  | .map entries => uptoBulkEntries entries + 1
  | .held _ => 1
def uptoBulkAll {H : Type} : List (DataW H) → Nat
  | [] => 0
  | d :: r => uptoBulk d + uptoBulkAll r
def uptoBulkEntries {H : Type} : List (Lit × DataW H) → Nat
  | [] => 0
  | x :: r => uptoBulkEntry x + uptoBulkEntries r
def uptoBulkEntry {H : Type} : Lit × DataW H → Nat
  | (.string bytes, d) => bytes.length + uptoBulk d + 1
  | (_, d) => uptoBulk d + 1
 end
def uptoSmall : (H : Type) → List (DataW H) → Bool := fun _ ds => decide (uptoBulkAll ds ≤ 1048576)
def OpenSpec.upto (s : _root_.Go.ChangeSpec) : _root_.Go.OpenSpec := { _root_.Go.OpenSpec.ofChange s with cond := some uptoSmall }

/-- 'pharoslaw8.G1Lifts', WHERE WHAT IT READS IS OF BULK AT MOST 1048576: true; the input reads as it did. -/
def g1LiftsUptoRow : OpenClaim := { program := "ytmpcccpnblfloaagreatdoor", sum := "b78b7818946afe3888b7578d75d0ae6372b5c3b2ca8538071d29839c3055ec86", func := "pharos/pharoslaw8.G1Lifts", spec := "g1Lifts", inPlace := ["math/bits.Add64", "math/bits.Sub64"], unfollowed := true, recurses := true, named := ["pharos/fp.modulus", "pharos/fp.lift", "pharos/fp.inverting", "pharos/fp.rooting", "pharos/fp.half"], apart := false, laid := [("pharos/fp.inverting", laid_pharos_fp_inverting), ("pharos/fp.modulus", laid_pharos_fp_modulus), ("pharos/fp.lift", laid_pharos_fp_lift), ("pharos/fp.half", laid_pharos_fp_half), ("pharos/fp.rooting", laid_pharos_fp_rooting)], narrowed := true }
def G1LiftsUptoSaid : Prop := g1LiftsUptoRow.holds Tryz.pinned (OpenSpec.upto g1LiftsSpec)

/-- 'pharoslaw8.G1Laws', WHERE WHAT IT READS IS OF BULK AT MOST 1048576: true; the input reads as it did. -/
def g1LawsUptoRow : OpenClaim := { program := "ytmpcccpnblfloaagreatdoor", sum := "b78b7818946afe3888b7578d75d0ae6372b5c3b2ca8538071d29839c3055ec86", func := "pharos/pharoslaw8.G1Laws", spec := "g1Laws", inPlace := ["math/bits.Add64", "math/bits.Sub64"], unfollowed := true, recurses := true, named := ["pharos/fp.modulus", "pharos/fp.lift", "pharos/fp.inverting", "pharos/fp.rooting", "pharos/fp.half"], apart := false, laid := [("pharos/fp.inverting", laid_pharos_fp_inverting), ("pharos/fp.modulus", laid_pharos_fp_modulus), ("pharos/fp.lift", laid_pharos_fp_lift), ("pharos/fp.half", laid_pharos_fp_half), ("pharos/fp.rooting", laid_pharos_fp_rooting)], narrowed := true }
def G1LawsUptoSaid : Prop := g1LawsUptoRow.holds Tryz.pinned (OpenSpec.upto g1LawsSpec)

/-- 'pharoslaw8.G1Times', WHERE WHAT IT READS IS OF BULK AT MOST 1048576: true; the input reads as it did. -/
def g1TimesUptoRow : OpenClaim := { program := "ytmpcccpnblfloaagreatdoor", sum := "b78b7818946afe3888b7578d75d0ae6372b5c3b2ca8538071d29839c3055ec86", func := "pharos/pharoslaw8.G1Times", spec := "g1Times", inPlace := ["math/bits.Add64", "math/bits.Sub64"], unfollowed := true, recurses := true, named := ["pharos/fp.modulus", "pharos/fp.lift", "pharos/fp.inverting", "pharos/fp.rooting", "pharos/fp.half"], apart := false, laid := [("pharos/fp.inverting", laid_pharos_fp_inverting), ("pharos/fp.modulus", laid_pharos_fp_modulus), ("pharos/fp.lift", laid_pharos_fp_lift), ("pharos/fp.half", laid_pharos_fp_half), ("pharos/fp.rooting", laid_pharos_fp_rooting)], narrowed := true }
def G1TimesUptoSaid : Prop := g1TimesUptoRow.holds Tryz.pinned (OpenSpec.upto g1TimesSpec)

/-- 'pharoslaw8.G1Scalars', WHERE WHAT IT READS IS OF BULK AT MOST 1048576: true; the input reads as it did. -/
def g1ScalarsUptoRow : OpenClaim := { program := "ytmpcccpnblfloaagreatdoor", sum := "b78b7818946afe3888b7578d75d0ae6372b5c3b2ca8538071d29839c3055ec86", func := "pharos/pharoslaw8.G1Scalars", spec := "g1Scalars", inPlace := ["math/bits.Add64", "math/bits.Sub64"], unfollowed := true, recurses := true, named := ["pharos/fp.modulus", "pharos/fp.lift", "pharos/fp.inverting", "pharos/fr.lift", "pharos/fr.modulus"], apart := false, laid := [("pharos/fp.inverting", laid_pharos_fp_inverting), ("pharos/fp.modulus", laid_pharos_fp_modulus), ("pharos/fp.lift", laid_pharos_fp_lift), ("pharos/fr.modulus", laid_pharos_fr_modulus), ("pharos/fr.lift", laid_pharos_fr_lift)], narrowed := true }
def G1ScalarsUptoSaid : Prop := g1ScalarsUptoRow.holds Tryz.pinned (OpenSpec.upto g1ScalarsSpec)

/-- 'pharoslaw8.G1Groups', WHERE WHAT IT READS IS OF BULK AT MOST 1048576: true; the input reads as it did. -/
def g1GroupsUptoRow : OpenClaim := { program := "ytmpcccpnblfloaagreatdoor", sum := "b78b7818946afe3888b7578d75d0ae6372b5c3b2ca8538071d29839c3055ec86", func := "pharos/pharoslaw8.G1Groups", spec := "g1Groups", inPlace := ["math/bits.Add64", "math/bits.Sub64"], unfollowed := true, recurses := true, named := ["pharos/fp.modulus", "pharos/fp.lift", "pharos/fp.inverting", "pharos/fp.rooting", "pharos/fp.half"], apart := false, laid := [("pharos/fp.inverting", laid_pharos_fp_inverting), ("pharos/fp.modulus", laid_pharos_fp_modulus), ("pharos/fp.lift", laid_pharos_fp_lift), ("pharos/fp.half", laid_pharos_fp_half), ("pharos/fp.rooting", laid_pharos_fp_rooting)], narrowed := true }
def G1GroupsUptoSaid : Prop := g1GroupsUptoRow.holds Tryz.pinned (OpenSpec.upto g1GroupsSpec)

end Rows
end Go.Proofs.YtmpcccpnblfloaaGreatDoor
