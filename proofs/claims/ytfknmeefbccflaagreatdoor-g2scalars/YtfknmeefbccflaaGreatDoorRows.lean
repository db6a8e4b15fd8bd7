/-
  NARROWER THAN 'FOR EVERY INPUT', by the rows' own cells (each row's printed sentence says how): G2Affine: laid · G2Lifts: laid · G2Adds: laid · G2Laws: laid · G2Times: laid · G2Scalars: laid · G2Groups: laid.
  DERIVED. THE GIVEN ROWS OF THIS SEAT. 7 by the template 'for every input the law returns true; each argument reads behind the call as it read before'; 0 by the template 'total and deterministic' (their statements: YtfknmeefbccflaaGreatDoorTotals.lean).
  GIVEN WITH THE SEED: the statements are not yours to turn. If you find one false, say at which input.
  Laid BY PROGRAM, IN A SANDBOX (cutbox-rows.mjs): the forced cells as the released guide's own fill.sh prints them over the translation b08866b47fe63141… (all of the seat's roots in one cut). By AI agents, Wed Nov 11 2026. No macro, syntax, notation, axiom, sorry.
-/
import Derived.Test.YtfknmeefbccflaaGreatDoorChecked
import GoSem.Claim
import GoSem.ClaimJoined
import GoSem.ClaimMapViews
import Derived.JoinedTies
import Derived.KernelRfl
namespace Go.Proofs.YtfknmeefbccflaaGreatDoor
/- THE CELL 'sum', in the pinned program and in every row, IS THE sha256 OF THE DUMP (.gsa) THAT YtfknmeefbccflaaGreatDoorProg.lean LOADS. Nothing in Lean hashes anything: it is a label: what it is worth is what the hold of that sum in a sandbox is worth. -/
noncomputable def Tryz.pinned : Pinned := { name := "ytfknmeefbccflaagreatdoor", sum := "b08866b47fe63141db17231ba987bd357b28b84c1a62ebbf014201bda134777e", checked := Tryz.checked }
namespace Rows
def none {H : Type} : Left H := { results := [], args := [] }

/- WHAT THE LISTED PACKAGE-LEVEL VARIABLES READ AS WHEN THE CALL BEGINS. Each datum BY PROGRAM (the guide's laid-datum.mjs) off the statement by which the dump's own 'gosem.cut.vars' lays the variable. In a bare row this is a premise. The card (YtfknmeefbccflaaGreatDoorCards.lean) ties it to the program's text. -/
def laid_pharos_fp_inverting {H : Type} : DataW H := .agg [.lit (.int .u64 13402431016077863593), .lit (.int .u64 2210141511517208575), .lit (.int .u64 7435674573564081700), .lit (.int .u64 7239337960414712511), .lit (.int .u64 5412103778470702295), .lit (.int .u64 1873798617647539866)]
def laid_pharos_fp_modulus {H : Type} : DataW H := .agg [.lit (.int .u64 13402431016077863595), .lit (.int .u64 2210141511517208575), .lit (.int .u64 7435674573564081700), .lit (.int .u64 7239337960414712511), .lit (.int .u64 5412103778470702295), .lit (.int .u64 1873798617647539866)]
def laid_pharos_fp_lift {H : Type} : DataW H := .agg [.lit (.int .u64 17644856173732828998), .lit (.int .u64 754043588434789617), .lit (.int .u64 10224657059481499349), .lit (.int .u64 7488229067341005760), .lit (.int .u64 11130996698012816685), .lit (.int .u64 1267921511277847466)]
def laid_pharos_fp_half {H : Type} : DataW H := .agg [.lit (.int .u64 15924587544893707605), .lit (.int .u64 1105070755758604287), .lit (.int .u64 12941209323636816658), .lit (.int .u64 12843041017062132063), .lit (.int .u64 2706051889235351147), .lit (.int .u64 936899308823769933)]
def laid_pharos_fp_rooting {H : Type} : DataW H := .agg [.lit (.int .u64 17185665809301629611), .lit (.int .u64 552535377879302143), .lit (.int .u64 15693976698673184137), .lit (.int .u64 15644892545385841839), .lit (.int .u64 10576397981472451381), .lit (.int .u64 468449654411884966)]
def laid_pharos_fr_modulus {H : Type} : DataW H := .agg [.lit (.int .u64 18446744069414584321), .lit (.int .u64 6034159408538082302), .lit (.int .u64 3691218898639771653), .lit (.int .u64 8353516859464449352), .lit (.int .u64 0), .lit (.int .u64 0)]
def laid_pharos_fr_lift {H : Type} : DataW H := .agg [.lit (.int .u64 14279814937963099055), .lit (.int .u64 1963020886675057040), .lit (.int .u64 8345518043873801240), .lit (.int .u64 7938258146690806761), .lit (.int .u64 0), .lit (.int .u64 0)]

/-- 'pharoslaw9.G2Affine': WHATEVER THE INPUT: true; the input reads as it did. -/
def g2AffineSpec : ChangeSpec := { name := "g2Affine", fn := fun _ => fun
  | [d1, d2] => { results := [.lit (.bool true)], args := [d1, d2] }
  | _ => none }
def g2AffineRow : OpenClaim := { program := "ytfknmeefbccflaagreatdoor", sum := "b08866b47fe63141db17231ba987bd357b28b84c1a62ebbf014201bda134777e", func := "pharos/pharoslaw9.G2Affine", spec := "g2Affine", inPlace := ["math/bits.Add64", "math/bits.Sub64"], unfollowed := true, recurses := true, named := ["pharos/fp.modulus", "pharos/fp.lift", "pharos/fp.inverting"], apart := false, laid := [("pharos/fp.inverting", laid_pharos_fp_inverting), ("pharos/fp.modulus", laid_pharos_fp_modulus), ("pharos/fp.lift", laid_pharos_fp_lift)] }
def G2AffineSaid : Prop := g2AffineRow.holds Tryz.pinned (OpenSpec.ofChange g2AffineSpec)

/-- ITS FALSE NEIGHBOUR: 'it returns false'. Refute it at one input. -/
def g2AffineWrong : ChangeSpec := { name := "g2Affine", fn := fun _ => fun
  | [d1, d2] => { results := [.lit (.bool false)], args := [d1, d2] }
  | _ => none }
def G2AffineWrongFalsely : Prop := g2AffineRow.holds Tryz.pinned (OpenSpec.ofChange g2AffineWrong)

/-- 'pharoslaw9.G2Lifts': WHATEVER THE INPUT: true; the input reads as it did. -/
def g2LiftsSpec : ChangeSpec := { name := "g2Lifts", fn := fun _ => fun
  | [d1, d2] => { results := [.lit (.bool true)], args := [d1, d2] }
  | _ => none }
def g2LiftsRow : OpenClaim := { program := "ytfknmeefbccflaagreatdoor", sum := "b08866b47fe63141db17231ba987bd357b28b84c1a62ebbf014201bda134777e", func := "pharos/pharoslaw9.G2Lifts", spec := "g2Lifts", inPlace := ["math/bits.Add64", "math/bits.Sub64"], unfollowed := true, recurses := true, named := ["pharos/fp.modulus", "pharos/fp.lift", "pharos/fp.inverting", "pharos/fp.rooting", "pharos/fp.half"], apart := false, laid := [("pharos/fp.inverting", laid_pharos_fp_inverting), ("pharos/fp.modulus", laid_pharos_fp_modulus), ("pharos/fp.lift", laid_pharos_fp_lift), ("pharos/fp.half", laid_pharos_fp_half), ("pharos/fp.rooting", laid_pharos_fp_rooting)] }
def G2LiftsSaid : Prop := g2LiftsRow.holds Tryz.pinned (OpenSpec.ofChange g2LiftsSpec)

/-- ITS FALSE NEIGHBOUR: 'it returns false'. Refute it at one input. -/
def g2LiftsWrong : ChangeSpec := { name := "g2Lifts", fn := fun _ => fun
  | [d1, d2] => { results := [.lit (.bool false)], args := [d1, d2] }
  | _ => none }
def G2LiftsWrongFalsely : Prop := g2LiftsRow.holds Tryz.pinned (OpenSpec.ofChange g2LiftsWrong)

/-- 'pharoslaw9.G2Adds': WHATEVER THE INPUT: true; the input reads as it did. -/
def g2AddsSpec : ChangeSpec := { name := "g2Adds", fn := fun _ => fun
  | [d1, d2, d3, d4, d5, d6, d7, d8] => { results := [.lit (.bool true)], args := [d1, d2, d3, d4, d5, d6, d7, d8] }
  | _ => none }
def g2AddsRow : OpenClaim := { program := "ytfknmeefbccflaagreatdoor", sum := "b08866b47fe63141db17231ba987bd357b28b84c1a62ebbf014201bda134777e", func := "pharos/pharoslaw9.G2Adds", spec := "g2Adds", inPlace := ["math/bits.Add64", "math/bits.Sub64"], unfollowed := true, recurses := true, named := ["pharos/fp.modulus", "pharos/fp.lift", "pharos/fp.inverting", "pharos/fp.rooting", "pharos/fp.half"], apart := false, laid := [("pharos/fp.inverting", laid_pharos_fp_inverting), ("pharos/fp.modulus", laid_pharos_fp_modulus), ("pharos/fp.lift", laid_pharos_fp_lift), ("pharos/fp.half", laid_pharos_fp_half), ("pharos/fp.rooting", laid_pharos_fp_rooting)] }
def G2AddsSaid : Prop := g2AddsRow.holds Tryz.pinned (OpenSpec.ofChange g2AddsSpec)

/-- ITS FALSE NEIGHBOUR: 'it returns false'. Refute it at one input. -/
def g2AddsWrong : ChangeSpec := { name := "g2Adds", fn := fun _ => fun
  | [d1, d2, d3, d4, d5, d6, d7, d8] => { results := [.lit (.bool false)], args := [d1, d2, d3, d4, d5, d6, d7, d8] }
  | _ => none }
def G2AddsWrongFalsely : Prop := g2AddsRow.holds Tryz.pinned (OpenSpec.ofChange g2AddsWrong)

/-- 'pharoslaw9.G2Laws': WHATEVER THE INPUT: true; the input reads as it did. -/
def g2LawsSpec : ChangeSpec := { name := "g2Laws", fn := fun _ => fun
  | [d1, d2, d3, d4, d5] => { results := [.lit (.bool true)], args := [d1, d2, d3, d4, d5] }
  | _ => none }
def g2LawsRow : OpenClaim := { program := "ytfknmeefbccflaagreatdoor", sum := "b08866b47fe63141db17231ba987bd357b28b84c1a62ebbf014201bda134777e", func := "pharos/pharoslaw9.G2Laws", spec := "g2Laws", inPlace := ["math/bits.Add64", "math/bits.Sub64"], unfollowed := true, recurses := true, named := ["pharos/fp.modulus", "pharos/fp.lift", "pharos/fp.inverting", "pharos/fp.rooting", "pharos/fp.half"], apart := false, laid := [("pharos/fp.inverting", laid_pharos_fp_inverting), ("pharos/fp.modulus", laid_pharos_fp_modulus), ("pharos/fp.lift", laid_pharos_fp_lift), ("pharos/fp.half", laid_pharos_fp_half), ("pharos/fp.rooting", laid_pharos_fp_rooting)] }
def G2LawsSaid : Prop := g2LawsRow.holds Tryz.pinned (OpenSpec.ofChange g2LawsSpec)

/-- ITS FALSE NEIGHBOUR: 'it returns false'. Refute it at one input. -/
def g2LawsWrong : ChangeSpec := { name := "g2Laws", fn := fun _ => fun
  | [d1, d2, d3, d4, d5] => { results := [.lit (.bool false)], args := [d1, d2, d3, d4, d5] }
  | _ => none }
def G2LawsWrongFalsely : Prop := g2LawsRow.holds Tryz.pinned (OpenSpec.ofChange g2LawsWrong)

/-- 'pharoslaw9.G2Times': WHATEVER THE INPUT: true; the input reads as it did. -/
def g2TimesSpec : ChangeSpec := { name := "g2Times", fn := fun _ => fun
  | [d1, d2, d3, d4] => { results := [.lit (.bool true)], args := [d1, d2, d3, d4] }
  | _ => none }
def g2TimesRow : OpenClaim := { program := "ytfknmeefbccflaagreatdoor", sum := "b08866b47fe63141db17231ba987bd357b28b84c1a62ebbf014201bda134777e", func := "pharos/pharoslaw9.G2Times", spec := "g2Times", inPlace := ["math/bits.Add64", "math/bits.Sub64"], unfollowed := true, recurses := true, named := ["pharos/fp.modulus", "pharos/fp.lift", "pharos/fp.inverting", "pharos/fp.rooting", "pharos/fp.half"], apart := false, laid := [("pharos/fp.inverting", laid_pharos_fp_inverting), ("pharos/fp.modulus", laid_pharos_fp_modulus), ("pharos/fp.lift", laid_pharos_fp_lift), ("pharos/fp.half", laid_pharos_fp_half), ("pharos/fp.rooting", laid_pharos_fp_rooting)] }
def G2TimesSaid : Prop := g2TimesRow.holds Tryz.pinned (OpenSpec.ofChange g2TimesSpec)

/-- ITS FALSE NEIGHBOUR: 'it returns false'. Refute it at one input. -/
def g2TimesWrong : ChangeSpec := { name := "g2Times", fn := fun _ => fun
  | [d1, d2, d3, d4] => { results := [.lit (.bool false)], args := [d1, d2, d3, d4] }
  | _ => none }
def G2TimesWrongFalsely : Prop := g2TimesRow.holds Tryz.pinned (OpenSpec.ofChange g2TimesWrong)

/-- 'pharoslaw9.G2Scalars': WHATEVER THE INPUT: true; the input reads as it did. -/
def g2ScalarsSpec : ChangeSpec := { name := "g2Scalars", fn := fun _ => fun
  | [d1, d2, d3] => { results := [.lit (.bool true)], args := [d1, d2, d3] }
  | _ => none }
def g2ScalarsRow : OpenClaim := { program := "ytfknmeefbccflaagreatdoor", sum := "b08866b47fe63141db17231ba987bd357b28b84c1a62ebbf014201bda134777e", func := "pharos/pharoslaw9.G2Scalars", spec := "g2Scalars", inPlace := ["math/bits.Add64", "math/bits.Sub64"], unfollowed := true, recurses := true, named := ["pharos/fp.modulus", "pharos/fp.lift", "pharos/fp.inverting", "pharos/fr.lift", "pharos/fr.modulus"], apart := false, laid := [("pharos/fp.inverting", laid_pharos_fp_inverting), ("pharos/fp.modulus", laid_pharos_fp_modulus), ("pharos/fp.lift", laid_pharos_fp_lift), ("pharos/fr.modulus", laid_pharos_fr_modulus), ("pharos/fr.lift", laid_pharos_fr_lift)] }
def G2ScalarsSaid : Prop := g2ScalarsRow.holds Tryz.pinned (OpenSpec.ofChange g2ScalarsSpec)

/-- ITS FALSE NEIGHBOUR: 'it returns false'. Refute it at one input. -/
def g2ScalarsWrong : ChangeSpec := { name := "g2Scalars", fn := fun _ => fun
  | [d1, d2, d3] => { results := [.lit (.bool false)], args := [d1, d2, d3] }
  | _ => none }
def G2ScalarsWrongFalsely : Prop := g2ScalarsRow.holds Tryz.pinned (OpenSpec.ofChange g2ScalarsWrong)

/-- 'pharoslaw9.G2Groups': WHATEVER THE INPUT: true; the input reads as it did. -/
def g2GroupsSpec : ChangeSpec := { name := "g2Groups", fn := fun _ => fun
  | [d1, d2, d3] => { results := [.lit (.bool true)], args := [d1, d2, d3] }
  | _ => none }
def g2GroupsRow : OpenClaim := { program := "ytfknmeefbccflaagreatdoor", sum := "b08866b47fe63141db17231ba987bd357b28b84c1a62ebbf014201bda134777e", func := "pharos/pharoslaw9.G2Groups", spec := "g2Groups", inPlace := ["math/bits.Add64", "math/bits.Sub64"], unfollowed := true, recurses := true, named := ["pharos/fp.modulus", "pharos/fp.lift", "pharos/fp.inverting", "pharos/fp.rooting", "pharos/fp.half"], apart := false, laid := [("pharos/fp.inverting", laid_pharos_fp_inverting), ("pharos/fp.modulus", laid_pharos_fp_modulus), ("pharos/fp.lift", laid_pharos_fp_lift), ("pharos/fp.half", laid_pharos_fp_half), ("pharos/fp.rooting", laid_pharos_fp_rooting)] }
def G2GroupsSaid : Prop := g2GroupsRow.holds Tryz.pinned (OpenSpec.ofChange g2GroupsSpec)

/-- ITS FALSE NEIGHBOUR: 'it returns false'. Refute it at one input. -/
def g2GroupsWrong : ChangeSpec := { name := "g2Groups", fn := fun _ => fun
  | [d1, d2, d3] => { results := [.lit (.bool false)], args := [d1, d2, d3] }
  | _ => none }
def G2GroupsWrongFalsely : Prop := g2GroupsRow.holds Tryz.pinned (OpenSpec.ofChange g2GroupsWrong)

/- THE SECOND FORM. 'bulk': how many values and letters a reading holds, each counted each time it is reached (what is shared counts as often as it is met; a slice's spare places count too). A statement '..UptoSaid' is the law's where the arguments, and the package variables that the reading takes, are together of bulk at most 1048576: NARROWER than '..Said'. Prove '..Said' where nothing that the law and all that it calls make is longer than what came in: it says more and counts as full. Else prove '..UptoSaid'. A law counts once. -/
mutual
def uptoBulk {H : Type} : DataW H → Nat
  | .lit (.string bytes) => bytes.length + 1
  | .lit _ => 1
  | .nil => 1
  | .ptr d => uptoBulk d + 1
  | .slice elems spare => uptoBulkAll elems + uptoBulkAll spare + 1
  | .agg parts => uptoBulkAll parts + 1
  | .iface _ d => uptoBulk d + 1
  | .map entries => uptoBulkEntries entries + 1
  | .held _ => 1
def uptoBulkAll {H : Type} : List (DataW H) → Nat
  | [] => 0
  | d :: r => uptoBulk d + uptoBulkAll r
def uptoBulkEntries {H : Type} : List (Lit × DataW H) → Nat
  | [] => 0
  | x :: r => uptoBulkEntry x + uptoBulkEntries r
def uptoBulkEntry {H : Type} : Lit × DataW H → Nat
  | (.string bytes, d) => bytes.length + uptoBulk d + 1
  | (_, d) => uptoBulk d + 1
 end
def uptoSmall : (H : Type) → List (DataW H) → Bool := fun _ ds => decide (uptoBulkAll ds ≤ 1048576)
def OpenSpec.upto (s : _root_.Go.ChangeSpec) : _root_.Go.OpenSpec := { _root_.Go.OpenSpec.ofChange s with cond := some uptoSmall }

/-- 'pharoslaw9.G2Affine', WHERE WHAT IT READS IS OF BULK AT MOST 1048576: true; the input reads as it did. -/
def g2AffineUptoRow : OpenClaim := { program := "ytfknmeefbccflaagreatdoor", sum := "b08866b47fe63141db17231ba987bd357b28b84c1a62ebbf014201bda134777e", func := "pharos/pharoslaw9.G2Affine", spec := "g2Affine", inPlace := ["math/bits.Add64", "math/bits.Sub64"], unfollowed := true, recurses := true, named := ["pharos/fp.modulus", "pharos/fp.lift", "pharos/fp.inverting"], apart := false, laid := [("pharos/fp.inverting", laid_pharos_fp_inverting), ("pharos/fp.modulus", laid_pharos_fp_modulus), ("pharos/fp.lift", laid_pharos_fp_lift)], narrowed := true }
def G2AffineUptoSaid : Prop := g2AffineUptoRow.holds Tryz.pinned (OpenSpec.upto g2AffineSpec)

/-- 'pharoslaw9.G2Lifts', WHERE WHAT IT READS IS OF BULK AT MOST 1048576: true; the input reads as it did. -/
def g2LiftsUptoRow : OpenClaim := { program := "ytfknmeefbccflaagreatdoor", sum := "b08866b47fe63141db17231ba987bd357b28b84c1a62ebbf014201bda134777e", func := "pharos/pharoslaw9.G2Lifts", spec := "g2Lifts", inPlace := ["math/bits.Add64", "math/bits.Sub64"], unfollowed := true, recurses := true, named := ["pharos/fp.modulus", "pharos/fp.lift", "pharos/fp.inverting", "pharos/fp.rooting", "pharos/fp.half"], apart := false, laid := [("pharos/fp.inverting", laid_pharos_fp_inverting), ("pharos/fp.modulus", laid_pharos_fp_modulus), ("pharos/fp.lift", laid_pharos_fp_lift), ("pharos/fp.half", laid_pharos_fp_half), ("pharos/fp.rooting", laid_pharos_fp_rooting)], narrowed := true }
def G2LiftsUptoSaid : Prop := g2LiftsUptoRow.holds Tryz.pinned (OpenSpec.upto g2LiftsSpec)

/-- 'pharoslaw9.G2Adds', WHERE WHAT IT READS IS OF BULK AT MOST 1048576: true; the input reads as it did. -/
def g2AddsUptoRow : OpenClaim := { program := "ytfknmeefbccflaagreatdoor", sum := "b08866b47fe63141db17231ba987bd357b28b84c1a62ebbf014201bda134777e", func := "pharos/pharoslaw9.G2Adds", spec := "g2Adds", inPlace := ["math/bits.Add64", "math/bits.Sub64"], unfollowed := true, recurses := true, named := ["pharos/fp.modulus", "pharos/fp.lift", "pharos/fp.inverting", "pharos/fp.rooting", "pharos/fp.half"], apart := false, laid := [("pharos/fp.inverting", laid_pharos_fp_inverting), ("pharos/fp.modulus", laid_pharos_fp_modulus), ("pharos/fp.lift", laid_pharos_fp_lift), ("pharos/fp.half", laid_pharos_fp_half), ("pharos/fp.rooting", laid_pharos_fp_rooting)], narrowed := true }
def G2AddsUptoSaid : Prop := g2AddsUptoRow.holds Tryz.pinned (OpenSpec.upto g2AddsSpec)

/-- 'pharoslaw9.G2Laws', WHERE WHAT IT READS IS OF BULK AT MOST 1048576: true; the input reads as it did. -/
def g2LawsUptoRow : OpenClaim := { program := "ytfknmeefbccflaagreatdoor", sum := "b08866b47fe63141db17231ba987bd357b28b84c1a62ebbf014201bda134777e", func := "pharos/pharoslaw9.G2Laws", spec := "g2Laws", inPlace := ["math/bits.Add64", "math/bits.Sub64"], unfollowed := true, recurses := true, named := ["pharos/fp.modulus", "pharos/fp.lift", "pharos/fp.inverting", "pharos/fp.rooting", "pharos/fp.half"], apart := false, laid := [("pharos/fp.inverting", laid_pharos_fp_inverting), ("pharos/fp.modulus", laid_pharos_fp_modulus), ("pharos/fp.lift", laid_pharos_fp_lift), ("pharos/fp.half", laid_pharos_fp_half), ("pharos/fp.rooting", laid_pharos_fp_rooting)], narrowed := true }
def G2LawsUptoSaid : Prop := g2LawsUptoRow.holds Tryz.pinned (OpenSpec.upto g2LawsSpec)

/-- 'pharoslaw9.G2Times', WHERE WHAT IT READS IS OF BULK AT MOST 1048576: true; the input reads as it did. -/
def g2TimesUptoRow : OpenClaim := { program := "ytfknmeefbccflaagreatdoor", sum := "b08866b47fe63141db17231ba987bd357b28b84c1a62ebbf014201bda134777e", func := "pharos/pharoslaw9.G2Times", spec := "g2Times", inPlace := ["math/bits.Add64", "math/bits.Sub64"], unfollowed := true, recurses := true, named := ["pharos/fp.modulus", "pharos/fp.lift", "pharos/fp.inverting", "pharos/fp.rooting", "pharos/fp.half"], apart := false, laid := [("pharos/fp.inverting", laid_pharos_fp_inverting), ("pharos/fp.modulus", laid_pharos_fp_modulus), ("pharos/fp.lift", laid_pharos_fp_lift), ("pharos/fp.half", laid_pharos_fp_half), ("pharos/fp.rooting", laid_pharos_fp_rooting)], narrowed := true }
def G2TimesUptoSaid : Prop := g2TimesUptoRow.holds Tryz.pinned (OpenSpec.upto g2TimesSpec)

/-- 'pharoslaw9.G2Scalars', WHERE WHAT IT READS IS OF BULK AT MOST 1048576: true; the input reads as it did. -/
def g2ScalarsUptoRow : OpenClaim := { program := "ytfknmeefbccflaagreatdoor", sum := "b08866b47fe63141db17231ba987bd357b28b84c1a62ebbf014201bda134777e", func := "pharos/pharoslaw9.G2Scalars", spec := "g2Scalars", inPlace := ["math/bits.Add64", "math/bits.Sub64"], unfollowed := true, recurses := true, named := ["pharos/fp.modulus", "pharos/fp.lift", "pharos/fp.inverting", "pharos/fr.lift", "pharos/fr.modulus"], apart := false, laid := [("pharos/fp.inverting", laid_pharos_fp_inverting), ("pharos/fp.modulus", laid_pharos_fp_modulus), ("pharos/fp.lift", laid_pharos_fp_lift), ("pharos/fr.modulus", laid_pharos_fr_modulus), ("pharos/fr.lift", laid_pharos_fr_lift)], narrowed := true }
def G2ScalarsUptoSaid : Prop := g2ScalarsUptoRow.holds Tryz.pinned (OpenSpec.upto g2ScalarsSpec)

/-- 'pharoslaw9.G2Groups', WHERE WHAT IT READS IS OF BULK AT MOST 1048576: true; the input reads as it did. -/
def g2GroupsUptoRow : OpenClaim := { program := "ytfknmeefbccflaagreatdoor", sum := "b08866b47fe63141db17231ba987bd357b28b84c1a62ebbf014201bda134777e", func := "pharos/pharoslaw9.G2Groups", spec := "g2Groups", inPlace := ["math/bits.Add64", "math/bits.Sub64"], unfollowed := true, recurses := true, named := ["pharos/fp.modulus", "pharos/fp.lift", "pharos/fp.inverting", "pharos/fp.rooting", "pharos/fp.half"], apart := false, laid := [("pharos/fp.inverting", laid_pharos_fp_inverting), ("pharos/fp.modulus", laid_pharos_fp_modulus), ("pharos/fp.lift", laid_pharos_fp_lift), ("pharos/fp.half", laid_pharos_fp_half), ("pharos/fp.rooting", laid_pharos_fp_rooting)], narrowed := true }
def G2GroupsUptoSaid : Prop := g2GroupsUptoRow.holds Tryz.pinned (OpenSpec.upto g2GroupsSpec)

end Rows
end Go.Proofs.YtfknmeefbccflaaGreatDoor
