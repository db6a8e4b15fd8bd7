/-
  NARROWER THAN 'FOR EVERY INPUT', by the rows' own cells (each row's printed sentence says how): Fp2Reckons: laid · Fp2Laws: laid · Fp2Powers: laid · Fp2Roots: laid · Fp2Signs: laid · Fp2Norms: laid.
  DERIVED. THE GIVEN ROWS OF THIS SEAT. 6 by the template 'for every input the law returns true; each argument reads behind the call as it read before'; 0 by the template 'total and deterministic' (their statements: YtceogjapiphokaaDoorTotals.lean).
  GIVEN WITH THE SEED: the statements are not yours to turn. If you find one false, say at which input.
  Laid BY PROGRAM, IN A SANDBOX (cutbox-rows.mjs): the forced cells as the released guide's own fill.sh prints them over the translation 2588618e42933747… (all of the seat's roots in one cut). By AI agents, Wed Nov 11 2026. No macro, syntax, notation, axiom, sorry.
-/
import Derived.Test.YtceogjapiphokaaDoorChecked
import GoSem.Claim
import GoSem.ClaimJoined
import GoSem.ClaimMapViews
import Derived.JoinedTies
import Derived.KernelRfl
namespace Go.Proofs.YtceogjapiphokaaDoor
/- THE CELL 'sum', in the pinned program and in every row, IS THE sha256 OF THE DUMP (.gsa) THAT YtceogjapiphokaaDoorProg.lean LOADS. Nothing in Lean hashes anything: it is a label: what it is worth is what the hold of that sum in a sandbox is worth. -/
noncomputable def Tryd.pinned : Pinned := { name := "ytceogjapiphokaadoor", sum := "2588618e42933747265852a0234ed17a9bcfdde5e1ac5e84e4449f7f6f040c23", checked := Tryd.checked }
namespace Rows
def none {H : Type} : Left H := { results := [], args := [] }

/- WHAT THE LISTED PACKAGE-LEVEL VARIABLES READ AS WHEN THE CALL BEGINS. Each datum BY PROGRAM (the guide's laid-datum.mjs) off the statement by which the dump's own 'gosem.cut.vars' lays the variable. In a bare row this is a premise. The card (YtceogjapiphokaaDoorCards.lean) ties it to the program's text. -/
def laid_pharos_fp_inverting {H : Type} : DataW H := .agg [.lit (.int .u64 13402431016077863593), .lit (.int .u64 2210141511517208575), .lit (.int .u64 7435674573564081700), .lit (.int .u64 7239337960414712511), .lit (.int .u64 5412103778470702295), .lit (.int .u64 1873798617647539866)]
def laid_pharos_fp_modulus {H : Type} : DataW H := .agg [.lit (.int .u64 13402431016077863595), .lit (.int .u64 2210141511517208575), .lit (.int .u64 7435674573564081700), .lit (.int .u64 7239337960414712511), .lit (.int .u64 5412103778470702295), .lit (.int .u64 1873798617647539866)]
def laid_pharos_fp_lift {H : Type} : DataW H := .agg [.lit (.int .u64 17644856173732828998), .lit (.int .u64 754043588434789617), .lit (.int .u64 10224657059481499349), .lit (.int .u64 7488229067341005760), .lit (.int .u64 11130996698012816685), .lit (.int .u64 1267921511277847466)]
def laid_pharos_fp_half {H : Type} : DataW H := .agg [.lit (.int .u64 15924587544893707605), .lit (.int .u64 1105070755758604287), .lit (.int .u64 12941209323636816658), .lit (.int .u64 12843041017062132063), .lit (.int .u64 2706051889235351147), .lit (.int .u64 936899308823769933)]
def laid_pharos_fp_rooting {H : Type} : DataW H := .agg [.lit (.int .u64 17185665809301629611), .lit (.int .u64 552535377879302143), .lit (.int .u64 15693976698673184137), .lit (.int .u64 15644892545385841839), .lit (.int .u64 10576397981472451381), .lit (.int .u64 468449654411884966)]

/-- 'pharoslaw5.Fp2Reckons': WHATEVER THE INPUT: true; the input reads as it did. -/
def fp2ReckonsSpec : ChangeSpec := { name := "fp2Reckons", fn := fun _ => fun
  | [d1, d2, d3] => { results := [.lit (.bool true)], args := [d1, d2, d3] }
  | _ => none }
def fp2ReckonsRow : OpenClaim := { program := "ytceogjapiphokaadoor", sum := "2588618e42933747265852a0234ed17a9bcfdde5e1ac5e84e4449f7f6f040c23", func := "pharos/pharoslaw5.Fp2Reckons", spec := "fp2Reckons", inPlace := ["math/bits.Add64", "math/bits.Sub64"], unfollowed := true, recurses := true, named := ["pharos/fp.lift", "pharos/fp.modulus", "pharos/fp.rooting", "pharos/fp.half", "pharos/fp.inverting"], apart := false, laid := [("pharos/fp.inverting", laid_pharos_fp_inverting), ("pharos/fp.modulus", laid_pharos_fp_modulus), ("pharos/fp.lift", laid_pharos_fp_lift), ("pharos/fp.half", laid_pharos_fp_half), ("pharos/fp.rooting", laid_pharos_fp_rooting)] }
def Fp2ReckonsSaid : Prop := fp2ReckonsRow.holds Tryd.pinned (OpenSpec.ofChange fp2ReckonsSpec)

/-- ITS FALSE NEIGHBOUR: 'it returns false'. Refute it at one input. -/
def fp2ReckonsWrong : ChangeSpec := { name := "fp2Reckons", fn := fun _ => fun
  | [d1, d2, d3] => { results := [.lit (.bool false)], args := [d1, d2, d3] }
  | _ => none }
def Fp2ReckonsWrongFalsely : Prop := fp2ReckonsRow.holds Tryd.pinned (OpenSpec.ofChange fp2ReckonsWrong)

/-- 'pharoslaw5.Fp2Laws': WHATEVER THE INPUT: true; the input reads as it did. -/
def fp2LawsSpec : ChangeSpec := { name := "fp2Laws", fn := fun _ => fun
  | [d1, d2, d3] => { results := [.lit (.bool true)], args := [d1, d2, d3] }
  | _ => none }
def fp2LawsRow : OpenClaim := { program := "ytceogjapiphokaadoor", sum := "2588618e42933747265852a0234ed17a9bcfdde5e1ac5e84e4449f7f6f040c23", func := "pharos/pharoslaw5.Fp2Laws", spec := "fp2Laws", inPlace := ["math/bits.Add64", "math/bits.Sub64"], unfollowed := true, recurses := true, named := ["pharos/fp.lift", "pharos/fp.modulus", "pharos/fp.rooting", "pharos/fp.half", "pharos/fp.inverting"], apart := false, laid := [("pharos/fp.inverting", laid_pharos_fp_inverting), ("pharos/fp.modulus", laid_pharos_fp_modulus), ("pharos/fp.lift", laid_pharos_fp_lift), ("pharos/fp.half", laid_pharos_fp_half), ("pharos/fp.rooting", laid_pharos_fp_rooting)] }
def Fp2LawsSaid : Prop := fp2LawsRow.holds Tryd.pinned (OpenSpec.ofChange fp2LawsSpec)

/-- ITS FALSE NEIGHBOUR: 'it returns false'. Refute it at one input. -/
def fp2LawsWrong : ChangeSpec := { name := "fp2Laws", fn := fun _ => fun
  | [d1, d2, d3] => { results := [.lit (.bool false)], args := [d1, d2, d3] }
  | _ => none }
def Fp2LawsWrongFalsely : Prop := fp2LawsRow.holds Tryd.pinned (OpenSpec.ofChange fp2LawsWrong)

/-- 'pharoslaw5.Fp2Powers': WHATEVER THE INPUT: true; the input reads as it did. -/
def fp2PowersSpec : ChangeSpec := { name := "fp2Powers", fn := fun _ => fun
  | [d1, d2] => { results := [.lit (.bool true)], args := [d1, d2] }
  | _ => none }
def fp2PowersRow : OpenClaim := { program := "ytceogjapiphokaadoor", sum := "2588618e42933747265852a0234ed17a9bcfdde5e1ac5e84e4449f7f6f040c23", func := "pharos/pharoslaw5.Fp2Powers", spec := "fp2Powers", inPlace := ["math/bits.Add64", "math/bits.Sub64"], unfollowed := true, recurses := true, named := ["pharos/fp.lift", "pharos/fp.modulus", "pharos/fp.rooting", "pharos/fp.half", "pharos/fp.inverting"], apart := false, laid := [("pharos/fp.inverting", laid_pharos_fp_inverting), ("pharos/fp.modulus", laid_pharos_fp_modulus), ("pharos/fp.lift", laid_pharos_fp_lift), ("pharos/fp.half", laid_pharos_fp_half), ("pharos/fp.rooting", laid_pharos_fp_rooting)] }
def Fp2PowersSaid : Prop := fp2PowersRow.holds Tryd.pinned (OpenSpec.ofChange fp2PowersSpec)

/-- ITS FALSE NEIGHBOUR: 'it returns false'. Refute it at one input. -/
def fp2PowersWrong : ChangeSpec := { name := "fp2Powers", fn := fun _ => fun
  | [d1, d2] => { results := [.lit (.bool false)], args := [d1, d2] }
  | _ => none }
def Fp2PowersWrongFalsely : Prop := fp2PowersRow.holds Tryd.pinned (OpenSpec.ofChange fp2PowersWrong)

/-- 'pharoslaw5.Fp2Roots': WHATEVER THE INPUT: true; the input reads as it did. -/
def fp2RootsSpec : ChangeSpec := { name := "fp2Roots", fn := fun _ => fun
  | [d1, d2, d3] => { results := [.lit (.bool true)], args := [d1, d2, d3] }
  | _ => none }
def fp2RootsRow : OpenClaim := { program := "ytceogjapiphokaadoor", sum := "2588618e42933747265852a0234ed17a9bcfdde5e1ac5e84e4449f7f6f040c23", func := "pharos/pharoslaw5.Fp2Roots", spec := "fp2Roots", inPlace := ["math/bits.Add64", "math/bits.Sub64"], unfollowed := true, recurses := true, named := ["pharos/fp.lift", "pharos/fp.modulus", "pharos/fp.rooting", "pharos/fp.half", "pharos/fp.inverting"], apart := false, laid := [("pharos/fp.inverting", laid_pharos_fp_inverting), ("pharos/fp.modulus", laid_pharos_fp_modulus), ("pharos/fp.lift", laid_pharos_fp_lift), ("pharos/fp.half", laid_pharos_fp_half), ("pharos/fp.rooting", laid_pharos_fp_rooting)] }
def Fp2RootsSaid : Prop := fp2RootsRow.holds Tryd.pinned (OpenSpec.ofChange fp2RootsSpec)

/-- ITS FALSE NEIGHBOUR: 'it returns false'. Refute it at one input. -/
def fp2RootsWrong : ChangeSpec := { name := "fp2Roots", fn := fun _ => fun
  | [d1, d2, d3] => { results := [.lit (.bool false)], args := [d1, d2, d3] }
  | _ => none }
def Fp2RootsWrongFalsely : Prop := fp2RootsRow.holds Tryd.pinned (OpenSpec.ofChange fp2RootsWrong)

/-- 'pharoslaw5.Fp2Signs': WHATEVER THE INPUT: true; the input reads as it did. -/
def fp2SignsSpec : ChangeSpec := { name := "fp2Signs", fn := fun _ => fun
  | [d1, d2, d3] => { results := [.lit (.bool true)], args := [d1, d2, d3] }
  | _ => none }
def fp2SignsRow : OpenClaim := { program := "ytceogjapiphokaadoor", sum := "2588618e42933747265852a0234ed17a9bcfdde5e1ac5e84e4449f7f6f040c23", func := "pharos/pharoslaw5.Fp2Signs", spec := "fp2Signs", inPlace := ["math/bits.Add64", "math/bits.Sub64"], unfollowed := true, recurses := true, named := ["pharos/fp.lift", "pharos/fp.modulus", "pharos/fp.rooting", "pharos/fp.half", "pharos/fp.inverting"], apart := false, laid := [("pharos/fp.inverting", laid_pharos_fp_inverting), ("pharos/fp.modulus", laid_pharos_fp_modulus), ("pharos/fp.lift", laid_pharos_fp_lift), ("pharos/fp.half", laid_pharos_fp_half), ("pharos/fp.rooting", laid_pharos_fp_rooting)] }
def Fp2SignsSaid : Prop := fp2SignsRow.holds Tryd.pinned (OpenSpec.ofChange fp2SignsSpec)

/-- ITS FALSE NEIGHBOUR: 'it returns false'. Refute it at one input. -/
def fp2SignsWrong : ChangeSpec := { name := "fp2Signs", fn := fun _ => fun
  | [d1, d2, d3] => { results := [.lit (.bool false)], args := [d1, d2, d3] }
  | _ => none }
def Fp2SignsWrongFalsely : Prop := fp2SignsRow.holds Tryd.pinned (OpenSpec.ofChange fp2SignsWrong)

/-- 'pharoslaw5.Fp2Norms': WHATEVER THE INPUT: true; the input reads as it did. -/
def fp2NormsSpec : ChangeSpec := { name := "fp2Norms", fn := fun _ => fun
  | [d1, d2] => { results := [.lit (.bool true)], args := [d1, d2] }
  | _ => none }
def fp2NormsRow : OpenClaim := { program := "ytceogjapiphokaadoor", sum := "2588618e42933747265852a0234ed17a9bcfdde5e1ac5e84e4449f7f6f040c23", func := "pharos/pharoslaw5.Fp2Norms", spec := "fp2Norms", inPlace := ["math/bits.Add64", "math/bits.Sub64"], unfollowed := true, recurses := true, named := ["pharos/fp.lift", "pharos/fp.modulus", "pharos/fp.rooting", "pharos/fp.half", "pharos/fp.inverting"], apart := false, laid := [("pharos/fp.inverting", laid_pharos_fp_inverting), ("pharos/fp.modulus", laid_pharos_fp_modulus), ("pharos/fp.lift", laid_pharos_fp_lift), ("pharos/fp.half", laid_pharos_fp_half), ("pharos/fp.rooting", laid_pharos_fp_rooting)] }
def Fp2NormsSaid : Prop := fp2NormsRow.holds Tryd.pinned (OpenSpec.ofChange fp2NormsSpec)

/-- ITS FALSE NEIGHBOUR: 'it returns false'. Refute it at one input. -/
def fp2NormsWrong : ChangeSpec := { name := "fp2Norms", fn := fun _ => fun
  | [d1, d2] => { results := [.lit (.bool false)], args := [d1, d2] }
  | _ => none }
def Fp2NormsWrongFalsely : Prop := fp2NormsRow.holds Tryd.pinned (OpenSpec.ofChange fp2NormsWrong)

/- THE SECOND FORM. 'bulk': how many values and letters a reading holds, each counted each time it is reached (what is shared counts as often as it is met; a slice's spare places count too). A statement '..UptoSaid' is the law's where the arguments, and the package variables that the reading takes, are together of bulk at most 1048576: NARROWER than '..Said'. Prove '..Said' where nothing that the law and all that it calls make is longer than what came in: it says more and counts as full. Else prove '..UptoSaid'. A law counts once. -/
mutual
def uptoBulk {H : Type} : DataW H → Nat
  | .lit (.string bytes) => bytes.length + 1
  | .lit _ => 1
  | .nil => 1
  | .ptr d => uptoBulk d + 1
  | .slice elems spare => uptoBulkAll elems + uptoBulkAll spare + 1
  | .agg parts => uptoBulkAll parts + 1
  | .iface _ d => uptoBulk d + 1
  | .map entries => uptoBulkEntries entries + 1
  | .held _ => 1
def uptoBulkAll {H : Type} : List (DataW H) → Nat
  | [] => 0
  | d :: r => uptoBulk d + uptoBulkAll r
def uptoBulkEntries {H : Type} : List (Lit × DataW H) → Nat
  | [] => 0
  | x :: r => uptoBulkEntry x + uptoBulkEntries r
def uptoBulkEntry {H : Type} : Lit × DataW H → Nat
  | (.string bytes, d) => bytes.length + uptoBulk d + 1
  | (_, d) => uptoBulk d + 1
 end
def uptoSmall : (H : Type) → List (DataW H) → Bool := fun _ ds => decide (uptoBulkAll ds ≤ 1048576)
def OpenSpec.upto (s : _root_.Go.ChangeSpec) : _root_.Go.OpenSpec := { _root_.Go.OpenSpec.ofChange s with cond := some uptoSmall }

/-- 'pharoslaw5.Fp2Reckons', WHERE WHAT IT READS IS OF BULK AT MOST 1048576: true; the input reads as it did. -/
def fp2ReckonsUptoRow : OpenClaim := { program := "ytceogjapiphokaadoor", sum := "2588618e42933747265852a0234ed17a9bcfdde5e1ac5e84e4449f7f6f040c23", func := "pharos/pharoslaw5.Fp2Reckons", spec := "fp2Reckons", inPlace := ["math/bits.Add64", "math/bits.Sub64"], unfollowed := true, recurses := true, named := ["pharos/fp.lift", "pharos/fp.modulus", "pharos/fp.rooting", "pharos/fp.half", "pharos/fp.inverting"], apart := false, laid := [("pharos/fp.inverting", laid_pharos_fp_inverting), ("pharos/fp.modulus", laid_pharos_fp_modulus), ("pharos/fp.lift", laid_pharos_fp_lift), ("pharos/fp.half", laid_pharos_fp_half), ("pharos/fp.rooting", laid_pharos_fp_rooting)], narrowed := true }
def Fp2ReckonsUptoSaid : Prop := fp2ReckonsUptoRow.holds Tryd.pinned (OpenSpec.upto fp2ReckonsSpec)

/-- 'pharoslaw5.Fp2Laws', WHERE WHAT IT READS IS OF BULK AT MOST 1048576: true; the input reads as it did. -/
def fp2LawsUptoRow : OpenClaim := { program := "ytceogjapiphokaadoor", sum := "2588618e42933747265852a0234ed17a9bcfdde5e1ac5e84e4449f7f6f040c23", func := "pharos/pharoslaw5.Fp2Laws", spec := "fp2Laws", inPlace := ["math/bits.Add64", "math/bits.Sub64"], unfollowed := true, recurses := true, named := ["pharos/fp.lift", "pharos/fp.modulus", "pharos/fp.rooting", "pharos/fp.half", "pharos/fp.inverting"], apart := false, laid := [("pharos/fp.inverting", laid_pharos_fp_inverting), ("pharos/fp.modulus", laid_pharos_fp_modulus), ("pharos/fp.lift", laid_pharos_fp_lift), ("pharos/fp.half", laid_pharos_fp_half), ("pharos/fp.rooting", laid_pharos_fp_rooting)], narrowed := true }
def Fp2LawsUptoSaid : Prop := fp2LawsUptoRow.holds Tryd.pinned (OpenSpec.upto fp2LawsSpec)

/-- 'pharoslaw5.Fp2Powers', WHERE WHAT IT READS IS OF BULK AT MOST 1048576: true; the input reads as it did. -/
def fp2PowersUptoRow : OpenClaim := { program := "ytceogjapiphokaadoor", sum := "2588618e42933747265852a0234ed17a9bcfdde5e1ac5e84e4449f7f6f040c23", func := "pharos/pharoslaw5.Fp2Powers", spec := "fp2Powers", inPlace := ["math/bits.Add64", "math/bits.Sub64"], unfollowed := true, recurses := true, named := ["pharos/fp.lift", "pharos/fp.modulus", "pharos/fp.rooting", "pharos/fp.half", "pharos/fp.inverting"], apart := false, laid := [("pharos/fp.inverting", laid_pharos_fp_inverting), ("pharos/fp.modulus", laid_pharos_fp_modulus), ("pharos/fp.lift", laid_pharos_fp_lift), ("pharos/fp.half", laid_pharos_fp_half), ("pharos/fp.rooting", laid_pharos_fp_rooting)], narrowed := true }
def Fp2PowersUptoSaid : Prop := fp2PowersUptoRow.holds Tryd.pinned (OpenSpec.upto fp2PowersSpec)

/-- 'pharoslaw5.Fp2Roots', WHERE WHAT IT READS IS OF BULK AT MOST 1048576: true; the input reads as it did. -/
def fp2RootsUptoRow : OpenClaim := { program := "ytceogjapiphokaadoor", sum := "2588618e42933747265852a0234ed17a9bcfdde5e1ac5e84e4449f7f6f040c23", func := "pharos/pharoslaw5.Fp2Roots", spec := "fp2Roots", inPlace := ["math/bits.Add64", "math/bits.Sub64"], unfollowed := true, recurses := true, named := ["pharos/fp.lift", "pharos/fp.modulus", "pharos/fp.rooting", "pharos/fp.half", "pharos/fp.inverting"], apart := false, laid := [("pharos/fp.inverting", laid_pharos_fp_inverting), ("pharos/fp.modulus", laid_pharos_fp_modulus), ("pharos/fp.lift", laid_pharos_fp_lift), ("pharos/fp.half", laid_pharos_fp_half), ("pharos/fp.rooting", laid_pharos_fp_rooting)], narrowed := true }
def Fp2RootsUptoSaid : Prop := fp2RootsUptoRow.holds Tryd.pinned (OpenSpec.upto fp2RootsSpec)

/-- 'pharoslaw5.Fp2Signs', WHERE WHAT IT READS IS OF BULK AT MOST 1048576: true; the input reads as it did. -/
def fp2SignsUptoRow : OpenClaim := { program := "ytceogjapiphokaadoor", sum := "2588618e42933747265852a0234ed17a9bcfdde5e1ac5e84e4449f7f6f040c23", func := "pharos/pharoslaw5.Fp2Signs", spec := "fp2Signs", inPlace := ["math/bits.Add64", "math/bits.Sub64"], unfollowed := true, recurses := true, named := ["pharos/fp.lift", "pharos/fp.modulus", "pharos/fp.rooting", "pharos/fp.half", "pharos/fp.inverting"], apart := false, laid := [("pharos/fp.inverting", laid_pharos_fp_inverting), ("pharos/fp.modulus", laid_pharos_fp_modulus), ("pharos/fp.lift", laid_pharos_fp_lift), ("pharos/fp.half", laid_pharos_fp_half), ("pharos/fp.rooting", laid_pharos_fp_rooting)], narrowed := true }
def Fp2SignsUptoSaid : Prop := fp2SignsUptoRow.holds Tryd.pinned (OpenSpec.upto fp2SignsSpec)

/-- 'pharoslaw5.Fp2Norms', WHERE WHAT IT READS IS OF BULK AT MOST 1048576: true; the input reads as it did. -/
def fp2NormsUptoRow : OpenClaim := { program := "ytceogjapiphokaadoor", sum := "2588618e42933747265852a0234ed17a9bcfdde5e1ac5e84e4449f7f6f040c23", func := "pharos/pharoslaw5.Fp2Norms", spec := "fp2Norms", inPlace := ["math/bits.Add64", "math/bits.Sub64"], unfollowed := true, recurses := true, named := ["pharos/fp.lift", "pharos/fp.modulus", "pharos/fp.rooting", "pharos/fp.half", "pharos/fp.inverting"], apart := false, laid := [("pharos/fp.inverting", laid_pharos_fp_inverting), ("pharos/fp.modulus", laid_pharos_fp_modulus), ("pharos/fp.lift", laid_pharos_fp_lift), ("pharos/fp.half", laid_pharos_fp_half), ("pharos/fp.rooting", laid_pharos_fp_rooting)], narrowed := true }
def Fp2NormsUptoSaid : Prop := fp2NormsUptoRow.holds Tryd.pinned (OpenSpec.upto fp2NormsSpec)

end Rows
end Go.Proofs.YtceogjapiphokaaDoor
