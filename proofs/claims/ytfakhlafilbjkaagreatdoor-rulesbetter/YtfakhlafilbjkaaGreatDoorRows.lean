/-
  NARROWER THAN 'FOR EVERY INPUT', by the rows' own cells (each row's printed sentence says how): RulesBegin: laid · RulesBetter: laid · RulesKinds: laid · RulesSettings: laid · RulesMarks: laid.
  DERIVED. THE GIVEN ROWS OF THIS SEAT. 5 by the template 'for every input the law returns true; each argument reads behind the call as it read before'; 0 by the template 'total and deterministic' (their statements: YtfakhlafilbjkaaGreatDoorTotals.lean).
  GIVEN WITH THE SEED: the statements are not yours to turn. If you find one false, say at which input.
  Laid BY PROGRAM, IN A SANDBOX (cutbox-rows.mjs): the forced cells as the released guide's own fill.sh prints them over the translation 6e59f2d1f2a4e154… (all of the seat's roots in one cut). By AI agents, Wed Nov 11 2026. No macro, syntax, notation, axiom, sorry.
-/
import Derived.Test.YtfakhlafilbjkaaGreatDoorChecked
import GoSem.Claim
import GoSem.ClaimJoined
import GoSem.ClaimMapViews
import Derived.JoinedTies
import Derived.KernelRfl
namespace Go.Proofs.YtfakhlafilbjkaaGreatDoor
/- THE CELL 'sum', in the pinned program and in every row, IS THE sha256 OF THE DUMP (.gsa) THAT YtfakhlafilbjkaaGreatDoorProg.lean LOADS. Nothing in Lean hashes anything: it is a label: what it is worth is what the hold of that sum in a sandbox is worth. -/
noncomputable def Tryz.pinned : Pinned := { name := "ytfakhlafilbjkaagreatdoor", sum := "6e59f2d1f2a4e154c504195e2d937262f8519bf3fc474eba242c93c2a055aa66", checked := Tryz.checked }
namespace Rows
def none {H : Type} : Left H := { results := [], args := [] }

/- WHAT THE LISTED PACKAGE-LEVEL VARIABLES READ AS WHEN THE CALL BEGINS. Each datum BY PROGRAM (the guide's laid-datum.mjs) off the statement by which the dump's own 'gosem.cut.vars' lays the variable. In a bare row this is a premise. The card (YtfakhlafilbjkaaGreatDoorCards.lean) ties it to the program's text. -/
def laid_pharos_fp_inverting {H : Type} : DataW H := .agg [.lit (.int .u64 13402431016077863593), .lit (.int .u64 2210141511517208575), .lit (.int .u64 7435674573564081700), .lit (.int .u64 7239337960414712511), .lit (.int .u64 5412103778470702295), .lit (.int .u64 1873798617647539866)]
def laid_pharos_fp_modulus {H : Type} : DataW H := .agg [.lit (.int .u64 13402431016077863595), .lit (.int .u64 2210141511517208575), .lit (.int .u64 7435674573564081700), .lit (.int .u64 7239337960414712511), .lit (.int .u64 5412103778470702295), .lit (.int .u64 1873798617647539866)]
def laid_pharos_fp_lift {H : Type} : DataW H := .agg [.lit (.int .u64 17644856173732828998), .lit (.int .u64 754043588434789617), .lit (.int .u64 10224657059481499349), .lit (.int .u64 7488229067341005760), .lit (.int .u64 11130996698012816685), .lit (.int .u64 1267921511277847466)]
def laid_pharos_fp_half {H : Type} : DataW H := .agg [.lit (.int .u64 15924587544893707605), .lit (.int .u64 1105070755758604287), .lit (.int .u64 12941209323636816658), .lit (.int .u64 12843041017062132063), .lit (.int .u64 2706051889235351147), .lit (.int .u64 936899308823769933)]
def laid_pharos_fp_rooting {H : Type} : DataW H := .agg [.lit (.int .u64 17185665809301629611), .lit (.int .u64 552535377879302143), .lit (.int .u64 15693976698673184137), .lit (.int .u64 15644892545385841839), .lit (.int .u64 10576397981472451381), .lit (.int .u64 468449654411884966)]
def laid_pharos_sha_roundWords {H : Type} : DataW H := .agg [.lit (.int .u32 1116352408), .lit (.int .u32 1899447441), .lit (.int .u32 3049323471), .lit (.int .u32 3921009573), .lit (.int .u32 961987163), .lit (.int .u32 1508970993), .lit (.int .u32 2453635748), .lit (.int .u32 2870763221), .lit (.int .u32 3624381080), .lit (.int .u32 310598401), .lit (.int .u32 607225278), .lit (.int .u32 1426881987), .lit (.int .u32 1925078388), .lit (.int .u32 2162078206), .lit (.int .u32 2614888103), .lit (.int .u32 3248222580), .lit (.int .u32 3835390401), .lit (.int .u32 4022224774), .lit (.int .u32 264347078), .lit (.int .u32 604807628), .lit (.int .u32 770255983), .lit (.int .u32 1249150122), .lit (.int .u32 1555081692), .lit (.int .u32 1996064986), .lit (.int .u32 2554220882), .lit (.int .u32 2821834349), .lit (.int .u32 2952996808), .lit (.int .u32 3210313671), .lit (.int .u32 3336571891), .lit (.int .u32 3584528711), .lit (.int .u32 113926993), .lit (.int .u32 338241895), .lit (.int .u32 666307205), .lit (.int .u32 773529912), .lit (.int .u32 1294757372), .lit (.int .u32 1396182291), .lit (.int .u32 1695183700), .lit (.int .u32 1986661051), .lit (.int .u32 2177026350), .lit (.int .u32 2456956037), .lit (.int .u32 2730485921), .lit (.int .u32 2820302411), .lit (.int .u32 3259730800), .lit (.int .u32 3345764771), .lit (.int .u32 3516065817), .lit (.int .u32 3600352804), .lit (.int .u32 4094571909), .lit (.int .u32 275423344), .lit (.int .u32 430227734), .lit (.int .u32 506948616), .lit (.int .u32 659060556), .lit (.int .u32 883997877), .lit (.int .u32 958139571), .lit (.int .u32 1322822218), .lit (.int .u32 1537002063), .lit (.int .u32 1747873779), .lit (.int .u32 1955562222), .lit (.int .u32 2024104815), .lit (.int .u32 2227730452), .lit (.int .u32 2361852424), .lit (.int .u32 2428436474), .lit (.int .u32 2756734187), .lit (.int .u32 3204031479), .lit (.int .u32 3329325298)]

/-- 'pharoslaw23.RulesBegin': WHATEVER THE INPUT: true; the input reads as it did. -/
def rulesBeginSpec : ChangeSpec := { name := "rulesBegin", fn := fun _ => fun
  | [d1, d2, d3, d4, d5] => { results := [.lit (.bool true)], args := [d1, d2, d3, d4, d5] }
  | _ => none }
def rulesBeginRow : OpenClaim := { program := "ytfakhlafilbjkaagreatdoor", sum := "6e59f2d1f2a4e154c504195e2d937262f8519bf3fc474eba242c93c2a055aa66", func := "pharos/pharoslaw23.RulesBegin", spec := "rulesBegin", inPlace := ["math/bits.Add64", "math/bits.Sub64"], unfollowed := true, recurses := true, named := ["pharos/sha.roundWords", "pharos/fp.modulus", "pharos/fp.lift", "pharos/fp.rooting", "pharos/fp.half", "pharos/fp.inverting"], apart := false, laid := [("pharos/fp.inverting", laid_pharos_fp_inverting), ("pharos/fp.modulus", laid_pharos_fp_modulus), ("pharos/fp.lift", laid_pharos_fp_lift), ("pharos/fp.half", laid_pharos_fp_half), ("pharos/fp.rooting", laid_pharos_fp_rooting), ("pharos/sha.roundWords", laid_pharos_sha_roundWords)] }
def RulesBeginSaid : Prop := rulesBeginRow.holds Tryz.pinned (OpenSpec.ofChange rulesBeginSpec)

/-- ITS FALSE NEIGHBOUR: 'it returns false'. Refute it at one input. -/
def rulesBeginWrong : ChangeSpec := { name := "rulesBegin", fn := fun _ => fun
  | [d1, d2, d3, d4, d5] => { results := [.lit (.bool false)], args := [d1, d2, d3, d4, d5] }
  | _ => none }
def RulesBeginWrongFalsely : Prop := rulesBeginRow.holds Tryz.pinned (OpenSpec.ofChange rulesBeginWrong)

/-- 'pharoslaw23.RulesBetter': WHATEVER THE INPUT: true; the input reads as it did. -/
def rulesBetterSpec : ChangeSpec := { name := "rulesBetter", fn := fun _ => fun
  | [d1, d2, d3] => { results := [.lit (.bool true)], args := [d1, d2, d3] }
  | _ => none }
def rulesBetterRow : OpenClaim := { program := "ytfakhlafilbjkaagreatdoor", sum := "6e59f2d1f2a4e154c504195e2d937262f8519bf3fc474eba242c93c2a055aa66", func := "pharos/pharoslaw23.RulesBetter", spec := "rulesBetter", inPlace := ["math/bits.Add64", "math/bits.Sub64"], unfollowed := true, recurses := true, named := ["pharos/sha.roundWords", "pharos/fp.modulus", "pharos/fp.lift", "pharos/fp.rooting", "pharos/fp.half", "pharos/fp.inverting"], apart := false, laid := [("pharos/fp.inverting", laid_pharos_fp_inverting), ("pharos/fp.modulus", laid_pharos_fp_modulus), ("pharos/fp.lift", laid_pharos_fp_lift), ("pharos/fp.half", laid_pharos_fp_half), ("pharos/fp.rooting", laid_pharos_fp_rooting), ("pharos/sha.roundWords", laid_pharos_sha_roundWords)] }
def RulesBetterSaid : Prop := rulesBetterRow.holds Tryz.pinned (OpenSpec.ofChange rulesBetterSpec)

/-- ITS FALSE NEIGHBOUR: 'it returns false'. Refute it at one input. -/
def rulesBetterWrong : ChangeSpec := { name := "rulesBetter", fn := fun _ => fun
  | [d1, d2, d3] => { results := [.lit (.bool false)], args := [d1, d2, d3] }
  | _ => none }
def RulesBetterWrongFalsely : Prop := rulesBetterRow.holds Tryz.pinned (OpenSpec.ofChange rulesBetterWrong)

/-- 'pharoslaw23.RulesKinds': WHATEVER THE INPUT: true; the input reads as it did. -/
def rulesKindsSpec : ChangeSpec := { name := "rulesKinds", fn := fun _ => fun
  | [d1, d2] => { results := [.lit (.bool true)], args := [d1, d2] }
  | _ => none }
def rulesKindsRow : OpenClaim := { program := "ytfakhlafilbjkaagreatdoor", sum := "6e59f2d1f2a4e154c504195e2d937262f8519bf3fc474eba242c93c2a055aa66", func := "pharos/pharoslaw23.RulesKinds", spec := "rulesKinds", inPlace := ["math/bits.Add64", "math/bits.Sub64"], unfollowed := true, recurses := true, named := ["pharos/sha.roundWords", "pharos/fp.modulus", "pharos/fp.lift", "pharos/fp.rooting", "pharos/fp.half", "pharos/fp.inverting"], apart := false, laid := [("pharos/fp.inverting", laid_pharos_fp_inverting), ("pharos/fp.modulus", laid_pharos_fp_modulus), ("pharos/fp.lift", laid_pharos_fp_lift), ("pharos/fp.half", laid_pharos_fp_half), ("pharos/fp.rooting", laid_pharos_fp_rooting), ("pharos/sha.roundWords", laid_pharos_sha_roundWords)] }
def RulesKindsSaid : Prop := rulesKindsRow.holds Tryz.pinned (OpenSpec.ofChange rulesKindsSpec)

/-- ITS FALSE NEIGHBOUR: 'it returns false'. Refute it at one input. -/
def rulesKindsWrong : ChangeSpec := { name := "rulesKinds", fn := fun _ => fun
  | [d1, d2] => { results := [.lit (.bool false)], args := [d1, d2] }
  | _ => none }
def RulesKindsWrongFalsely : Prop := rulesKindsRow.holds Tryz.pinned (OpenSpec.ofChange rulesKindsWrong)

/-- 'pharoslaw23.RulesSettings': WHATEVER THE INPUT: true; the input reads as it did. -/
def rulesSettingsSpec : ChangeSpec := { name := "rulesSettings", fn := fun _ => fun
  | [d1, d2, d3] => { results := [.lit (.bool true)], args := [d1, d2, d3] }
  | _ => none }
def rulesSettingsRow : OpenClaim := { program := "ytfakhlafilbjkaagreatdoor", sum := "6e59f2d1f2a4e154c504195e2d937262f8519bf3fc474eba242c93c2a055aa66", func := "pharos/pharoslaw23.RulesSettings", spec := "rulesSettings", inPlace := ["math/bits.Add64", "math/bits.Sub64"], unfollowed := true, recurses := true, named := ["pharos/sha.roundWords", "pharos/fp.modulus", "pharos/fp.lift", "pharos/fp.rooting", "pharos/fp.half", "pharos/fp.inverting"], apart := false, laid := [("pharos/fp.inverting", laid_pharos_fp_inverting), ("pharos/fp.modulus", laid_pharos_fp_modulus), ("pharos/fp.lift", laid_pharos_fp_lift), ("pharos/fp.half", laid_pharos_fp_half), ("pharos/fp.rooting", laid_pharos_fp_rooting), ("pharos/sha.roundWords", laid_pharos_sha_roundWords)] }
def RulesSettingsSaid : Prop := rulesSettingsRow.holds Tryz.pinned (OpenSpec.ofChange rulesSettingsSpec)

/-- ITS FALSE NEIGHBOUR: 'it returns false'. Refute it at one input. -/
def rulesSettingsWrong : ChangeSpec := { name := "rulesSettings", fn := fun _ => fun
  | [d1, d2, d3] => { results := [.lit (.bool false)], args := [d1, d2, d3] }
  | _ => none }
def RulesSettingsWrongFalsely : Prop := rulesSettingsRow.holds Tryz.pinned (OpenSpec.ofChange rulesSettingsWrong)

/-- 'pharoslaw23.RulesMarks': WHATEVER THE INPUT: true; the input reads as it did. -/
def rulesMarksSpec : ChangeSpec := { name := "rulesMarks", fn := fun _ => fun
  | [d1, d2, d3] => { results := [.lit (.bool true)], args := [d1, d2, d3] }
  | _ => none }
def rulesMarksRow : OpenClaim := { program := "ytfakhlafilbjkaagreatdoor", sum := "6e59f2d1f2a4e154c504195e2d937262f8519bf3fc474eba242c93c2a055aa66", func := "pharos/pharoslaw23.RulesMarks", spec := "rulesMarks", inPlace := ["math/bits.Add64", "math/bits.Sub64"], unfollowed := true, recurses := true, named := ["pharos/sha.roundWords", "pharos/fp.modulus", "pharos/fp.lift", "pharos/fp.rooting", "pharos/fp.half", "pharos/fp.inverting"], apart := false, laid := [("pharos/fp.inverting", laid_pharos_fp_inverting), ("pharos/fp.modulus", laid_pharos_fp_modulus), ("pharos/fp.lift", laid_pharos_fp_lift), ("pharos/fp.half", laid_pharos_fp_half), ("pharos/fp.rooting", laid_pharos_fp_rooting), ("pharos/sha.roundWords", laid_pharos_sha_roundWords)] }
def RulesMarksSaid : Prop := rulesMarksRow.holds Tryz.pinned (OpenSpec.ofChange rulesMarksSpec)

/-- ITS FALSE NEIGHBOUR: 'it returns false'. Refute it at one input. -/
def rulesMarksWrong : ChangeSpec := { name := "rulesMarks", fn := fun _ => fun
  | [d1, d2, d3] => { results := [.lit (.bool false)], args := [d1, d2, d3] }
  | _ => none }
def RulesMarksWrongFalsely : Prop := rulesMarksRow.holds Tryz.pinned (OpenSpec.ofChange rulesMarksWrong)

/- THE SECOND FORM. 'bulk': how many values and letters a reading holds, each counted each time it is reached (what is shared counts as often as it is met; a slice's spare places count too). A statement '..UptoSaid' is the law's where the arguments, and the package variables that the reading takes, are together of bulk at most 1048576: NARROWER than '..Said'. Prove '..Said' where nothing that the law and all that it calls make is longer than what came in: it says more and counts as full. Else prove '..UptoSaid'. A law counts once. -/
mutual
def uptoBulk {H : Type} : DataW H → Nat
  | .lit (.string bytes) => bytes.length + 1
  | .lit _ => 1
  | .nil => 1
  | .ptr d => uptoBulk d + 1
  | .slice elems spare => uptoBulkAll elems + uptoBulkAll spare + 1
  | .agg parts => uptoBulkAll parts + 1
  | .iface _ d => uptoBulk d + 1
  | .map entries => uptoBulkEntries entries + 1
  | .held _ => 1
def uptoBulkAll {H : Type} : List (DataW H) → Nat
  | [] => 0
  | d :: r => uptoBulk d + uptoBulkAll r
def uptoBulkEntries {H : Type} : List (Lit × DataW H) → Nat
  | [] => 0
  | x :: r => uptoBulkEntry x + uptoBulkEntries r
def uptoBulkEntry {H : Type} : Lit × DataW H → Nat
  | (.string bytes, d) => bytes.length + uptoBulk d + 1
  | (_, d) => uptoBulk d + 1
 end
def uptoSmall : (H : Type) → List (DataW H) → Bool := fun _ ds => decide (uptoBulkAll ds ≤ 1048576)
def OpenSpec.upto (s : _root_.Go.ChangeSpec) : _root_.Go.OpenSpec := { _root_.Go.OpenSpec.ofChange s with cond := some uptoSmall }

/-- 'pharoslaw23.RulesBegin', WHERE WHAT IT READS IS OF BULK AT MOST 1048576: true; the input reads as it did. -/
def rulesBeginUptoRow : OpenClaim := { program := "ytfakhlafilbjkaagreatdoor", sum := "6e59f2d1f2a4e154c504195e2d937262f8519bf3fc474eba242c93c2a055aa66", func := "pharos/pharoslaw23.RulesBegin", spec := "rulesBegin", inPlace := ["math/bits.Add64", "math/bits.Sub64"], unfollowed := true, recurses := true, named := ["pharos/sha.roundWords", "pharos/fp.modulus", "pharos/fp.lift", "pharos/fp.rooting", "pharos/fp.half", "pharos/fp.inverting"], apart := false, laid := [("pharos/fp.inverting", laid_pharos_fp_inverting), ("pharos/fp.modulus", laid_pharos_fp_modulus), ("pharos/fp.lift", laid_pharos_fp_lift), ("pharos/fp.half", laid_pharos_fp_half), ("pharos/fp.rooting", laid_pharos_fp_rooting), ("pharos/sha.roundWords", laid_pharos_sha_roundWords)], narrowed := true }
def RulesBeginUptoSaid : Prop := rulesBeginUptoRow.holds Tryz.pinned (OpenSpec.upto rulesBeginSpec)

/-- 'pharoslaw23.RulesBetter', WHERE WHAT IT READS IS OF BULK AT MOST 1048576: true; the input reads as it did. -/
def rulesBetterUptoRow : OpenClaim := { program := "ytfakhlafilbjkaagreatdoor", sum := "6e59f2d1f2a4e154c504195e2d937262f8519bf3fc474eba242c93c2a055aa66", func := "pharos/pharoslaw23.RulesBetter", spec := "rulesBetter", inPlace := ["math/bits.Add64", "math/bits.Sub64"], unfollowed := true, recurses := true, named := ["pharos/sha.roundWords", "pharos/fp.modulus", "pharos/fp.lift", "pharos/fp.rooting", "pharos/fp.half", "pharos/fp.inverting"], apart := false, laid := [("pharos/fp.inverting", laid_pharos_fp_inverting), ("pharos/fp.modulus", laid_pharos_fp_modulus), ("pharos/fp.lift", laid_pharos_fp_lift), ("pharos/fp.half", laid_pharos_fp_half), ("pharos/fp.rooting", laid_pharos_fp_rooting), ("pharos/sha.roundWords", laid_pharos_sha_roundWords)], narrowed := true }
def RulesBetterUptoSaid : Prop := rulesBetterUptoRow.holds Tryz.pinned (OpenSpec.upto rulesBetterSpec)

/-- 'pharoslaw23.RulesKinds', WHERE WHAT IT READS IS OF BULK AT MOST 1048576: true; the input reads as it did. -/
def rulesKindsUptoRow : OpenClaim := { program := "ytfakhlafilbjkaagreatdoor", sum := "6e59f2d1f2a4e154c504195e2d937262f8519bf3fc474eba242c93c2a055aa66", func := "pharos/pharoslaw23.RulesKinds", spec := "rulesKinds", inPlace := ["math/bits.Add64", "math/bits.Sub64"], unfollowed := true, recurses := true, named := ["pharos/sha.roundWords", "pharos/fp.modulus", "pharos/fp.lift", "pharos/fp.rooting", "pharos/fp.half", "pharos/fp.inverting"], apart := false, laid := [("pharos/fp.inverting", laid_pharos_fp_inverting), ("pharos/fp.modulus", laid_pharos_fp_modulus), ("pharos/fp.lift", laid_pharos_fp_lift), ("pharos/fp.half", laid_pharos_fp_half), ("pharos/fp.rooting", laid_pharos_fp_rooting), ("pharos/sha.roundWords", laid_pharos_sha_roundWords)], narrowed := true }
def RulesKindsUptoSaid : Prop := rulesKindsUptoRow.holds Tryz.pinned (OpenSpec.upto rulesKindsSpec)

/-- 'pharoslaw23.RulesSettings', WHERE WHAT IT READS IS OF BULK AT MOST 1048576: true; the input reads as it did. -/
def rulesSettingsUptoRow : OpenClaim := { program := "ytfakhlafilbjkaagreatdoor", sum := "6e59f2d1f2a4e154c504195e2d937262f8519bf3fc474eba242c93c2a055aa66", func := "pharos/pharoslaw23.RulesSettings", spec := "rulesSettings", inPlace := ["math/bits.Add64", "math/bits.Sub64"], unfollowed := true, recurses := true, named := ["pharos/sha.roundWords", "pharos/fp.modulus", "pharos/fp.lift", "pharos/fp.rooting", "pharos/fp.half", "pharos/fp.inverting"], apart := false, laid := [("pharos/fp.inverting", laid_pharos_fp_inverting), ("pharos/fp.modulus", laid_pharos_fp_modulus), ("pharos/fp.lift", laid_pharos_fp_lift), ("pharos/fp.half", laid_pharos_fp_half), ("pharos/fp.rooting", laid_pharos_fp_rooting), ("pharos/sha.roundWords", laid_pharos_sha_roundWords)], narrowed := true }
def RulesSettingsUptoSaid : Prop := rulesSettingsUptoRow.holds Tryz.pinned (OpenSpec.upto rulesSettingsSpec)

/-- 'pharoslaw23.RulesMarks', WHERE WHAT IT READS IS OF BULK AT MOST 1048576: true; the input reads as it did. -/
def rulesMarksUptoRow : OpenClaim := { program := "ytfakhlafilbjkaagreatdoor", sum := "6e59f2d1f2a4e154c504195e2d937262f8519bf3fc474eba242c93c2a055aa66", func := "pharos/pharoslaw23.RulesMarks", spec := "rulesMarks", inPlace := ["math/bits.Add64", "math/bits.Sub64"], unfollowed := true, recurses := true, named := ["pharos/sha.roundWords", "pharos/fp.modulus", "pharos/fp.lift", "pharos/fp.rooting", "pharos/fp.half", "pharos/fp.inverting"], apart := false, laid := [("pharos/fp.inverting", laid_pharos_fp_inverting), ("pharos/fp.modulus", laid_pharos_fp_modulus), ("pharos/fp.lift", laid_pharos_fp_lift), ("pharos/fp.half", laid_pharos_fp_half), ("pharos/fp.rooting", laid_pharos_fp_rooting), ("pharos/sha.roundWords", laid_pharos_sha_roundWords)], narrowed := true }
def RulesMarksUptoSaid : Prop := rulesMarksUptoRow.holds Tryz.pinned (OpenSpec.upto rulesMarksSpec)

end Rows
end Go.Proofs.YtfakhlafilbjkaaGreatDoor
