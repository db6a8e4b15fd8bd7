/-
  No cell of these rows narrows 'for every input' (looked for: loops, veiled, ifaces, maps, wideKeys, modest, calm, conditions, laid).
  DERIVED. THE GIVEN ROWS OF THIS SEAT. 6 by the template 'for every input the law returns true; each argument reads behind the call as it read before'; 0 by the template 'total and deterministic' (their statements: YteohckfbphdngaaTotals.lean).
  GIVEN WITH THE SEED: the statements are not yours to turn. If you find one false, say at which input.
  Laid BY PROGRAM, IN A SANDBOX (cutbox-rows.mjs): the forced cells as the released guide's own fill.sh prints them over the translation 2b5c8a2f20a9f13e… (all of the seat's roots in one cut). By AI agents, Wed Nov 11 2026. No macro, syntax, notation, axiom, sorry.
-/
import Derived.Test.YteohckfbphdngaaChecked
import GoSem.Claim
import GoSem.ClaimJoined
import GoSem.ClaimMapViews
import Derived.JoinedTies
import Derived.KernelRfl
namespace Go.Proofs.Yteohckfbphdngaa
/- THE CELL 'sum', in the pinned program and in every row, IS THE sha256 OF THE DUMP (.gsa) THAT YteohckfbphdngaaProg.lean LOADS. Nothing in Lean hashes anything: it is a label: what it is worth is what the hold of that sum in a sandbox is worth. -/
noncomputable def Try.pinned : Pinned := { name := "yteohckfbphdngaa", sum := "2b5c8a2f20a9f13ec36406699c6fa8824b697654b742459766b54b95c610c9f7", checked := Try.checked }
namespace Rows
def none {H : Type} : Left H := { results := [], args := [] }

/-- 'pharoslaw2.LimbsSums': WHATEVER THE INPUT: true; the input reads as it did. -/
def limbsSumsSpec : ChangeSpec := { name := "limbsSums", fn := fun _ => fun
  | [d1, d2] => { results := [.lit (.bool true)], args := [d1, d2] }
  | _ => none }
def limbsSumsRow : OpenClaim := { program := "yteohckfbphdngaa", sum := "2b5c8a2f20a9f13ec36406699c6fa8824b697654b742459766b54b95c610c9f7", func := "pharos/pharoslaw2.LimbsSums", spec := "limbsSums", inPlace := ["math/bits.Sub64", "math/bits.Add64"], unfollowed := true, recurses := true, apart := false }
def LimbsSumsSaid : Prop := limbsSumsRow.holds Try.pinned (OpenSpec.ofChange limbsSumsSpec)

/-- ITS FALSE NEIGHBOUR: 'it returns false'. Refute it at one input. -/
def limbsSumsWrong : ChangeSpec := { name := "limbsSums", fn := fun _ => fun
  | [d1, d2] => { results := [.lit (.bool false)], args := [d1, d2] }
  | _ => none }
def LimbsSumsWrongFalsely : Prop := limbsSumsRow.holds Try.pinned (OpenSpec.ofChange limbsSumsWrong)

/-- 'pharoslaw2.LimbsProducts': WHATEVER THE INPUT: true; the input reads as it did. -/
def limbsProductsSpec : ChangeSpec := { name := "limbsProducts", fn := fun _ => fun
  | [d1, d2, d3] => { results := [.lit (.bool true)], args := [d1, d2, d3] }
  | _ => none }
def limbsProductsRow : OpenClaim := { program := "yteohckfbphdngaa", sum := "2b5c8a2f20a9f13ec36406699c6fa8824b697654b742459766b54b95c610c9f7", func := "pharos/pharoslaw2.LimbsProducts", spec := "limbsProducts", inPlace := ["math/bits.Sub64", "math/bits.Add64"], unfollowed := true, recurses := true, apart := false }
def LimbsProductsSaid : Prop := limbsProductsRow.holds Try.pinned (OpenSpec.ofChange limbsProductsSpec)

/-- ITS FALSE NEIGHBOUR: 'it returns false'. Refute it at one input. -/
def limbsProductsWrong : ChangeSpec := { name := "limbsProducts", fn := fun _ => fun
  | [d1, d2, d3] => { results := [.lit (.bool false)], args := [d1, d2, d3] }
  | _ => none }
def LimbsProductsWrongFalsely : Prop := limbsProductsRow.holds Try.pinned (OpenSpec.ofChange limbsProductsWrong)

/-- 'pharoslaw2.LimbsMods': WHATEVER THE INPUT: true; the input reads as it did. -/
def limbsModsSpec : ChangeSpec := { name := "limbsMods", fn := fun _ => fun
  | [d1, d2] => { results := [.lit (.bool true)], args := [d1, d2] }
  | _ => none }
def limbsModsRow : OpenClaim := { program := "yteohckfbphdngaa", sum := "2b5c8a2f20a9f13ec36406699c6fa8824b697654b742459766b54b95c610c9f7", func := "pharos/pharoslaw2.LimbsMods", spec := "limbsMods", inPlace := ["math/bits.Sub64", "math/bits.Add64"], unfollowed := true, recurses := true, apart := false }
def LimbsModsSaid : Prop := limbsModsRow.holds Try.pinned (OpenSpec.ofChange limbsModsSpec)

/-- ITS FALSE NEIGHBOUR: 'it returns false'. Refute it at one input. -/
def limbsModsWrong : ChangeSpec := { name := "limbsMods", fn := fun _ => fun
  | [d1, d2] => { results := [.lit (.bool false)], args := [d1, d2] }
  | _ => none }
def LimbsModsWrongFalsely : Prop := limbsModsRow.holds Try.pinned (OpenSpec.ofChange limbsModsWrong)

/-- 'pharoslaw2.LimbsMonts': WHATEVER THE INPUT: true; the input reads as it did. -/
def limbsMontsSpec : ChangeSpec := { name := "limbsMonts", fn := fun _ => fun
  | [d1, d2, d3] => { results := [.lit (.bool true)], args := [d1, d2, d3] }
  | _ => none }
def limbsMontsRow : OpenClaim := { program := "yteohckfbphdngaa", sum := "2b5c8a2f20a9f13ec36406699c6fa8824b697654b742459766b54b95c610c9f7", func := "pharos/pharoslaw2.LimbsMonts", spec := "limbsMonts", inPlace := ["math/bits.Sub64", "math/bits.Add64"], unfollowed := true, recurses := true, apart := false }
def LimbsMontsSaid : Prop := limbsMontsRow.holds Try.pinned (OpenSpec.ofChange limbsMontsSpec)

/-- ITS FALSE NEIGHBOUR: 'it returns false'. Refute it at one input. -/
def limbsMontsWrong : ChangeSpec := { name := "limbsMonts", fn := fun _ => fun
  | [d1, d2, d3] => { results := [.lit (.bool false)], args := [d1, d2, d3] }
  | _ => none }
def LimbsMontsWrongFalsely : Prop := limbsMontsRow.holds Try.pinned (OpenSpec.ofChange limbsMontsWrong)

/-- 'pharoslaw2.LimbsBytes': WHATEVER THE INPUT: true; the input reads as it did. -/
def limbsBytesSpec : ChangeSpec := { name := "limbsBytes", fn := fun _ => fun
  | [d1, d2] => { results := [.lit (.bool true)], args := [d1, d2] }
  | _ => none }
def limbsBytesRow : OpenClaim := { program := "yteohckfbphdngaa", sum := "2b5c8a2f20a9f13ec36406699c6fa8824b697654b742459766b54b95c610c9f7", func := "pharos/pharoslaw2.LimbsBytes", spec := "limbsBytes", inPlace := ["math/bits.Sub64", "math/bits.Add64"], unfollowed := true, recurses := true, apart := false }
def LimbsBytesSaid : Prop := limbsBytesRow.holds Try.pinned (OpenSpec.ofChange limbsBytesSpec)

/-- ITS FALSE NEIGHBOUR: 'it returns false'. Refute it at one input. -/
def limbsBytesWrong : ChangeSpec := { name := "limbsBytes", fn := fun _ => fun
  | [d1, d2] => { results := [.lit (.bool false)], args := [d1, d2] }
  | _ => none }
def LimbsBytesWrongFalsely : Prop := limbsBytesRow.holds Try.pinned (OpenSpec.ofChange limbsBytesWrong)

/-- 'pharoslaw2.LimbsBits': WHATEVER THE INPUT: true; the input reads as it did. -/
def limbsBitsSpec : ChangeSpec := { name := "limbsBits", fn := fun _ => fun
  | [d1, d2] => { results := [.lit (.bool true)], args := [d1, d2] }
  | _ => none }
def limbsBitsRow : OpenClaim := { program := "yteohckfbphdngaa", sum := "2b5c8a2f20a9f13ec36406699c6fa8824b697654b742459766b54b95c610c9f7", func := "pharos/pharoslaw2.LimbsBits", spec := "limbsBits", inPlace := ["math/bits.Sub64", "math/bits.Add64"], unfollowed := true, recurses := true, apart := false }
def LimbsBitsSaid : Prop := limbsBitsRow.holds Try.pinned (OpenSpec.ofChange limbsBitsSpec)

/-- ITS FALSE NEIGHBOUR: 'it returns false'. Refute it at one input. -/
def limbsBitsWrong : ChangeSpec := { name := "limbsBits", fn := fun _ => fun
  | [d1, d2] => { results := [.lit (.bool false)], args := [d1, d2] }
  | _ => none }
def LimbsBitsWrongFalsely : Prop := limbsBitsRow.holds Try.pinned (OpenSpec.ofChange limbsBitsWrong)

/- THE SECOND FORM. 'bulk': how many values and letters a reading holds, each counted each time it is reached (what is shared counts as often as it is met; a slice's spare places count too). A statement '..UptoSaid' is the law's where the arguments, and the package variables that the reading takes, are together of bulk at most 1048576: NARROWER than '..Said'. Prove '..Said' where nothing that the law and all that it calls make is longer than what came in: it says more and counts as full. Else prove '..UptoSaid'. A law counts once. -/
mutual
def uptoBulk {H : Type} : DataW H → Nat
  | .lit (.string bytes) => bytes.length + 1
  | .lit _ => 1
  | .nil => 1
  | .ptr d => uptoBulk d + 1
  | .slice elems spare => uptoBulkAll elems + uptoBulkAll spare + 1
  | .agg parts => uptoBulkAll parts + 1
  | .iface _ d => uptoBulk d + 1
  | .map entries => uptoBulkEntries entries + 1
  | .held _ => 1
def uptoBulkAll {H : Type} : List (DataW H) → Nat
  | [] => 0
  | d :: r => uptoBulk d + uptoBulkAll r
def uptoBulkEntries {H : Type} : List (Lit × DataW H) → Nat
  | [] => 0
  | x :: r => uptoBulkEntry x + uptoBulkEntries r
def uptoBulkEntry {H : Type} : Lit × DataW H → Nat
  | (.string bytes, d) => bytes.length + uptoBulk d + 1
  | (_, d) => uptoBulk d + 1
 end
def uptoSmall : (H : Type) → List (DataW H) → Bool := fun _ ds => decide (uptoBulkAll ds ≤ 1048576)
def OpenSpec.upto (s : _root_.Go.ChangeSpec) : _root_.Go.OpenSpec := { _root_.Go.OpenSpec.ofChange s with cond := some uptoSmall }

/-- 'pharoslaw2.LimbsSums', WHERE WHAT IT READS IS OF BULK AT MOST 1048576: true; the input reads as it did. -/
def limbsSumsUptoRow : OpenClaim := { program := "yteohckfbphdngaa", sum := "2b5c8a2f20a9f13ec36406699c6fa8824b697654b742459766b54b95c610c9f7", func := "pharos/pharoslaw2.LimbsSums", spec := "limbsSums", inPlace := ["math/bits.Sub64", "math/bits.Add64"], unfollowed := true, recurses := true, apart := false, narrowed := true }
def LimbsSumsUptoSaid : Prop := limbsSumsUptoRow.holds Try.pinned (OpenSpec.upto limbsSumsSpec)

/-- 'pharoslaw2.LimbsProducts', WHERE WHAT IT READS IS OF BULK AT MOST 1048576: true; the input reads as it did. -/
def limbsProductsUptoRow : OpenClaim := { program := "yteohckfbphdngaa", sum := "2b5c8a2f20a9f13ec36406699c6fa8824b697654b742459766b54b95c610c9f7", func := "pharos/pharoslaw2.LimbsProducts", spec := "limbsProducts", inPlace := ["math/bits.Sub64", "math/bits.Add64"], unfollowed := true, recurses := true, apart := false, narrowed := true }
def LimbsProductsUptoSaid : Prop := limbsProductsUptoRow.holds Try.pinned (OpenSpec.upto limbsProductsSpec)

/-- 'pharoslaw2.LimbsMods', WHERE WHAT IT READS IS OF BULK AT MOST 1048576: true; the input reads as it did. -/
def limbsModsUptoRow : OpenClaim := { program := "yteohckfbphdngaa", sum := "2b5c8a2f20a9f13ec36406699c6fa8824b697654b742459766b54b95c610c9f7", func := "pharos/pharoslaw2.LimbsMods", spec := "limbsMods", inPlace := ["math/bits.Sub64", "math/bits.Add64"], unfollowed := true, recurses := true, apart := false, narrowed := true }
def LimbsModsUptoSaid : Prop := limbsModsUptoRow.holds Try.pinned (OpenSpec.upto limbsModsSpec)

/-- 'pharoslaw2.LimbsMonts', WHERE WHAT IT READS IS OF BULK AT MOST 1048576: true; the input reads as it did. -/
def limbsMontsUptoRow : OpenClaim := { program := "yteohckfbphdngaa", sum := "2b5c8a2f20a9f13ec36406699c6fa8824b697654b742459766b54b95c610c9f7", func := "pharos/pharoslaw2.LimbsMonts", spec := "limbsMonts", inPlace := ["math/bits.Sub64", "math/bits.Add64"], unfollowed := true, recurses := true, apart := false, narrowed := true }
def LimbsMontsUptoSaid : Prop := limbsMontsUptoRow.holds Try.pinned (OpenSpec.upto limbsMontsSpec)

/-- 'pharoslaw2.LimbsBytes', WHERE WHAT IT READS IS OF BULK AT MOST 1048576: true; the input reads as it did. -/
def limbsBytesUptoRow : OpenClaim := { program := "yteohckfbphdngaa", sum := "2b5c8a2f20a9f13ec36406699c6fa8824b697654b742459766b54b95c610c9f7", func := "pharos/pharoslaw2.LimbsBytes", spec := "limbsBytes", inPlace := ["math/bits.Sub64", "math/bits.Add64"], unfollowed := true, recurses := true, apart := false, narrowed := true }
def LimbsBytesUptoSaid : Prop := limbsBytesUptoRow.holds Try.pinned (OpenSpec.upto limbsBytesSpec)

/-- 'pharoslaw2.LimbsBits', WHERE WHAT IT READS IS OF BULK AT MOST 1048576: true; the input reads as it did. -/
def limbsBitsUptoRow : OpenClaim := { program := "yteohckfbphdngaa", sum := "2b5c8a2f20a9f13ec36406699c6fa8824b697654b742459766b54b95c610c9f7", func := "pharos/pharoslaw2.LimbsBits", spec := "limbsBits", inPlace := ["math/bits.Sub64", "math/bits.Add64"], unfollowed := true, recurses := true, apart := false, narrowed := true }
def LimbsBitsUptoSaid : Prop := limbsBitsUptoRow.holds Try.pinned (OpenSpec.upto limbsBitsSpec)

end Rows
end Go.Proofs.Yteohckfbphdngaa
