/-
  DERIVED. GIVEN WITH THE SEED: THE CARDS: each row of YtkfnadpdcgcffaaDoorRows.lean that lists a variable, with what it lists TIED to the program's text (the seventh form; the later family's looks); each row that meets fmt, with fmt's text TOLD by the authors' own Lean function (tested against real Go, not proved from fmt's source: count such statements apart). THE CARD IS WHAT COUNTS. Prove the row's statement (the work); the ties are given (YtkfnadpdcgcffaaDoorTie.lean); close each card by the builder's one call (the guide's Derived/Test/ToyasCard.lean, 'card_holds'). Laid BY PROGRAM, IN A SANDBOX (cutbox-door.mjs). By AI agents, Wed Nov 11 2026. No macro, syntax, notation, axiom, sorry.
-/
import Derived.Test.YtkfnadpdcgcffaaDoorRows
import GoSem.ClaimSeven
namespace Go.Proofs.YtkfnadpdcgcffaaDoor
namespace Rows

/-- THE TIED CARD OF 'pharoslaw1.ShaSums'. -/
def shaSumsCard : Claim7 := { stood := { row := shaSumsRow, standIns := [], harness := (true, "ef879db8ed0b5b34be4d2d1ef0b13fc996cfec1d85f16b43c1e342b6fe5dbfe2"), looks := false }, kinds := [], alts := [], laidByText := true, laidKinds := [.data], laidTests := true, laidLooks := .later }
def ShaSumsCardSaid : Prop := Claim7.holds Tryd.pinned (.plain (OpenSpec.ofChange shaSumsSpec)) shaSumsCard

/-- THE TIED CARD OF 'pharoslaw1.ShaBlocks'. -/
def shaBlocksCard : Claim7 := { stood := { row := shaBlocksRow, standIns := [], harness := (true, "ef879db8ed0b5b34be4d2d1ef0b13fc996cfec1d85f16b43c1e342b6fe5dbfe2"), looks := false }, kinds := [], alts := [], laidByText := true, laidKinds := [.data], laidTests := true, laidLooks := .later }
def ShaBlocksCardSaid : Prop := Claim7.holds Tryd.pinned (.plain (OpenSpec.ofChange shaBlocksSpec)) shaBlocksCard

/-- THE TIED CARD OF 'pharoslaw1.ShaPairs'. -/
def shaPairsCard : Claim7 := { stood := { row := shaPairsRow, standIns := [], harness := (true, "ef879db8ed0b5b34be4d2d1ef0b13fc996cfec1d85f16b43c1e342b6fe5dbfe2"), looks := false }, kinds := [], alts := [], laidByText := true, laidKinds := [.data], laidTests := true, laidLooks := .later }
def ShaPairsCardSaid : Prop := Claim7.holds Tryd.pinned (.plain (OpenSpec.ofChange shaPairsSpec)) shaPairsCard

/-- THE TIED CARD OF 'pharoslaw1.ShaPieces'. -/
def shaPiecesCard : Claim7 := { stood := { row := shaPiecesRow, standIns := [], harness := (true, "ef879db8ed0b5b34be4d2d1ef0b13fc996cfec1d85f16b43c1e342b6fe5dbfe2"), looks := false }, kinds := [], alts := [], laidByText := true, laidKinds := [.data], laidTests := true, laidLooks := .later }
def ShaPiecesCardSaid : Prop := Claim7.holds Tryd.pinned (.plain (OpenSpec.ofChange shaPiecesSpec)) shaPiecesCard

/-- THE TIED CARD OF 'pharoslaw1.ShaLengths'. -/
def shaLengthsCard : Claim7 := { stood := { row := shaLengthsRow, standIns := [], harness := (true, "ef879db8ed0b5b34be4d2d1ef0b13fc996cfec1d85f16b43c1e342b6fe5dbfe2"), looks := false }, kinds := [], alts := [], laidByText := true, laidKinds := [.data], laidTests := true, laidLooks := .later }
def ShaLengthsCardSaid : Prop := Claim7.holds Tryd.pinned (.plain (OpenSpec.ofChange shaLengthsSpec)) shaLengthsCard

/-- THE SECOND FORM's CARD OF 'pharoslaw1.ShaSums'. -/
def shaSumsUptoCard : Claim7 := { stood := { row := shaSumsUptoRow, standIns := [], harness := (true, "ef879db8ed0b5b34be4d2d1ef0b13fc996cfec1d85f16b43c1e342b6fe5dbfe2"), looks := false }, kinds := [], alts := [], laidByText := true, laidKinds := [.data], laidTests := true, laidLooks := .later }
def ShaSumsUptoCardSaid : Prop := Claim7.holds Tryd.pinned (.plain (OpenSpec.upto shaSumsSpec)) shaSumsUptoCard

/-- THE SECOND FORM's CARD OF 'pharoslaw1.ShaBlocks'. -/
def shaBlocksUptoCard : Claim7 := { stood := { row := shaBlocksUptoRow, standIns := [], harness := (true, "ef879db8ed0b5b34be4d2d1ef0b13fc996cfec1d85f16b43c1e342b6fe5dbfe2"), looks := false }, kinds := [], alts := [], laidByText := true, laidKinds := [.data], laidTests := true, laidLooks := .later }
def ShaBlocksUptoCardSaid : Prop := Claim7.holds Tryd.pinned (.plain (OpenSpec.upto shaBlocksSpec)) shaBlocksUptoCard

/-- THE SECOND FORM's CARD OF 'pharoslaw1.ShaPairs'. -/
def shaPairsUptoCard : Claim7 := { stood := { row := shaPairsUptoRow, standIns := [], harness := (true, "ef879db8ed0b5b34be4d2d1ef0b13fc996cfec1d85f16b43c1e342b6fe5dbfe2"), looks := false }, kinds := [], alts := [], laidByText := true, laidKinds := [.data], laidTests := true, laidLooks := .later }
def ShaPairsUptoCardSaid : Prop := Claim7.holds Tryd.pinned (.plain (OpenSpec.upto shaPairsSpec)) shaPairsUptoCard

/-- THE SECOND FORM's CARD OF 'pharoslaw1.ShaPieces'. -/
def shaPiecesUptoCard : Claim7 := { stood := { row := shaPiecesUptoRow, standIns := [], harness := (true, "ef879db8ed0b5b34be4d2d1ef0b13fc996cfec1d85f16b43c1e342b6fe5dbfe2"), looks := false }, kinds := [], alts := [], laidByText := true, laidKinds := [.data], laidTests := true, laidLooks := .later }
def ShaPiecesUptoCardSaid : Prop := Claim7.holds Tryd.pinned (.plain (OpenSpec.upto shaPiecesSpec)) shaPiecesUptoCard

/-- THE SECOND FORM's CARD OF 'pharoslaw1.ShaLengths'. -/
def shaLengthsUptoCard : Claim7 := { stood := { row := shaLengthsUptoRow, standIns := [], harness := (true, "ef879db8ed0b5b34be4d2d1ef0b13fc996cfec1d85f16b43c1e342b6fe5dbfe2"), looks := false }, kinds := [], alts := [], laidByText := true, laidKinds := [.data], laidTests := true, laidLooks := .later }
def ShaLengthsUptoCardSaid : Prop := Claim7.holds Tryd.pinned (.plain (OpenSpec.upto shaLengthsSpec)) shaLengthsUptoCard
end Rows
end Go.Proofs.YtkfnadpdcgcffaaDoor
