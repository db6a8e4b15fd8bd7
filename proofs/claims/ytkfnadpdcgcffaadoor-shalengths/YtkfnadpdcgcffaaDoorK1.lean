/-
  The chapter's example, reckoned.
-/
import Derived.Test.YtkfnadpdcgcffaaDoorH4
import Derived.Test.YtkfnadpdcgcffaaDoorE14
namespace Go.Proofs.YtkfnadpdcgcffaaDoor
open Go.RowKit
set_option maxRecDepth 100000
def ABC : List (BitVec 8) := [97#8, 98#8, 99#8]
theorem abc_0 : (SHA ABC).getD 0 0 = 186#8 := by kernel_rfl
theorem abc_1 : (SHA ABC).getD 1 0 = 120#8 := by kernel_rfl
theorem abc_31 : (SHA ABC).getD 31 0 = 173#8 := by kernel_rfl
theorem abc_n : (blks ABC).length = 1 := by kernel_rfl
theorem zero_0 : (SHA (List.replicate 32 0#8 ++ List.replicate 32 0#8)).getD 0 0 = 245#8 := by kernel_rfl
end Go.Proofs.YtkfnadpdcgcffaaDoor
