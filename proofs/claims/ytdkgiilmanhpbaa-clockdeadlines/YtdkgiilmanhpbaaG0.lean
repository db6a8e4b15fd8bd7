/-
  Nothing is known of package-level variables.
-/
import Derived.Test.YtdkgiilmanhpbaaX3
import Derived.Test.YtdkgiilmanhpbaaRows
namespace Go.Proofs.Ytdkgiilmanhpbaa
open Go.RowKit
set_option maxRecDepth 100000
structure Gt (w : World) : Prop where
  t : True
theorem gt_low : GLow Gt 0 where
  size := fun _ _ => Nat.zero_le _
  same := fun _ _ _ _ => ⟨trivial⟩
theorem mixed : Try.prog.follows .mixedOrders = true := by kernel_rfl
end Go.Proofs.Ytdkgiilmanhpbaa
