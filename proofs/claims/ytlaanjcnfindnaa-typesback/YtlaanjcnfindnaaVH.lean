/-
  The document's reader: the end; sizes.
-/
import Derived.Test.YtlaanjcnfindnaaVG
namespace Go.Proofs.Ytlaanjcnfindnaa
open Go.RowKit
set_option maxRecDepth 100000
set_option maxHeartbeats 1000000

def szN (n : Int) : Nat := min (max n.toNat 1) 512
theorem szN_le (n : Int) : 1 ≤ szN n ∧ szN n ≤ 512 := by unfold szN; omega
def sz1 (n : Nat) : Nat := 48 * n + 320
def sz2 (n : Nat) : Nat := 48 * n + szB n + 728
def sz3 (n : Nat) : Nat := szB n + 520
def sz4 (n : Nat) : Nat := szB n + 216
section
variable {P : Program} {F : Fr} {C : Cls}
theorem kret_t4 {fn : Func} {R : Ending → World → Prop} {t1 t2 t3 t4 : Nat} {v1 v2 v3 v4 : Value} (hr : fn.results = #[.tmp t1, .tmp t2, .tmp t3, .tmp t4]) (hv1 : lk F t1 = some v1) (hv2 : lk F t2 = some v2) (hv3 : lk F t3 = some v3) (hv4 : lk F t4 = some v4)
    (h : ∀ w, C w → R (.returned (.tuple #[v1, v2, v3, v4])) w) : Kret P fn R .ret [] F C :=
  ⟨rfl, fun a w ha hC => ⟨.tuple #[v1, v2, v3, v4], by simp [results, hr, ha.get t1 _ hv1, ha.get t2 _ hv2, ha.get t3 _ hv3, ha.get t4 _ hv4], h w hC⟩⟩
end
end Go.Proofs.Ytlaanjcnfindnaa
