/-
  The document's committees, aggregates, updates and bootstraps as bytes.
-/
import Derived.Test.YtlaanjcnfindnaaVA
import Derived.Test.YtlaanjcnfindnaaX3
namespace Go.Proofs.Ytlaanjcnfindnaa
open Go.RowKit
set_option maxRecDepth 100000
set_option maxHeartbeats 1000000

theorem zvK (w : World) : (zeroValue 29).run Try.prog w = .ok (.agg (Z48.map U8).toArray) w := (Try.zeroValue29 w).trans (by rfl)
theorem Co.at_sum {c : Co} : ∀ j v, (c.sum.map U8)[j]? = some v → c.cs[1 + j]? = some v := end_at (pre := [.slice c.ka c.ks.length c.kc]) rfl
theorem Ag.at_sig {a : Ag} : ∀ j v, (a.sig.map U8)[j]? = some v → a.cs[1 + j]? = some v := end_at (pre := [.slice a.ba a.bs.length a.bc]) rfl
theorem En.up {w0 w w1 : World} {a0 a : Option Addr} {t : TypeId} {b cap : Nat} {cs : List Value} {xs : By} (h : En w0 a0 t b cs w a cap xs) (hg : Grow w w1) (_g1 : Gt w1) : En w0 a0 t b cs w1 a cap xs := ⟨h.ap.grow hg, h.ob.grow hg, h.nb⟩
end Go.Proofs.Ytlaanjcnfindnaa
