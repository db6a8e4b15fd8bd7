/-
  Committees, updates, bootstraps held against one another: the same ones.
-/
import Derived.Test.YtlaanjcnfindnaaVL
import Derived.Test.YtlaanjcnfindnaaX3
namespace Go.Proofs.Ytlaanjcnfindnaa
open Go.RowKit
set_option maxRecDepth 100000
set_option maxHeartbeats 1000000

theorem rg_at {w : World} {b o : Nat} {cs ds : List Value} (h : w.rangeAt b 0 cs) (hc : ∀ j v, ds[j]? = some v → cs[o + j]? = some v) : w.rangeAt b o ds := fun j v hv => by
  have := h _ v (hc j v hv)
  rw [Nat.zero_add] at this
  exact this
theorem Up.at_sig {u : Up} (k : u.Ok) : ∀ j v, (u.sy.sig.map U8)[j]? = some v → u.cs[598 + j]? = some v := at_trans (o := 597) (p := 1) (Up.at_sy k) Ag.at_sig
theorem one_at {cs : List Value} {o : Nat} {v : Value} (h : cs[o]? = some v) : ∀ j u, [v][j]? = some u → cs[o + j]? = some u := fun j u hu => by
  cases j with
  | zero => cases hu; exact h
  | succ j => simp at hu
end Go.Proofs.Ytlaanjcnfindnaa
