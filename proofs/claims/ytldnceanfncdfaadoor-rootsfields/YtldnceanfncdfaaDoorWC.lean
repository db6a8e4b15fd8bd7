/-
  The document's roots of keys, of headers, of branches.
-/
import Derived.Test.YtldnceanfncdfaaDoorWS
namespace Go.Proofs.YtldnceanfncdfaaDoor
open Go.RowKit
set_option maxRecDepth 100000
set_option maxHeartbeats 1000000
open Sh
theorem mem_get {l : List Rt} {i : Nat} (h : i < l.length) : l.getD i [] ∈ l := by
  rw [List.getD_eq_getElem?_getD, List.getElem?_eq_getElem h]
  exact List.getElem_mem h
end Go.Proofs.YtldnceanfncdfaaDoor
