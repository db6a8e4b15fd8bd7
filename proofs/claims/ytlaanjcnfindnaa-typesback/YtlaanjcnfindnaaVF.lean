/-
  The document's reader: committees, aggregates, the end.
-/
import Derived.Test.YtlaanjcnfindnaaVE
import Derived.Test.YtlaanjcnfindnaaX3
namespace Go.Proofs.Ytlaanjcnfindnaa
open Go.RowKit
set_option maxRecDepth 100000
set_option maxHeartbeats 1000000

def Co0 : List Value := .slice none 0 0 :: Z48.map U8
theorem zvCo (w : World) : (zeroValue 31).run Try.prog w = .ok (.agg Co0.toArray) w := (Try.zeroValue31 w).trans (by rfl)
theorem tiK : TI Try.prog 29 (.agg (Z48.map U8).toArray) 48 48 := ti_mk (by kernel_rfl)
def keysOf (bs : By) (n : Nat) : List By := (List.range n).map fun j => sub bs (48 * j) 48
theorem keysOf_len (bs : By) (n : Nat) : (keysOf bs n).length = n := by simp [keysOf]
theorem keysOf_s (bs : By) (n : Nat) : (keysOf bs (n + 1)).flatten.map U8 = (keysOf bs n).flatten.map U8 ++ (sub bs (48 * n) 48).map U8 := by simp [keysOf, List.range_succ]
theorem keysOf_all {bs : By} {n : Nat} (h : 48 * n ≤ bs.length) : ∀ r ∈ keysOf bs n, r.length = 48 := fun r hr => by
  obtain ⟨j, hj, rfl⟩ := List.mem_map.1 hr
  exact sub_len (by have := List.mem_range.1 hj; omega)
theorem keysOf_fl {bs : By} : ∀ {n : Nat}, 48 * n ≤ bs.length → ((keysOf bs n).flatten.map U8).length = n * 48
  | 0, _ => rfl
  | n + 1, h => by rw [keysOf_s, List.length_append, keysOf_fl (by omega), List.length_map, sub_len (by omega)]; omega
theorem CoC_one (a : Option Addr) (n c : Nat) (l : By) : (Value.slice a n c :: l.map U8).all (·.oneCell') = true := by rw [List.all_cons, one_u8]; rfl
end Go.Proofs.Ytlaanjcnfindnaa
