/-
  The document's reader: headers, committees, aggregates, the end.
-/
import Derived.Test.YtlaanjcnfindnaaVD
namespace Go.Proofs.Ytlaanjcnfindnaa
open Go.RowKit
set_option maxRecDepth 100000
set_option maxHeartbeats 1000000

theorem fill_app {place : Nat → Option (Nat × Nat)} {i : Nat} {v : Value} {vs pre old post : List Value} (hp : place i = some (pre.length, old.length)) (hv : v.cells = vs.toArray) (hs : vs.length = old.length) (rest : List (Nat × Value)) : Instr.fill place (pre ++ (old ++ post)).toArray ((i, v) :: rest) = Instr.fill place ((pre ++ vs) ++ post).toArray rest := by
  rw [fill_mid hp hv hs (by simp; omega)]
  congr 2
  rw [List.take_left' rfl, hs, ← List.append_assoc pre, List.drop_left' (by simp)]
def Z32 : By := List.replicate 32 0#8
def Hd0 : Hd := ⟨0, 0, Z32, Z32, Z32⟩
theorem Hd0_ok : Hd0.Ok := ⟨rfl, rfl, rfl⟩
theorem zvHd (w : World) : (zeroValue 26).run Try.prog w = .ok (.agg Hd0.cs.toArray) w := (Try.zeroValue26 w).trans (by rfl)
def sub (bs : By) (o n : Nat) : By := (bs.drop o).take n
theorem sub_len {bs : By} {o n : Nat} (h : o + n ≤ bs.length) : (sub bs o n).length = n := by rw [sub, List.length_take, List.length_drop]; omega
def hdOf (bs : By) : Hd := ⟨pn (sub bs 0 8) 8, pn (sub bs 8 8) 8, sub bs 16 32, sub bs 48 32, sub bs 80 32⟩
theorem hdOf_ok {bs : By} (h : 112 ≤ bs.length) : (hdOf bs).Ok := ⟨sub_len (by omega), sub_len (by omega), sub_len (by omega)⟩
theorem Hd.one (h : Hd) : h.cs.all (·.oneCell') = true := by
  unfold Hd.cs
  rw [List.all_cons, List.all_cons, List.all_append, List.all_append, one_u8, one_u8, one_u8]
  rfl
end Go.Proofs.Ytlaanjcnfindnaa
