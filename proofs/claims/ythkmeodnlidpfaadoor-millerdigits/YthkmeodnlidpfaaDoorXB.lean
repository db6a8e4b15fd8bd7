/-
 Elements of three pairs as values.
 The second curve's numbers.
-/
import Derived.Test.YthkmeodnlidpfaaDoorXA
import Derived.Test.YthkmeodnlidpfaaDoorX5
import Derived.Test.YthkmeodnlidpfaaDoorX3
set_option maxRecDepth 100000
set_option maxHeartbeats 1000000
namespace Go.Proofs.YthkmeodnlidpfaaDoor
section
open Go.RowKit
attribute [local simp] fe_len nm_len AS_len SS_len MONT_len RM_len FRs_len BYs_len by48_len PLl TWOl ONEl N1l IVPl HFPl RTPl FL_len SP_len fe2_len SP2_len FM_len
abbrev EV6 (x : W6) : Value := .agg (((fe (x.1).1 ++ fe (x.1).2) ++ ((fe (x.2.1).1 ++ fe (x.2.1).2) ++ (fe (x.2.2).1 ++ fe (x.2.2).2))).map U64).toArray
def q6 : Sh W6 := q2.two (q2.two q2 2) 2
theorem V6 (x : W6) : EV6 x = dn rid (.inl [x.1.1, x.1.2, x.2.1.1, x.2.1.2, x.2.2.1, x.2.2.2]) := by
 show Value.agg _ = Value.agg _
 rw [clv, show cel [x.1.1, x.1.2, x.2.1.1, x.2.1.2, x.2.2.1, x.2.2.2] = fe x.1.1 ++ (fe x.1.2 ++ (fe x.2.1.1 ++ (fe x.2.1.2 ++ (fe x.2.2.1 ++ fe x.2.2.2)))) from rfl]
 rw [List.append_assoc, List.append_assoc]
theorem pcast {f : Nat} {a a' : List Value} {v v' : Value} (ha : a = a') (hv : v = v') (h : Pure Tryd.prog Gt f a' v') : Pure Tryd.prog Gt f a v := by rw [ha, hv]; exact h
theorem l1 {a b : Value} (h : a = b) : [a] = [b] := by rw [h]
theorem l2 {a b c d : Value} (h : a = b) (k : c = d) : [a, c] = [b, d] := by rw [h, k]
theorem t2 {a b c : Value} (h : a = b) : Value.tuple #[a, c] = .tuple #[b, c] := by rw [h]
end
section
open Go.RowKit
attribute [local simp] fe_len nm_len AS_len SS_len MONT_len RM_len FRs_len BYs_len by48_len PLl TWOl ONEl N1l IVPl HFPl RTPl FL_len SP_len fe2_len SP2_len FM_len
end
end Go.Proofs.YthkmeodnlidpfaaDoor
