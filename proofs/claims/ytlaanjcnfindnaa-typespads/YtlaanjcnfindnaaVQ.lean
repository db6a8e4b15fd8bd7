/-
  What a decoder answers, by one form; the law of decoding.
-/
import Derived.Test.YtlaanjcnfindnaaVO
namespace Go.Proofs.Ytlaanjcnfindnaa
open Go.RowKit
set_option maxRecDepth 100000
set_option maxHeartbeats 1000000

structure Up.Fit (u : Up) : Prop where
  ok : u.Ok
  n : u.nx.ks.length ≤ 1000
  m : u.sy.bs.length ≤ 1000
structure Bo.Fit (b : Bo) : Prop where
  ok : b.Ok
  n : b.nw.ks.length ≤ 1000
theorem Up.one (u : Up) : u.cs.all (·.oneCell') = true := UC_one (Hd.one _) (CoC_one _ _ _ _) (one_u8 _) (Hd.one _) (one_u8 _) (CoC_one _ _ _ _) rfl
theorem Bo.one (b : Bo) : b.cs.all (·.oneCell') = true := by
  rw [Bo.cs, List.all_append, List.all_append, Hd.one, one_u8, show b.nw.cs.all (·.oneCell') = true from CoC_one _ _ _ _]; rfl
end Go.Proofs.Ytlaanjcnfindnaa
