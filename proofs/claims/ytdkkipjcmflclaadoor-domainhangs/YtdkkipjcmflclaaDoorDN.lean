/-
  What is known of domains and messages; what is asked of package domain.
-/
import Derived.Test.YtdkkipjcmflclaaDoorDM
import Derived.Test.YtdkkipjcmflclaaDoorXQ
import Derived.Test.YtdkkipjcmflclaaDoorX3
namespace Go.Proofs.YtdkkipjcmflclaaDoor
open Go.RowKit
set_option maxRecDepth 100000
set_option maxHeartbeats 1000000
open Sh
theorem ent7 : Enters Tryd.prog 7 := fun _ _ => by kernel_rfl
theorem ent9 : Enters Tryd.prog 9 := fun _ _ => by kernel_rfl
theorem ent11 : Enters Tryd.prog 11 := fun _ _ => by kernel_rfl
theorem ent14 : Enters Tryd.prog 14 := fun _ _ => by kernel_rfl
def Cf0 : Cf := ⟨List.replicate 32 0#8, List.replicate 4 0#8, 0#64, 0#64, 0⟩
def kH (b : List (BitVec 8)) : List (BitVec 8) := Sh.DG ((Sh.mixN (KW.map Sh.tN) (Sh.IV.map Sh.tN) ((Sh.blks b).map (·.map BitVec.toNat))).map (BitVec.ofNat 32)) 8
theorem kn_e (x y : Rt) : P2 x y = kH (x ++ y) := Sh.SHA_e _ _ rfl
theorem tor5 (a b c d e : Rt) : Tor [a, b, c, d, e] = P2 (P2 (P2 a b) (P2 c d)) (P2 (P2 e Z0) (P2 Z0 Z0)) := by
  rw [Tor, show dep [a, b, c, d, e].length = 3 from (by decide +kernel : dep 5 = 3)]
  rfl
def Hds (s : BitVec 64) : Hd := ⟨s, 0#64, Z0, Z0, Z0⟩
theorem Hds_ok (s : BitVec 64) : (Hds s).Ok := ⟨rfl, rfl, rfl⟩
theorem dom0 : DOM Cf0 = [7#8, 0#8, 0#8, 0#8] ++ (kH (Z0 ++ Z0)).take 28 := by
  rw [DOM, FRK, kn_e]
  rfl
theorem dom0_b : (DOM Cf0)[0]? = some 7#8 ∧ (DOM Cf0)[1]? = some 0#8 ∧ (DOM Cf0)[3]? = some 0#8 ∧ (DOM Cf0)[4]? = some 0xf5#8 := by
  rw [dom0]
  decide +kernel
theorem hds_rt (s : BitVec 64) : (Hds s).rt = P2 (P2 (P2 (nR s) (nR 0#64)) (P2 Z0 Z0)) (P2 (P2 Z0 Z0) (P2 Z0 Z0)) := by
  show Tor [nR s, nR 0#64, Z0, Z0, Z0] = _
  rw [tor5]
theorem msg_ne : ¬ MSG Cf0 (Hds 3#64) = MSG Cf0 (Hds 4#64) := by
  rw [MSG, MSG, dom0, hds_rt, hds_rt]
  simp only [kn_e]
  decide +kernel
/-- A message hangs on the chain's version and root alone. -/
theorem msg_same {c d : Cf} (hg : c.g = d.g) (hv : c.v = d.v) (h : Hd) : MSG c h = MSG d h := by rw [MSG, MSG, DOM, DOM, hg, hv]
/-- What is put together is new and one's own. -/
def NewB (w w' : World) (e : Ending) (xs : List (BitVec 8)) (n : Nat) : Prop := ∃ b cs cap, e = .returned (.slice (some ⟨b, 0, none⟩) n cap) ∧ Grow w w' ∧ w.heap.size ≤ b ∧ OwnB w' b cs 5 ∧ cs.length = cap ∧ n ≤ cap ∧ cs.take n = xs.map U8
/-- What is asked of package domain. -/
structure DomainP : Prop where
  fk : ∀ (v : List (BitVec 8)) (g : Rt), v.length = 4 → g.length = 32 → ∀ (w : World), Gt w → Calls Tryd.prog 7 [.agg (v.map U8).toArray, .agg (g.map U8).toArray].toArray w (fun e w' => e = .returned (.agg ((FRK v g).map U8).toArray) ∧ Grow w w')
  dm : ∀ (c : Cf), c.Ok → ∀ (w : World), Gt w → Calls Tryd.prog 9 [.agg c.cs.toArray].toArray w (fun e w' => e = .returned (.agg ((DOM c).map U8).toArray) ∧ Grow w w')
  sg : ∀ (x y : Rt), x.length = 32 → y.length = 32 → ∀ (w : World), Gt w → Calls Tryd.prog 11 [.agg (x.map U8).toArray, .agg (y.map U8).toArray].toArray w (fun e w' => e = .returned (.agg ((P2 x y).map U8).toArray) ∧ Grow w w')
  ms : ∀ (c : Cf) (h : Hd), c.Ok → h.Ok → ∀ (w : World), Gt w → Calls Tryd.prog 14 [.agg c.cs.toArray, .agg h.cs.toArray].toArray w (fun e w' => NewB w w' e (MSG c h) 32)
end Go.Proofs.YtdkkipjcmflclaaDoor
