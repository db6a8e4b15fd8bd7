/-
  The document's decoder of bootstraps.
-/
import Derived.Test.YtlaanjcnfindnaaVH
namespace Go.Proofs.Ytlaanjcnfindnaa
open Go.RowKit
set_option maxRecDepth 100000
set_option maxHeartbeats 1000000

def Zs (n : Nat) : By := List.replicate n 0#8
def Bo0 : Bo := ⟨Hd0, ⟨[], none, 0, Z48⟩, Zs 160⟩
theorem zvBo (w : World) : (zeroValue 42).run Try.prog w = .ok (.agg Bo0.cs.toArray) w := (Try.zeroValue42 w).trans (by rfl)
theorem Bo0_len : Bo0.cs.length = 307 := by decide
theorem bldBo0 (w : World) : (Instr.build 42 #[]).run Try.prog w = .ok (.agg Bo0.cs.toArray) w := run_buildP (c := Bo0.cs) zvBo Try.underlying42 (ps := #[(0, 98), (98, 49), (147, 160)]) (fun w => by simp [Try.sizeOf26, Try.sizeOf31, Try.sizeOf32]) [] rfl w
theorem sub_add (bs : By) (o a b : Nat) : sub bs o (a + b) = sub bs o a ++ sub bs (o + a) b := by rw [sub, sub, sub, List.take_add, List.drop_drop]
def boOf (bs : By) (m : Nat) (ka : Option Addr) (kc : Nat) : Bo := ⟨hdOf bs, ⟨keysOf (bs.drop 112) m, ka, kc, sub (bs.drop 112) (48 * m) 48⟩, sub bs (160 + 48 * m) 160⟩
theorem boOf_ok {bs : By} {m kc : Nat} {ka : Option Addr} (h : bs.length = sz1 m) (hk : m ≤ kc) : (boOf bs m ka kc).Ok := by
  unfold sz1 at h
  refine ⟨hdOf_ok (by omega), ⟨keysOf_all (by rw [List.length_drop]; omega), sub_len (by rw [List.length_drop]; omega), ?_⟩, sub_len (by omega)⟩
  show (keysOf (bs.drop 112) m).length ≤ kc
  rw [keysOf_len]; exact hk
theorem boOf_cs {bs : By} {m kc : Nat} {ka : Option Addr} : (boOf bs m ka kc).cs = (hdOf bs).cs ++ ((Value.slice ka m kc :: (sub (bs.drop 112) (48 * m) 48).map U8) ++ (sub bs (160 + 48 * m) 160).map U8) := by
  show (hdOf bs).cs ++ ((.slice ka (keysOf (bs.drop 112) m).length kc :: (sub (bs.drop 112) (48 * m) 48).map U8) ++ _) = _
  rw [keysOf_len]; rfl
end Go.Proofs.Ytlaanjcnfindnaa
