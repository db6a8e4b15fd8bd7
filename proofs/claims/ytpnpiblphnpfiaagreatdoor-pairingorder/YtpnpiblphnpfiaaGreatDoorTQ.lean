/-
 The law PairingBilinear.
-/
import Derived.Test.YtpnpiblphnpfiaaGreatDoorTP
import Derived.Test.YtpnpiblphnpfiaaGreatDoorXF
import Derived.Test.YtpnpiblphnpfiaaGreatDoorX5
namespace Go.Proofs.YtpnpiblphnpfiaaGreatDoor
open Go.RowKit
set_option maxRecDepth 100000
set_option maxHeartbeats 1000000
attribute [local simp] aY bj aF aA aL aW aM aK aO PLl cq cn N1l cm cp ck bd bk aX bg ba J1.br J2.br Q6.cg Q6.c8
attribute [local simp] h7 fJ

namespace Q6
theorem Ew : ORD = RR := by decide +kernel
theorem H8 {E F : W12} {z : Zr} (h : K12.pw E z.val = F) (b cap : Nat) (w : World) (hw : Gt w) (hr : w.rangeAt b 0 ((nG z).map U8)) : Calls Tryz.prog 30 [bt E, .slice (some ⟨b, 0, none⟩) 32 cap].toArray w (fun r w' => r = .returned (bt F) ∧ Grow w w') := by
 have k := l8 E (some ⟨b, 0, none⟩) cap (nG z) (by rw [fJ]; decide) w hw (BytesAt.range hr)
 rw [fJ, Aw, h] at k
 exact k
end Q6
end Go.Proofs.YtpnpiblphnpfiaaGreatDoor
