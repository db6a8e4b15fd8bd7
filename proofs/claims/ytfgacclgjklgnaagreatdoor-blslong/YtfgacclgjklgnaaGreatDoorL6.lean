/- L6 -/
import Derived.Test.YtfgacclgjklgnaaGreatDoorL5
import Derived.Test.YtfgacclgjklgnaaGreatDoorX2
import Derived.Test.YtfgacclgjklgnaaGreatDoorXW
namespace Go.Proofs.YtfgacclgjklgnaaGreatDoor
open Go.Proofs.Tryz
open Go.RowKit
set_option maxRecDepth 100000
set_option maxHeartbeats 1000000
attribute [local simp] aT a9 aR aM aC bd aJ aI aA PLl cq cn N1l ck cp cm a5 bc aP aX a8 J1.bf J2.bf
theorem ti5:TI prog 5 (.int .u8 0) 1 1:=yO kr
def FG(bs:L8):BitVec 8:=bs.getD 0 0 &&& 224#8
def MK(bs:L8):L8:=bs.set 0 (bs.getD 0 0 &&& 31#8)
theorem bI(bs:L8):(MK bs).length=bs.length:=by simp[MK]
attribute [local simp] bI
theorem cv{w:World}{b:Nat}{c:List Value}{xs:L8}(h:w.rangeAt b 0 c)(ht:c.take xs.length=xs.map U8):BytesAt w (spt b) xs:=J2.cv h ht
def INF(bs:L8)(n:Nat):Int:=if (∀j,j<n→(MK bs).getD j 0=0#8)∧FG bs &&& 32#8=0#8 then 0 else 101
def LO(bs:L8)(l:Nat):L8:=((MK bs).drop l).take 48
theorem jF{bs:L8}{l:Nat}(h:l+48≤bs.length):(LO bs l).length=48:=by
 rw[LO,List.length_take,List.length_drop,bI];omega
end Go.Proofs.YtfgacclgjklgnaaGreatDoor
