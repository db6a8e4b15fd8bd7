/-
 Pairs; the document's pairs of numbers.
 The document's Fields.
 What the program and the document are asked for.
 A known message's numbers. Nothing here names a program.
-/
import Derived.Test.YtodgbdcjjhmnkaaGreatDoorQ7
import Derived.Test.YtodgbdcjjhmnkaaGreatDoorQ6
import Derived.Test.YtodgbdcjjhmnkaaGreatDoorX7
import Derived.Test.YtodgbdcjjhmnkaaGreatDoorX3
import Derived.Test.YtodgbdcjjhmnkaaGreatDoorXW
import Derived.Test.YtodgbdcjjhmnkaaGreatDoorP3
import Derived.Test.YtodgbdcjjhmnkaaGreatDoorXJ
set_option maxRecDepth 100000
set_option maxHeartbeats 1000000
namespace Go.Proofs.YtodgbdcjjhmnkaaGreatDoor
section
open Go.RowKit
attribute [local simp] a8 bG aE az a6 aY aQ aK a9 PLl d8 ec N1l d6 d9 dR bC bL bN bO ce List.length_append kL
namespace Xm
end Xm
end
section
open Go.RowKit
attribute [local simp] a8 bG aE az a6 aY aQ aK a9 PLl d8 ec N1l d6 d9 dR bC bL bN bO ce List.length_append kL cF
namespace Xm
attribute [local simp] Sh.eH gQ l6 gy d7 fO Sh.iG iw
def N2(bs:List (BitVec 8))(i:Nat):W2:=(ZB ((bs.drop (128*i)).take 64),ZB ((bs.drop (128*i+64)).take 64))
def N2r(bs:List (BitVec 8))(i:Nat):List (BitVec 64):=fe (N2 bs i).1++fe (N2 bs i).2
theorem N2r_len(bs:List (BitVec 8))(i:Nat):(N2r bs i).length=12:=by rw[N2r,List.length_append,a8,a8]
def At2(w0 w:World)(a:Option Addr)(n:Nat)(f:Nat→List (BitVec 64)):Prop:=n=0∨∃b,a=some ⟨b,0,none⟩∧w0.heap.size≤b∧w.rangeAt b 0 ((RW 12 (f) n).map U64)
def FBad(msg dst:List (BitVec 8))(z:Int):Prop:=z<0∨32<z∨255<dst.length∨65536<msg.length
structure RFt(msg dst:List (BitVec 8))(z:Int)(w0 w:World)(v:Value):Prop where
 bad:FBad msg dst z→v=.tuple #[.slice none 0 0,I 130]
 ok: ¬FBad msg dst z→∃a cap,v=.tuple #[.slice a z.toNat cap,I 0]∧At2 w0 w a z.toNat (N2r (E msg dst (128*z.toNat)))
attribute [local simp] N2r_len
end Xm
end
section
open Go.RowKit
attribute [local simp] a8 bG aE az a6 aY aQ aK a9 PLl d8 ec N1l d6 d9 dR bC bL bN bO ce List.length_append kL cF
namespace Xm
attribute [local simp] Sh.eH gQ l6 gy d7 fO Sh.iG iw
attribute [local simp] N2r_len
theorem iB{w w':World}{b:Nat}{cs:List Value}(h:w.rangeAt b 0 cs)(hg:Grow w w'):w'.rangeAt b 0 cs:=fun j v hv=>(hg.cell (block_lt_of_cell (h j v hv))).trans (h j v hv)
def PFC:Prop:= ∀(a1:Option Addr) (cap1:Nat) (msg:List (BitVec 8)) (a2:Option Addr) (cap2:Nat) (dst:List (BitVec 8)) (z:Int) (w:World),msg.length≤100000→msg.length≤cap1→dst.length≤100000→dst.length≤cap2→Gt w→BytesAt w a1 msg→BytesAt w a2 dst→Calls Tryz.prog 56 [.slice a1 msg.length cap1,.slice a2 dst.length cap2,I z].toArray w (fun e w'=> ∃v,e=.returned v∧Grow w w'∧RFt msg dst z w w' v)
end Xm
end
section
namespace Xm
def qxm:List (BitVec 8):=[]
def qxd:List (BitVec 8):=[81#8,85#8,85#8,88#8,45#8,86#8,48#8,49#8,45#8,67#8,83#8,48#8,50#8,45#8,119#8,105#8,116#8,104#8,45#8,66#8,76#8,83#8,49#8,50#8,51#8,56#8,49#8,71#8,50#8,95#8,88#8,77#8,68#8,58#8,83#8,72#8,65#8,45#8,50#8,53#8,54#8,95#8,83#8,83#8,87#8,85#8,95#8,82#8,79#8,95#8]
def qxb:List (BitVec 8):=[103#8,240#8,10#8,193#8,82#8,52#8,177#8,211#8,159#8,81#8,236#8,175#8,73#8,145#8,57#8,167#8,238#8,148#8,212#8,136#8,93#8,152#8,42#8,78#8,152#8,248#8,225#8,145#8,207#8,246#8,124#8,94#8]
def qxl:Nat→List (BitVec 8)
 |0=>[0#8,0#8,0#8,0#8,0#8,0#8,0#8,0#8,0#8,0#8,0#8,0#8,0#8,0#8,0#8,0#8,0#8,0#8,0#8,0#8,0#8,0#8,0#8,0#8,0#8,0#8,0#8,0#8,0#8,0#8,0#8,0#8]
 |1=>[76#8,183#8,123#8,242#8,216#8,85#8,172#8,59#8,49#8,27#8,155#8,23#8,12#8,143#8,253#8,16#8,109#8,83#8,179#8,173#8,153#8,107#8,116#8,70#8,250#8,170#8,25#8,7#8,61#8,171#8,143#8,230#8]
 |2=>[67#8,185#8,189#8,48#8,231#8,242#8,250#8,214#8,22#8,241#8,42#8,196#8,47#8,100#8,89#8,73#8,189#8,76#8,195#8,43#8,1#8,118#8,43#8,207#8,152#8,181#8,155#8,30#8,213#8,237#8,104#8,177#8]
 |3=>[125#8,184#8,30#8,232#8,61#8,202#8,77#8,164#8,37#8,196#8,108#8,129#8,99#8,141#8,58#8,76#8,25#8,243#8,17#8,193#8,250#8,15#8,53#8,124#8,96#8,242#8,120#8,13#8,88#8,240#8,101#8,66#8]
 |4=>[36#8,31#8,70#8,177#8,4#8,22#8,219#8,0#8,209#8,136#8,82#8,15#8,68#8,28#8,103#8,78#8,78#8,221#8,208#8,210#8,143#8,219#8,112#8,188#8,12#8,83#8,110#8,101#8,194#8,169#8,2#8,202#8]
 |5=>[209#8,213#8,108#8,18#8,206#8,92#8,175#8,148#8,109#8,100#8,1#8,197#8,86#8,132#8,26#8,211#8,146#8,185#8,4#8,26#8,24#8,79#8,129#8,96#8,45#8,171#8,77#8,19#8,194#8,137#8,242#8,53#8]
 |6=>[174#8,96#8,17#8,35#8,161#8,5#8,157#8,84#8,147#8,32#8,87#8,147#8,237#8,34#8,79#8,190#8,105#8,208#8,194#8,25#8,221#8,226#8,109#8,96#8,37#8,72#8,7#8,52#8,52#8,12#8,14#8,31#8]
 |7=>[68#8,125#8,217#8,109#8,234#8,70#8,187#8,217#8,207#8,18#8,92#8,30#8,155#8,148#8,124#8,122#8,199#8,222#8,40#8,241#8,10#8,9#8,245#8,7#8,153#8,166#8,215#8,92#8,81#8,60#8,22#8,67#8]
 |_=>[74#8,161#8,153#8,245#8,73#8,167#8,81#8,243#8,210#8,205#8,112#8,247#8,205#8,66#8,235#8,114#8,235#8,113#8,230#8,212#8,28#8,153#8,172#8,163#8,80#8,117#8,224#8,212#8,127#8,209#8,218#8,108#8]
theorem qx_b:B0 qxm qxd 256=qxb:=Sh.je _ _ (by decide+kernel)
theorem Jl:Xk qxb (D qxd) 0=qxl 0:=by decide+kernel
theorem Ee:Xk qxb (D qxd) 1=qxl 1:=by
 show Xk qxb (D qxd) (0+1)=_
 rw[Xk,Jl]
 exact Sh.je _ _ (by decide+kernel)
theorem DB:Xk qxb (D qxd) 2=qxl 2:=by
 show Xk qxb (D qxd) (1+1)=_
 rw[Xk,Ee]
 exact Sh.je _ _ (by decide+kernel)
theorem DL:Xk qxb (D qxd) 3=qxl 3:=by
 show Xk qxb (D qxd) (2+1)=_
 rw[Xk,DB]
 exact Sh.je _ _ (by decide+kernel)
theorem D5:Xk qxb (D qxd) 4=qxl 4:=by
 show Xk qxb (D qxd) (3+1)=_
 rw[Xk,DL]
 exact Sh.je _ _ (by decide+kernel)
theorem C5:Xk qxb (D qxd) 5=qxl 5:=by
 show Xk qxb (D qxd) (4+1)=_
 rw[Xk,D5]
 exact Sh.je _ _ (by decide+kernel)
theorem CL:Xk qxb (D qxd) 6=qxl 6:=by
 show Xk qxb (D qxd) (5+1)=_
 rw[Xk,C5]
 exact Sh.je _ _ (by decide+kernel)
theorem Da:Xk qxb (D qxd) 7=qxl 7:=by
 show Xk qxb (D qxd) (6+1)=_
 rw[Xk,CL]
 exact Sh.je _ _ (by decide+kernel)
theorem LC:Xk qxb (D qxd) 8=qxl 8:=by
 show Xk qxb (D qxd) (7+1)=_
 rw[Xk,Da]
 exact Sh.je _ _ (by decide+kernel)
theorem Km:E qxm qxd 256=qxl 1++qxl 2++qxl 3++qxl 4++qxl 5++qxl 6++qxl 7++qxl 8:=by
 rw[E,qx_b,show (256+31) / 32=8 from rfl]
 simp only[O,List.nil_append]
 rw[Ee,DB,DL,D5,C5,CL,Da,LC]
 decide+kernel
theorem qx_0:N2 (E qxm qxd 256) 0=oG:=by rw[Km];decide+kernel
theorem qx_1:N2 (E qxm qxd 256) 1=pW:=by rw[Km];decide+kernel
end Xm
end
end Go.Proofs.YtodgbdcjjhmnkaaGreatDoor
