/-
 The document's texts made long.
 The walk of the document's Expand.
 The law XmdExpands.
-/
import Derived.Test.YtodgbdcjjhmnkaaGreatDoorP3
import Derived.Test.YtodgbdcjjhmnkaaGreatDoorX3
import Derived.Test.YtodgbdcjjhmnkaaGreatDoorXW
import Derived.Test.YtodgbdcjjhmnkaaGreatDoorX2
set_option maxRecDepth 100000
set_option maxHeartbeats 1000000
namespace Go.Proofs.YtodgbdcjjhmnkaaGreatDoor
section
open Go.RowKit
namespace Xm
theorem zv134(w:World):(zeroValue 134).run Tryz.prog w=.ok (.agg ((List.replicate 32 (0#8)).map U8).toArray) w:=Sh.zv134 w
theorem ti5:TI Tryz.prog 5 (.int .u8 0) 1 1:=Sh.ti5
def D(dst:List (BitVec 8)):List (BitVec 8):=dst++[BitVec.ofInt 8 (dst.length:Int)]
theorem iw(dst:List (BitVec 8)):(D dst).length=dst.length+1:=by simp[D]
def F(msg dst:List (BitVec 8))(n:Nat):List (BitVec 8):=((List.replicate 64 0#8++msg)++[BitVec.ofInt 8 ((n / 256:Nat):Int),BitVec.ofInt 8 (n:Int),0#8])++D dst
theorem l6(msg dst:List (BitVec 8))(n:Nat):(F msg dst n).length=64+msg.length+3+(dst.length+1):=by
 rw[F,List.length_append,List.length_append,List.length_append,List.length_replicate,iw];rfl
def B0(msg dst:List (BitVec 8))(n:Nat):List (BitVec 8):=Sh.SHA (F msg dst n)
theorem gQ(msg dst:List (BitVec 8))(n:Nat):(B0 msg dst n).length=32:=Sh.eH _
def R(b l:List (BitVec 8)):Nat→List (BitVec 8)
 |0=>b
 |j+1=>(R b l j).set j (b.getD j 0^^^l.getD j 0)
theorem gy(b l:List (BitVec 8)): ∀j,(R b l j).length=b.length
 |0=>rfl
 |j+1=>by rw[R,List.length_set,gy b l j]
def Xk(b d:List (BitVec 8)):Nat→List (BitVec 8)
 |0=>List.replicate 32 0#8
 |k+1=>Sh.SHA (((if k=0 then b else R b (Xk b d k) 32)++[BitVec.ofInt 8 ((k+1:Nat):Int)])++d)
theorem d7(b d:List (BitVec 8)): ∀k,(Xk b d k).length=32
 |0=>List.length_replicate
 |_+1=>Sh.eH _
def O(b d:List (BitVec 8)):Nat→List (BitVec 8)
 |0=>[]
 |k+1=>O b d k++Xk b d (k+1)
theorem fO(b d:List (BitVec 8)): ∀k,(O b d k).length=32*k
 |0=>rfl
 |k+1=>by rw[O,List.length_append,fO b d k,d7];omega
def E(msg dst:List (BitVec 8))(n:Nat):List (BitVec 8):=(O (B0 msg dst n) (D dst) ((n+31) / 32)).take n
theorem na(msg dst:List (BitVec 8))(n:Nat):(E msg dst n).length=n:=by rw[E,List.length_take,fO];omega
structure Bk(xs:List (BitVec 8)) where
 (b:Nat) (c:List Value)
 h1:xs.length≤c.length
 h2:c.take xs.length=xs.map U8
theorem hmc{i:TypeInfo}(k:Nat)(h:Tryz.prog.info? 5=some i∧i.zero=some (.int .u8 0)∧i.size=1∧i.bytes=1)(hk:(madeCells (Value.int .u8 0).cells (k*1)).toList=(List.replicate k 0#8).map U8):(madeCells (Value.int .u8 0).cells (k*i.size)).toList=(List.replicate k 0#8).map U8:=by
 rw[h.2.2.1];exact hk
theorem hmk(k:Nat)(h:k≤1000):k*ti5.choose.size≤16777216∧ti5.choose.bytes*k≤281474976710656∧k≤1000000:=by
 rw[ti5.choose_spec.2.2.1,ti5.choose_spec.2.2.2];omega
theorem mc64:(madeCells (Value.int .u8 0).cells (64*1)).toList=(List.replicate 64 0#8).map U8:=by kernel_rfl
end Xm
end
section
open Go.RowKit
namespace Xm
attribute [local simp] Sh.eH gQ l6 gy d7 fO Sh.iG iw
theorem DV{w:World}{b:Nat}{c:List Value}{xs:List (BitVec 8)}(h:w.rangeAt b 0 c)(h2:c.take xs.length=xs.map U8):BytesAt w (some ⟨b,0,none⟩) xs:=BytesAt.range fun j v hv=>h j v (by
 rw[←h2,List.getElem?_take]at hv
 split at hv
 ·exact hv
 ·cases hv)
def X16(b l:List (BitVec 8))(k:Nat):List (BitVec 8):=if k=0 then b else R b l 32
theorem sr{b l:List (BitVec 8)}(hb:b.length=32)(k:Nat):(X16 b l k).length=32:=by
 unfold X16
 split
 ·exact hb
 ·rw[gy];exact hb
theorem Hr{xs ys:List (BitVec 8)}(h:ys.length=32)(e:xs++ys=[]):False:=by
 have:=congrArg List.length e
 rw[List.length_append,h,List.length_nil]at this
 omega
theorem z1{c:List Value}{xs:List (BitVec 8)}{n:Nat}(h:c.take xs.length=xs.map U8)(hn:n≤xs.length):c.take n=(xs.take n).map U8:=by
 have e:=congrArg (List.take n) h
 rw[List.take_take,Nat.min_eq_left hn]at e
 rw[e,List.map_take]
attribute [local simp] sr
end Xm
end
section
open Go.RowKit
theorem ent96:ah Tryz.prog 96:=fun _ _=>by kernel_rfl
theorem ent56:ah Tryz.prog 56:=fun _ _=>by kernel_rfl
namespace Xm
attribute [local simp] Sh.eH gQ l6 gy d7 fO Sh.iG iw
def Bad(msg dst:List (BitVec 8))(z:Int):Prop:=z<0∨8160<z∨255<dst.length∨65536<msg.length
structure RT(msg dst:List (BitVec 8))(z:Int)(w:World)(v:Value):Prop where
 bad:Bad msg dst z→v=.tuple #[.slice none 0 0,I 130]
 ok: ¬Bad msg dst z→∃a cap,v=.tuple #[.slice a (E msg dst z.toNat).length cap,I 0]∧BytesAt w a (E msg dst z.toNat)∧(E msg dst z.toNat).length≤cap
def PXC:Prop:= ∀(a1:Option Addr) (cap1:Nat) (msg:List (BitVec 8)) (a2:Option Addr) (cap2:Nat) (dst:List (BitVec 8)) (z:Int) (w:World),msg.length≤100000→msg.length≤cap1→dst.length≤100000→dst.length≤cap2→Gt w→BytesAt w a1 msg→BytesAt w a2 dst→Calls Tryz.prog 96 [.slice a1 msg.length cap1,.slice a2 dst.length cap2,I z].toArray w (fun e w'=> ∃v,e=.returned v∧Grow w w'∧RT msg dst z w' v)
end Xm
end
end Go.Proofs.YtodgbdcjjhmnkaaGreatDoor
