/- L12 -/
import Derived.Test.YtfgacclgjklgnaaGreatDoorL11
import Derived.Test.YtfgacclgjklgnaaGreatDoorXW
import Derived.Lib.BufferMore
import Derived.Test.YtfgacclgjklgnaaGreatDoorX2
import Derived.Test.YtfgacclgjklgnaaGreatDoorX3
import Derived.Test.YtfgacclgjklgnaaGreatDoorL2
import Derived.Test.YtfgacclgjklgnaaGreatDoorL3
import Derived.Test.YtfgacclgjklgnaaGreatDoorM2
set_option maxRecDepth 100000
set_option maxHeartbeats 1000000
namespace Go.Proofs.YtfgacclgjklgnaaGreatDoor
open Go.Proofs.Tryz
section
open Go.RowKit
namespace Sh
structure WSt(T bs:L8)(w:World)(bh:Nat) where
 (c:Nat) (st:L3) (rs:L8) (n:BitVec 64) (a:Option Addr) (cap:Nat)
 hc:c≤bs.length
 hi:HInv (T++bs.take c) st rs n
 hb:BytesAt w a (bs.drop c)
 hcap:(bs.drop c).length≤cap
 hne:bs.drop c≠[]→∀ad,a=some ad→ad.block≠bh
theorem Aj(bs:L8)(c m:Nat):bs.take c++(bs.drop c).take m=bs.take (c+m):=by rw[List.take_add]
theorem uk(T bs:L8)(bh:Nat)(st:L3)(rs:L8)(n:BitVec 64)(hi:HInv T st rs n)(hT:(T++bs).length<9223372036854775808)(a:Option Addr)(cap:Nat)(hcap:bs.length≤cap)(w:World)(hw:Gt w)(ho:OwnB w bh (hc st rs n) 315)(hbh:8≤bh)(hby:BytesAt w a bs)(hne:bs≠[]→∀ad,a=some ad→ad.block≠bh):
 CLS 282 [pnt bh,.slice a bs.length cap].toArray w (fun e w'=>e=.returned (.tuple #[])∧Mod bh w w'∧∃st' rs' n',HInv (T++bs) st' rs' n'∧OwnB w' bh (hc st' rs' n') 315):=by
 have hGF:BOk Gt (plM w (fun k=>k=bh)):=(gt_low.from (M:=fun k=>k=bh) hw (fun m hm=>by subst hm;exact hbh)).ok (B:=plM w (fun k=>k=bh)) ak
 refine ca (G:=Gt) func282 rfl rfl (Hp (plM w (fun k=>k=bh)) [(0,bh,hc st rs n,315)]) (Bu ho) (ao hGF)<|aj<|cE (ι:=WSt T bs w bh) (fun x=>[(0,pnt bh),(1,.slice x.a (bs.drop x.c).length x.cap)]) (fun x=>[(0,bh,hc x.st x.rs x.n,315)]) (fun x=>bs.length-x.c) ⟨0,st,rs,n,a,cap,Nat.zero_le _,by simpa using hi,by simpa using hby,by simpa using hcap,hne⟩ hGF trv trv<|?_
 rintro x
 have x8:=x.hi.st8
 have x64:=x.hi.rs64
 have hdl:(bs.drop x.c).length=bs.length-x.c:=List.length_drop
 have hxc:=x.hc
 refine ah<|Xp<|Mv rfl<|bk rfl (fun _=>aE underlying22 _ _ _ _) rfl rfl<|Bnr rfl rfl (fun _=>bP _ _ _)<|aa<|?_
 refine bX rfl (fun hc=> ?_) (fun hc=> ?_)
 ·simp only[decide_eq_true_eq]at hc
  have hmod:(x.n % 64#64).toNat=(T++bs.take x.c).length % 64:=by rw[BitVec.toNat_umod,x.hi.toNat];rfl
  have hm64:(x.n % 64#64).toNat<64:=om
  obtain ⟨xs,hxs⟩: ∃xs,(bs.drop x.c).take (64-(x.n % 64#64).toNat)=xs:=⟨_,rfl⟩
  have hxl:xs.length=Nat.min (bs.drop x.c).length (64-(x.n % 64#64).toNat):=by rw[←hxs,List.length_take];exact Nat.min_comm _ _
  have hx1:xs.length≤(bs.drop x.c).length:=by rw[hxl];exact Nat.min_le_left _ _
  have hx2:xs.length≤64-(x.n % 64#64).toNat:=by rw[hxl];exact Nat.min_le_right _ _
  have hx0:0<xs.length:=by rw[hxl];exact Nat.lt_min.2 ⟨om,om⟩
  have hdne:bs.drop x.c≠[]:=fun e=>by rw[e]at hc;simp at hc
  have hbx:BytesAt w x.a xs:=hxs▸x.hb.take _
  have hmx:(x.n % 64#64).toNat+xs.length≤x.rs.length:=by rw[x64];omega
  have hxt:T++bs.take (x.c+xs.length)=T++bs.take x.c++xs:=by
   rw[←Aj,←List.append_assoc,←List.prefix_iff_eq_take.1 (hxs▸List.take_prefix _ _)]
  have hdn:(bs.drop x.c).length-xs.length=(bs.drop (x.c+xs.length)).length:=by rw[List.length_drop,List.length_drop];omega
  have hroom:8+(x.n % 64#64).toNat+xs.length≤73:=om
  have hlen2:(T++bs.take x.c++xs).length<9223372036854775808:=by simp at hT⊢;omega
  have hb3:BytesAt w (if x.cap=xs.length then x.a else x.a.map (·.add (xs.length*1))) (bs.drop (x.c+xs.length)):=by
   have:=x.hb.drop (cap:=x.cap) (l:=xs.length) x.hcap om
   rwa [List.drop_drop]at this
  have hc3:(bs.drop (x.c+xs.length)).length≤x.cap-xs.length:=by have:=x.hcap;simp at this⊢;omega
  have hn3:bs.drop (x.c+xs.length)≠[]→∀ad,(if x.cap=xs.length then x.a else x.a.map (·.add (xs.length*1)))=some ad→ad.block≠bh:=by
   intro _ ad had
   split at had
   ·exact x.hne hdne ad had
   ·cases hxa:x.a with
    |none=>rw[hxa]at had;cases had
    |some ad0=>
     rw[hxa]at had
     cases had
     rw[rp];exact x.hne hdne ad0 hxa
  have hsum:(x.n+BitVec.ofInt 64 xs.length).toNat=(T++bs.take x.c).length+xs.length:=by
   rw[BitVec.toNat_add,x.hi.toNat,BitVec.ofInt_natCast,BitVec.toNat_ofNat]
   simp at hlen2⊢;omega
  have hsm:((x.n+BitVec.ofInt 64 xs.length) % 64#64).toNat=((T++bs.take x.c).length+xs.length) % 64:=by rw[BitVec.toNat_umod,hsum];rfl
  have hfl0:(((x.n+BitVec.ofInt 64 xs.length) % 64#64==0#64)=true→(T++bs.take x.c).length % 64+xs.length=64)∧(((x.n+BitVec.ofInt 64 xs.length) % 64#64==0#64)=false→(T++bs.take x.c).length % 64+xs.length<64):=by
   refine ⟨fun h=> ?_,fun h=> ?_⟩
   ·have:=congrArg BitVec.toNat (beq_iff_eq.1 h)
    rw[hsm]at this
    have h0:(0#64).toNat=0:=rfl
    omega
   ·have hne: ¬((x.n+BitVec.ofInt 64 xs.length) % 64#64).toNat=0:=fun e=>(beq_eq_false_iff_ne.1 h) (BitVec.eq_of_toNat_eq (by rw[e];rfl))
    rw[hsm]at hne
    omega
  refine ap<|aj<|Xp<|Mv rfl<|Cc rfl ent293 (fun w' hw' hG=>kP bh x.st x.rs x.n x8 x64 w' hG (hw'.own 0 _ _ _ rfl).1)<|Al 4 hGF zv105<|fun b4=>Sx 4 hGF rfl rfl rfl nv (l9 x.hi.st8) (h9 _)<|aa<|Xd []<|Mv rfl<|dW rfl rfl rfl<|Fa 8 rfl underlying315 rfl sizeOf313<|Mv rfl<|dW rfl rfl rfl<|Fa 72 rfl underlying315 rfl sizeOf24<|ck 0 rfl rfl (qX x8 x64) isAgg24 rfl rfl<|Bnr rfl rfl (fun _=>d9 _ _ _ dc)<|Gx rfl underlying313 sizeOf5 rfl hm64 rfl rfl<|Mv rfl<|fc (cs:=xs) 0 hGF rfl rfl rfl underlying22 DL hxl (fun w' h=>Ac hbx (vU h) (x.hne hdne)) (by rw[ru x8 x64];exact hroom) rfl rfl<|?_
  rw[uM x8 _ xs hmx]
  have x64:(x.rs.take (x.n % 64#64).toNat++xs++x.rs.drop ((x.n % 64#64).toNat+xs.length)).length=64:=by rw[List.length_append,List.length_append,List.length_take,List.length_drop,x64];omega
  obtain ⟨rs1,hrs1⟩: ∃rs1,x.rs.take (x.n % 64#64).toNat++xs++x.rs.drop ((x.n % 64#64).toNat+xs.length)=rs1:=⟨_,rfl⟩
  rw[hrs1]at x64⊢
  refine Asg rfl<|aa<|Xp<|Mv rfl<|dW rfl rfl rfl<|Fa 72 rfl underlying315 rfl sizeOf24<|ck 0 rfl rfl (qX x8 x64) isAgg24 rfl rfl<|Mv rfl<|cN rfl rfl (fun _=>pQ underlying3 underlying24 _) rfl rfl<|Bnr rfl rfl (fun _=>dq _ _ _)<|dW rfl rfl rfl<|Fa 72 rfl underlying315 rfl sizeOf24<|cL 0 hGF rfl rfl rfl sizeOf24 rfl (by rw[ru x8 x64];decide) rfl<|?_
  rw[ND x8 x64]
  refine aa<|Xp<|Mv rfl<|Mv rfl<|nY (l:=xs.length) (h':=(bs.drop x.c).length) rfl underlying22 sizeOf5 rfl rfl ⟨om,x.hcap⟩ rfl rfl<|Asg rfl<|aa<|Xp<|Mv rfl<|dW rfl rfl rfl<|Fa 72 rfl underlying315 rfl sizeOf24<|ck 0 rfl rfl (qX x8 x64) isAgg24 rfl rfl<|Bnr rfl rfl (fun _=>d9 _ _ _ dc)<|Bnr rfl rfl (fun _=>bU _ _ _)<|aa<|?_
  refine bX rfl (fun hc=> ?_) (fun hc=> ?_)
  ·have hfl:=hfl0.1 hc
   refine Xd []<|Mv rfl<|Lw 4 rfl rfl nv (l9 x.hi.st8)<|Mv rfl<|dW rfl rfl rfl<|Fa 8 rfl underlying315 rfl sizeOf313<|CJ 0 rfl rfl isAgg313 sizeOf313 (by rw[List.length_map,x64]) (J3 x8) rfl rfl<|Ca rfl (q7 _ _ (l9 x.hi.st8) x64)<|dW rfl rfl rfl<|Fa 0 rfl underlying315 rfl sizeOf105<|gx 0 hGF rfl rfl rfl sizeOf105 (by rw[List.length_map,gE]) (h9 _) (by rw[ru x8 x64,List.length_map,gE];decide) rfl<|?_
   rw[Mc x8 (gE _ _)]
   have x8:=gE (rch x.st x.n) rs1
   refine aa<|Xq<|Mv rfl<|e9 zv313 underlying313 sizeOf5 rfl rfl<|dW rfl rfl rfl<|Fa 8 rfl underlying315 rfl sizeOf313<|gx 0 hGF rfl rfl rfl sizeOf313 (by rw[List.length_map,List.length_replicate]) (bC _) (by rw[ru x8 x64,List.length_map,List.length_replicate];decide) rfl<|?_
   rw[LU x8 x64 List.length_replicate]
   refine aa ?_
   repeat (refine aY ?_)
   exact aU<|⟨rfl,⟨x.c+xs.length,tT (rch x.st x.n) rs1,List.replicate 64 0#8,x.n+BitVec.ofInt 64 xs.length,if x.cap=xs.length then x.a else x.a.map (·.add (xs.length*1)),x.cap-xs.length,om,(by rw[hxt,←hrs1,hmod,x.hi.rch];exact x.hi.fill xs hfl hlen2),hb3,hc3,hn3⟩,_,by show bs.length-(x.c+xs.length)<bs.length-x.c;omega,rfl,⟨rfl,congrArg (fun k=>some (Value.slice (if x.cap=xs.length then x.a else x.a.map (·.add (xs.length*1))) k (x.cap-xs.length))) hdn,trivial⟩,trv⟩
  ·have hfl:=hfl0.2 hc
   refine ap ?_
   repeat (refine aY ?_)
   exact aU<|⟨rfl,⟨x.c+xs.length,x.st,rs1,x.n+BitVec.ofInt 64 xs.length,if x.cap=xs.length then x.a else x.a.map (·.add (xs.length*1)),x.cap-xs.length,om,(by rw[hxt,←hrs1,hmod];exact x.hi.part xs hfl hlen2),hb3,hc3,hn3⟩,_,by show bs.length-(x.c+xs.length)<bs.length-x.c;omega,rfl,⟨rfl,congrArg (fun k=>some (Value.slice (if x.cap=xs.length then x.a else x.a.map (·.add (xs.length*1))) k (x.cap-xs.length))) hdn,trivial⟩,trv⟩
 ·simp only[decide_eq_false_iff_not]at hc
  refine a8 ?_
  have hall:bs.take x.c=bs:=List.take_of_length_le (by have:=x.hc;omega)
  repeat (refine cX ?_)
  exact bY<|cn rfl (fun w' hw'=>⟨rfl,vU hw',x.st,x.rs,x.n,by have:=x.hi;rw[hall]at this;exact this,(hw'.own 0 _ _ _ rfl).1⟩)
end Sh
end
section
open Go.RowKit
namespace Sh
theorem ti5:TI prog 5 (.int .u8 0) 1 1:=rh kr
def Cln(w w':World)(bs:L8)(sv:Value):Prop:=
 (bs=[]∧sv=.slice none 0 0)∨∃b c cap1,sv=.slice (spt b) bs.length cap1∧w.heap.size≤b∧OwnB w' b c 5∧c.length=cap1∧bs.length≤cap1∧c.take bs.length=bs.map U8
theorem Cln.cells{w w':World}{bs:L8}{sv:Value}(h:Cln w w' bs sv):sv.cells= #[sv]:=by
 rcases h with ⟨_,rfl⟩|⟨_,_,_,rfl,_⟩<;>rfl
end Sh
end
section
open Go.RowKit
namespace Sh
end Sh
end
section
open Go.RowKit
namespace Sh
def MK:L3:=IV++KW
end Sh
end
section
open Go.RowKit
set_option maxHeartbeats 2000000
namespace Sh
def wk(p:L8)(o:Nat)(x:BitVec 32):Nat→BitVec 32
 |0=>x
 |k+1=>(wk p o x k<<<8)|||(p.getD (o+k) 0).setWidth 32
def V1(p:L8)(q:Nat):Nat→L3
 |0=>List.replicate 64 0#32
 |i+1=>(V1 p q i).set i (wk p (q+4*i) ((V1 p q i).getD i 0) 4)
theorem ud(l:L3)(i:Nat)(h:i<l.length):l=l.set i (l.getD i 0):=by
 have e:l.getD i 0=l[i]:=by simp[h]
 rw[e,List.set_getElem_self]
theorem tZ(l:L3)(i:Nat)(x:BitVec 32)(h:i<l.length):(l.set i x).getD i 0=x:=by simp[h]
def r0(x:BitVec 32):BitVec 32:=turn x 7^^^turn x 18^^^(x>>>3)
def r1(x:BitVec 32):BitVec 32:=turn x 17^^^turn x 19^^^(x>>>10)
def r5(ws:L3)(i:Nat):BitVec 32:=ws.getD (i-16) 0+r0 (ws.getD (i-15) 0)+ws.getD (i-7) 0+r1 (ws.getD (i-2) 0)
def V2(p:L8)(q:Nat):Nat→L3
 |0=>V1 p q 16
 |j+1=>(V2 p q j).set (16+j) (r5 (V2 p q j) (16+j))
theorem bJ:MK.length=72:=rfl
end Sh
end
section
open Go.RowKit
namespace Sh
end Sh
end
section
open Go.RowKit
namespace Xm
theorem zv112(w:World):(zeroValue 112).run prog w=.ok (.agg ((List.replicate 32 (0#8)).map U8).toArray) w:=Sh.zv112 w
theorem ti5:TI prog 5 (.int .u8 0) 1 1:=Sh.ti5
def D(dst:L8):L8:=dst++[BitVec.ofInt 8 (dst.length:Int)]
theorem kL(dst:L8):(D dst).length=dst.length+1:=by simp[D]
def F(msg dst:L8)(n:Nat):L8:=((List.replicate 64 0#8++msg)++[BitVec.ofInt 8 ((n / 256:Nat):Int),BitVec.ofInt 8 (n:Int),0#8])++D dst
theorem pK(msg dst:L8)(n:Nat):(F msg dst n).length=64+msg.length+3+(dst.length+1):=by
 rw[F,List.length_append,List.length_append,List.length_append,List.length_replicate,kL];rfl
def B0(msg dst:L8)(n:Nat):L8:=Sh.SHA (F msg dst n)
theorem jX(msg dst:L8)(n:Nat):(B0 msg dst n).length=32:=Sh.gu _
def R(b l:L8):Nat→L8
 |0=>b
 |j+1=>(R b l j).set j (b.getD j 0^^^l.getD j 0)
theorem jt(b l:L8): ∀j,(R b l j).length=b.length
 |0=>rfl
 |j+1=>by rw[R,List.length_set,jt b l j]
def Xk(b d:L8):Nat→L8
 |0=>List.replicate 32 0#8
 |k+1=>Sh.SHA (((if k=0 then b else R b (Xk b d k) 32)++[BitVec.ofInt 8 ((k+1:Nat):Int)])++d)
theorem fH(b d:L8): ∀k,(Xk b d k).length=32
 |0=>List.length_replicate
 |_+1=>Sh.gu _
def O(b d:L8):Nat→L8
 |0=>[]
 |k+1=>O b d k++Xk b d (k+1)
theorem iC(b d:L8): ∀k,(O b d k).length=32*k
 |0=>rfl
 |k+1=>by rw[O,List.length_append,iC b d k,fH];omega
def E(msg dst:L8)(n:Nat):L8:=(O (B0 msg dst n) (D dst) ((n+31) / 32)).take n
theorem rt(msg dst:L8)(n:Nat):(E msg dst n).length=n:=by rw[E,List.length_take,iC];omega
structure Bk(xs:L8) where
 (b:Nat) (c:List Value)
 h1:xs.length≤c.length
 h2:c.take xs.length=xs.map U8
theorem hmc{i:TypeInfo}(k:Nat)(h:prog.info? 5=some i∧i.zero=some (.int .u8 0)∧i.size=1∧i.bytes=1)(hk:(madeCells (Value.int .u8 0).cells (k*1)).toList=(List.replicate k 0#8).map U8):(madeCells (Value.int .u8 0).cells (k*i.size)).toList=(List.replicate k 0#8).map U8:=by
 rw[h.2.2.1];exact hk
theorem hmk(k:Nat)(h:k≤1000):k*ti5.choose.size≤16777216∧ti5.choose.bytes*k≤281474976710656∧k≤1000000:=by
 rw[ti5.choose_spec.2.2.1,ti5.choose_spec.2.2.2];omega
theorem mc64:(madeCells (Value.int .u8 0).cells (64*1)).toList=(List.replicate 64 0#8).map U8:=kr
end Xm
end
section
open Go.RowKit
namespace Xm
attribute [local simp] Sh.gu jX pK jt fH iC Sh.bJ kL
theorem JQ{w:World}{b:Nat}{c:List Value}{xs:L8}(h:w.rangeAt b 0 c)(h2:c.take xs.length=xs.map U8):BytesAt w (spt b) xs:=BytesAt.range fun j v hv=>h j v (by
 rw[←h2,List.getElem?_take]at hv
 split at hv
 ·exact hv
 ·cases hv)
def X16(b l:L8)(k:Nat):L8:=if k=0 then b else R b l 32
theorem yj{b l:L8}(hb:b.length=32)(k:Nat):(X16 b l k).length=32:=by
 unfold X16
 split
 ·exact hb
 ·rw[jt];exact hb
theorem OI{xs ys:L8}(h:ys.length=32)(e:xs++ys=[]):False:=by
 have:=congrArg List.length e
 rw[List.length_append,h,List.length_nil]at this
 omega
theorem Bg{c:List Value}{xs:L8}{n:Nat}(h:c.take xs.length=xs.map U8)(hn:n≤xs.length):c.take n=(xs.take n).map U8:=by
 have e:=congrArg (List.take n) h
 rw[List.take_take,Nat.min_eq_left hn]at e
 rw[e,List.map_take]
attribute [local simp] yj
end Xm
end
section
open Go.RowKit
theorem ent227:ai prog 227:=fun _ _=>kr
theorem ent193:ai prog 193:=fun _ _=>kr
namespace Xm
attribute [local simp] Sh.gu jX pK jt fH iC Sh.bJ kL
def Bad(msg dst:L8)(z:Int):Prop:=z<0∨8160<z∨255<dst.length∨65536<msg.length
structure RT(msg dst:L8)(z:Int)(w:World)(v:Value):Prop where
 bad:Bad msg dst z→v=.tuple #[.slice none 0 0,I 130]
 ok: ¬Bad msg dst z→∃a cap,v=.tuple #[.slice a (E msg dst z.toNat).length cap,I 0]∧BytesAt w a (E msg dst z.toNat)∧(E msg dst z.toNat).length≤cap
def PXC:Prop:= ∀(a1:Option Addr) (cap1:Nat) (msg:L8) (a2:Option Addr) (cap2:Nat) (dst:L8) (z:Int) (w:World),msg.length≤100000→msg.length≤cap1→dst.length≤100000→dst.length≤cap2→Gt w→BytesAt w a1 msg→BytesAt w a2 dst→CLS 227 [.slice a1 msg.length cap1,.slice a2 dst.length cap2,I z].toArray w (fun e w'=> ∃v,e=.returned v∧Grow w w'∧RT msg dst z w' v)
end Xm
end
section
/-! ### Products of what has no root -/
theorem zj{a b:Zp}(ha:IsQ a)(hb:IsQ b):IsQ (a*b):=qq (s:=SQr a*SQr b) (by
 have ha:SQr a*SQr a=a:=ha
 have hb:SQr b*SQr b=b:=hb
 generalize SQr a=s at*
 generalize SQr b=t at*
 subst ha hb
 grind)
theorem Ig{a b:Zp}(ha: ¬IsQ a)(hb: ¬IsQ b):IsQ (a*b):=by
 have h:=zj ((sV a).resolve_left ha) ((sV b).resolve_left hb)
 rw[show-a* -b=a*b by grind]at h
 exact h
def S5:Zp:=zp 0x186417302d5a65347a88b0f999ab2b504614aa5e2eebdeb1a014c40bceb7d2306c12a6d436befcf94d39c9db7b263cd4
theorem Un:S5*S5= -(zp 5):=by decide+kernel
theorem U2: ¬IsQ (zp 5):=by
 rcases lj (a:=zp 5) (b:= -(zp 5)) (c:=zp 5) (by generalize zp 5=a;grind) (by decide+kernel)with h|h
 ·exact absurd (qq Un) h.2
 ·exact h.1
/-! ### The other curve -/
def OA:W2:=(0,zp 240)
def OB:W2:=(zp 1012,zp 1012)
def OZ:W2:=ng2 (zp 2,zp 1)
def gO(x:W2):W2:=ad2 (ad2 (ml2 (ml2 x x) x) (ml2 OA x)) OB
def zu2(u:W2):W2:=ml2 (ml2 OZ u) u
def tu2(u:W2):W2:=ad2 (ml2 (zu2 u) (zu2 u)) (zu2 u)
def X1c:W2:=(zp 0x1a59d4b6bbf912a32d63b43028e2deeebe8d5d97ca64b6d66f64ac7a265a9305e1a40da5edb81b4e3ac4f5c28f5bd27,zp 0x15103a07f641331bb298f5ed3ba1230aa0bcc9f87d923077324df24a0f7ffa93045d3d6f94c17ae10efa11eb851e7336)
def R1c:W2:=(zp 0x28a5c165c0f2b6f84373bd5beb9a30d9ffef84fe5dc9a01a5e6825ee681d72252e4afbaf882c28f1c2935d806d2f71b,zp 0x17407d2938baedf8f3a537708747853994282b0535a8c4d8ffd7c0ebe3e31b581e4adea8190ec4a4a8ecaae9fd615d8a)
theorem Hg:ml2 X1c (ml2 OZ OA)=OB:=by decide+kernel
theorem D3:ml2 R1c R1c=gO X1c:=by decide+kernel
theorem Uq:ml2 OZ OA≠ze2:=by decide+kernel
theorem xv:OA≠ze2:=by decide+kernel
theorem Aw(a b c:W2):ml2 (ml2 a b) c=ml2 a (ml2 b c):=R2.mul_assoc a b c
theorem BU:ml2 OB (iv2 (ml2 OZ OA))=X1c:=by
 rw[←Hg,Aw,cM Uq]
 exact R2.mul_one X1c
def x1O(u:W2):W2:=if tu2 u=ze2 then ml2 OB (iv2 (ml2 OZ OA))else ml2 (ml2 (ng2 OB) (iv2 OA)) (ad2 on2 (iv2 (tu2 u)))
theorem Jp{u:W2}(h:tu2 u≠ze2):ml2 (ml2 OA (x1O u)) (tu2 u)=ml2 (ng2 OB) (ad2 (tu2 u) on2):=by
 have e1:=cM xv
 have e2:=cM h
 rw[show x1O u=ml2 (ml2 (ng2 OB) (iv2 OA)) (ad2 on2 (iv2 (tu2 u)))from if_neg h]
 generalize tu2 u=t at*
 generalize iv2 t=s at*
 generalize iv2 OA=a' at*
 generalize OA=a at*
 generalize ng2 OB=b at*
 exact zl R2 [a,a',b,t,s] 0x556558742a9 0x45558942a2582 0x58492 0x45558942a5675859a (lca (lcm e1) (lcm e2))
theorem g_x2{u:W2}(h:tu2 u≠ze2):gO (ml2 (zu2 u) (x1O u))=ml2 (ml2 (ml2 (zu2 u) (zu2 u)) (zu2 u)) (gO (x1O u)):=by
 have k:=Jp h
 unfold tu2 at k
 unfold gO
 generalize zu2 u=z at*
 generalize x1O u=x at*
 generalize OA=a at*
 generalize OB=b at*
 exact zk R2 [a,b,z,x] 0x4455589589589565897 0x55588844559995697 0x4238 0x5374458882 0x556945888 k
theorem UX(u:W2):nm2 (zu2 u)=zp 5*(nm2 u*nm2 u):=by
 rw[zu2,fP,fP,show nm2 OZ=zp 5 by decide+kernel]
 generalize zp 5=a
 generalize nm2 u=n
 grind
theorem GJ{u:W2}(h: ¬IsQ (nm2 (gO (x1O u)))):IsQ (nm2 (gO (ml2 (zu2 u) (x1O u)))):=by
 by_cases ht:tu2 u=ze2
 ·refine absurd ((iM _).1 ⟨R1c, ?_⟩) h
  rw[D3,show x1O u=ml2 OB (iv2 (ml2 OZ OA))from if_pos ht,BU]
 ·rw[g_x2 ht,fP,fP,fP,UX]
  have k:=zj (Ig U2 h) (nb (zp 5*(nm2 u*nm2 u)*(nm2 u)))
  generalize nm2 (gO (x1O u))=g at*
  generalize nm2 u=n at*
  generalize zp 5=a at*
  rw[show a*(n*n)*(a*(n*n))*(a*(n*n))*g=a*g*(a*(n*n)*n*(a*(n*n)*n)) by grind]
  exact k
/-! ### The map to the second curve -/
def iXN:List W2:=[(zp 0x5c759507e8e333ebb5b7a9a47d7ed8532c52d39fd3a042a88b58423c50ae15d5c2638e343d9c71c6238aaaaaaaa97d6,zp 0x5c759507e8e333ebb5b7a9a47d7ed8532c52d39fd3a042a88b58423c50ae15d5c2638e343d9c71c6238aaaaaaaa97d6),(0,zp 0x11560bf17baa99bc32126fced787c88f984f87adf7ae0c7f9a208c6b4f20a4181472aaa9cb8d555526a9ffffffffc71a),(zp 0x11560bf17baa99bc32126fced787c88f984f87adf7ae0c7f9a208c6b4f20a4181472aaa9cb8d555526a9ffffffffc71e,zp 0x8ab05f8bdd54cde190937e76bc3e447cc27c3d6fbd7063fcd104635a790520c0a395554e5c6aaaa9354ffffffffe38d),(zp 0x171d6541fa38ccfaed6dea691f5fb614cb14b4e7f4e810aa22d6108f142b85757098e38d0f671c7188e2aaaaaaaa5ed1,0)]
def iXD:List W2:=[(0,-zp 72),(zp 0xc,-zp 12),(zp 0x1,0)]
def iYN:List W2:=[(zp 0x1530477c7ab4113b59a4c18b076d11930f7da5d4a07f649bf54439d87d27e500fc8c25ebf8c92f6812cfc71c71c6d706,zp 0x1530477c7ab4113b59a4c18b076d11930f7da5d4a07f649bf54439d87d27e500fc8c25ebf8c92f6812cfc71c71c6d706),(0,zp 0x5c759507e8e333ebb5b7a9a47d7ed8532c52d39fd3a042a88b58423c50ae15d5c2638e343d9c71c6238aaaaaaaa97be),(zp 0x11560bf17baa99bc32126fced787c88f984f87adf7ae0c7f9a208c6b4f20a4181472aaa9cb8d555526a9ffffffffc71c,zp 0x8ab05f8bdd54cde190937e76bc3e447cc27c3d6fbd7063fcd104635a790520c0a395554e5c6aaaa9354ffffffffe38f),(zp 0x124c9ad43b6cf79bfbf7043de3811ad0761b0f37a1e26286b0e977c69aa274524e79097a56dc4bd9e1b371c71c718b10,0)]
def iYD:List W2:=[(-zp 432,-zp 432),(0,-zp 216),(zp 0x12,-zp 18),(zp 0x1,0)]
theorem D4:R2.pp (R2.pp iYN iYN) (R2.pp [OB,OA,ze2,on2] (R2.pp iXD (R2.pp iXD iXD)))=R2.pp (R2.pp iYD iYD) (R2.pa (R2.pp iXN (R2.pp iXN iXN)) (R2.pk (zp 4,zp 4) (R2.pp iXD (R2.pp iXD iXD)))):=by decide+kernel
theorem Nn(x:W2):R2.pev [OB,OA,ze2,on2] x=gO x:=by
 show ad2 OB (ml2 x (ad2 OA (ml2 x (ad2 ze2 (ml2 x (ad2 on2 (ml2 x ze2)))))))=ad2 (ad2 (ml2 (ml2 x x) x) (ml2 OA x)) OB
 generalize OA=a
 generalize OB=b
 exact zx R2 [a,b,x] 0x47584658415842581 0x44558885687
theorem Qp(x:W2):ml2 (ml2 (R2.pev iYN x) (R2.pev iYN x)) (ml2 (gO x) (ml2 (R2.pev iXD x) (ml2 (R2.pev iXD x) (R2.pev iXD x))))=ml2 (ml2 (R2.pev iYD x) (R2.pev iYD x)) (ad2 (ml2 (R2.pev iXN x) (ml2 (R2.pev iXN x) (R2.pev iXN x))) (ml2 (zp 4,zp 4) (ml2 (R2.pev iXD x) (ml2 (R2.pev iXD x) (R2.pev iXD x))))):=by
 have h:=congrArg (fun l=>R2.pev l x) D4
 simp only[R2.pev_pp,R2.pev_pa,R2.pev_pk,Nn]at h
 exact h
theorem NU{x y:W2}(h:ml2 y y=gO x)(hx:R2.pev iXD x≠ze2)(hy:R2.pev iYD x≠ze2):E2w.on (ml2 (R2.pev iXN x) (iv2 (R2.pev iXD x)),ml2 (ml2 y (R2.pev iYN x)) (iv2 (R2.pev iYD x))):=by
 have e:=Qp x
 rw[←h]at e
 have e1:=cM hx
 have e2:=cM hy
 show ml2 (ml2 (ml2 y (R2.pev iYN x)) (iv2 (R2.pev iYD x))) (ml2 (ml2 y (R2.pev iYN x)) (iv2 (R2.pev iYD x)))=ad2 (ml2 (ml2 (R2.pev iXN x) (iv2 (R2.pev iXD x))) (ml2 (ml2 (R2.pev iXN x) (iv2 (R2.pev iXD x))) (ml2 (R2.pev iXN x) (iv2 (R2.pev iXD x))))) (zp 4,zp 4)
 generalize R2.pev iXN x=xn at*
 generalize R2.pev iXD x=xd at*
 generalize R2.pev iYN x=yn at*
 generalize R2.pev iYD x=yd at*
 generalize iv2 xd=s at*
 generalize iv2 yd=t at*
 generalize ((zp 4,zp 4):W2)=b at*
 exact zl R2 [y,xn,xd,yn,yd,s,t,b] 0x55569c5569c 0x445555bbb5cc55aa4575775d585885543555665995ccd44558b58b58b2255455757755bbb5d5558b58b58b45ac22 0x4557b557b57bd 0x445555bbb5cc55995566585885543555665995ccd44558b58b58b258b55455757755bbb5d5558b58b58b45ac25ac (lca (lca (lcm e) (lcm e1)) (lcm e2))
end
section
theorem Ek{a b:W2}(ha:a≠ze2)(hb:b≠ze2):iv2 (ml2 a b)=ml2 (iv2 a) (iv2 b):=by
 have e0:=cM (x:=ml2 a b) (fun h=>(fg h).elim ha hb)
 have e1:=cM ha
 have e2:=cM hb
 generalize iv2 (ml2 a b)=w at*
 generalize iv2 a=s at*
 generalize iv2 b=t at*
 exact zl R2 [a,b,s,t,w] 0xa 0x4455892535a579253a2 0x589 0x4455895567a535a57956853a579 (lca (lca (lcm e0) (lcm e1)) (lcm e2))
theorem Mb{x:W2}(h:x≠ze2):ng2 x≠ze2:=fun e=>h (by
 have:=congrArg ng2 e
 rw[Cu]at this
 exact (R2.neg_neg x).symm.trans this)
/-! ### The first x -/
theorem JP(x:W2):ad2 (ml2 (ad2 (ml2 x x) OA) x) OB=gO x:=by
 unfold gO
 generalize OA=a
 generalize OB=b
 exact zx R2 [x,a,b] 0x454566768 0x44556665768
theorem UH(u:W2):ml2 (ml2 u u) OZ=zu2 u:=by
 unfold zu2
 generalize OZ=z
 exact zx R2 [u,z] 0x55667 0x55766
theorem J6(u:W2):zu2 (ng2 u)=zu2 u:=by
 unfold zu2
 generalize OZ=z
 exact zx R2 [u,z] 0x5573636 0x55766
theorem Tk(u:W2):tu2 (ng2 u)=tu2 u:=by rw[tu2,tu2,J6]
theorem SB(u:W2):x1O (ng2 u)=x1O u:=by rw[x1O,x1O,Tk]
theorem HP{u:W2}(h:tu2 u=ze2):ml2 (ml2 OB (ad2 (tu2 u) on2)) (iv2 (ml2 OZ OA))=x1O u:=by
 rw[show x1O u=ml2 OB (iv2 (ml2 OZ OA))from if_pos h,h,show ad2 ze2 on2=on2 from R2.zero_add on2,show ml2 OB on2=OB from R2.mul_one OB]
theorem Je{u:W2}(h: ¬tu2 u=ze2):ml2 (ml2 OB (ad2 (tu2 u) on2)) (iv2 (ml2 (ng2 (tu2 u)) OA))=x1O u:=by
 rw[show x1O u=ml2 (ml2 (ng2 OB) (iv2 OA)) (ad2 on2 (iv2 (tu2 u)))from if_neg h]
 have e0:=cM (x:=ml2 (ng2 (tu2 u)) OA) (fun k=>(fg k).elim (Mb h) xv)
 have e1:=cM xv
 have e2:=cM h
 generalize iv2 (ml2 (ng2 (tu2 u)) OA)=w at*
 generalize tu2 u=t at*
 generalize iv2 t=s at*
 generalize iv2 OA=a' at*
 generalize OA=a at*
 generalize OB=b at*
 exact zl R2 [a,a',b,t,s,w] 0x558492b 0x4455385742a253585b5942a25358b2 0x5538742a 0x4455385742a55396b53585b5942a5675358b59a (lca (lca (lcm e0) (lcm e1)) (lcm e2))
/-! ### Signs -/
def sgS(r u:W2):W2:=if SG2 r=SG2 u then r else ng2 r
theorem PV(r u:W2):ml2 (sgS r u) (sgS r u)=ml2 r r:=by
 unfold sgS
 split
 ·rfl
 ·exact DS r
structure SwR(u x r:W2):Prop where
 sq:ml2 r r=gO x
 lg:LG2 r=false
 at1:x=x1O u∨(¬IsQ (nm2 (gO (x1O u)))∧x=ml2 (zu2 u) (x1O u))
theorem Na(u:W2): ∃x r,SwR u x r:=by
 by_cases h:IsQ (nm2 (gO (x1O u)))
 ·obtain ⟨r,hr⟩:=(iM _).2 h
  exact ⟨_,NL r,(B8 r).trans hr,oZ r,.inl rfl⟩
 ·obtain ⟨r,hr⟩:=(iM _).2 (GJ h)
  exact ⟨_,NL r,(B8 r).trans hr,oZ r,.inr ⟨h,rfl⟩⟩
theorem SwR.neg{u x r:W2}(h:SwR u x r):SwR (ng2 u) x r:=⟨h.sq,h.lg,by rw[SB,J6];exact h.at1⟩
theorem SwR.on{u x r:W2}(h:SwR u x r):ml2 (sgS r u) (sgS r u)=gO x:=(PV r u).trans h.sq
theorem Uj:tu2 ze2=ze2:=by decide+kernel
theorem NT:X1c≠ze2:=by decide+kernel
theorem SwR.ze{x r:W2}(h:SwR ze2 x r):x≠ze2:=by
 have e:x1O ze2=X1c:=(if_pos Uj).trans BU
 rcases h.at1 with k|k
 ·rw[k,e];exact NT
 ·refine absurd ((iM _).1 ⟨R1c, ?_⟩) k.1
  rw[D3,e]
/-! ### The map to the second curve -/
def C6:W2:=(zp 6,-zp 6)
theorem SG:iXD=[ml2 C6 C6,ad2 C6 C6,on2]:=by decide+kernel
theorem RL:iYD=[ml2 C6 (ml2 C6 C6),ad2 (ml2 C6 C6) (ad2 (ml2 C6 C6) (ml2 C6 C6)),ad2 C6 (ad2 C6 C6),on2]:=by decide+kernel
theorem SV(x:W2):R2.pev iXD x=ml2 (ad2 x C6) (ad2 x C6):=by
 rw[SG]
 generalize C6=c
 exact zx R2 [x,c] 0x45775644775642561 0x5467467
theorem Vo(x:W2):R2.pev iYD x=ml2 (ad2 x C6) (ml2 (ad2 x C6) (ad2 x C6)):=by
 rw[RL]
 generalize C6=c
 exact zx R2 [x,c] 0x45757756445774577577564474775642561 0x54675467467
def R32:Zp:=zp 0x1764c4d4cfa3326ab57cbfed7f4a64378dc56542f8ff574f159cb76173021e735e4c97e34b82fa6cc8627df6f1f0af2
theorem MG:R32*R32= -(zp 32):=by decide+kernel
theorem M5: ¬IsQ (zp 32):=by
 rcases lj (a:=zp 32) (b:= -(zp 32)) (c:=zp 32) (by generalize zp 32=a;grind) (by decide+kernel)with h|h
 ·exact absurd (qq MG) h.2
 ·exact h.1
theorem P7:nm2 (gO (ng2 C6))=zp 32:=by decide+kernel
theorem mp{x y:W2}(h:ml2 y y=gO x):ad2 x C6≠ze2:=fun k=>by
 have e:x=ng2 C6:=by
  have h:=k
  generalize C6=c at*
  exact zk R2 [x,c] 0x6 0x37 0x2 0x1 0x467 h
 have q:=kX h
 rw[e,P7]at q
 exact M5 q
theorem xV{x y:W2}(h:ml2 y y=gO x):R2.pev iXD x≠ze2:=fun e=>(fg ((SV x).symm.trans e)).elim (mp h) (mp h)
theorem yU{x y:W2}(h:ml2 y y=gO x):R2.pev iYD x≠ze2:=fun e=>(fg ((Vo x).symm.trans e)).elim (mp h) (fun e=>(fg e).elim (mp h) (mp h))
def XIs(x:W2):W2:=ml2 (R2.pev iXN x) (iv2 (R2.pev iXD x))
def YIs(x y:W2):W2:=ml2 (ml2 y (R2.pev iYN x)) (iv2 (R2.pev iYD x))
theorem TP{n d e:W2}(hd:d≠ze2)(he:e≠ze2):ml2 (ml2 n e) (iv2 (ml2 d e))=ml2 n (iv2 d):=by
 rw[Ek hd he]
 have e2:=cM he
 generalize iv2 d=s at*
 generalize iv2 e=t at*
 exact zk R2 [n,d,e,s,t] 0x556859a 0x569 0x569 0x2 0x58a e2
theorem VD{n d e:W2}(hd:d≠ze2)(he:e≠ze2):ml2 (ml2 n d) (iv2 (ml2 d e))=ml2 n (iv2 e):=by
 rw[Ek hd he]
 have e1:=cM hd
 generalize iv2 d=s at*
 generalize iv2 e=t at*
 exact zk R2 [n,d,e,s,t] 0x556759a 0x56a 0x56a 0x2 0x579 e1
theorem xf{x y:W2}(h:ml2 y y=gO x):E2w.on (XIs x,YIs x y):=NU h (xV h) (yU h)
/-! ### Coefficients, the highest first -/
def HK(f:Nat→W2)(x:W2):Nat→W2
 |0=>ze2
 |k+1=>ad2 (ml2 (HK f x k) x) (f k)
theorem ON(f:Nat→W2)(x:W2):HK f x 4=R2.pev [f 3,f 2,f 1,f 0] x:=by
 show ad2 (ml2 (ad2 (ml2 (ad2 (ml2 (ad2 (ml2 ze2 x) (f 0)) x) (f 1)) x) (f 2)) x) (f 3)=R2.pev [f 3,f 2,f 1,f 0] x
 generalize f 0=a3
 generalize f 1=a2
 generalize f 2=a1
 generalize f 3=a0
 exact zx R2 [a0,a1,a2,a3,x] 0x454545451a9a8a7a6 0x465a475a485a495a1
theorem HK_z(f:Nat→W2)(x:W2)(h:f 0=ze2):HK f x 4=R2.pev [f 3,f 2,f 1] x:=by
 show ad2 (ml2 (ad2 (ml2 (ad2 (ml2 (ad2 (ml2 ze2 x) (f 0)) x) (f 1)) x) (f 2)) x) (f 3)=R2.pev [f 3,f 2,f 1] x
 rw[h]
 generalize f 1=a2
 generalize f 2=a1
 generalize f 3=a0
 exact zx R2 [a0,a1,a2,x] 0x45454545191989796 0x4659475948591
/-! ### What the laws ask besides -/
end
end Go.Proofs.YtfgacclgjklgnaaGreatDoor
