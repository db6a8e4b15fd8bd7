/-
 The walk of pharosref1.Pad.
 The walks of pharosref1.Table and pharosref1.New.
 The walk of Maker.Sum.
 The document's sum is SHA: the reference's words, rounds and blocks against the program's.
 Sums reckoned by numbers, for the kernel. Nothing here names a program.
-/
import Derived.Test.YtodgbdcjjhmnkaaGreatDoorP2
import Derived.Test.YtodgbdcjjhmnkaaGreatDoorX2
import Derived.Test.YtodgbdcjjhmnkaaGreatDoorXW
set_option maxRecDepth 100000
set_option maxHeartbeats 1000000
namespace Go.Proofs.YtodgbdcjjhmnkaaGreatDoor
section
open Go.RowKit
namespace Sh
end Sh
end
section
open Go.RowKit
namespace Sh
def MK:List (BitVec 32):=IV++KW
end Sh
end
section
open Go.RowKit
set_option maxHeartbeats 2000000
namespace Sh
def wk(p:List (BitVec 8))(o:Nat)(x:BitVec 32):Nat→BitVec 32
 |0=>x
 |k+1=>(wk p o x k<<<8)|||(p.getD (o+k) 0).setWidth 32
def V1(p:List (BitVec 8))(q:Nat):Nat→List (BitVec 32)
 |0=>List.replicate 64 0#32
 |i+1=>(V1 p q i).set i (wk p (q+4*i) ((V1 p q i).getD i 0) 4)
theorem oO(l:List (BitVec 32))(i:Nat)(h:i<l.length):l=l.set i (l.getD i 0):=by
 have e:l.getD i 0=l[i]:=by simp[h]
 rw[e,List.set_getElem_self]
theorem oN(l:List (BitVec 32))(i:Nat)(x:BitVec 32)(h:i<l.length):(l.set i x).getD i 0=x:=by simp[h]
def r0(x:BitVec 32):BitVec 32:=turn x 7^^^turn x 18^^^(x>>>3)
def r1(x:BitVec 32):BitVec 32:=turn x 17^^^turn x 19^^^(x>>>10)
def r5(ws:List (BitVec 32))(i:Nat):BitVec 32:=ws.getD (i-16) 0+r0 (ws.getD (i-15) 0)+ws.getD (i-7) 0+r1 (ws.getD (i-2) 0)
def V2(p:List (BitVec 8))(q:Nat):Nat→List (BitVec 32)
 |0=>V1 p q 16
 |j+1=>(V2 p q j).set (16+j) (r5 (V2 p q j) (16+j))
def rt(v:List (BitVec 32))(k w:BitVec 32):BitVec 32:=v.getD 7 0+(turn (v.getD 4 0) 6^^^turn (v.getD 4 0) 11^^^turn (v.getD 4 0) 25)+((v.getD 4 0 &&& v.getD 5 0)^^^(~~~(v.getD 4 0) &&& v.getD 6 0))+k+w
theorem iG:MK.length=72:=rfl
end Sh
end
section
open Go.RowKit
namespace Sh
end Sh
end
section
namespace Sh
abbrev tN:BitVec 32→Nat:=BitVec.toNat
abbrev M32:Nat:=4294967296
def tn(x a b:Nat):Nat:=Nat.lor (Nat.mod (Nat.shiftLeft x a) M32) (Nat.shiftRight x b)
def s1N(x:Nat):Nat:=Nat.xor (Nat.xor (tn x 26 6) (tn x 21 11)) (tn x 7 25)
def s0N(x:Nat):Nat:=Nat.xor (Nat.xor (tn x 30 2) (tn x 19 13)) (tn x 10 22)
def l0N(x:Nat):Nat:=Nat.xor (Nat.xor (tn x 25 7) (tn x 14 18)) (Nat.shiftRight x 3)
def l1N(x:Nat):Nat:=Nat.xor (Nat.xor (tn x 15 17) (tn x 13 19)) (Nat.shiftRight x 10)
def aN(a b:Nat):Nat:=Nat.mod (Nat.add a b) M32
def w4N(bl:List Nat)(i:Nat):Nat:=Nat.lor (Nat.lor (Nat.lor (Nat.mod (Nat.shiftLeft (Nat.mod (bl.getD (4*i) 0) M32) 24) M32) (Nat.mod (Nat.shiftLeft (Nat.mod (bl.getD (4*i+1) 0) M32) 16) M32)) (Nat.mod (Nat.shiftLeft (Nat.mod (bl.getD (4*i+2) 0) M32) 8) M32)) (Nat.mod (bl.getD (4*i+3) 0) M32)
def W1N(bl:List Nat):Nat→List Nat
 |0=>List.replicate 64 0
 |k+1=>(W1N bl k).set k (w4N bl k)
def w5N(ws:List Nat)(i:Nat):Nat:=aN (aN (aN (l1N (ws.getD (i-2) 0)) (ws.getD (i-7) 0)) (l0N (ws.getD (i-15) 0))) (ws.getD (i-16) 0)
def W2N(bl:List Nat):Nat→List Nat
 |0=>W1N bl 16
 |k+1=>(W2N bl k).set (16+k) (w5N (W2N bl k) (16+k))
structure VN where
 (a b c d e f g h:Nat)
def ttN(v:VN)(k w:Nat):Nat:=aN (aN (aN (aN v.h (s1N v.e)) (Nat.xor (Nat.land v.e v.f) (Nat.land (Nat.sub 4294967295 v.e) v.g))) k) w
def Ct(v:VN)(k w:Nat):VN:=⟨aN (ttN v k w) (aN (s0N v.a) (Nat.xor (Nat.xor (Nat.land v.a v.b) (Nat.land v.a v.c)) (Nat.land v.b v.c))),v.a,v.b,v.c,aN v.d (ttN v k w),v.e,v.f,v.g⟩
def tg(v:VN)(ks ws:List Nat):Nat→VN
 |0=>v
 |k+1=>Ct (tg v ks ws k) (ks.getD k 0) (ws.getD k 0)
def vN(s:List Nat):VN:=⟨s.getD 0 0,s.getD 1 0,s.getD 2 0,s.getD 3 0,s.getD 4 0,s.getD 5 0,s.getD 6 0,s.getD 7 0⟩
def yO(ks s bl:List Nat):List Nat:=
 let v:=tg (vN s) ks (W2N bl 48) 64
 [aN (s.getD 0 0) v.a,aN (s.getD 1 0) v.b,aN (s.getD 2 0) v.c,aN (s.getD 3 0) v.d,aN (s.getD 4 0) v.e,aN (s.getD 5 0) v.f,aN (s.getD 6 0) v.g,aN (s.getD 7 0) v.h]
def FG(ks s:List Nat):List (List Nat)→List Nat
 |[]=>s
 |b::l=>FG ks (yO ks s b) l
def V8.n(v:V8):VN:=⟨tN v.a,tN v.b,tN v.c,tN v.d,tN v.e,tN v.f,tN v.g,tN v.h⟩
theorem lK(x y:BitVec 32):tN (x+y)=aN (tN x) (tN y):=BitVec.toNat_add x y
theorem ir(x:BitVec 32)(k:Int)(a b:Nat)(ha:(BitVec.ofInt 64 k &&& 31#64).toNat=a)(hb:(32#64-(BitVec.ofInt 64 k &&& 31#64)).toNat=b):tN (jt x k)=tn (tN x) a b:=by
 subst ha hb
 show BitVec.toNat (jt x k)=_
 rw[jt,BitVec.toNat_or,BitVec.toNat_shiftLeft,BitVec.toNat_ushiftRight]
 rfl
theorem g6(x y:BitVec 32):tN (x^^^y)=Nat.xor (tN x) (tN y):=BitVec.toNat_xor x y
theorem qc(x y:BitVec 32):tN (x &&& y)=Nat.land (tN x) (tN y):=BitVec.toNat_and x y
theorem Kn(x:BitVec 32):tN (~~~x)=Nat.sub 4294967295 (tN x):=BitVec.toNat_not
theorem s1_e(x:BitVec 32):tN (qp x)=s1N (tN x):=by rw[qp,g6,g6,ir x (-6) 26 6 (by decide) (by decide),ir x (-11) 21 11 (by decide) (by decide),ir x (-25) 7 25 (by decide) (by decide)];rfl
theorem s0_e(x:BitVec 32):tN (wW x)=s0N (tN x):=by rw[wW,g6,g6,ir x (-2) 30 2 (by decide) (by decide),ir x (-13) 19 13 (by decide) (by decide),ir x (-22) 10 22 (by decide) (by decide)];rfl
theorem DQ(x:BitVec 32)(n:Nat):tN (x>>>n)=Nat.shiftRight (tN x) n:=BitVec.toNat_ushiftRight x n
theorem l0_e(x:BitVec 32):tN (CK x)=l0N (tN x):=by rw[CK,g6,g6,ir x (-7) 25 7 (by decide) (by decide),ir x (-18) 14 18 (by decide) (by decide),DQ];rfl
theorem l1_e(x:BitVec 32):tN (BB x)=l1N (tN x):=by rw[BB,g6,g6,ir x (-17) 15 17 (by decide) (by decide),ir x (-19) 13 19 (by decide) (by decide),DQ];rfl
theorem kA{n:Nat}(l:List (BitVec n))(i:Nat):(l.map BitVec.toNat).getD i 0=(l.getD i 0).toNat:=by
 rw[List.getD_eq_getElem?_getD,List.getD_eq_getElem?_getD,List.getElem?_map]
 cases l[i]? with
 |none=>rfl
 |some x=>rfl
theorem w4_e(bl:List (BitVec 8))(i:Nat):tN (w4 bl i)=w4N (bl.map BitVec.toNat) i:=by
 have s: ∀(x:BitVec 8) (k:Nat),BitVec.toNat (x.setWidth 32<<<k)=Nat.mod (Nat.shiftLeft (Nat.mod x.toNat M32) k) M32:=fun x k=>by
  rw[BitVec.toNat_shiftLeft,BitVec.toNat_setWidth];rfl
 show BitVec.toNat (w4 bl i)=_
 rw[w4,w4N,BitVec.toNat_or,BitVec.toNat_or,BitVec.toNat_or,s,s,s,BitVec.toNat_setWidth,kA,kA,kA,kA]
 rfl
theorem Kl(bl:List (BitVec 8)): ∀k,(W1 bl k).map tN=W1N (bl.map BitVec.toNat) k
 |0=>by rw[W1,W1N,List.map_replicate];rfl
 |k+1=>by rw[W1,W1N,List.map_set,Kl bl k,w4_e]
theorem w5_e(ws:List (BitVec 32))(i:Nat):tN (w5 ws i)=w5N (ws.map tN) i:=by
 rw[w5,w5N,lK,lK,lK,l1_e,l0_e,kA,kA,kA,kA]
theorem Hb(bl:List (BitVec 8)): ∀k,(W2 bl k).map tN=W2N (bl.map BitVec.toNat) k
 |0=>Kl bl 16
 |k+1=>by rw[W2,W2N,List.map_set,Hb bl k,w5_e,Hb bl k]
theorem Ks(v:V8)(k w:BitVec 32):(rnd v k w).n=Ct v.n (tN k) (tN w):=by
 have t:tN (v.h+qp v.e+(v.e &&& v.f^^^ ~~~v.e &&& v.g)+k+w)=ttN v.n (tN k) (tN w):=by
  rw[lK,lK,lK,lK,s1_e,g6,qc,qc,Kn];rfl
 have e1:tN (rnd v k w).a=(Ct v.n (tN k) (tN w)).a:=by
  show tN ((v.h+qp v.e+(v.e &&& v.f^^^ ~~~v.e &&& v.g)+k+w)+(wW v.a+(v.a &&& v.b^^^v.a &&& v.c^^^v.b &&& v.c)))=_
  rw[lK,t,lK,s0_e,g6,g6,qc,qc,qc];rfl
 have e2:tN (rnd v k w).e=(Ct v.n (tN k) (tN w)).e:=by
  show tN (v.d+(v.h+qp v.e+(v.e &&& v.f^^^ ~~~v.e &&& v.g)+k+w))=_
  rw[lK,t];rfl
 show VN.mk (tN (rnd v k w).a) _ _ _ (tN (rnd v k w).e) _ _ _=_
 rw[e1,e2];rfl
theorem zF(v:V8)(ws:List (BitVec 32)): ∀k,(kB v ws k).n=tg v.n (KW.map tN) (ws.map tN) k
 |0=>rfl
 |k+1=>by rw[kB,tg,Ks,zF v ws k,kA,kA]
theorem vN_e(st:List (BitVec 32)):(v8 st).n=vN (st.map tN):=by
 simp only[vN,kA];rfl
theorem GF(st:List (BitVec 32))(bl:List (BitVec 8)):(o0 st bl).map tN=yO (KW.map tN) (st.map tN) (bl.map BitVec.toNat):=by
 have h:=zF (v8 st) (W2 bl 48) 64
 rw[vN_e,Hb]at h
 rw[yO,←h]
 simp only[o0,Kp,List.map_cons,List.map_nil,kA,lK]
 rfl
theorem wC(st:List (BitVec 32))(b:List (BitVec 8))(l:List (List (BitVec 8))): ∀k,eM st (b::l) (k+1)=eM (o0 st b) l k
 |0=>rfl
 |k+1=>by rw[eM,wC st b l k];rfl
theorem Dy: ∀(l:List (List (BitVec 8))) (st:List (BitVec 32)),(eM st l l.length).map tN=FG (KW.map tN) (st.map tN) (l.map (·.map BitVec.toNat))
 |[],_=>rfl
 |b::l,st=>by
  rw[List.length_cons,wC,Dy l,GF];rfl
theorem F5(l:List (BitVec 32)):(l.map tN).map (BitVec.ofNat 32)=l:=by
 rw[List.map_map]
 exact (List.map_congr_left fun x _=>BitVec.ofNat_toNat 32 x|>.trans (BitVec.setWidth_eq x)).trans (List.map_id l)
theorem je(bs r:List (BitVec 8))(h:DG ((FG (KW.map tN) (IV.map tN) ((uT bs).map (·.map BitVec.toNat))).map (BitVec.ofNat 32)) 8=r):SHA bs=r:=by
 rw[SHA,←F5 (eM IV (uT bs) (uT bs).length),Dy];exact h
end Sh
end
end Go.Proofs.YtodgbdcjjhmnkaaGreatDoor
