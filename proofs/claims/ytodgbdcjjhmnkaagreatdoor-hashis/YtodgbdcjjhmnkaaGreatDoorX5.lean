/-
 What is known of the package-level variables.
 Powers by digits of four bits, and by bits. Nothing here names a program.
 Signs, roots, numbers of many bytes: as functions of elements. Nothing here names a program.
 What the laws of layer 3 say of elements. Nothing here names a program.
 The field of p^2 elements: a + b i. Nothing here names a program.
 What the walks of package fp2 meet: signs, powers, roots. Nothing here names a program.
 The fields of p^6 and p^12 elements, over pairs: that they are fields; the power of p. Nothing here names a program.
 The curves; the generator's order. Nothing here names a program.
 Curves over two fields, one in the other: points, sums, times. Nothing here names a program.
 Points: when a sum is none; times and the order; the generator. Nothing here names a program.
 The second curve; its generator's order. Nothing here names a program.
 The second curve: nine times the generator; a point's numbers as the reference holds them. Nothing here names a program.
 Bits of bytes by masks. Nothing here names a program.
 Curves y y = x x x + b: maps of a curve into itself; points of an order, by their number. Nothing here names a program.
 The places of the set bits of a number, the highest first. Nothing here names a program.
 Sums by three numbers, as the program makes them, over any field. Nothing here names a program.
 Inverses in the fields of p^6 and p^12 elements, as the reference reckons them. Nothing here names a program.
 Elements of fp6 among those of six parts. Nothing here names a program.
 The first curve's points of the order r: turned by a third root of 1. Nothing here names a program.
 Curves y y = x x x + b: how many points have an order: what they make 0 is of so many powers. Nothing here names a program.
 Points of an order: if they were not all so many times one of them, they would be too many. Nothing here names a program.
 The second curve's points of the order r: over the field of p^12 elements. Nothing here names a program.
 The second curve's points of the order r: conjugates, turned. Nothing here names a program.
-/
import Derived.Test.YtodgbdcjjhmnkaaGreatDoorX4
import Derived.Test.YtodgbdcjjhmnkaaGreatDoorRows
import Derived.Test.YtodgbdcjjhmnkaaGreatDoorX3
import Derived.Test.YtodgbdcjjhmnkaaGreatDoorX1
set_option maxRecDepth 100000
set_option maxHeartbeats 1000000
namespace Go.Proofs.YtodgbdcjjhmnkaaGreatDoor
section
open Go.RowKit
def RTP:List (BitVec 64):=[0xee7fbfffffffeaab#64,0x7aaffffac54ffff#64,0xd9cc34a83dac3d89#64,0xd91dd2e13ce144af#64,0x92c6e9ed90d2eb35#64,0x680447a8e5ff9a6#64]
def IVP:List (BitVec 64):=[0xb9feffffffffaaa9#64,0x1eabfffeb153ffff#64,0x6730d2a0f6b0f624#64,0x64774b84f38512bf#64,0x4b1ba7b6434bacd7#64,0x1a0111ea397fe69a#64]
def HFP:List (BitVec 64):=[0xdcff7fffffffd555#64,0xf55ffff58a9ffff#64,0xb39869507b587b12#64,0xb23ba5c279c2895f#64,0x258dd3db21a5d66b#64,0xd0088f51cbff34d#64]
def KW:List (BitVec 32):=[0x428a2f98#32,0x71374491#32,0xb5c0fbcf#32,0xe9b5dba5#32,0x3956c25b#32,0x59f111f1#32,0x923f82a4#32,0xab1c5ed5#32,0xd807aa98#32,0x12835b01#32,0x243185be#32,0x550c7dc3#32,0x72be5d74#32,0x80deb1fe#32,0x9bdc06a7#32,0xc19bf174#32,0xe49b69c1#32,0xefbe4786#32,0xfc19dc6#32,0x240ca1cc#32,0x2de92c6f#32,0x4a7484aa#32,0x5cb0a9dc#32,0x76f988da#32,0x983e5152#32,0xa831c66d#32,0xb00327c8#32,0xbf597fc7#32,0xc6e00bf3#32,0xd5a79147#32,0x6ca6351#32,0x14292967#32,0x27b70a85#32,0x2e1b2138#32,0x4d2c6dfc#32,0x53380d13#32,0x650a7354#32,0x766a0abb#32,0x81c2c92e#32,0x92722c85#32,0xa2bfe8a1#32,0xa81a664b#32,0xc24b8b70#32,0xc76c51a3#32,0xd192e819#32,0xd6990624#32,0xf40e3585#32,0x106aa070#32,0x19a4c116#32,0x1e376c08#32,0x2748774c#32,0x34b0bcb5#32,0x391c0cb3#32,0x4ed8aa4a#32,0x5b9cca4f#32,0x682e6ff3#32,0x748f82ee#32,0x78a5636f#32,0x84c87814#32,0x8cc70208#32,0x90befffa#32,0xa4506ceb#32,0xbef9a3f7#32,0xc67178f2#32]
theorem CR:V RTP 6=(PP+1) / 4:=by decide+kernel
theorem De:V IVP 6=PP-2:=by decide+kernel
theorem Dt:V HFP 6=(PP-1) / 2:=by decide+kernel
structure Gt(w:World):Prop where
 g0:w.rangeAt 0 0 (TWO.map U64)
 g1:w.rangeAt 1 0 (PL.map U64)
 g2:w.rangeAt 2 0 (RTP.map U64)
 g3:w.rangeAt 3 0 (IVP.map U64)
 g4:w.rangeAt 4 0 (HFP.map U64)
 g5:w.rangeAt 5 0 (KW.map U32)
theorem eO{w w':World}{b:Nat}{cs:List Value}(hk:w'.heap[b]? =w.heap[b]?)(h:w.rangeAt b 0 cs):w'.rangeAt b 0 cs:=fun j v hv=>by
 rw[World.cell?_of_block (w:=w) hk]
 exact h j v hv
theorem gt_low:GLow Gt 6 where
 size:=fun w h=>by
  have:=block_lt_of_cell (h.g5 0 _ (by rfl:(KW.map U32)[0]? =some (U32 0x428a2f98#32)))
  exact this
 same:=fun w w' hk h=>⟨eO (hk 0 (by omega)) h.g0,eO (hk 1 (by omega)) h.g1,eO (hk 2 (by omega)) h.g2,eO (hk 3 (by omega)) h.g3,eO (hk 4 (by omega)) h.g4,eO (hk 5 (by omega)) h.g5⟩
theorem eH:Tryz.prog.follows .mixedOrders=true:=by kernel_rfl
end
section
def NBv(bs:List (BitVec 8))(m:Nat):BitVec 8:=if m % 2=0 then bs.getD (m / 2) 0>>>4 else bs.getD (m / 2) 0 % 16#8
theorem Hx(bs:List (BitVec 8))(m:Nat):(NBv bs m).toNat<16:=by
 have h:=(bs.getD (m / 2) 0).isLt
 unfold NBv
 split
 ·rw[BitVec.toNat_ushiftRight,Nat.shiftRight_eq_div_pow];omega
 ·rw[BitVec.toNat_umod];exact Nat.mod_lt _ (by decide)
def DN(bs:List (BitVec 8)):Nat→Nat
 |0=>0
 |m+1=>16*DN bs m+(NBv bs m).toNat
theorem Cd(bs:List (BitVec 8)): ∀k,DN bs (2*k)=BN bs k
 |0=>rfl
 |k+1=>by
  have h:=(bs.getD k 0).isLt
  have e0:NBv bs (2*k)=bs.getD k 0>>>4:=by
   rw[NBv,if_pos (by omega),show 2*k / 2=k by omega]
  have e1:NBv bs (2*k+1)=bs.getD k 0 % 16#8:=by
   rw[NBv,if_neg (by omega),show (2*k+1) / 2=k by omega]
  rw[show 2*(k+1)=2*k+1+1 by omega,DN,DN,Cd bs k,BN,e0,e1,BitVec.toNat_ushiftRight,Nat.shiftRight_eq_div_pow,BitVec.toNat_umod,show (16#8).toNat=16 from rfl]
  omega
theorem ED(x:Zp)(j D:Nat):x^(2^j*D)*x^(2^j*D)=x^(2^(j+1)*D):=by
 rw[←lx,Nat.pow_succ,show 2^j*2*D=2^j*D+2^j*D by rw[Nat.mul_right_comm];omega]
theorem Ad(x:Zp)(bs:List (BitVec 8))(k:Nat):x^(2^4*DN bs k)*x^(NBv bs k).toNat=x^DN bs (k+1):=by
 rw[←lx,DN]
/-! ### Sixteen powers -/
def SP(x:Zp)(i:Nat):List (BitVec 64):=FL (fun j=>if j<i then fe (x^j)else List.replicate 6 0) 16
theorem bV(x:Zp)(i:Nat):(SP x i).length=96:=bJ _ _
theorem Ix(x:Zp):FL (fun i=>if i=0 then fe 1 else List.replicate 6 0) 16=SP x 1:=qp fun i _=>by
 by_cases h:i=0
 ·rw[if_pos h,if_pos (by omega),h,p0]
 ·rw[if_neg h,if_neg (by omega)]
theorem oT(x:Zp)(i k:Nat)(hk:k<i)(hi:i≤16)(o:Nat)(ho:o=6*k): ∀j v,((fe (x^k)).map U64)[j]? =some v→((SP x i).map U64)[o+j]? =some v:=by
 have h:=Dv (fun j=>if j<i then fe (x^j)else List.replicate 6 0) 16 k (by omega) (by simp only[if_pos hk];exact bp _) o ho
 simp only[if_pos hk]at h
 exact h
theorem D0(x:Zp)(i:Nat)(h1:1≤i)(hi:i<16)(o:Nat)(ho:o=6*i):lay o ((fe (x^(i-1)*x)).map U64) ((SP x i).map U64)=(SP x (i+1)).map U64:=by
 rw[SP,yo _ 16 i _ hi (bp _) o ho]
 congr 1
 refine qp fun j _=> ?_
 by_cases h:j=i
 ·rw[if_pos h,if_pos (by omega),h,←ps,show i-1+1=i by omega]
 ·rw[if_neg h]
  by_cases h':j<i
  ·rw[if_pos h',if_pos (by omega)]
  ·rw[if_neg h',if_neg (by omega)]
end
section
theorem vh(l:List (BitVec 64)):(l.getD 0 0).toNat % 2=V l 6 % 2:=by
 have h:=FE l 6 0 (by decide)
 rw[Nat.testBit_zero,Nat.zero_div,Nat.zero_mod,BitVec.getLsbD,Nat.testBit_zero]at h
 have h':=decide_eq_decide.1 h
 omega
theorem HA(x:Zp):((nm x).getD 0 0 % 2#64==1#64)=decide (x.val % 2=1):=by
 have h:=vh (nm x)
 rw[rQ]at h
 rw[←h]
 by_cases e:(nm x).getD 0 0 % 2#64=1#64
 ·have:=congrArg BitVec.toNat e
  rw[BitVec.toNat_umod]at this
  rw[beq_iff_eq.2 e,decide_eq_true]
  exact this
 ·rw[beq_eq_false_iff_ne.2 e,decide_eq_false]
  intro h'
  apply e
  apply BitVec.eq_of_toNat_eq
  rw[BitVec.toNat_umod]
  exact h'
theorem CS(x:Zp):decide ((nm x).getD 0 0 &&& 1#64=1#64)=decide (x.val % 2=1):=by
 have h:=vh (nm x)
 rw[rQ]at h
 rw[←h]
 apply decide_eq_decide.2
 constructor
 ·intro e
  have:=congrArg BitVec.toNat e
  rw[BitVec.toNat_and,show (1#64).toNat=1 from rfl,Nat.and_one_is_mod]at this
  exact this
 ·intro e
  apply BitVec.eq_of_toNat_eq
  rw[BitVec.toNat_and,show (1#64).toNat=1 from rfl,Nat.and_one_is_mod]
  exact e
def hf:Nat:=(PP-1) / 2
def rg:Nat:=(PP+1) / 4
theorem pP:PP % 4=3:=by decide+kernel
theorem jy:1000<PP:=by decide+kernel
theorem jt:2*hf+1=PP:=by have:=pP;unfold hf;omega
theorem IH:4*rg=PP+1:=by have:=pP;unfold rg;omega
theorem GY:hf % 2=1:=by have:=pP;have:=jt;omega
theorem Kn:2*rg=hf+1:=by have:=IH;have:=jt;omega
theorem zh(x:Zp):LT HFP (nm x) 6=decide (hf<x.val):=by rw[mZ,rQ,Dt];rfl
theorem I9: ∃n,hf=n+1:=⟨hf-1,by have:=jt;have:=jy;omega⟩
def SQr(x:Zp):Zp:=x^rg
def SQn(x:Zp):Zp:=if hf<(SQr x).val then-(SQr x)else SQr x
def SQ(x:Zp):Zp:=if SQr x*SQr x=x then SQn x else 0
def FO(bs:List (BitVec 8)):Bool:=decide (bs.length=48∧BN bs 48<PP)
def FV(bs:List (BitVec 8)):Zp:=if bs.length=48∧BN bs 48<PP then zp (BN bs 48)else 0
def ZB(bs:List (BitVec 8)):Zp:=zp (BN bs bs.length)
theorem Dp{k:Nat}(h:R6=2^k)(hk:k=8*48):R6=256^48:=by rw[yM,h,hk]
theorem H3:R6=256^48:=Dp dH rfl
theorem xM(bs:List (BitVec 8))(k cut:Nat)(h:k=0∨cut=48):zp (BN bs k)*RZ+zp (BN (bs.drop k) cut)=zp (BN bs (k+cut)):=by
 rw[B4 bs k cut,fw,gc]
 rcases h with rfl|rfl
 ·rw[BN,EA];grind
 ·rw[←H3];rfl
theorem J0{n:Nat}(h0:0<n)(h:n % 48=0):(n-1) % 48+1=48:=by omega
theorem Cs{n:Nat}(h0:0<n):(n-((n-1) % 48+1)) % 48=0∧(n-1) % 48+1≤n∧(n-1) % 48+1≤48:=by omega
theorem EK(bs:List (BitVec 8))(n:Nat):BN (bs.take n) n=BN bs n:=rS n fun i hi=>by
 rw[List.getD_eq_getElem?_getD,List.getD_eq_getElem?_getD,List.getElem?_take,if_pos hi]
end
section
theorem wy{a:Zp}(h:a≠0):(-a).val=PP-a.val:=by
 have h0:a.val≠0:=fun e=>h (Fin.ext e)
 have hl:=a.isLt
 have e:zp (PP-a.val)+a=0:=by
  have:zp (PP-a.val)+zp a.val=0:=by rw[←fw,show PP-a.val+a.val=PP by omega,mG]
  rw[AU]at this
  exact this
 have e2: -a=zp (PP-a.val):=by grind
 rw[e2,dU,Nat.mod_eq_of_lt (by omega)]
theorem xH{a:Zp}(h: ¬a=0):(decide (hf<a.val) !=decide (hf<(-a).val))=true:=by
 have hl:=a.isLt
 have hp:=jt
 rw[wy h]
 by_cases h1:hf<a.val
 ·rw[decide_eq_true h1,decide_eq_false (by omega)];rfl
 ·rw[decide_eq_false h1,decide_eq_true (by omega)];rfl
theorem pK{a:Zp}(h:a≠0):a^hf*a^hf=1:=by
 rw[←lx,show hf+hf=PP-1 by have:=jt;omega,fermat h]
theorem uQ{a:Zp}(h:a≠0):a^hf=1∨a^hf= -1:=by
 have e:=pK h
 have:(a^hf-1)*(a^hf+1)=0:=by grind
 rcases lp this with h|h
 ·left;grind
 ·right;grind
theorem pV: ¬(1:Zp)= -1:=fun h=>by
 have h2:(1:Zp)+1=0:=(congrArg (fun z=>z+(1:Zp)) h).trans (by grind)
 have h3:=congrArg Fin.val h2
 rw[Fin.val_add,show (1:Zp).val=1 % PP from rfl,Nat.mod_eq_of_lt pr_p.1,Nat.mod_eq_of_lt (by have:=jy;omega)]at h3
 cases h3
theorem wx(a:Zp):SQr a*SQr a=a^hf*a:=by rw[SQr,←lx,←Nat.two_mul,Kn,ps]
theorem ig{a:Zp}(h:SQr a*SQr a=a):SQ a*SQ a=a:=by
 rw[SQ,if_pos h,SQn]
 split
 ·grind
 ·exact h
theorem se{a:Zp}(h:SQr a*SQr a=a): ¬hf<(SQ a).val:=by
 rw[SQ,if_pos h,SQn]
 split
 ·rename_i h1
  have h0:SQr a≠0:=fun e=>by rw[e]at h1;exact absurd h1 (Nat.not_lt_zero _)
  rw[wy h0]
  have:=jt
  omega
 ·rename_i h1;exact h1
theorem Kb(a:Zp):SQr (a*a)*SQr (a*a)=a*a:=by
 rw[wx]
 by_cases h:a=0
 ·rw[h];grind
 ·rw[EJ,pK h];grind
theorem Dd(a:Zp)(n:Nat):(-a)^(2*n+1)= -(a^(2*n+1)):=by
 rw[ps,ps,x7,x7,show (-a)^2=a^2 by grind];grind
theorem ug(a:Zp):(-a)^hf= -(a^hf):=by
 obtain ⟨n,hn⟩: ∃n,hf=2*n+1:=⟨hf / 2,by have:=GY;omega⟩
 rw[hn];exact Dd a n
theorem m3:zp 2≠0:=fun h=>by
 have:=congrArg Fin.val h
 rw[dU,Nat.mod_eq_of_lt (by have:=jy;omega)]at this
 cases this
theorem zK:zp 4=zp 2*zp 2∧zp 2=1+1:=⟨gc 2 2,fw 1 1⟩
end
section
abbrev W2:=Zp×Zp
def ad2(x y:W2):W2:=(x.1+y.1,x.2+y.2)
def ng2(x:W2):W2:=(-x.1,-x.2)
def sb2(x y:W2):W2:=(x.1-y.1,x.2-y.2)
def ml2(x y:W2):W2:=(x.1*y.1-x.2*y.2,x.1*y.2+x.2*y.1)
def cj2(x:W2):W2:=(x.1,-x.2)
def sc2(x:W2)(c:Zp):W2:=(x.1*c,x.2*c)
def xi2(x:W2):W2:=(x.1-x.2,x.1+x.2)
def nm2(x:W2):Zp:=x.1*x.1+x.2*x.2
def iv2(x:W2):W2:=(x.1*nm2 x^(PP-2),-x.2*nm2 x^(PP-2))
def on2:W2:=(1,0)
def ze2:W2:=(0,0)
theorem a8{x y:W2}(h1:x.1=y.1)(h2:x.2=y.2):x=y:=Prod.ext h1 h2
def R2:Rg W2 where
 zero:=ze2
 one:=on2
 add:=ad2
 mul:=ml2
 neg:=ng2
 add_assoc:=fun a b c=>a8 (by simp only[ad2];grind) (by simp only[ad2];grind)
 add_comm:=fun a b=>a8 (by simp only[ad2];grind) (by simp only[ad2];grind)
 add_zero:=fun a=>a8 (by simp only[ad2,ze2];grind) (by simp only[ad2,ze2];grind)
 add_neg:=fun a=>a8 (by simp only[ad2,ng2,ze2];grind) (by simp only[ad2,ng2,ze2];grind)
 mul_assoc:=fun a b c=>a8 (by simp only[ml2];grind) (by simp only[ml2];grind)
 mul_comm:=fun a b=>a8 (by simp only[ml2];grind) (by simp only[ml2];grind)
 mul_one:=fun a=>a8 (by simp only[ml2,on2];grind) (by simp only[ml2,on2];grind)
 mul_add:=fun a b c=>a8 (by simp only[ml2,ad2];grind) (by simp only[ml2,ad2];grind)
theorem sW(x y:W2):sb2 x y=ad2 x (ng2 y):=a8 (by simp only[sb2,ad2,ng2];grind) (by simp only[sb2,ad2,ng2];grind)
theorem Ic(x:W2):xi2 x=ml2 x (1,1):=a8 (by simp only[xi2,ml2];grind) (by simp only[xi2,ml2];grind)
theorem eY(x y:W2):nm2 (ml2 x y)=nm2 x*nm2 y:=by simp only[nm2,ml2];grind
theorem GF(x:W2):ml2 x (cj2 x)=(nm2 x,0):=a8 (by simp only[ml2,cj2,nm2];grind) (by simp only[ml2,cj2];grind)
theorem fF(x y:W2):cj2 (ml2 x y)=ml2 (cj2 x) (cj2 y):=a8 (by simp only[ml2,cj2];grind) (by simp only[ml2,cj2];grind)
theorem Ep(x y:W2):cj2 (ad2 x y)=ad2 (cj2 x) (cj2 y):=a8 (by simp only[ad2,cj2]) (by simp only[ad2,cj2];grind)
/-! ### -1 is no square -/
theorem oM{a:Zp}(h:a≠0):(a*a)^hf=1:=by rw[EJ,pK h]
theorem w9{a:Zp}(h:0= -a):a=0:=by grind
theorem qv(a:Zp):a*1=a:=by grind
theorem uu(a:Zp): -(-a)=a:=by grind
theorem gD(a:Zp):a*0=0:=by grind
theorem xA{a b:Zp}(h:a*a+b*b=0):b=0:=by
 by_cases hb:b=0
 ·exact hb
 ·exfalso
  have e:a*a= -(b*b):=by grind
  have e2:(a*a)^hf= -1:=by rw[e,ug,oM hb]
  by_cases ha:a=0
  ·obtain ⟨n,hn⟩:=I9
   rw[ha,gD,hn,Gp]at e2
   exact lC (w9 e2)
  ·rw[oM ha]at e2
   exact pV e2
theorem m5{x:W2}(h:nm2 x=0):x=ze2:=by
 have h1:=xA h
 have h2:=xA (a:=x.2) (b:=x.1) (by rw[←h];simp only[nm2];grind)
 exact a8 h2 h1
theorem Le:(0:Zp)+0=0:=by simp
theorem Ip:nm2 ze2=0:=by simp only[nm2,ze2];rw[gD,Le]
theorem Ha{x:W2}(h:x≠ze2):nm2 x≠0:=fun e=>h (m5 e)
theorem cr{x:W2}(h:x≠ze2):ml2 x (iv2 x)=on2:=by
 have hz:=lz (Ha h)
 have e:nm2 x=x.1*x.1+x.2*x.2:=rfl
 have k: ∀j:Zp,nm2 x*j=1→ml2 x (x.1*j,-x.2*j)=on2:=fun j hj=>by
  rw[e]at hj
  refine a8 ?_ ?_
  ·simp only[ml2,on2];grind
  ·simp only[ml2,on2];grind
 exact k _ hz
theorem eE{x y:W2}(h:ml2 x y=ze2):x=ze2∨y=ze2:=by
 have e:=eY x y
 rw[h,Ip]at e
 rcases lp e.symm with h|h
 ·exact .inl (m5 h)
 ·exact .inr (m5 h)
/-! ### Powers -/
def pw2(x:W2)(n:Nat):W2:=R2.pw x n
theorem ov(x:W2)(n:Nat):pw2 x (n+1)=ml2 (pw2 x n) x:=rfl
theorem oV(x:W2)(m n:Nat):pw2 x (m+n)=ml2 (pw2 x m) (pw2 x n):=R2.pw_add x m n
theorem vk(x:W2)(m n:Nat):pw2 x (m*n)=pw2 (pw2 x m) n:=R2.pw_mul x m n
theorem EL(x y:W2)(n:Nat):pw2 (ml2 x y) n=ml2 (pw2 x n) (pw2 y n):=R2.mul_pw x y n
theorem pL(a:Zp):0*a=0:=by grind
theorem Cx:(0:Zp)+0=0:=by simp
theorem kA(a b:Zp):ml2 (a,0) (b,0)=(a*b,0):=a8 (by simp only[ml2];grind) (by simp only[ml2];rw[gD,pL,Cx])
theorem Ib(a b:Zp):ml2 (a,0) (0,b)=(0,a*b):=a8 (by simp only[ml2];rw[gD,pL];simp) (by simp only[ml2];grind)
theorem pC(a b:Zp):ml2 (0,a) (0,b)=(-(a*b),0):=a8 (by simp only[ml2];grind) (by simp only[ml2];rw[gD,pL,Cx])
theorem o8:(1:Zp)*1=1:=qv 1
theorem z_nn(a:Zp): -a* -a=a*a:=by grind
theorem sy(a:Zp): ∀n,pw2 (a,0) n=(a^n,0)
 |0=>a8 (p0 a).symm rfl
 |n+1=>by rw[ov,sy a n,kA,ps]
theorem Ot:pw2 (0,1) PP=(0,-1):=by
 have h1:pw2 (0,1) 1=(0,1):=R2.pw_one _
 have h2:pw2 (0,1) 2=(-1,0):=by rw[ov,h1,pC,o8]
 have h3:pw2 (0,1) 3=(0,-1):=by rw[ov,h2,Ib,qv]
 have h4:pw2 (0,1) 4=on2:=by rw[ov,h3,pC,qv,uu];rfl
 obtain ⟨k,hk⟩: ∃k,PP=4*k+3:=⟨PP / 4,by have:=pP;omega⟩
 have e:pw2 (0,1) PP=pw2 (0,1) (4*k+3):=congrArg (fun n=>pw2 (0,1) n) hk
 have h5:pw2 on2 k=on2:=R2.one_pw k
 rw[e,oV,vk,h4,h3,h5]
 exact R2.one_mul _
theorem BP(a:Zp):a^PP=a:=by
 by_cases h:a=0
 ·rw[h];exact Gp PQ
 ·have e:a^PP=a^(PP-1+1):=congrArg (fun n=>a^n) (show PQ+1=PQ+1-1+1 from rfl)
  rw[e,ps,fermat h];grind
theorem tH: ∀n,R2.nat n=(zp n,0)
 |0=>rfl
 |n+1=>by
  show ad2 (R2.nat n) on2=_
  rw[tH n]
  exact a8 (by simp only[ad2,on2];rw[fw,Nw]) Cx
theorem zY(x:W2):pw2 x PP=cj2 x:=by
 have e:x=ad2 (x.1,0) (ml2 (x.2,0) (0,1)):=a8 (by simp only[ad2,ml2];grind) (by simp only[ad2,ml2];grind)
 have hf:=R2.frob pr_p ((tH PP).trans (by rw[mG];rfl)) (x.1,0) (ml2 (x.2,0) (0,1))
 have h2:pw2 x PP=ad2 (pw2 (x.1,0) PP) (pw2 (ml2 (x.2,0) (0,1)) PP):=(congrArg (fun y=>pw2 y PP) e).trans hf
 rw[h2,EL,sy,sy,Ot,BP,BP]
 exact a8 (by simp only[ad2,ml2,cj2];grind) (by simp only[ad2,ml2,cj2];grind)
/-! ### Roots -/
theorem J7{x y:W2}(h:ml2 x x=ml2 y y):x=y∨x=ng2 y:=by
 have hk:ml2 (sb2 x y) (ad2 x y)=ze2:=by
  have h1:=congrArg Prod.fst h
  have h2:=congrArg Prod.snd h
  simp only[ml2]at h1 h2
  refine a8 ?_ ?_
  ·simp only[ml2,sb2,ad2,ze2];grind
  ·simp only[ml2,sb2,ad2,ze2];grind
 rcases eE hk with h|h
 ·left
  have h1:=congrArg Prod.fst h
  have h2:=congrArg Prod.snd h
  simp only[sb2,ze2]at h1 h2
  exact a8 (by grind) (by grind)
 ·right
  have h1:=congrArg Prod.fst h
  have h2:=congrArg Prod.snd h
  simp only[ad2,ze2]at h1 h2
  exact a8 (by simp only[ng2];grind) (by simp only[ng2];grind)
def LG2(x:W2):Bool:=if x.2=0 then decide (hf<x.1.val)else decide (hf<x.2.val)
theorem nV{a:Zp}(h:a≠0):decide (hf<(-a).val)= !decide (hf<a.val):=by
 have:=xH h
 cases h1:decide (hf<a.val)<;>cases h2:decide (hf<(-a).val)<;>rw[h1,h2]at this<;>first|rfl|cases this
theorem jO{a:Zp}: -a=0↔a=0:=⟨fun h=>by grind,fun h=>by rw[h];grind⟩
theorem u9{x:W2}(h:x≠ze2):LG2 (ng2 x)= !LG2 x:=by
 unfold LG2 ng2
 by_cases h2:x.2=0
 ·rw[if_pos (jO.2 h2),if_pos h2]
  exact nV fun e=>h (a8 e h2)
 ·rw[if_neg (fun e=>h2 (jO.1 e)),if_neg h2]
  exact nV h2
theorem Iw:LG2 ze2=false:=by decide+kernel
theorem AW:ng2 ze2=ze2:=a8 (by simp only[ng2,ze2];grind) (by simp only[ng2,ze2];grind)
theorem An(x:W2):ml2 (ng2 x) (ng2 x)=ml2 x x:=a8 (by simp only[ml2,ng2];grind) (by simp only[ml2,ng2];grind)
theorem wH{x y:W2}(h:ml2 x x=ml2 y y)(hx:LG2 x=false)(hy:LG2 y=false):x=y:=by
 rcases J7 h with e|e
 ·exact e
 ·by_cases h0:y=ze2
  ·rw[e,h0,AW]
  ·rw[e,u9 h0,hy]at hx;cases hx
def IsQ(a:Zp):Prop:=SQr a*SQr a=a
theorem qb{a s:Zp}(h:s*s=a):IsQ a:=by rw[←h];exact Kb s
theorem fU(a:Zp):IsQ a↔a=0∨a^hf=1:=by
 unfold IsQ
 rw[wx]
 constructor
 ·intro h
  by_cases h0:a=0
  ·exact .inl h0
  ·right
   have:(a^hf-1)*a=0:=by grind
   rcases lp this with h|h
   ·grind
   ·exact absurd h h0
 ·rintro (h|h)
  ·rw[h];grind
  ·rw[h];grind
theorem qi(a:Zp):IsQ a∨IsQ (-a):=by
 by_cases h:a=0
 ·exact .inl ((fU a).2 (.inl h))
 ·rcases uQ h with h1|h1
  ·exact .inl ((fU a).2 (.inr h1))
  ·right
   refine (fU (-a)).2 (.inr ?_)
   rw[ug,h1];grind
theorem km{a b c:Zp}(h:a*b= -(c*c))(hc:c≠0):(IsQ a∧¬IsQ b)∨(¬IsQ a∧IsQ b):=by
 have ha:a≠0:=fun e=>hc (xA (a:=0) (b:=c) (by rw[e]at h;grind))
 have hb:b≠0:=fun e=>hc (xA (a:=0) (b:=c) (by rw[e]at h;grind))
 have e:a^hf*b^hf= -1:=by rw[←EJ,h,ug,oM hc]
 rcases uQ ha with h1|h1
 ·left
  refine ⟨(fU a).2 (.inr h1),fun k=> ?_⟩
  rcases (fU b).1 k with k|k
  ·exact hb k
  ·rw[h1,k]at e;exact pV (by grind)
 ·right
  refine ⟨fun k=> ?_,(fU b).2 (.inr (by rw[h1]at e;grind))⟩
  rcases (fU a).1 k with k|k
  ·exact ha k
  ·rw[h1]at k;exact pV k.symm
theorem lj(a:Zp):IsQ (a*a):=qb rfl
theorem d9{x s:W2}(h:ml2 s s=x):IsQ (nm2 x):=by rw[←h,eY];exact lj _
theorem ku{x:W2}{n s t h2:Zp}(hn:n*n=nm2 x)(h2e:(1+1)*h2=1)(hs:s*s=(x.1+n)*h2∨s*s=(x.1-n)*h2)(ht:s*t=1):ml2 (s,x.2*h2*t) (s,x.2*h2*t)=x:=by
 have e:nm2 x=x.1*x.1+x.2*x.2:=rfl
 rw[e]at hn
 have key:s*s-x.2*h2*t*(x.2*h2*t)=x.1:=by
  have e1:x.2*h2*t*(x.2*h2*t)=(x.2*x.2)*(h2*h2)*(t*t):=by grind
  have e2:x.2*x.2=n*n-x.1*x.1:=by grind
  rcases hs with hs|hs
  ·have e3:(n*n-x.1*x.1)*(h2*h2)=s*s*((n-x.1)*h2):=by grind
   have e4:s*s*((n-x.1)*h2)*(t*t)=(n-x.1)*h2:=by
    have:s*s*(t*t)=1:=by grind
    grind
   rw[e1,e2,e3,e4,hs]
   grind
  ·have e3:(n*n-x.1*x.1)*(h2*h2)=s*s*(-(n+x.1)*h2):=by grind
   have e4:s*s*(-(n+x.1)*h2)*(t*t)= -(n+x.1)*h2:=by
    have:s*s*(t*t)=1:=by grind
    grind
   rw[e1,e2,e3,e4,hs]
   grind
 refine a8 key ?_
 simp only[ml2]
 have e5:s*(x.2*h2*t)+x.2*h2*t*s=x.2*((1+1)*h2)*(s*t):=by grind
 rw[e5,h2e,ht]
 grind
theorem vQ: ∃j:Zp,(1+1)*j=1:=⟨zp 2^(PP-2),by have h:=lz m3;rw[show (1+1:Zp)=zp 2 from zK.2.symm];exact h⟩
theorem vO{x:W2}{n j:Zp}(hn:n*n=nm2 x):((x.1+n)*j)*((x.1-n)*j)= -(x.2*j*(x.2*j)):=by
 have hn':n*n=x.1*x.1+x.2*x.2:=hn
 grind
theorem vi{x:W2}{j:Zp}(hj:(1+1)*j=1)(h2:x.2≠0):x.2*j≠0:=fun e=>by
 rcases lp e with e|e
 ·exact h2 e
 ·rw[e]at hj;exact lC (hj.symm.trans (gD _))
theorem vP{a b c:Zp}(h:a*b= -(c*c))(hc:c≠0):a≠0∧b≠0:=
 ⟨fun e=>hc (xA (a:=0) (b:=c) (by rw[e]at h;grind)),fun e=>hc (xA (a:=0) (b:=c) (by rw[e]at h;grind))⟩
theorem yi{a:Zp}(h:IsQ a)(h0:a≠0):SQr a≠0:=fun e=>h0 (by
 have h':SQr a*SQr a=a:=h
 rw[e,gD]at h'
 exact h'.symm)
theorem gw(x:W2):(∃s,ml2 s s=x)↔IsQ (nm2 x):=by
 refine ⟨fun ⟨s,h⟩=>d9 h,fun h=> ?_⟩
 by_cases h2:x.2=0
 ·rcases qi x.1 with hq|hq
  ·exact ⟨(SQr x.1,0),by rw[kA,show SQr x.1*SQr x.1=x.1 from hq];exact a8 rfl h2.symm⟩
  ·exact ⟨(0,SQr (-x.1)),by rw[pC,show SQr (-x.1)*SQr (-x.1)= -x.1 from hq,uu];exact a8 rfl h2.symm⟩
 ·obtain ⟨j,hj⟩:=vQ
  have hp:=vO (x:=x) (j:=j) (n:=SQr (nm2 x)) h
  have hb:=vi hj h2
  have hne:=vP hp hb
  rcases km hp hb with ⟨hq,_⟩|⟨_,hq⟩
  ·exact ⟨_,ku h hj (.inl hq) (lz (yi hq hne.1))⟩
  ·exact ⟨_,ku h hj (.inr hq) (lz (yi hq hne.2))⟩
end
section
/-! ### Equality, signs -/
theorem sN{x y:W2}(h:x.1=y.1):decide (x.2=y.2)=decide (x=y):=decide_eq_decide.2 ⟨fun h'=>a8 h h',fun h'=>by rw[h']⟩
theorem su{x y:W2}(h: ¬x.1=y.1):false=decide (x=y):=(decide_eq_false fun h'=>h (by rw[h'])).symm
def SG2(x:W2):Int:=if x.1.val % 2=1 then 1 else if x.1=0 then (if x.2.val % 2=1 then 1 else 0)else 0
/-! ### Powers by digits -/
def fe2(x:W2):List (BitVec 64):=fe x.1++fe x.2
theorem bY(x:W2):(fe2 x).length=12:=by rw[fe2,List.length_append,bp,bp]
def SP2(x:W2)(i:Nat):List (BitVec 64):=FM (fun j=>if j<i then fe2 (pw2 x j)else fe2 ze2) 16
theorem bX(x:W2)(i:Nat):(SP2 x i).length=192:=cH _ _
/-! ### Roots -/
theorem Me{a:Zp}(h: ¬hf<a.val):LG2 (a,0)=false:=by
 show (if (0:Zp)=0 then decide (hf<a.val)else decide (hf<(0:Zp).val))=false
 rw[if_pos rfl];exact decide_eq_false h
theorem KR{a:Zp}(h: ¬hf<a.val):LG2 (0,a)=false:=by
 show (if a=0 then decide (hf<(0:Zp).val)else decide (hf<a.val))=false
 split
 ·exact decide_eq_false (Nat.not_lt_zero _)
 ·exact decide_eq_false h
def RO(c:Zp):W2:=if SQr c*SQr c=c then (SQ c,0)else (0,SQ (-c))
theorem qc{c:Zp}(h: ¬SQr c*SQr c=c):SQr (-c)*SQr (-c)= -c:=(qi c).resolve_left h
theorem FN(c:Zp):ml2 (RO c) (RO c)=(c,0):=by
 unfold RO
 split
 ·rename_i h
  rw[kA,ig h]
 ·rename_i h
  rw[pC,ig (qc h),uu]
theorem y9(c:Zp):LG2 (RO c)=false:=by
 unfold RO
 split
 ·rename_i h
  exact Me (se h)
 ·rename_i h
  exact KR (se (qc h))
theorem rb_a{s t j a b n:Zp}(ht:t*t=s+s)(hj:t*j=1)(hs:s=a+n)(hn:n*n=a*a+b*b):s*j*(s*j)-b*j*(b*j)=a:=by
 have e:(s+s)*(j*j)=1:=by
  rw[←ht]
  have:t*t*(j*j)=(t*j)*(t*j):=by grind
  rw[this,hj,o8]
 have e2:s*s-b*b=(s+s)*a:=by
  subst hs
  grind
 have e3:s*j*(s*j)-b*j*(b*j)=(s*s-b*b)*(j*j):=by grind
 have e4:(s+s)*a*(j*j)=(s+s)*(j*j)*a:=by grind
 rw[e3,e2,e4,e]
 grind
theorem rb_b{s t j b:Zp}(ht:t*t=s+s)(hj:t*j=1):s*j*(b*j)+b*j*(s*j)=b:=by
 have e:(s+s)*(j*j)=1:=by
  rw[←ht]
  have:t*t*(j*j)=(t*j)*(t*j):=by grind
  rw[this,hj,o8]
 have e3:s*j*(b*j)+b*j*(s*j)=(s+s)*(j*j)*b:=by grind
 rw[e3,e]
 grind
theorem rb_c{s t j a b n:Zp}(ht:t*t= -(s+s))(hj:t*j=1)(hs:s=a+n)(hn:n*n=a*a+b*b):b*j*(b*j)- -s*j*(-s*j)=a:=by
 have e: -(s+s)*(j*j)=1:=by
  rw[←ht]
  have:t*t*(j*j)=(t*j)*(t*j):=by grind
  rw[this,hj,o8]
 have e2:b*b-s*s= -(s+s)*a:=by
  subst hs
  grind
 have e3:b*j*(b*j)- -s*j*(-s*j)=(b*b-s*s)*(j*j):=by grind
 have e4: -(s+s)*a*(j*j)= -(s+s)*(j*j)*a:=by grind
 rw[e3,e2,e4,e]
 grind
theorem rb_d{s t j b:Zp}(ht:t*t= -(s+s))(hj:t*j=1):b*j*(-s*j)+ -s*j*(b*j)=b:=by
 have e: -(s+s)*(j*j)=1:=by
  rw[←ht]
  have:t*t*(j*j)=(t*j)*(t*j):=by grind
  rw[this,hj,o8]
 have e3:b*j*(-s*j)+ -s*j*(b*j)= -(s+s)*(j*j)*b:=by grind
 rw[e3,e]
 grind
theorem HI{s:Zp}(h:s≠0):s+s≠0:=fun e=>by
 obtain ⟨j,hj⟩:=vQ
 have:s=(s+s)*j:=by
  have e1:(s+s)*j=s*((1+1)*j):=by grind
  rw[e1,hj,qv]
 rw[e,pL]at this
 exact h this
theorem HS{a b n:Zp}(hn:n*n=a*a+b*b)(hb:b≠0):a+n≠0:=fun e=>by
 have:b*b=(a+n)*(n-a):=by grind
 rw[e,pL]at this
 exact hb ((lp this).elim id id)
theorem ut{a t:Zp}(h:t*t=a)(ha:a≠0):t≠0:=fun e=>ha (by rw[←h,e,gD])
def RBs(x:W2)(n:Zp):Zp:=x.1+n+(x.1+n)
def RB(x:W2)(n:Zp):W2:=
 if SQr (RBs x n)*SQr (RBs x n)=RBs x n then ((x.1+n)*SQ (RBs x n)^(PP-2),x.2*SQ (RBs x n)^(PP-2))
 else (x.2*SQ (-RBs x n)^(PP-2),-(x.1+n)*SQ (-RBs x n)^(PP-2))
theorem Na{x:W2}{n:Zp}(hn:n*n=nm2 x)(h2:x.2≠0):ml2 (RB x n) (RB x n)=x:=by
 have hd:RBs x n≠0:=HI (HS hn h2)
 have hm: -RBs x n≠0:=fun e=>hd (jO.1 e)
 unfold RB
 split
 ·rename_i h
  have e:=ig h
  have hj:=lz (ut e hd)
  generalize SQ (RBs x n)^(PP-2)=j at*
  generalize SQ (RBs x n)=t at*
  exact a8 (rb_a e hj rfl hn) (rb_b e hj)
 ·rename_i h
  have e:=ig (qc h)
  have hj:=lz (ut e hm)
  generalize SQ (-RBs x n)^(PP-2)=j at*
  generalize SQ (-RBs x n)=t at*
  exact a8 (rb_c e hj rfl hn) (rb_d e hj)
def RF(x:W2)(n h:Zp):W2:=
 if SQr ((x.1+n)*h)*SQr ((x.1+n)*h)=(x.1+n)*h then (SQ ((x.1+n)*h),x.2*h*SQ ((x.1+n)*h)^(PP-2))
 else (SQ ((x.1-n)*h),x.2*h*SQ ((x.1-n)*h)^(PP-2))
theorem rK{x:W2}{n h:Zp}(hn:n*n=nm2 x)(hh:(1+1)*h=1)(h2:x.2≠0):ml2 (RF x n h) (RF x n h)=x:=by
 have hs:=vO (j:=h) hn
 have hc:=vi hh h2
 have hne:=vP hs hc
 have hq:=km hs hc
 unfold RF
 split
 ·rename_i q
  have e:=ig q
  exact ku hn hh (.inl e) (lz (ut e hne.1))
 ·rename_i q
  have q2:IsQ ((x.1-n)*h):=by
   rcases hq with ⟨a,_⟩|⟨_,b⟩
   ·exact absurd a q
   ·exact b
  have e:=ig q2
  exact ku hn hh (.inr e) (lz (ut e hne.2))
def NL(x:W2):W2:=if LG2 x=true then ng2 x else x
theorem vY(x:W2):ml2 (NL x) (NL x)=ml2 x x:=by
 unfold NL
 split
 ·exact An x
 ·rfl
theorem ko(x:W2):LG2 (NL x)=false:=by
 unfold NL
 split
 ·rename_i h
  have hx:x≠ze2:=fun e=>by rw[e,Iw]at h;cases h
  rw[u9 hx,h];rfl
 ·rename_i h
  exact Bool.eq_false_iff.2 h
theorem i3{x r q:W2}(hr:ml2 r r=x)(hl:LG2 r=false)(hq:ml2 q q=x)(hl':LG2 q=false):q=r:=wH (hq.trans hr.symm) hl' hl
theorem pG{x r:W2}(hr:ml2 r r=x)(hl:LG2 r=false)(h:x.2=0):RO x.1=r:=i3 hr hl ((FN x.1).trans (a8 rfl h.symm)) (y9 _)
theorem uK{x r:W2}(hr:ml2 r r=x)(hl:LG2 r=false)(h:x.2≠0):NL (RB x (SQ (nm2 x)))=r:=i3 hr hl ((vY _).trans (Na (ig (d9 hr)) h)) (ko _)
theorem lQ{x r:W2}{j:Zp}(hr:ml2 r r=x)(hl:LG2 r=false)(hj:(1+1)*j=1)(h:x.2≠0):NL (RF x (SQ (nm2 x)) j)=r:=i3 hr hl ((vY _).trans (rK (ig (d9 hr)) hj h)) (ko _)
theorem FP{x:W2}(h: ¬IsQ (nm2 x)):x.2≠0:=fun e=>h ((gw x).1 ⟨RO x.1,(FN x.1).trans (a8 rfl e.symm)⟩)
theorem fb:(1+1)*zp 2^(PP-2)=(1:Zp):=by
 have h:=lz m3
 rw[show (1+1:Zp)=zp 2 from zK.2.symm];exact h
end
section
def XI:W2:=(1,1)
abbrev W6:=W2×W2×W2
def K6:Rg W6:=Rg.cub R2 XI
def VV:W6:=(ze2,on2,ze2)
abbrev W12:=W6×W6
def K12:Rg W12:=Rg.quad K6 VV
theorem fd2:Fd R2:=fun a h=>⟨iv2 a,cr h⟩
theorem wp(a:Nat): ∀n:Nat,zp a^n=zp (a^n)
 |0=>p0 _
 |n+1=>by rw[ps,wp a n,Nat.pow_succ,gc]
theorem BE(a n f:Nat)(h:n<2^f):zp a^n=zp (pm a PP f n):=by rw[uR _ _ _ _ h,oW,wp]
theorem Bj{k n:Nat}(hk:R6=2^k)(h:n<PP):n<2^k:=hk▸Nat.lt_trans h qH
def th:Nat:=(PP-1) / 3
def sx:Nat:=(PP-1) / 6
theorem AO:3*th=PP-1:=by decide+kernel
theorem sx_val:6*sx+1=PP:=by decide+kernel
theorem u2{n:Nat}(h:zp n=1)(hn:n<PP):n=1:=by
 have:=congrArg Fin.val h
 rw[dU,Nat.mod_eq_of_lt hn,show (1:Zp).val=1 % PP from rfl,Nat.mod_eq_of_lt pr_p.1]at this
 exact this
theorem FA:pm 2 PP (64*6) th≠1∧pm 2 PP (64*6) th<PP:=by decide+kernel
theorem Gj:pm 2 PP (64*6) hf≠1∧pm 2 PP (64*6) hf<PP:=by decide+kernel
theorem JB:zp 2^th≠1:=fun h=>by
 rw[BE 2 th (64*6) (Bj dH (by have:=AO;have:=jy;omega))]at h
 exact FA.1 (u2 h FA.2)
theorem xT:zp 2^hf≠1:=fun h=>by
 rw[BE 2 hf (64*6) (Bj dH (by have:=jt;have:=jy;omega))]at h
 exact Gj.1 (u2 h Gj.2)
theorem BJ:nm2 XI=zp 2:=by
 simp only[nm2,XI];rw[o8];exact zK.2.symm
theorem vR(s:W2):R2.mul s (R2.mul s s)≠XI:=fun h=>by
 have e:nm2 s*(nm2 s*nm2 s)=zp 2:=by rw[←eY,←eY,←BJ];exact congrArg nm2 h
 have e3:nm2 s^3=zp 2:=by rw[←e];grind
 have hn:nm2 s≠0:=fun h0=>m3 (by rw[←e,h0,gD,gD])
 exact JB (by rw[←e3,←x7,AO,fermat hn])
theorem L6(s:W2):R2.mul s s≠XI:=fun h=>by
 have e:IsQ (zp 2):=by rw[←BJ];exact d9 h
 rcases (fU _).1 e with h|h
 ·exact m3 h
 ·exact xT h
theorem fd6:Fd K6:=Hv fd2 vR
theorem KI:cnm R2 XI VV=XI:=by decide+kernel
theorem I2(s:W6):K6.mul s s≠VV:=fun h=>by
 have e:=Dk R2 XI s s
 rw[show yT R2 XI s s=VV from h,KI]at e
 exact L6 _ e.symm
/-! ### The power of p -/
theorem DS:K12.nat PP=K12.zero:=by
 have e2:R2.nat PP=R2.zero:=(tH PP).trans (by rw[mG];rfl)
 have e6:K6.nat PP=K6.zero:=(Dy (R:=R2) (z:=XI) PP).trans (by rw[e2];rfl)
 exact (BF (R:=K6) (z:=VV) PP).trans (by rw[e6];rfl)
theorem gv(x y:W12):K12.pw (K12.add x y) PP=K12.add (K12.pw x PP) (K12.pw y PP):=K12.frob pr_p DS x y
def em(c:W2):W12:=((c,ze2,ze2),(ze2,ze2,ze2))
def wk(k:Nat):W12:=K12.pw ((ze2,ze2,ze2),(on2,ze2,ze2)) k
theorem dY(a b:W2):K12.mul (em a) (em b)=em (ml2 a b):=Prod.ext (Prod.ext (zq R2 [a,b,XI] (ta (ta (tm j0 j1) (tm j2 (ta (tm tz0 tz0) (tm tz0 tz0)))) (ta (tm tz0 (ta (tm tz0 tz0) (tm j2 (ta (tm tz0 tz0) (tm tz0 tz0))))) (tm j2 (ta (tm to1 (ta (ta (tm tz0 tz0) (tm tz0 tz0)) (tm tz0 tz0))) (tm tz0 (ta (ta (tm tz0 tz0) (tm tz0 tz0)) (tm j2 (tm tz0 tz0)))))))) (tm j0 j1)) (Prod.ext (zq R2 [a,b,XI] (ta (ta (ta (tm j0 tz0) (tm tz0 j1)) (tm j2 (tm tz0 tz0))) (ta (ta (tm tz0 (ta (ta (tm tz0 tz0) (tm tz0 tz0)) (tm j2 (tm tz0 tz0)))) (tm to1 (ta (tm tz0 tz0) (tm j2 (ta (tm tz0 tz0) (tm tz0 tz0)))))) (tm j2 (tm tz0 (ta (ta (tm tz0 tz0) (tm tz0 tz0)) (tm tz0 tz0)))))) tz0) (zq R2 [a,b,XI] (ta (ta (ta (tm j0 tz0) (tm tz0 tz0)) (tm tz0 j1)) (ta (ta (tm tz0 (ta (ta (tm tz0 tz0) (tm tz0 tz0)) (tm tz0 tz0))) (tm to1 (ta (ta (tm tz0 tz0) (tm tz0 tz0)) (tm j2 (tm tz0 tz0))))) (tm tz0 (ta (tm tz0 tz0) (tm j2 (ta (tm tz0 tz0) (tm tz0 tz0))))))) tz0))) (Prod.ext (zq R2 [a,b,XI] (ta (ta (tm j0 tz0) (tm j2 (ta (tm tz0 tz0) (tm tz0 tz0)))) (ta (tm tz0 j1) (tm j2 (ta (tm tz0 tz0) (tm tz0 tz0))))) tz0) (Prod.ext (zq R2 [a,b,XI] (ta (ta (ta (tm j0 tz0) (tm tz0 tz0)) (tm j2 (tm tz0 tz0))) (ta (ta (tm tz0 tz0) (tm tz0 j1)) (tm j2 (tm tz0 tz0)))) tz0) (zq R2 [a,b,XI] (ta (ta (ta (tm j0 tz0) (tm tz0 tz0)) (tm tz0 tz0)) (ta (ta (tm tz0 tz0) (tm tz0 tz0)) (tm tz0 j1))) tz0)))
theorem q7(c:W2): ∀n,K12.pw (em c) n=em (pw2 c n)
 |0=>rfl
 |n+1=>by
  rw[Rg.pw,q7 c n,dY,ov]
theorem wk0:wk 0=((on2,ze2,ze2),(ze2,ze2,ze2)):=by decide+kernel
theorem wk1:wk 1=((ze2,ze2,ze2),(on2,ze2,ze2)):=by decide+kernel
theorem wk2:wk 2=((ze2,on2,ze2),(ze2,ze2,ze2)):=by decide+kernel
theorem wk3:wk 3=((ze2,ze2,ze2),(ze2,on2,ze2)):=by decide+kernel
theorem wk4:wk 4=((ze2,ze2,on2),(ze2,ze2,ze2)):=by decide+kernel
theorem wk5:wk 5=((ze2,ze2,ze2),(ze2,ze2,on2)):=by decide+kernel
theorem wk6:wk 6=em XI:=by decide+kernel
theorem oe(c0 c1 c2 c3 c4 c5:W2):K12.add (K12.add (K12.add (K12.add (K12.add (K12.mul (em c0) (wk 0)) (K12.mul (em c1) (wk 1))) (K12.mul (em c2) (wk 2))) (K12.mul (em c3) (wk 3))) (K12.mul (em c4) (wk 4))) (K12.mul (em c5) (wk 5))=((c0,c2,c4),(c1,c3,c5)):=by
 rw[wk0,wk1,wk2,wk3,wk4,wk5]
 exact Prod.ext (Prod.ext (zq R2 [c0,c1,c2,c3,c4,c5,XI] (ta (ta (ta (ta (ta (ta (ta (tm j0 to1) (tm j6 (ta (tm tz0 tz0) (tm tz0 tz0)))) (ta (tm tz0 (ta (tm tz0 tz0) (tm j6 (ta (tm tz0 tz0) (tm tz0 tz0))))) (tm j6 (ta (tm to1 (ta (ta (tm tz0 tz0) (tm tz0 tz0)) (tm tz0 tz0))) (tm tz0 (ta (ta (tm tz0 tz0) (tm tz0 tz0)) (tm j6 (tm tz0 tz0)))))))) (ta (ta (tm j1 tz0) (tm j6 (ta (tm tz0 tz0) (tm tz0 tz0)))) (ta (tm tz0 (ta (tm tz0 to1) (tm j6 (ta (tm tz0 tz0) (tm tz0 tz0))))) (tm j6 (ta (tm to1 (ta (ta (tm tz0 tz0) (tm tz0 tz0)) (tm tz0 to1))) (tm tz0 (ta (ta (tm tz0 tz0) (tm tz0 to1)) (tm j6 (tm tz0 tz0))))))))) (ta (ta (tm j2 tz0) (tm j6 (ta (tm tz0 tz0) (tm tz0 to1)))) (ta (tm tz0 (ta (tm tz0 tz0) (tm j6 (ta (tm tz0 tz0) (tm tz0 tz0))))) (tm j6 (ta (tm to1 (ta (ta (tm tz0 tz0) (tm tz0 tz0)) (tm tz0 tz0))) (tm tz0 (ta (ta (tm tz0 tz0) (tm tz0 tz0)) (tm j6 (tm tz0 tz0))))))))) (ta (ta (tm j3 tz0) (tm j6 (ta (tm tz0 tz0) (tm tz0 tz0)))) (ta (tm tz0 (ta (tm tz0 tz0) (tm j6 (ta (tm tz0 tz0) (tm tz0 to1))))) (tm j6 (ta (tm to1 (ta (ta (tm tz0 tz0) (tm tz0 to1)) (tm tz0 tz0))) (tm tz0 (ta (ta (tm tz0 to1) (tm tz0 tz0)) (tm j6 (tm tz0 tz0))))))))) (ta (ta (tm j4 tz0) (tm j6 (ta (tm tz0 to1) (tm tz0 tz0)))) (ta (tm tz0 (ta (tm tz0 tz0) (tm j6 (ta (tm tz0 tz0) (tm tz0 tz0))))) (tm j6 (ta (tm to1 (ta (ta (tm tz0 tz0) (tm tz0 tz0)) (tm tz0 tz0))) (tm tz0 (ta (ta (tm tz0 tz0) (tm tz0 tz0)) (tm j6 (tm tz0 tz0))))))))) (ta (ta (tm j5 tz0) (tm j6 (ta (tm tz0 tz0) (tm tz0 tz0)))) (ta (tm tz0 (ta (tm tz0 tz0) (tm j6 (ta (tm tz0 to1) (tm tz0 tz0))))) (tm j6 (ta (tm to1 (ta (ta (tm tz0 to1) (tm tz0 tz0)) (tm tz0 tz0))) (tm tz0 (ta (ta (tm tz0 tz0) (tm tz0 tz0)) (tm j6 (tm tz0 to1))))))))) j0) (Prod.ext (zq R2 [c0,c1,c2,c3,c4,c5,XI] (ta (ta (ta (ta (ta (ta (ta (ta (tm j0 tz0) (tm tz0 to1)) (tm j6 (tm tz0 tz0))) (ta (ta (tm tz0 (ta (ta (tm tz0 tz0) (tm tz0 tz0)) (tm j6 (tm tz0 tz0)))) (tm to1 (ta (tm tz0 tz0) (tm j6 (ta (tm tz0 tz0) (tm tz0 tz0)))))) (tm j6 (tm tz0 (ta (ta (tm tz0 tz0) (tm tz0 tz0)) (tm tz0 tz0)))))) (ta (ta (ta (tm j1 tz0) (tm tz0 tz0)) (tm j6 (tm tz0 tz0))) (ta (ta (tm tz0 (ta (ta (tm tz0 tz0) (tm tz0 to1)) (tm j6 (tm tz0 tz0)))) (tm to1 (ta (tm tz0 to1) (tm j6 (ta (tm tz0 tz0) (tm tz0 tz0)))))) (tm j6 (tm tz0 (ta (ta (tm tz0 tz0) (tm tz0 tz0)) (tm tz0 to1))))))) (ta (ta (ta (tm j2 to1) (tm tz0 tz0)) (tm j6 (tm tz0 tz0))) (ta (ta (tm tz0 (ta (ta (tm tz0 tz0) (tm tz0 tz0)) (tm j6 (tm tz0 tz0)))) (tm to1 (ta (tm tz0 tz0) (tm j6 (ta (tm tz0 tz0) (tm tz0 tz0)))))) (tm j6 (tm tz0 (ta (ta (tm tz0 tz0) (tm tz0 tz0)) (tm tz0 tz0))))))) (ta (ta (ta (tm j3 tz0) (tm tz0 tz0)) (tm j6 (tm tz0 tz0))) (ta (ta (tm tz0 (ta (ta (tm tz0 to1) (tm tz0 tz0)) (tm j6 (tm tz0 tz0)))) (tm to1 (ta (tm tz0 tz0) (tm j6 (ta (tm tz0 tz0) (tm tz0 to1)))))) (tm j6 (tm tz0 (ta (ta (tm tz0 tz0) (tm tz0 to1)) (tm tz0 tz0))))))) (ta (ta (ta (tm j4 tz0) (tm tz0 tz0)) (tm j6 (tm tz0 to1))) (ta (ta (tm tz0 (ta (ta (tm tz0 tz0) (tm tz0 tz0)) (tm j6 (tm tz0 tz0)))) (tm to1 (ta (tm tz0 tz0) (tm j6 (ta (tm tz0 tz0) (tm tz0 tz0)))))) (tm j6 (tm tz0 (ta (ta (tm tz0 tz0) (tm tz0 tz0)) (tm tz0 tz0))))))) (ta (ta (ta (tm j5 tz0) (tm tz0 tz0)) (tm j6 (tm tz0 tz0))) (ta (ta (tm tz0 (ta (ta (tm tz0 tz0) (tm tz0 tz0)) (tm j6 (tm tz0 to1)))) (tm to1 (ta (tm tz0 tz0) (tm j6 (ta (tm tz0 to1) (tm tz0 tz0)))))) (tm j6 (tm tz0 (ta (ta (tm tz0 to1) (tm tz0 tz0)) (tm tz0 tz0))))))) j2) (zq R2 [c0,c1,c2,c3,c4,c5,XI] (ta (ta (ta (ta (ta (ta (ta (ta (tm j0 tz0) (tm tz0 tz0)) (tm tz0 to1)) (ta (ta (tm tz0 (ta (ta (tm tz0 tz0) (tm tz0 tz0)) (tm tz0 tz0))) (tm to1 (ta (ta (tm tz0 tz0) (tm tz0 tz0)) (tm j6 (tm tz0 tz0))))) (tm tz0 (ta (tm tz0 tz0) (tm j6 (ta (tm tz0 tz0) (tm tz0 tz0))))))) (ta (ta (ta (tm j1 tz0) (tm tz0 tz0)) (tm tz0 tz0)) (ta (ta (tm tz0 (ta (ta (tm tz0 tz0) (tm tz0 tz0)) (tm tz0 to1))) (tm to1 (ta (ta (tm tz0 tz0) (tm tz0 to1)) (tm j6 (tm tz0 tz0))))) (tm tz0 (ta (tm tz0 to1) (tm j6 (ta (tm tz0 tz0) (tm tz0 tz0)))))))) (ta (ta (ta (tm j2 tz0) (tm tz0 to1)) (tm tz0 tz0)) (ta (ta (tm tz0 (ta (ta (tm tz0 tz0) (tm tz0 tz0)) (tm tz0 tz0))) (tm to1 (ta (ta (tm tz0 tz0) (tm tz0 tz0)) (tm j6 (tm tz0 tz0))))) (tm tz0 (ta (tm tz0 tz0) (tm j6 (ta (tm tz0 tz0) (tm tz0 tz0)))))))) (ta (ta (ta (tm j3 tz0) (tm tz0 tz0)) (tm tz0 tz0)) (ta (ta (tm tz0 (ta (ta (tm tz0 tz0) (tm tz0 to1)) (tm tz0 tz0))) (tm to1 (ta (ta (tm tz0 to1) (tm tz0 tz0)) (tm j6 (tm tz0 tz0))))) (tm tz0 (ta (tm tz0 tz0) (tm j6 (ta (tm tz0 tz0) (tm tz0 to1)))))))) (ta (ta (ta (tm j4 to1) (tm tz0 tz0)) (tm tz0 tz0)) (ta (ta (tm tz0 (ta (ta (tm tz0 tz0) (tm tz0 tz0)) (tm tz0 tz0))) (tm to1 (ta (ta (tm tz0 tz0) (tm tz0 tz0)) (tm j6 (tm tz0 tz0))))) (tm tz0 (ta (tm tz0 tz0) (tm j6 (ta (tm tz0 tz0) (tm tz0 tz0)))))))) (ta (ta (ta (tm j5 tz0) (tm tz0 tz0)) (tm tz0 tz0)) (ta (ta (tm tz0 (ta (ta (tm tz0 to1) (tm tz0 tz0)) (tm tz0 tz0))) (tm to1 (ta (ta (tm tz0 tz0) (tm tz0 tz0)) (tm j6 (tm tz0 to1))))) (tm tz0 (ta (tm tz0 tz0) (tm j6 (ta (tm tz0 to1) (tm tz0 tz0)))))))) j4))) (Prod.ext (zq R2 [c0,c1,c2,c3,c4,c5,XI] (ta (ta (ta (ta (ta (ta (ta (tm j0 tz0) (tm j6 (ta (tm tz0 tz0) (tm tz0 tz0)))) (ta (tm tz0 to1) (tm j6 (ta (tm tz0 tz0) (tm tz0 tz0))))) (ta (ta (tm j1 to1) (tm j6 (ta (tm tz0 tz0) (tm tz0 tz0)))) (ta (tm tz0 tz0) (tm j6 (ta (tm tz0 tz0) (tm tz0 tz0)))))) (ta (ta (tm j2 tz0) (tm j6 (ta (tm tz0 tz0) (tm tz0 tz0)))) (ta (tm tz0 tz0) (tm j6 (ta (tm tz0 tz0) (tm tz0 to1)))))) (ta (ta (tm j3 tz0) (tm j6 (ta (tm tz0 tz0) (tm tz0 to1)))) (ta (tm tz0 tz0) (tm j6 (ta (tm tz0 tz0) (tm tz0 tz0)))))) (ta (ta (tm j4 tz0) (tm j6 (ta (tm tz0 tz0) (tm tz0 tz0)))) (ta (tm tz0 tz0) (tm j6 (ta (tm tz0 to1) (tm tz0 tz0)))))) (ta (ta (tm j5 tz0) (tm j6 (ta (tm tz0 to1) (tm tz0 tz0)))) (ta (tm tz0 tz0) (tm j6 (ta (tm tz0 tz0) (tm tz0 tz0)))))) j1) (Prod.ext (zq R2 [c0,c1,c2,c3,c4,c5,XI] (ta (ta (ta (ta (ta (ta (ta (ta (tm j0 tz0) (tm tz0 tz0)) (tm j6 (tm tz0 tz0))) (ta (ta (tm tz0 tz0) (tm tz0 to1)) (tm j6 (tm tz0 tz0)))) (ta (ta (ta (tm j1 tz0) (tm tz0 to1)) (tm j6 (tm tz0 tz0))) (ta (ta (tm tz0 tz0) (tm tz0 tz0)) (tm j6 (tm tz0 tz0))))) (ta (ta (ta (tm j2 tz0) (tm tz0 tz0)) (tm j6 (tm tz0 tz0))) (ta (ta (tm tz0 to1) (tm tz0 tz0)) (tm j6 (tm tz0 tz0))))) (ta (ta (ta (tm j3 to1) (tm tz0 tz0)) (tm j6 (tm tz0 tz0))) (ta (ta (tm tz0 tz0) (tm tz0 tz0)) (tm j6 (tm tz0 tz0))))) (ta (ta (ta (tm j4 tz0) (tm tz0 tz0)) (tm j6 (tm tz0 tz0))) (ta (ta (tm tz0 tz0) (tm tz0 tz0)) (tm j6 (tm tz0 to1))))) (ta (ta (ta (tm j5 tz0) (tm tz0 tz0)) (tm j6 (tm tz0 to1))) (ta (ta (tm tz0 tz0) (tm tz0 tz0)) (tm j6 (tm tz0 tz0))))) j3) (zq R2 [c0,c1,c2,c3,c4,c5,XI] (ta (ta (ta (ta (ta (ta (ta (ta (tm j0 tz0) (tm tz0 tz0)) (tm tz0 tz0)) (ta (ta (tm tz0 tz0) (tm tz0 tz0)) (tm tz0 to1))) (ta (ta (ta (tm j1 tz0) (tm tz0 tz0)) (tm tz0 to1)) (ta (ta (tm tz0 tz0) (tm tz0 tz0)) (tm tz0 tz0)))) (ta (ta (ta (tm j2 tz0) (tm tz0 tz0)) (tm tz0 tz0)) (ta (ta (tm tz0 tz0) (tm tz0 to1)) (tm tz0 tz0)))) (ta (ta (ta (tm j3 tz0) (tm tz0 to1)) (tm tz0 tz0)) (ta (ta (tm tz0 tz0) (tm tz0 tz0)) (tm tz0 tz0)))) (ta (ta (ta (tm j4 tz0) (tm tz0 tz0)) (tm tz0 tz0)) (ta (ta (tm tz0 to1) (tm tz0 tz0)) (tm tz0 tz0)))) (ta (ta (ta (tm j5 to1) (tm tz0 tz0)) (tm tz0 tz0)) (ta (ta (tm tz0 tz0) (tm tz0 tz0)) (tm tz0 tz0)))) j5)))
def GA:W2:=pw2 XI sx
theorem FK:K12.pw (wk 1) PP=K12.mul (em GA) (wk 1):=by
 have e:K12.pw (wk 1) PP=K12.pw (wk 1) (6*sx+1):=congrArg (fun n=>K12.pw (wk 1) n) sx_val.symm
 have e1:wk 1=((ze2,ze2,ze2),(on2,ze2,ze2)):=wk1
 have e6:K12.pw (wk 1) 6=em XI:=by rw[e1];exact wk6
 rw[e,K12.pw_add,K12.pw_mul,e6,q7,K12.pw_one];rfl
theorem L5(k:Nat):K12.pw (wk k) PP=K12.mul (em (pw2 GA k)) (wk k):=by
 have e1:wk 1=((ze2,ze2,ze2),(on2,ze2,ze2)):=wk1
 have e:wk k=K12.pw (wk 1) k:=by rw[e1];rfl
 rw[e,←K12.pw_mul,Nat.mul_comm,K12.pw_mul,FK,K12.mul_pw,q7]
theorem iT(c:W2)(k:Nat):K12.pw (K12.mul (em c) (wk k)) PP=K12.mul (em (ml2 (cj2 c) (pw2 GA k))) (wk k):=by
 rw[K12.mul_pw,q7,zY,L5,←K12.mul_assoc,dY]
def c8(x:W12):W12:=((ml2 (cj2 x.1.1) (pw2 GA 0),ml2 (cj2 x.1.2.1) (pw2 GA 2),ml2 (cj2 x.1.2.2) (pw2 GA 4)),(ml2 (cj2 x.2.1) (pw2 GA 1),ml2 (cj2 x.2.2.1) (pw2 GA 3),ml2 (cj2 x.2.2.2) (pw2 GA 5)))
theorem fu(x:W12):K12.pw x PP=c8 x:=by
 have h:=oe x.1.1 x.2.1 x.1.2.1 x.2.2.1 x.1.2.2 x.2.2.2
 have e:K12.pw x PP=K12.pw ((x.1.1,x.1.2.1,x.1.2.2),(x.2.1,x.2.2.1,x.2.2.2)) PP:=rfl
 rw[e,←h,gv,gv,gv,gv,gv,iT,iT,iT,iT,iT,iT,oe]
 rfl
/-! ### Six parts, as the reference multiplies them -/
theorem txi{ρ:Nat→W2}{p:Po}{a:W2}(k:Nat)(ha:R2.d ρ p=a)(hk:ρ k=XI):R2.d ρ (wA p (pv k))=xi2 a:=by rw[R2.d_mul,ha,R2.d_var,hk];exact (Ic a).symm
theorem tsb{ρ:Nat→W2}{p q:Po}{a b:W2}(ha:R2.d ρ p=a)(hb:R2.d ρ q=b):R2.d ρ (ot p (uZ q))=sb2 a b:=by rw[R2.d_add,R2.d_neg,ha,hb,sW];rfl
end
section
section
variable {α:Type} [DecidableEq α] (C:Ec α)
def Ec.jm(J:α×α×α):List Bool→α×α×α→α×α×α
 |[],A=>A
 |b::r,A=>Ec.jm J r (if b then C.jaF (C.jdF A) J else C.jdF A)
def jf:List Bool→Nat→Nat
 |[],n=>n
 |b::r,n=>jf r (2*n+(if b then 1 else 0))
theorem Ec.jr_m{J:α×α×α}{P:Pt α}(hP:C.onP P)(h:C.jr J P): ∀(l:List Bool) (A:α×α×α) (n:Nat),C.jr A (C.times P n)→C.jr (C.jm J l A) (C.times P (jf l n))
 |[],_,_,hA=>hA
 |b::r,A,n,hA=>by
  have hd:=C.jr_d (C.times_on hP n) hA
  rw[←C.times_add hP,←Nat.two_mul]at hd
  cases b with
  |false=>exact Ec.jr_m hP h r _ _ hd
  |true=>
   have ha:=C.jr_a (C.times_on hP (2*n)) hP hd h
   exact Ec.jr_m hP h r _ (2*n+1) ha
end
/-! ### Over p -/
def RZp:Rg Zp where
 zero:=0
 one:=1
 add:=fun a b=>a+b
 mul:=fun a b=>a*b
 neg:=fun a=> -a
 add_assoc:=fun a b c=>by grind
 add_comm:=fun a b=>by grind
 add_zero:=fun a=>by grind
 add_neg:=fun a=>by grind
 mul_assoc:=fun a b c=>by grind
 mul_comm:=fun a b=>by grind
 mul_one:=fun a=>by grind
 mul_add:=fun a b c=>by grind
def E1:Ec Zp where
 R:=RZp
 iv:=fun a=>a^(PP-2)
 b:=zp 4
 hi:=fun _ h=>lz h
 h2:=by decide+kernel
 h3:=by decide+kernel
 hb:=by decide+kernel
def E2w:Ec W2 where
 R:=R2
 iv:=iv2
 b:=(zp 4,zp 4)
 hi:=fun _ h=>cr h
 h2:=by decide+kernel
 h3:=by decide+kernel
 hb:=by decide+kernel
def G1x:Nat:=0x17f1d3a73197d7942695638c4fa9ac0fc3688c4f9774b905a14e3a3f171bac586c55e83ff97a1aeffb3af00adb22c6bb
def G1y:Nat:=0x8b3f481e3aaa0f1a09e30ed741d8ae4fcf5e095d5d00af600db18cb2c04b3edd03cc744a2888ae40caa232946c5e7e1
def G1p:Zp×Zp:=(zp G1x,zp G1y)
theorem BX:E1.on G1p:=by
 unfold Ec.on
 decide+kernel
def ORD:Nat:=0x73eda753299d7d483339d80809a1d80553bda402fffe5bfeffffffff00000001
def dg:Nat→Nat→List Bool→List Bool
 |0,_,l=>l
 |f+1,n,l=>dg f (n / 2) ((n % 2==1)::l)
theorem vg:jf (dg 255 ORD []) 0=ORD:=by decide+kernel
theorem g1_z:(E1.jm (zp G1x,zp G1y,1) (dg 255 ORD []) (0,0,0)).2.2=0:=by decide+kernel
theorem Gs:E1.jr (zp G1x,zp G1y,1) (some G1p):=⟨lC,by decide+kernel,by decide+kernel⟩
theorem DI{α:Type}(C:Ec α){J:α×α×α}{P:Pt α}(h:C.jr J P)(hz:J.2.2=C.R.zero):P=none:=by
 cases P with
 |none=>rfl
 |some p=>exact absurd hz h.1
theorem vS{α:Type} [DecidableEq α](C:Ec α){J:α×α×α}{P:Pt α}(hP:C.onP P)(h:C.jr J P)(l:List Bool){n:Nat}(hn:jf l 0=n)(hz:(C.jm J l (C.R.zero,C.R.zero,C.R.zero)).2.2=C.R.zero):C.times P n=none:=by
 have k:=C.jr_m hP h l (C.R.zero,C.R.zero,C.R.zero) 0 (show C.R.zero=C.R.zero from rfl)
 rw[hn]at k
 exact DI C k hz
theorem rc:E1.times (some G1p) ORD=none:=vS E1 (P:=some G1p) BX Gs (dg 255 ORD []) vg g1_z
end
section
structure Em{α β:Type}(C:Ec α)(D:Ec β) where
 f:α→β
 h0:f C.R.zero=D.R.zero
 ha: ∀a b,f (C.R.add a b)=D.R.add (f a) (f b)
 hm: ∀a b,f (C.R.mul a b)=D.R.mul (f a) (f b)
 hn: ∀a,f (C.R.neg a)=D.R.neg (f a)
 hi: ∀a b,f a=f b→a=b
 hb:f C.b=D.b
section
variable {α β:Type} {C:Ec α} {D:Ec β} (e:Em C D)
def Em.q(p:α×α):β×β:=(e.f p.1,e.f p.2)
def Em.p:Pt α→Pt β
 |none=>none
 |some p=>some (e.q p)
theorem Em.sub(a b:α):e.f (C.sub a b)=D.sub (e.f a) (e.f b):=by rw[Ec.sub,Ec.sub,e.ha,e.hn]
theorem Em.on{p:α×α}(h:C.on p):D.on (e.q p):=by
 have:=congrArg e.f h
 rw[e.hm,e.ha,e.hm,e.hm,e.hb]at this
 exact this
theorem Em.onP{P:Pt α}(h:C.onP P):D.onP (e.p P):=by
 cases P with
 |none=>trivial
 |some p=>exact e.on h
theorem Em.sl{p q:α×α}{s:α}(h:C.Sl p q s):D.Sl (e.q p) (e.q q) (e.f s):=by
 have h1:=congrArg e.f h.1
 have h2:=congrArg e.f h.2
 rw[e.hm,e.sub,e.sub]at h1
 rw[e.hm,e.ha,e.ha,e.ha,e.hm,e.hm,e.hm]at h2
 exact ⟨h1,h2⟩
theorem Em.opp{p q:α×α}:D.opp (e.q p) (e.q q)↔C.opp p q:=
 ⟨fun h=>⟨e.hi _ _ h.1,e.hi _ _ (by rw[e.ha,e.h0];exact h.2)⟩,fun h=>⟨congrArg e.f h.1,by
  have:=congrArg e.f h.2
  rw[e.ha,e.h0]at this
  exact this⟩⟩
theorem Em.th(p q:α×α)(s:α):D.th (e.q p) (e.q q) (e.f s)=e.q (C.th p q s):=by
 have hx:D.x3 (e.q p) (e.q q) (e.f s)=e.f (C.x3 p q s):=by rw[Ec.x3,Ec.x3,e.sub,e.sub,e.hm];rfl
 refine Prod.ext hx ?_
 show D.sub (D.R.mul (e.f s) (D.sub (e.f p.1) (D.x3 (e.q p) (e.q q) (e.f s)))) (e.f p.2)=e.f (C.sub (C.R.mul s (C.sub p.1 (C.x3 p q s))) p.2)
 rw[hx,e.sub,e.hm,e.sub]
theorem Em.ne(P:Pt α):e.p (C.ne P)=D.ne (e.p P):=by
 cases P with
 |none=>rfl
 |some p=>exact congrArg some (Prod.ext rfl (e.hn _))
theorem Em.inj{P Q:Pt α}(h:e.p P=e.p Q):P=Q:=by
 cases P with
 |none=>
  cases Q with
  |none=>rfl
  |some q=>cases h
 |some p=>
  cases Q with
  |none=>cases h
  |some q=>
   have h:=Option.some.inj h
   exact congrArg some (Prod.ext (e.hi _ _ (congrArg Prod.fst h)) (e.hi _ _ (congrArg Prod.snd h)))
theorem Em.jr{J:α×α×α}{P:Pt α}(h:C.jr J P):D.jr (e.f J.1,e.f J.2.1,e.f J.2.2) (e.p P):=by
 cases P with
 |none=>exact (congrArg e.f h).trans e.h0
 |some p=>
  refine ⟨fun h'=>h.1 (e.hi _ _ (h'.trans e.h0.symm)), ?_, ?_⟩
  ·have:=congrArg e.f h.2.1
   rw[e.hm,Ec.z2,e.hm]at this
   exact this
  ·have:=congrArg e.f h.2.2
   rw[e.hm,Ec.z3,e.hm,e.hm]at this
   exact this
end
section
variable {α β:Type} [DecidableEq α] [DecidableEq β] {C:Ec α} {D:Ec β} (e:Em C D)
theorem Em.ad{P Q:Pt α}(hP:C.onP P)(hQ:C.onP Q):e.p (C.ad P Q)=D.ad (e.p P) (e.p Q):=by
 cases P with
 |none=>rfl
 |some p=>
  cases Q with
  |none=>rw[C.ad_nr];exact (D.ad_nr _).symm
  |some q=>
   by_cases ho:C.opp p q
   ·rw[C.ad_opp ho];exact (D.ad_opp (e.opp.2 ho)).symm
   ·obtain ⟨s,hs⟩:=C.sl_is hP hQ ho
    rw[C.ad_sl hP hQ ho hs]
    exact ((D.ad_sl (e.on hP) (e.on hQ) (fun h=>ho (e.opp.1 h)) (e.sl hs)).trans (congrArg some (e.th p q s))).symm
theorem Em.times{P:Pt α}(hP:C.onP P): ∀n,e.p (C.times P n)=D.times (e.p P) n
 |0=>rfl
 |n+1=>by
  show e.p (C.ad (C.times P n) P)=D.ad (D.times (e.p P) n) (e.p P)
  rw[e.ad (C.times_on hP n) hP,Em.times hP n]
end
theorem Mu(a:Zp):a-0=a:=by grind
theorem Fo(a:Zp):a+0=a:=by grind
theorem z_n0': -(0:Zp)=0:=jO.2 rfl
end
section
section
variable {α:Type} (C:Ec α)
theorem Ec.jr_z{J:α×α×α}{P:Pt α}(h:C.jr J P):J.2.2=C.R.zero↔P=none:=by
 cases P with
 |none=>exact ⟨fun _=>rfl,fun _=>h⟩
 |some p=>exact ⟨fun e=>absurd e h.1,fun e=>by cases e⟩
theorem Ec.sc2(a z c:α):C.R.mul (C.R.mul a (C.z2 z)) (C.z2 c)=C.R.mul a (C.z2 (C.R.mul z c)):=zq C.R [a,z,c] (tm (tm j0 (tm j1 j1)) (tm j2 j2)) (tm j0 (tm (tm j1 j2) (tm j1 j2)))
theorem Ec.jr_at(p:α×α)(h1:C.R.one≠C.R.zero):C.jr (p.1,p.2,C.R.one) (some p):=by
 refine ⟨h1, ?_, ?_⟩
 ·show p.1=C.R.mul p.1 (C.R.mul C.R.one C.R.one)
  rw[C.R.mul_one,C.R.mul_one]
 ·show p.2=C.R.mul p.2 (C.R.mul (C.R.mul C.R.one C.R.one) C.R.one)
  rw[C.R.mul_one,C.R.mul_one,C.R.mul_one]
end
section
variable {α:Type} [DecidableEq α] (C:Ec α)
theorem Ec.ad_none{P Q:Pt α}(hP:C.onP P)(hQ:C.onP Q)(h:C.ad P Q=none):Q=C.ne P:=by
 have:=C.undo hP hQ
 rw[h,C.ad_nr]at this
 exact this.symm
theorem Ec.ad_ne_iff{P Q:Pt α}(hP:C.onP P)(hQ:C.onP Q):C.ad P (C.ne Q)=none↔P=Q:=
 ⟨fun h=>by
  have:=C.ad_none hP (C.ne_on hQ) h
  have:=congrArg C.ne this
  rw[C.ne_ne,C.ne_ne]at this
  exact this.symm,fun h=>by rw[h];exact C.ad_ne Q⟩
theorem Ec.dbl_times{P:Pt α}(hP:C.onP P)(n:Nat):C.ad (C.times P n) (C.times P n)=C.times P (2*n):=by rw[←C.times_add hP,Nat.two_mul]
end
end
section
def G2p:W2×W2:=((zp 0x24aa2b2f08f0a91260805272dc51051c6e47ad4fa403b02b4510b647ae3d1770bac0326a805bbefd48056c8c121bdb8,zp 0x13e02b6052719f607dacd3a088274f65596bd0d09920b61ab5da61bbdc7f5049334cf11213945d57e5ac7d055d042b7e),(zp 0xce5d527727d6e118cc9cdc6da2e351aadfd9baa8cbdd3a76d429a695160d12c923ac9cc3baca289e193548608b82801,zp 0x606c4a02ea734cc32acd2b02bc28b99cb3e287e85a763af267492ab572e99ab3f370d275cec1da1aaa9075ff05f79be))
theorem Cu:E2w.on G2p:=by
 unfold Ec.on
 decide+kernel
theorem Gx:E2w.jr (G2p.1,G2p.2,on2) (some G2p):=⟨by decide+kernel,by decide+kernel,by decide+kernel⟩
theorem g2_z:(E2w.jm (G2p.1,G2p.2,on2) (dg 255 ORD []) (ze2,ze2,ze2)).2.2=ze2:=by decide+kernel
theorem qG:E2w.times (some G2p) ORD=none:=vS E2w (P:=some G2p) Cu Gx (dg 255 ORD []) vg g2_z
end
section
def RJ2:Pt W2→W6
 |none=>(ze2,ze2,ze2)
 |some p=>(p.1,p.2,on2)
theorem Iv:on2≠ze2:=fun h=>absurd (congrArg Prod.fst h) lC
theorem kP(p:W2×W2):E2w.jr (p.1,p.2,on2) (some p):=E2w.jr_at p Iv
theorem Is(P:Pt W2):E2w.jr (RJ2 P) P:=by
 cases P with
 |none=>rfl
 |some p=>exact kP p
end
section
structure Hw{α β:Type}(C:Ec α)(D:Ec β) where
 f:α→β
 w:β
 fa: ∀a b,f (C.R.add a b)=D.R.add (f a) (f b)
 fm: ∀a b,f (C.R.mul a b)=D.R.mul (f a) (f b)
 fn: ∀a,f (C.R.neg a)=D.R.neg (f a)
 f0:f C.R.zero=D.R.zero
 fi: ∀a,f a=D.R.zero→a=C.R.zero
 wn:w≠D.R.zero
 wb:D.R.mul (D.R.mul (D.R.mul w (D.R.mul w w)) (D.R.mul w (D.R.mul w w))) (f C.b)=D.b
abbrev Tw{α:Type}(C:Ec α):=Hw C C
section
variable {α β:Type} {C:Ec α} {D:Ec β} (T:Hw C D)
def Hw.m(p:α×α):β×β:=(D.R.mul (D.R.mul T.w T.w) (T.f p.1),D.R.mul (D.R.mul T.w (D.R.mul T.w T.w)) (T.f p.2))
theorem Hw.fs(a b:α):T.f (C.sub a b)=D.sub (T.f a) (T.f b):=by
 show T.f (C.R.add a (C.R.neg b))=D.R.add (T.f a) (D.R.neg (T.f b))
 rw[T.fa,T.fn]
theorem Hw.inj{a b:α}(h:T.f a=T.f b):a=b:=C.sub0 (T.fi _ (by rw[T.fs,h,D.sub_self]))
theorem Hw.w2:D.R.mul T.w T.w≠D.R.zero:=fun h=>(D.fd.two h).elim T.wn T.wn
theorem Hw.w3:D.R.mul T.w (D.R.mul T.w T.w)≠D.R.zero:=fun h=>(D.fd.two h).elim T.wn T.w2
def Hw.p:Pt α→Pt β
 |none=>none
 |some q=>some (T.m q)
theorem Hw.m_on{p:α×α}(h:C.on p):D.on (T.m p):=by
 have k:D.R.mul (T.f p.2) (T.f p.2)=D.R.add (D.R.mul (T.f p.1) (D.R.mul (T.f p.1) (T.f p.1))) (T.f C.b):=by
  have e:=congrArg T.f (show C.R.mul p.2 p.2=C.R.add (C.R.mul p.1 (C.R.mul p.1 p.1)) C.b from h)
  rw[T.fa,T.fm,T.fm,T.fm]at e
  exact e
 have kb:=T.wb
 exact Rg.lc (R:=D.R) (zq D.R [T.f p.1,T.f p.2,T.f p.1,T.f p.2,T.f p.1,T.w,T.f C.b,D.b] (ta (tm (tm (tm j5 (tm j5 j5)) j1) (tm (tm j5 (tm j5 j5)) j1)) (ta (tm (tm (tm j5 (tm j5 j5)) (tm j5 (tm j5 j5))) (ta (tm j0 (tm j0 j0)) j6)) (tm to1 j7))) (ta (ta (tm (tm (tm j5 j5) j0) (tm (tm (tm j5 j5) j0) (tm (tm j5 j5) j0))) j7) (ta (tm (tm (tm j5 (tm j5 j5)) (tm j5 (tm j5 j5))) (tm j1 j1)) (tm to1 (tm (tm (tm j5 (tm j5 j5)) (tm j5 (tm j5 j5))) j6))))) (lca (lcm k) (lcm kb))
theorem Hw.sl{p q:α×α}{s:α}(h:C.Sl p q s):D.Sl (T.m p) (T.m q) (D.R.mul T.w (T.f s)):=by
 have k1:D.R.mul (T.f s) (D.sub (T.f p.1) (T.f q.1))=D.sub (T.f p.2) (T.f q.2):=by
  have e:=congrArg T.f h.1
  rw[T.fm,T.fs,T.fs]at e
  exact e
 have k2:D.R.mul (T.f s) (D.R.add (T.f p.2) (T.f q.2))=D.R.add (D.R.add (D.R.mul (T.f p.1) (T.f p.1)) (D.R.mul (T.f p.1) (T.f q.1))) (D.R.mul (T.f q.1) (T.f q.1)):=by
  have e:=congrArg T.f h.2
  rw[T.fm,T.fa,T.fa,T.fa,T.fm,T.fm,T.fm]at e
  exact e
 exact ⟨Rg.lc (R:=D.R) (zq D.R [T.f p.1,T.f p.2,T.f q.1,T.f q.2,T.f s,T.w,T.f C.b,D.b] (ta (tm (tm j5 j4) (ta (tm (tm j5 j5) j0) (tn (tm (tm j5 j5) j2)))) (tm (tm j5 (tm j5 j5)) (ta j1 (tn j3)))) (ta (ta (tm (tm j5 (tm j5 j5)) j1) (tn (tm (tm j5 (tm j5 j5)) j3))) (tm (tm j5 (tm j5 j5)) (tm j4 (ta j0 (tn j2)))))) (lcm k1),Rg.lc (R:=D.R) (zq D.R [T.f p.1,T.f p.2,T.f q.1,T.f q.2,T.f s,T.w,T.f C.b,D.b] (ta (tm (tm j5 j4) (ta (tm (tm j5 (tm j5 j5)) j1) (tm (tm j5 (tm j5 j5)) j3))) (tm (tm (tm j5 j5) (tm j5 j5)) (ta (ta (tm j0 j0) (tm j0 j2)) (tm j2 j2)))) (ta (ta (ta (tm (tm (tm j5 j5) j0) (tm (tm j5 j5) j0)) (tm (tm (tm j5 j5) j0) (tm (tm j5 j5) j2))) (tm (tm (tm j5 j5) j2) (tm (tm j5 j5) j2))) (tm (tm (tm j5 j5) (tm j5 j5)) (tm j4 (ta j1 j3))))) (lcm k2)⟩
theorem Hw.th(p q:α×α)(s:α):D.th (T.m p) (T.m q) (D.R.mul T.w (T.f s))=T.m (C.th p q s):=by
 have ex:T.f (C.x3 p q s)=D.sub (D.sub (D.R.mul (T.f s) (T.f s)) (T.f p.1)) (T.f q.1):=by
  show T.f (C.sub (C.sub (C.R.mul s s) p.1) q.1)=_
  rw[T.fs,T.fs,T.fm]
 have ey:T.f (C.sub (C.R.mul s (C.sub p.1 (C.x3 p q s))) p.2)=D.sub (D.R.mul (T.f s) (D.sub (T.f p.1) (D.sub (D.sub (D.R.mul (T.f s) (T.f s)) (T.f p.1)) (T.f q.1)))) (T.f p.2):=by
  rw[T.fs,T.fm,T.fs,ex]
 refine Prod.ext ?_ ?_
 ·show D.sub (D.sub (D.R.mul (D.R.mul T.w (T.f s)) (D.R.mul T.w (T.f s))) (D.R.mul (D.R.mul T.w T.w) (T.f p.1))) (D.R.mul (D.R.mul T.w T.w) (T.f q.1))=D.R.mul (D.R.mul T.w T.w) (T.f (C.x3 p q s))
  rw[ex]
  exact zq D.R [T.f p.1,T.f p.2,T.f q.1,T.f q.2,T.f s,T.w,T.f C.b,D.b] (ta (ta (tm (tm j5 j4) (tm j5 j4)) (tn (tm (tm j5 j5) j0))) (tn (tm (tm j5 j5) j2))) (tm (tm j5 j5) (ta (ta (tm j4 j4) (tn j0)) (tn j2)))
 ·show D.sub (D.R.mul (D.R.mul T.w (T.f s)) (D.sub (D.R.mul (D.R.mul T.w T.w) (T.f p.1)) (D.sub (D.sub (D.R.mul (D.R.mul T.w (T.f s)) (D.R.mul T.w (T.f s))) (D.R.mul (D.R.mul T.w T.w) (T.f p.1))) (D.R.mul (D.R.mul T.w T.w) (T.f q.1))))) (D.R.mul (D.R.mul T.w (D.R.mul T.w T.w)) (T.f p.2))=D.R.mul (D.R.mul T.w (D.R.mul T.w T.w)) (T.f (C.sub (C.R.mul s (C.sub p.1 (C.x3 p q s))) p.2))
  rw[ey]
  exact zq D.R [T.f p.1,T.f p.2,T.f q.1,T.f q.2,T.f s,T.w,T.f C.b,D.b] (ta (tm (tm j5 j4) (ta (tm (tm j5 j5) j0) (tn (ta (ta (tm (tm j5 j4) (tm j5 j4)) (tn (tm (tm j5 j5) j0))) (tn (tm (tm j5 j5) j2)))))) (tn (tm (tm j5 (tm j5 j5)) j1))) (tm (tm j5 (tm j5 j5)) (ta (tm j4 (ta j0 (tn (ta (ta (tm j4 j4) (tn j0)) (tn j2))))) (tn j1)))
theorem Hw.opp{p q:α×α}:D.opp (T.m p) (T.m q)↔C.opp p q:=by
 refine ⟨fun h=>⟨?_, ?_⟩,fun h=>⟨?_, ?_⟩⟩
 ·have e:D.R.mul (D.R.mul T.w T.w) (D.sub (T.f p.1) (T.f q.1))=D.R.zero:=Rg.lc (R:=D.R) (zq D.R [T.f p.1,T.f p.2,T.f q.1,T.f q.2,T.f p.1,T.w,T.f C.b,D.b] (ta (tm (tm j5 j5) (ta j0 (tn j2))) (tm to1 (tm (tm j5 j5) j2))) (ta tz0 (tm to1 (tm (tm j5 j5) j0)))) (lcm h.1)
  exact T.inj (D.sub0 ((D.fd.two e).resolve_left T.w2))
 ·have e:D.R.mul (D.R.mul T.w (D.R.mul T.w T.w)) (D.R.add (T.f p.2) (T.f q.2))=D.R.zero:=Rg.lc (R:=D.R) (zq D.R [T.f p.1,T.f p.2,T.f q.1,T.f q.2,T.f p.1,T.w,T.f C.b,D.b] (ta (tm (tm j5 (tm j5 j5)) (ta j1 j3)) (tm to1 tz0)) (ta tz0 (tm to1 (ta (tm (tm j5 (tm j5 j5)) j1) (tm (tm j5 (tm j5 j5)) j3))))) (lcm h.2)
  have k:=(D.fd.two e).resolve_left T.w3
  rw[←T.fa]at k
  exact T.fi _ k
 ·show D.R.mul (D.R.mul T.w T.w) (T.f p.1)=D.R.mul (D.R.mul T.w T.w) (T.f q.1)
  rw[h.1]
 ·have k:D.R.add (T.f p.2) (T.f q.2)=D.R.zero:=by rw[←T.fa,h.2,T.f0]
  exact Rg.lc (R:=D.R) (zq D.R [T.f p.1,T.f p.2,T.f q.1,T.f q.2,T.f p.1,T.w,T.f C.b,D.b] (ta (ta (tm (tm j5 (tm j5 j5)) j1) (tm (tm j5 (tm j5 j5)) j3)) (tm (tm j5 (tm j5 j5)) tz0)) (ta tz0 (tm (tm j5 (tm j5 j5)) (ta j1 j3)))) (lcm k)
theorem Hw.p_on{P:Pt α}(h:C.onP P):D.onP (T.p P):=by
 cases P with
 |none=>exact True.intro
 |some q=>exact T.m_on h
theorem Hw.p_ne(P:Pt α):T.p (C.ne P)=D.ne (T.p P):=by
 cases P with
 |none=>rfl
 |some q=>
  refine congrArg some (Prod.ext rfl ?_)
  show D.R.mul (D.R.mul T.w (D.R.mul T.w T.w)) (T.f (C.R.neg q.2))=D.R.neg (D.R.mul (D.R.mul T.w (D.R.mul T.w T.w)) (T.f q.2))
  rw[T.fn]
  exact zq D.R [T.f q.2,T.w] (tm (tm j1 (tm j1 j1)) (tn j0)) (tn (tm (tm j1 (tm j1 j1)) j0))
variable [DecidableEq α] [DecidableEq β]
theorem Hw.p_ad{P Q:Pt α}(hP:C.onP P)(hQ:C.onP Q):T.p (C.ad P Q)=D.ad (T.p P) (T.p Q):=by
 cases P with
 |none=>rfl
 |some p=>
  cases Q with
  |none=>rfl
  |some q=>
   by_cases ho:C.opp p q
   ·rw[C.ad_opp ho]
    exact (D.ad_opp (T.opp.2 ho)).symm
   ·have hs:=C.sl_slope hP hQ ho
    rw[C.ad_sl hP hQ ho hs]
    refine (congrArg some (T.th p q (C.slope p q)).symm).trans ?_
    exact (D.ad_sl (T.m_on hP) (T.m_on hQ) (fun h=>ho (T.opp.1 h)) (T.sl hs)).symm
theorem Hw.p_times{P:Pt α}(hP:C.onP P): ∀n,T.p (C.times P n)=D.times (T.p P) n
 |0=>rfl
 |n+1=>by rw[Ec.times,T.p_ad (C.times_on hP n) hP,Hw.p_times hP n];rfl
end
/-! ### Points of one order -/
section
variable {α:Type} [DecidableEq α] (C:Ec α)
theorem Ec.times_q{P:Pt α}(hP:C.onP P){r:Nat}(h:C.times P r=none)(k:Nat):C.times P (r*k)=none:=by
 rw[C.times_mul hP,h,C.times_none]
theorem Ec.times_u{P:Pt α}(hP:C.onP P){r:Nat}(h:C.times P r=none){n:Nat}(hn:n % r=1):C.times P n=P:=by
 rw[←Nat.div_add_mod n r,hn,C.times_add hP,C.times_q hP h];rfl
theorem Ec.times_swap{P:Pt α}(hP:C.onP P)(m n:Nat):C.times (C.times P m) n=C.times (C.times P n) m:=by
 rw[←C.times_mul hP,←C.times_mul hP,Nat.mul_comm]
theorem Ec.can{P Q S:Pt α}(hP:C.onP P)(hQ:C.onP Q)(hS:C.onP S)(h:C.ad P Q=C.ad P S):Q=S:=by
 rw[←C.undo hP hQ,h,C.undo hP hS]
theorem Ec.cyc_one{G P:Pt α}(hG:C.onP G)(hP:C.onP P){r:Nat}(hr: ∀d,0<d→d<r→∃e,(d*e) % r=1)(pr:C.times P r=none){d k:Nat}(h0:0<d)(h1:d<r)(h:C.times P d=C.times G k): ∃e,P=C.times G e:=by
 obtain ⟨e,he⟩:=hr d h0 h1
 refine ⟨k*e, ?_⟩
 rw[C.times_mul hG,←h,←C.times_mul hP,C.times_u hP pr he]
theorem Ec.cyc_no{G:Pt α}(hG:C.onP G){r:Nat}(hr: ∀d,0<d→d<r→∃e,(d*e) % r=1)(gr:C.times G r=none)(gn:G≠none){d:Nat}(h0:0<d)(h1:d<r):C.times G d≠none:=by
 intro h
 obtain ⟨e,he⟩:=hr d h0 h1
 refine gn ?_
 rw[←C.times_u hG gr he,C.times_mul hG,h,C.times_none]
theorem Ec.cyc_lt{G P:Pt α}(hG:C.onP G)(hP:C.onP P){r:Nat}(gr:C.times G r=none){a b a' b':Nat}(ha:a'<r)(hb:b<b')(h:C.ad (C.times G a) (C.times P b)=C.ad (C.times G a') (C.times P b')):C.times P (b'-b)=C.times G (a+(r-a')):=by
 have hA:=C.times_on hG a
 have hA':=C.times_on hG a'
 have hB:=C.times_on hP b
 have hD:=C.times_on hP (b'-b)
 have hR:=C.times_on hG (r-a')
 have e1:C.times P b'=C.ad (C.times P (b'-b)) (C.times P b):=by rw[←C.times_add hP];exact congrArg _ (by omega)
 rw[e1,←C.ad_assoc hA' hD hB,C.ad_comm hA hB,C.ad_comm (C.ad_on hA' hD) hB]at h
 have e2:=C.can hB hA (C.ad_on hA' hD) h
 rw[C.times_add hG,e2,C.ad_comm hA' hD,C.ad_assoc hD hA' hR,←C.times_add hG,show a'+(r-a')=r from by omega,gr,C.ad_nr]
end
end
section
def oL(p:Nat→Bool)(N:Nat):Nat→List Nat
 |0=>[]
 |m+1=>if p m=true then oL p N m++[N-1-m]else oL p N m
def vN(p:Nat→Bool):Nat→Nat
 |0=>0
 |m+1=>2*vN p m+(if p m=true then 1 else 0)
def SOg:List Nat→Nat
 |[]=>0
 |n::l=>2^n+SOg l
theorem uH: ∀l m:List Nat,SOg (l++m)=SOg l+SOg m
 |[],m=>by rw[List.nil_append,SOg,Nat.zero_add]
 |n::l,m=>by rw[List.cons_append,SOg,SOg,uH l m,Nat.add_assoc]
theorem xm{p:Nat→Bool}{N m:Nat}(h:p m=true):oL p N (m+1)=oL p N m++[N-1-m]:=if_pos h
theorem AQ{p:Nat→Bool}{N m:Nat}(h: ¬p m=true):oL p N (m+1)=oL p N m:=if_neg h
theorem Av(p:Nat→Bool)(N k:Nat): ∀n,k≤n→∃r,oL p N n=oL p N k++r
 |0,h=>⟨[],by obtain rfl:k=0:=by omega
              rw[List.append_nil]⟩
 |n+1,h=>by
  rcases Nat.lt_or_ge n k with h'|h'
  ·obtain rfl:k=n+1:=by omega
   exact ⟨[],by rw[List.append_nil]⟩
  ·obtain ⟨r,hr⟩:=Av p N k n h'
   by_cases hp:p n=true
   ·exact ⟨r++[N-1-n],by rw[xm hp,hr,List.append_assoc]⟩
   ·exact ⟨r,by rw[AQ hp,hr]⟩
theorem Ku{p:Nat→Bool}{N k n:Nat}(hk:k<n)(h:p k=true):(oL p N n)[(oL p N k).length]? =some (N-1-k):=by
 obtain ⟨r,hr⟩:=Av p N (k+1) n hk
 rw[hr,xm h,List.append_assoc,List.getElem?_append_right (Nat.le_refl _),Nat.sub_self]
 rfl
theorem KP{p:Nat→Bool}{N m:Nat}(h:p m=true):(oL p N (m+1)).length=(oL p N m).length+1:=by rw[xm h];simp
theorem Mb{p:Nat→Bool}{N m:Nat}(h: ¬p m=true):(oL p N (m+1)).length=(oL p N m).length:=by rw[AQ h]
theorem pJ(p:Nat→Bool)(N:Nat): ∀m b,b∈oL p N m→N-m≤b∧b≤N-1
 |0,b,h=>by cases h
 |m+1,b,h=>by
  by_cases hp:p m=true
  ·rw[xm hp]at h
   rcases List.mem_append.1 h with h|h
   ·have:=pJ p N m b h
    omega
   ·rw[List.mem_singleton]at h
    omega
  ·rw[AQ hp]at h
   have:=pJ p N m b h
   omega
theorem LQ{p:Nat→Bool}{N m b:Nat}(h:b∈oL p N m)(hm:m≤N):b<N:=by
 rcases Nat.eq_zero_or_pos N with h0|h0
 ·obtain rfl:m=0:=by omega
  cases h
 ·have:=pJ p N m b h
  omega
theorem zZ(p:Nat→Bool)(N:Nat): ∀m,m≤N→(oL p N m).Pairwise (fun a b=>b≤a)
 |0,_=>List.Pairwise.nil
 |m+1,hm=>by
  by_cases hp:p m=true
  ·rw[xm hp,List.pairwise_append]
   refine ⟨zZ p N m (by omega),List.pairwise_singleton _ _,fun a ha b hb=> ?_⟩
   rw[List.mem_singleton]at hb
   have:=pJ p N m a ha
   omega
  ·rw[AQ hp];exact zZ p N m (by omega)
theorem tq(p:Nat→Bool)(N:Nat): ∀m,m≤N→SOg (oL p N m)=vN p m*2^(N-m)
 |0,_=>by rw[oL,vN,Nat.zero_mul];rfl
 |m+1,hm=>by
  have e:2^(N-m)=2*2^(N-1-m):=by rw[←Nat.pow_succ',show (N-1-m).succ=N-m from by omega]
  by_cases hp:p m=true
  ·rw[xm hp,uH,tq p N m (by omega),vN,if_pos hp,SOg,SOg,e,show N-(m+1)=N-1-m from by omega]
   generalize 2^(N-1-m)=z
   rw[Nat.add_mul,Nat.mul_assoc 2,Nat.mul_left_comm]
   omega
  ·rw[AQ hp,tq p N m (by omega),vN,if_neg hp,e,show N-(m+1)=N-1-m from by omega,Nat.add_zero]
   generalize 2^(N-1-m)=z
   rw[Nat.mul_assoc 2,Nat.mul_left_comm]
theorem Jp(p:Nat→Bool)(N:Nat):SOg (oL p N N)=vN p N:=by
 rw[tq p N N (Nat.le_refl _),Nat.sub_self,Nat.pow_zero,Nat.mul_one]
end
section
section
variable {α:Type} (C:Ec α)
def Ec.dbA(x:α×α×α):α×α×α:=
 let a:=C.R.add x.2.1 x.2.1
 let s:=C.R.mul x.1 x.1
 let u:=C.R.add (C.R.add s s) s
 let h:=C.R.mul a a
 let b:=C.R.mul h x.1
 let X:=C.sub (C.sub (C.R.mul u u) b) b
 (X,C.sub (C.R.mul u (C.sub b X)) (C.R.mul (C.R.mul h a) x.2.1),C.R.mul x.2.2 a)
theorem Ec.dbl_ext(m:α){s s' c c' z z':α}(hs:s=s')(hc:c=c')(hz:z=z'):(C.sub (C.sub (C.R.mul m m) s) s,C.sub (C.R.mul m (C.sub s (C.sub (C.sub (C.R.mul m m) s) s))) c,z)=(C.sub (C.sub (C.R.mul m m) s') s',C.sub (C.R.mul m (C.sub s' (C.sub (C.sub (C.R.mul m m) s') s'))) c',z'):=by rw[hs,hc,hz]
theorem Ec.dbA_jd(x:α×α×α):C.dbA x=C.jd x.1 x.2.1 x.2.2:=C.dbl_ext (C.R.add (C.R.add (C.R.mul x.1 x.1) (C.R.mul x.1 x.1)) (C.R.mul x.1 x.1))
 (zq C.R [x.1,x.2.1,x.2.2] (tm (tm (ta j1 j1) (ta j1 j1)) j0) (ta (ta (tm j0 (tm j1 j1)) (tm j0 (tm j1 j1))) (ta (tm j0 (tm j1 j1)) (tm j0 (tm j1 j1)))))
 (zq C.R [x.1,x.2.1,x.2.2] (tm (tm (tm (ta j1 j1) (ta j1 j1)) (ta j1 j1)) j1) (ta (ta (ta (tm (tm j1 j1) (tm j1 j1)) (tm (tm j1 j1) (tm j1 j1))) (ta (tm (tm j1 j1) (tm j1 j1)) (tm (tm j1 j1) (tm j1 j1)))) (ta (ta (tm (tm j1 j1) (tm j1 j1)) (tm (tm j1 j1) (tm j1 j1))) (ta (tm (tm j1 j1) (tm j1 j1)) (tm (tm j1 j1) (tm j1 j1))))))
 (zq C.R [x.1,x.2.1,x.2.2] (tm j2 (ta j1 j1)) (ta (tm j1 j2) (tm j1 j2)))
def Ec.adG(x y:α×α×α):α×α×α:=
 let u:=C.R.mul x.1 (C.R.mul y.2.2 y.2.2)
 let s:=C.R.mul (C.R.mul x.2.1 (C.R.mul y.2.2 y.2.2)) y.2.2
 let h:=C.sub (C.R.mul y.1 (C.R.mul x.2.2 x.2.2)) u
 let r:=C.sub (C.R.mul (C.R.mul y.2.1 (C.R.mul x.2.2 x.2.2)) x.2.2) s
 let q:=C.R.mul h h
 let c:=C.R.mul q h
 let w:=C.R.mul q u
 let X:=C.sub (C.sub (C.sub (C.R.mul r r) c) w) w
 (X,C.sub (C.R.mul r (C.sub w X)) (C.R.mul c s),C.R.mul (C.R.mul x.2.2 y.2.2) h)
theorem Ec.add_ext{a w w' r k k' z:α}(hw:w=w')(hk:k=k'):(C.sub (C.sub a w) w,C.sub (C.R.mul r (C.sub w (C.sub (C.sub a w) w))) k,z)=(C.sub (C.sub a w') w',C.sub (C.R.mul r (C.sub w' (C.sub (C.sub a w') w'))) k',z):=by rw[hw,hk]
theorem Ec.adG_ja(x y:α×α×α):C.adG x y=C.ja x.1 x.2.1 x.2.2 y.1 y.2.1 y.2.2:=C.add_ext (C.R.mul_comm _ _) (C.R.mul_comm _ _)
theorem Ec.same_iff{p q:α×α}{x y:α×α×α}(h:C.jr x (some p))(k:C.jr y (some q)):(C.R.mul x.1 (C.R.mul y.2.2 y.2.2)=C.R.mul y.1 (C.R.mul x.2.2 x.2.2)↔p.1=q.1)∧(C.R.mul (C.R.mul x.2.1 (C.R.mul y.2.2 y.2.2)) y.2.2=C.R.mul (C.R.mul y.2.1 (C.R.mul x.2.2 x.2.2)) x.2.2↔p.2=q.2):=by
 have hx:x.1=C.R.mul p.1 (C.R.mul x.2.2 x.2.2):=h.2.1
 have hy:x.2.1=C.R.mul p.2 (C.R.mul (C.R.mul x.2.2 x.2.2) x.2.2):=h.2.2
 have kx:y.1=C.R.mul q.1 (C.R.mul y.2.2 y.2.2):=k.2.1
 have ky:y.2.1=C.R.mul q.2 (C.R.mul (C.R.mul y.2.2 y.2.2) y.2.2):=k.2.2
 have n2:=C.mul_ne (C.z2_ne h.1) (C.z2_ne k.1)
 have n3:=C.mul_ne (C.z3_ne h.1) (C.z3_ne k.1)
 rw[hx,hy,kx,ky]
 refine ⟨⟨fun e=>C.mul_can n2 ?_,fun e=> ?_⟩,⟨fun e=>C.mul_can n3 ?_,fun e=> ?_⟩⟩
 ·show C.R.mul p.1 (C.R.mul (C.R.mul x.2.2 x.2.2) (C.R.mul y.2.2 y.2.2))=C.R.mul q.1 (C.R.mul (C.R.mul x.2.2 x.2.2) (C.R.mul y.2.2 y.2.2))
  exact Rg.lc (R:=C.R) (zq C.R [p.1,q.1,x.2.2,y.2.2] (ta (tm j0 (tm (tm j2 j2) (tm j3 j3))) (tm to1 (tm (tm j1 (tm j3 j3)) (tm j2 j2)))) (ta (tm j1 (tm (tm j2 j2) (tm j3 j3))) (tm to1 (tm (tm j0 (tm j2 j2)) (tm j3 j3))))) (lcm e)
 ·rw[e]
  exact zq C.R [p.1,q.1,x.2.2,y.2.2] (tm (tm j1 (tm j2 j2)) (tm j3 j3)) (tm (tm j1 (tm j3 j3)) (tm j2 j2))
 ·show C.R.mul p.2 (C.R.mul (C.R.mul (C.R.mul x.2.2 x.2.2) x.2.2) (C.R.mul (C.R.mul y.2.2 y.2.2) y.2.2))=C.R.mul q.2 (C.R.mul (C.R.mul (C.R.mul x.2.2 x.2.2) x.2.2) (C.R.mul (C.R.mul y.2.2 y.2.2) y.2.2))
  exact Rg.lc (R:=C.R) (zq C.R [p.2,q.2,x.2.2,y.2.2] (ta (tm j0 (tm (tm (tm j2 j2) j2) (tm (tm j3 j3) j3))) (tm to1 (tm (tm (tm j1 (tm (tm j3 j3) j3)) (tm j2 j2)) j2))) (ta (tm j1 (tm (tm (tm j2 j2) j2) (tm (tm j3 j3) j3))) (tm to1 (tm (tm (tm j0 (tm (tm j2 j2) j2)) (tm j3 j3)) j3)))) (lcm e)
 ·rw[e]
  exact zq C.R [p.2,q.2,x.2.2,y.2.2] (tm (tm (tm j1 (tm (tm j2 j2) j2)) (tm j3 j3)) j3) (tm (tm (tm j1 (tm (tm j3 j3) j3)) (tm j2 j2)) j2)
theorem Ec.same_iff'{p q:α×α}{x y:α×α×α}(h:C.jr x (some p))(k:C.jr y (some q)):(C.R.mul x.1 (C.R.mul y.2.2 y.2.2)=C.R.mul y.1 (C.R.mul x.2.2 x.2.2)↔p.1=q.1)∧(C.R.mul x.2.1 (C.R.mul (C.R.mul y.2.2 y.2.2) y.2.2)=C.R.mul y.2.1 (C.R.mul (C.R.mul x.2.2 x.2.2) x.2.2)↔p.2=q.2):=by
 have s:=C.same_iff h k
 rw[C.R.mul_assoc,C.R.mul_assoc y.2.1]at s
 exact s
def Ec.eqJ(x y:α×α×α):Prop:=(x.2.2=C.R.zero∧y.2.2=C.R.zero)∨(¬x.2.2=C.R.zero∧¬y.2.2=C.R.zero∧C.R.mul x.1 (C.R.mul y.2.2 y.2.2)=C.R.mul y.1 (C.R.mul x.2.2 x.2.2)∧C.R.mul x.2.1 (C.R.mul (C.R.mul y.2.2 y.2.2) y.2.2)=C.R.mul y.2.1 (C.R.mul (C.R.mul x.2.2 x.2.2) x.2.2))
theorem Ec.eqJ_iff{x y:α×α×α}{P Q:Pt α}(h:C.jr x P)(k:C.jr y Q):C.eqJ x y↔P=Q:=by
 cases P with
 |none=>
  cases Q with
  |none=>exact ⟨fun _=>rfl,fun _=>.inl ⟨h,k⟩⟩
  |some q=>exact ⟨fun e=>e.elim (fun e=>absurd e.2 k.1) (fun e=>absurd h e.1),fun e=>by cases e⟩
 |some p=>
  cases Q with
  |none=>exact ⟨fun e=>e.elim (fun e=>absurd e.1 h.1) (fun e=>absurd k e.2.1),fun e=>by cases e⟩
  |some q=>
   have s:=C.same_iff' h k
   exact ⟨fun e=>e.elim (fun e=>absurd e.1 h.1) (fun e=>congrArg some (Prod.ext (s.1.1 e.2.2.1) (s.2.1 e.2.2.2))),fun e=>.inr ⟨h.1,k.1,s.1.2 (congrArg Prod.fst (Option.some.inj e)),s.2.2 (congrArg Prod.snd (Option.some.inj e))⟩⟩
theorem Ec.xy_w{J:α×α×α}{p:α×α}(h:C.jr J (some p)){v:α}(hv:C.R.mul J.2.2 v=C.R.one):C.R.mul J.1 (C.R.mul v v)=p.1∧C.R.mul J.2.1 (C.R.mul (C.R.mul v v) v)=p.2:=by
 have hx:J.1=C.R.mul p.1 (C.R.mul J.2.2 J.2.2):=h.2.1
 have hy:J.2.1=C.R.mul p.2 (C.R.mul (C.R.mul J.2.2 J.2.2) J.2.2):=h.2.2
 have e2:C.R.mul (C.R.mul J.2.2 v) (C.R.mul J.2.2 v)=C.R.one:=by rw[hv,C.R.mul_one]
 refine ⟨?_, ?_⟩
 ·rw[hx]
  exact Rg.lc (R:=C.R) (zq C.R [p.1,J.2.2,v] (ta (tm (tm j0 (tm j1 j1)) (tm j2 j2)) (tm j0 to1)) (ta j0 (tm j0 (tm (tm j1 j2) (tm j1 j2))))) (lcm e2)
 ·rw[hy]
  exact Rg.lc (R:=C.R) (zq C.R [p.2,J.2.2,v] (ta (tm (tm j0 (tm (tm j1 j1) j1)) (tm (tm j2 j2) j2)) (ta (tm (tm j0 (tm j1 j2)) to1) (tm j0 to1))) (ta j0 (ta (tm (tm j0 (tm j1 j2)) (tm (tm j1 j2) (tm j1 j2))) (tm j0 (tm j1 j2))))) (lca (lcm e2) (lcm hv))
theorem Ec.jr_zI{J:α×α×α}{P:Pt α}(h:C.jr J P):J.2.2=C.R.zero↔P=none:=by
 cases P with
 |none=>exact ⟨fun _=>rfl,fun _=>h⟩
 |some p=>exact ⟨fun e=>absurd e h.1,fun e=>by cases e⟩
theorem Ec.adA_same{x y:α×α×α}{P Q:Pt α}(h:C.jr x P)(k:C.jr y Q)(h1: ¬x.2.2=C.R.zero)(h2: ¬y.2.2=C.R.zero)(h3:C.jh x.1 x.2.2 y.1 y.2.2=C.R.zero)(h4:C.jq x.2.1 x.2.2 y.2.1 y.2.2=C.R.zero):Q=P:=by
 cases P with
 |none=>exact absurd h h1
 |some p=>
  cases Q with
  |none=>exact absurd k h2
  |some q=>
   have s:=C.same_iff h k
   exact congrArg some (Prod.ext (s.1.1 (C.sub0 h3).symm).symm (s.2.1 (C.sub0 h4).symm).symm)
end
section
variable {α:Type} [DecidableEq α] (C:Ec α)
theorem Ec.dbA_jr{x:α×α×α}{P:Pt α}(hP:C.onP P)(h:C.jr x P):C.jr (C.dbA x) (C.ad P P):=by
 have k:=C.jr_d hP h
 by_cases hz:x.2.2=C.R.zero∨x.2.1=C.R.zero
 ·rw[show C.jdF x=(C.R.zero,C.R.zero,C.R.zero)from if_pos hz]at k
  rw[(C.jr_zI k).1 rfl]
  show C.R.mul x.2.2 (C.R.add x.2.1 x.2.1)=C.R.zero
  rcases hz with e|e
  ·rw[e,C.R.zero_mul]
  ·rw[e,C.R.add_zero,C.R.mul_zero]
 ·rw[show C.jdF x=C.jd x.1 x.2.1 x.2.2 from if_neg hz,←C.dbA_jd]at k
  exact k
def Ec.adA(x y:α×α×α):α×α×α:=if x.2.2=C.R.zero then y else if y.2.2=C.R.zero then x else if C.jh x.1 x.2.2 y.1 y.2.2=C.R.zero then (if C.jq x.2.1 x.2.2 y.2.1 y.2.2=C.R.zero then C.dbA x else (C.R.zero,C.R.zero,C.R.zero))else C.adG x y
theorem Ec.adA_jr{x y:α×α×α}{P Q:Pt α}(hP:C.onP P)(hQ:C.onP Q)(h:C.jr x P)(k:C.jr y Q):C.jr (C.adA x y) (C.ad P Q):=by
 have j:=C.jr_a hP hQ h k
 by_cases h1:x.2.2=C.R.zero
 ·rw[show C.jaF x y=y from if_pos h1]at j
  rw[show C.adA x y=y from if_pos h1];exact j
 by_cases h2:y.2.2=C.R.zero
 ·rw[show C.jaF x y=x from (if_neg h1).trans (if_pos h2)]at j
  rw[show C.adA x y=x from (if_neg h1).trans (if_pos h2)];exact j
 by_cases h3:C.jh x.1 x.2.2 y.1 y.2.2=C.R.zero
 ·by_cases h4:C.jq x.2.1 x.2.2 y.2.1 y.2.2=C.R.zero
  ·rw[show C.adA x y=C.dbA x from (if_neg h1).trans ((if_neg h2).trans ((if_pos h3).trans (if_pos h4)))]
   rw[C.adA_same h k h1 h2 h3 h4];exact C.dbA_jr hP h
  ·rw[show C.jaF x y=(C.R.zero,C.R.zero,C.R.zero)from (if_neg h1).trans ((if_neg h2).trans ((if_pos h3).trans (if_neg h4)))]at j
   rw[show C.adA x y=(C.R.zero,C.R.zero,C.R.zero)from (if_neg h1).trans ((if_neg h2).trans ((if_pos h3).trans (if_neg h4)))];exact j
 ·rw[show C.jaF x y=C.ja x.1 x.2.1 x.2.2 y.1 y.2.1 y.2.2 from (if_neg h1).trans ((if_neg h2).trans (if_neg h3)),←C.adG_ja]at j
  rw[show C.adA x y=C.adG x y from (if_neg h1).trans ((if_neg h2).trans (if_neg h3))];exact j
def Ec.dbN(x:α×α×α):Nat→α×α×α
 |0=>x
 |n+1=>C.dbA (Ec.dbN x n)
theorem Ec.dbN_jr{x:α×α×α}{P:Pt α}(hP:C.onP P){q:Nat}(hx:C.jr x (C.times P q)): ∀n,C.jr (C.dbN x n) (C.times P (q*2^n))
 |0=>by rw[Nat.pow_zero,Nat.mul_one];exact hx
 |n+1=>by
  have hd:=C.dbA_jr (C.times_on hP _) (Ec.dbN_jr hP hx n)
  rw[←C.times_add hP,←Nat.two_mul,Nat.mul_left_comm,←Nat.pow_succ']at hd
  exact hd
def Ec.stp(x:α×α×α)(A:(α×α×α)×Nat)(b:Nat):(α×α×α)×Nat:=(C.adA (C.dbN A.1 (A.2-b)) x,b)
def Ec.stK(x:α×α×α)(L:List Nat)(k:Nat):(α×α×α)×Nat:=(L.take k).foldl (C.stp x) ((C.R.zero,C.R.zero,C.R.zero),0)
theorem Ec.stK_step(x:α×α×α){L:List Nat}{k n:Nat}(h:L[k]? =some n):C.stK x L (k+1)=C.stp x (C.stK x L k) n:=by
 rw[Ec.stK,List.take_add_one,h,List.foldl_append]
 rfl
theorem Ec.stK_1(x:α×α×α){L:List Nat}{k n:Nat}(h:L[k]? =some n):(C.stK x L (k+1)).1=C.adA (C.dbN (C.stK x L k).1 ((C.stK x L k).2-n)) x:=by rw[C.stK_step x h];rfl
theorem Ec.stK_2(x:α×α×α){L:List Nat}{k n:Nat}(h:L[k]? =some n):(C.stK x L (k+1)).2=n:=by rw[C.stK_step x h];rfl
theorem Ec.stK_lt(x:α×α×α){L:List Nat}{B:Nat}(h0:0<B)(hL: ∀b∈L,b<B): ∀k,k≤L.length→(C.stK x L k).2<B
 |0,_=>h0
 |k+1,hk=>by
  obtain ⟨n,hn⟩: ∃n,L[k]? =some n:=⟨L[k]'(by omega),List.getElem?_eq_getElem (by omega)⟩
  rw[C.stK_2 x hn]
  exact hL n (List.mem_of_getElem? hn)
def Ec.tmF(x:α×α×α)(L:List Nat):α×α×α:=C.dbN (C.stK x L L.length).1 (C.stK x L L.length).2
theorem Ec.stp_jr{x:α×α×α}{P:Pt α}(hP:C.onP P)(hx:C.jr x P): ∀(L:List Nat) (A:(α×α×α)×Nat) (q:Nat),L.Pairwise (fun a b=>b≤a)→C.jr A.1 (C.times P q)→(q=0∨∀b∈L,b≤A.2)→∃q',C.jr (L.foldl (C.stp x) A).1 (C.times P q')∧q'*2^(L.foldl (C.stp x) A).2=q*2^A.2+SOg L
 |[],A,q,_,hA,_=>⟨q,hA,rfl⟩
 |b::L,A,q,hp,hA,hq=>by
  rw[List.pairwise_cons]at hp
  have hd:=C.dbN_jr hP hA (A.2-b)
  have ha:=C.adA_jr (C.times_on hP _) hP hd hx
  obtain ⟨q',h1,h2⟩:=Ec.stp_jr hP hx L (C.stp x A b) (q*2^(A.2-b)+1) hp.2 ha (.inr hp.1)
  refine ⟨q',h1,h2.trans ?_⟩
  show (q*2^(A.2-b)+1)*2^b+SOg L=q*2^A.2+(2^b+SOg L)
  rcases hq with rfl|hq
  ·rw[Nat.zero_mul,Nat.zero_mul];omega
  ·have hb:=hq b List.mem_cons_self
   rw[Nat.add_mul,Nat.mul_assoc,←Nat.pow_add,show A.2-b+b=A.2 from by omega]
   omega
theorem Ec.tmF_jr{x:α×α×α}{P:Pt α}(hP:C.onP P)(hx:C.jr x P){L:List Nat}(hL:L.Pairwise (fun a b=>b≤a)):C.jr (C.tmF x L) (C.times P (SOg L)):=by
 obtain ⟨q,h1,h2⟩:=C.stp_jr hP hx L ((C.R.zero,C.R.zero,C.R.zero),0) 0 hL rfl (.inl rfl)
 have e:C.stK x L L.length=L.foldl (C.stp x) ((C.R.zero,C.R.zero,C.R.zero),0):=by rw[Ec.stK,List.take_length]
 rw[Nat.zero_mul,Nat.zero_add]at h2
 have h:=C.dbN_jr hP h1 (L.foldl (C.stp x) ((C.R.zero,C.R.zero,C.R.zero),0)).2
 rw[h2]at h
 rw[Ec.tmF,e]
 exact h
end
end
section
def i3a(a b c:W2):W2:=sb2 (ml2 a a) (xi2 (ml2 b c))
def i3b(a b c:W2):W2:=sb2 (xi2 (ml2 c c)) (ml2 a b)
def i3c(a b c:W2):W2:=sb2 (ml2 b b) (ml2 a c)
def i3n(a b c:W2):W2:=ad2 (ml2 a (i3a a b c)) (xi2 (ad2 (ml2 c (i3b a b c)) (ml2 b (i3c a b c))))
theorem I6(a b c:W2):i3a a b c=(kH R2 XI (a,b,c)).1:=zq R2 [a,b,c,XI] (tsb (tm j0 j0) (txi 3 (tm j1 j2) rfl)) (ta (tm j0 j0) (tn (tm j3 (tm j1 j2))))
theorem He(a b c:W2):i3b a b c=(kH R2 XI (a,b,c)).2.1:=zq R2 [a,b,c,XI] (tsb (txi 3 (tm j2 j2) rfl) (tm j0 j1)) (ta (tm j3 (tm j2 j2)) (tn (tm j0 j1)))
theorem Hr(a b c:W2):i3c a b c=(kH R2 XI (a,b,c)).2.2:=zq R2 [a,b,c,XI] (tsb (tm j1 j1) (tm j0 j2)) (ta (tm j1 j1) (tn (tm j0 j2)))
theorem Io(a b c:W2):i3n a b c=cnm R2 XI (a,b,c):=zq R2 [a,b,c,XI] (ta (tm j0 (tsb (tm j0 j0) (txi 3 (tm j1 j2) rfl))) (txi 3 (ta (tm j2 (tsb (txi 3 (tm j2 j2) rfl) (tm j0 j1))) (tm j1 (tsb (tm j1 j1) (tm j0 j2)))) rfl)) (ta (tm j0 (ta (tm j0 j0) (tn (tm j3 (tm j1 j2))))) (tm j3 (ta (tm j2 (ta (tm j3 (tm j2 j2)) (tn (tm j0 j1)))) (tm j1 (ta (tm j1 j1) (tn (tm j0 j2)))))))
def iv6(x:W6):W6:=(ml2 (i3a x.1 x.2.1 x.2.2) (iv2 (i3n x.1 x.2.1 x.2.2)),ml2 (i3b x.1 x.2.1 x.2.2) (iv2 (i3n x.1 x.2.1 x.2.2)),ml2 (i3c x.1 x.2.1 x.2.2) (iv2 (i3n x.1 x.2.1 x.2.2)))
theorem CT{x:W6}(h:x≠K6.zero):K6.mul x (iv6 x)=K6.one:=by
 have hn:cnm R2 XI x≠ze2:=fun e=>h (qq fd2 vR e)
 have hi:R2.mul (cnm R2 XI x) (iv2 (cnm R2 XI x))=R2.one:=cr hn
 have e:=wc (R:=R2) (z:=XI) x hi
 unfold iv6
 rw[I6,He,Hr,Io]
 exact e
def Ie(x:W12):W12:=K12.mul (x.1,K6.neg x.2) (iv6 (qnm K6 VV x),K6.zero)
theorem MC{α:Type}(R:Rg α)(z a b:α):Bl R z (a,R.zero) (b,R.zero)=(R.mul a b,R.zero):=Prod.ext (zq R [a,b,z] (ta (tm j0 j1) (tm j2 (tm tz0 tz0))) (tm j0 j1)) (zq R [a,b,z] (ta (tm j0 tz0) (tm tz0 j1)) tz0)
theorem yG{x:W12}(h:x≠K12.zero):K12.mul x (Ie x)=K12.one:=by
 have hn:qnm K6 VV x≠K6.zero:=fun e=>h (xh fd6 I2 e)
 have e:=HC K6 VV x
 rw[Ie,←K12.mul_assoc]
 show K12.mul (Bl K6 VV x (x.1,K6.neg x.2)) (iv6 (qnm K6 VV x),K6.zero)=K12.one
 rw[e]
 show Bl K6 VV (qnm K6 VV x,K6.zero) (iv6 (qnm K6 VV x),K6.zero)=K12.one
 rw[MC,CT hn]
 rfl
/-! ### Six parts turned -/
/-! ### Powers by bits, in any ring -/
end
section
def sc6(x:W6)(c:W2):W6:=(ml2 x.1 c,ml2 x.2.1 c,ml2 x.2.2 c)
theorem GW(x:W6)(c:W2):K6.mul x (c,ze2,ze2)=sc6 x c:=Prod.ext (zq R2 [x.1,x.2.1,x.2.2,c,XI] (ta (tm j0 j3) (tm j4 (ta (tm j1 tz0) (tm j2 tz0)))) (tm j0 j3)) (Prod.ext (zq R2 [x.1,x.2.1,x.2.2,c,XI] (ta (ta (tm j0 tz0) (tm j1 j3)) (tm j4 (tm j2 tz0))) (tm j1 j3)) (zq R2 [x.1,x.2.1,x.2.2,c,XI] (ta (ta (tm j0 tz0) (tm j1 tz0)) (tm j2 j3)) (tm j2 j3)))
def r6(x:W6):W12:=(x,K6.zero)
theorem Jc(x y:W6):K12.mul (r6 x) (r6 y)=r6 (K6.mul x y):=MC K6 VV x y
theorem At(x:W6)(c:W2):K12.mul (r6 x) (em c)=r6 (sc6 x c):=by
 rw[←GW];exact Jc x (c,ze2,ze2)
/-! ### The chapter's examples -/
end
section
section
variable {α:Type} [DecidableEq α] {C:Ec α} (T:Tw C)
end
theorem EX{α:Type}(C:Ec α){J:α×α×α}{P:Pt α}{x y:α}(h:C.jr J P)(hz:J.2.2≠C.R.zero)(hx:J.1=C.R.mul x (C.z2 J.2.2))(hy:J.2.1=C.R.mul y (C.z3 J.2.2)):P=some (x,y):=by
 cases P with
 |none=>exact absurd h hz
 |some p=>
  refine congrArg some (Prod.ext ?_ ?_)
  ·exact C.mul_can (C.z2_ne hz) (h.2.1.symm.trans hx)
  ·exact C.mul_can (C.z3_ne hz) (h.2.2.symm.trans hy)
theorem E8{α:Type} [DecidableEq α](C:Ec α){J K:α×α×α}{P:Pt α}(hP:C.onP P)(h:C.jr J P)(l:List Bool){n:Nat}(hn:jf l 0=n)(hK:C.jm J l (C.R.zero,C.R.zero,C.R.zero)=K){x y:α}(hz:K.2.2≠C.R.zero)(hx:K.1=C.R.mul x (C.z2 K.2.2))(hy:K.2.1=C.R.mul y (C.z3 K.2.2)):C.times P n=some (x,y):=by
 have k:=C.jr_m hP h l (C.R.zero,C.R.zero,C.R.zero) 0 (show C.R.zero=C.R.zero from rfl)
 rw[hn,hK]at k
 exact EX C k hz hx hy
theorem Bo{p:Nat}(hp:Pr p){d:Nat}(h0:0<d)(h1:d<p): ∃e,(d*e) % p=1:=by
 refine ⟨d^(p-2), ?_⟩
 have h2:1<p:=hp.1
 rw[←Nat.pow_succ',show (p-2).succ=p-1 from by omega]
 exact hp.fermat1 fun h=>absurd (Nat.le_of_dvd h0 h) (by omega)
/-! ### The first curve -/
def TRN:Nat:=0x5f19672fdf76ce51ba69c6076a0f77eaddb3a93be6f89688de17d813620a00022e01fffffffefffe
theorem Ik:zp TRN*zp TRN*(zp TRN*zp TRN)=zp TRN:=by decide+kernel
theorem I1:zp TRN*zp TRN*(zp TRN*zp TRN*(zp TRN*zp TRN))=1:=by decide+kernel
theorem J3:zp TRN*zp TRN≠0:=by decide+kernel
def TW1:Tw E1 where
 f:=fun a=>a
 w:=zp TRN*zp TRN
 fa:=fun _ _=>rfl
 fm:=fun _ _=>rfl
 fn:=fun _=>rfl
 f0:=rfl
 fi:=fun _ h=>h
 wn:=J3
 wb:=by decide+kernel
theorem Gb(q:Zp×Zp):TW1.m q=(zp TRN*q.1,q.2):=by
 refine Prod.ext ?_ ?_
 ·show zp TRN*zp TRN*(zp TRN*zp TRN)*q.1=zp TRN*q.1
  rw[Ik]
 ·show zp TRN*zp TRN*(zp TRN*zp TRN*(zp TRN*zp TRN))*q.2=q.2
  rw[I1]
  generalize q.2=y
  grind
def UG:Nat:=0xd201000000010000
theorem HV:ORD+UG*UG=(UG*UG)*(UG*UG)+1:=by decide+kernel
def UGJ:Zp×Zp×Zp:=E1.jm (zp G1x,zp G1y,1) (dg 128 (UG*UG) []) (0,0,0)
theorem IP:E1.jm (zp G1x,zp G1y,1) (dg 128 (UG*UG) []) (E1.R.zero,E1.R.zero,E1.R.zero)=UGJ:=by unfold UGJ;rfl
theorem Eu:jf (dg 128 (UG*UG) []) 0=UG*UG:=by decide+kernel
theorem ugj:UGJ.2.2≠0∧UGJ.1=zp TRN*zp G1x*(UGJ.2.2*UGJ.2.2)∧UGJ.2.1= -(zp G1y)*(UGJ.2.2*UGJ.2.2*UGJ.2.2):=by decide+kernel
theorem Ms:E1.times (some G1p) (UG*UG)=some (zp TRN*zp G1x,-(zp G1y)):=E8 E1 (P:=some G1p) BX Gs (dg 128 (UG*UG) []) Eu IP ugj.1 ugj.2.1 ugj.2.2
theorem tP:E1.onP (some G1p):=BX
theorem K4:E1.ne (E1.times (E1.times (some G1p) UG) UG)=TW1.p (some G1p):=by
 rw[←E1.times_mul tP,Ms]
 refine congrArg some ((Prod.ext rfl ?_:_=(zp TRN*zp G1x,zp G1y)).trans (Gb G1p).symm)
 show- -(zp G1y)=zp G1y
 generalize zp G1y=y
 grind
theorem Cn:Pr ORD:=by
 have e:ORD=RR:=by decide+kernel
 rw[e];exact pr_r
theorem E2:(some G1p:Pt Zp)≠none:=fun h=>by cases h
end
section
/-! ### Sums of powers -/
section
variable {α:Type} (R:Rg α)
def Rg.pev:List α→α→α
 |[],_=>R.zero
 |a::p,x=>R.add a (R.mul x (Rg.pev p x))
def Rg.pa:List α→List α→List α
 |[],q=>q
 |a::p,[]=>a::p
 |a::p,b::q=>R.add a b::Rg.pa p q
def Rg.pk(c:α)(p:List α):List α:=p.map (R.mul c)
def Rg.pp:List α→List α→List α
 |[],_=>[]
 |_::_,[]=>[]
 |a::p,b::q=>Rg.pa R (Rg.pk R a (b::q)) (R.zero::Rg.pp p (b::q))
theorem Rg.pev_pa(x:α): ∀p q,R.pev (R.pa p q) x=R.add (R.pev p x) (R.pev q x)
 |[],q=>(R.zero_add _).symm
 |a::p,[]=>(R.add_zero _).symm
 |a::p,b::q=>by
  show R.add (R.add a b) (R.mul x (R.pev (R.pa p q) x))=R.add (R.add a (R.mul x (R.pev p x))) (R.add b (R.mul x (R.pev q x)))
  rw[Rg.pev_pa x p q,R.mul_add,R.add_four]
theorem Rg.pev_pk(c x:α): ∀p,R.pev (R.pk c p) x=R.mul c (R.pev p x)
 |[]=>(R.mul_zero _).symm
 |a::p=>by
  show R.add (R.mul c a) (R.mul x (R.pev (R.pk c p) x))=R.mul c (R.add a (R.mul x (R.pev p x)))
  rw[Rg.pev_pk c x p,R.mul_add,R.mul_left_comm]
theorem Rg.pev_pp(x:α): ∀p q,R.pev (R.pp p q) x=R.mul (R.pev p x) (R.pev q x)
 |[],q=>(R.zero_mul _).symm
 |a::p,[]=>(R.mul_zero _).symm
 |a::p,b::q=>by
  show R.pev (R.pa (R.pk a (b::q)) (R.zero::R.pp p (b::q))) x=R.mul (R.add a (R.mul x (R.pev p x))) (R.pev (b::q) x)
  rw[R.pev_pa,R.pev_pk,R.add_mul,R.mul_assoc,←Rg.pev_pp x p (b::q)]
  show R.add _ (R.add R.zero _)=_
  rw[R.zero_add]
theorem Rg.len_pa: ∀(p q:List α) (n:Nat),p.length≤n→q.length≤n→(R.pa p q).length≤n
 |[],_,_,_,h=>h
 |_::_,[],_,h,_=>h
 |a::p,b::q,n,h,k=>by
  have h:p.length+1≤n:=h
  have k:q.length+1≤n:=k
  have:=Rg.len_pa p q (n-1) (by omega) (by omega)
  show (R.pa p q).length+1≤n
  omega
theorem Rg.len_pp: ∀p q:List α,(R.pp p q).length≤p.length+q.length-1∧(p.length=0→(R.pp p q).length=0)∧(q.length=0→(R.pp p q).length=0)
 |[],q=>⟨Nat.zero_le _,fun _=>rfl,fun _=>rfl⟩
 |a::p,[]=>⟨Nat.zero_le _,fun _=>rfl,fun _=>rfl⟩
 |a::p,b::q=>by
  refine ⟨?_,fun h=>absurd h (Nat.succ_ne_zero _),fun h=>absurd h (Nat.succ_ne_zero _)⟩
  have ih:=Rg.len_pp p (b::q)
  have e1:(b::q).length=q.length+1:=rfl
  have e2:(a::p).length=p.length+1:=rfl
  have h1:(R.pk a (b::q)).length=q.length+1:=by rw[Rg.pk,List.length_map];rfl
  refine R.len_pa _ _ _ (by omega) ?_
  show (R.pp p (b::q)).length+1≤_
  rcases Nat.eq_zero_or_pos p.length with h0|h0
  ·have:=ih.2.1 h0
   omega
  ·omega
theorem Rg.mul_ex(p q:List α): ∃s:List α,s.length≤p.length+q.length-1∧(p.length=0→s.length=0)∧(q.length=0→s.length=0)∧∀x,R.pev s x=R.mul (R.pev p x) (R.pev q x):=⟨R.pp p q,(R.len_pp p q).1,(R.len_pp p q).2.1,(R.len_pp p q).2.2,fun x=>R.pev_pp x p q⟩
theorem Rg.add_ex(p q:List α)(n:Nat)(h:p.length≤n)(k:q.length≤n): ∃s:List α,s.length≤n∧∀x,R.pev s x=R.add (R.pev p x) (R.pev q x):=⟨R.pa p q,R.len_pa p q n h k,fun x=>R.pev_pa x p q⟩
theorem Rg.split(a:α): ∀p:List α,∃q:List α,q.length≤p.length-1∧∀x,R.pev p x=R.add (R.mul (R.pev q x) (R.add x (R.neg a))) (R.pev p a)
 |[]=>⟨[],Nat.le_refl _,fun x=>by show R.zero=R.add (R.mul R.zero _) R.zero;rw[R.zero_mul,R.add_zero]⟩
 |[c]=>⟨[],Nat.le_refl _,fun x=>by show R.add c (R.mul x R.zero)=R.add (R.mul R.zero _) (R.add c (R.mul a R.zero));rw[R.zero_mul,R.zero_add,R.mul_zero,R.mul_zero]⟩
 |c::d::p=>by
  obtain ⟨q,h1,h2⟩:=Rg.split a (d::p)
  refine ⟨R.pev (d::p) a::q, ?_,fun x=> ?_⟩
  ·have e1:(d::p).length=p.length+1:=rfl
   show q.length+1≤p.length+2-1
   omega
  ·show R.add c (R.mul x (R.pev (d::p) x))=R.add (R.mul (R.add (R.pev (d::p) a) (R.mul x (R.pev q x))) (R.add x (R.neg a))) (R.add c (R.mul a (R.pev (d::p) a)))
   rw[h2 x]
   generalize R.pev (d::p) a=t
   generalize R.pev q x=u
   exact zq R [c,x,t,u,a] (ta j0 (tm j1 (ta (tm j3 (ta j1 (tn j4))) j2))) (ta (tm (ta j2 (tm j1 j3)) (ta j1 (tn j4))) (ta j0 (tm j4 j2)))
theorem Rg.roots(hR:Fd R): ∀(n:Nat) (p:List α) (xs:Nat→α),p.length≤n→(∀i j,i<j→j<n→xs i≠xs j)→(∀i,i<n→R.pev p (xs i)=R.zero)→∀x,R.pev p x=R.zero
 |0,p,_,h,_,_=>fun x=>by
  obtain rfl:p=[]:=List.eq_nil_of_length_eq_zero (by omega)
  rfl
 |n+1,p,xs,h,hi,h0=>fun x=>by
  obtain ⟨q,h1,h2⟩:=R.split (xs n) p
  have hp: ∀x,R.pev p x=R.mul (R.pev q x) (R.add x (R.neg (xs n))):=fun x=>by rw[h2 x,h0 n (by omega),R.add_zero]
  have hq:=Rg.roots hR n q xs (by omega) (fun i j hij hj=>hi i j hij (by omega)) (fun i hin=>by
   have e:=h0 i (by omega)
   rw[hp]at e
   refine (hR.two e).resolve_right fun e2=>hi i n hin (by omega) ?_
   have:=R.neg_of e2
   rw[←R.neg_neg (xs i),←this,R.neg_neg]) x
  rw[hp,hq,R.zero_mul]
end
theorem Bb{d e a a' A:Nat}(h1:a≤d+1)(k1:a'≤e+1)(lA:A≤a+a'-1):A≤d+e+1:=by omega
theorem AI{d e b b' B D:Nat}(h2:b≤d-1)(k2:b'≤e-1)(lB:B≤b+b'-1)(lB1:b=0→B=0)(lB2:b'=0→B=0)(lD:D≤4+B-1)(lD2:B=0→D=0):D≤d+e+1:=by
 rcases Nat.eq_zero_or_pos B with h0|h0
 ·rw[lD2 h0];omega
 ·have hb:0<b:=Nat.pos_of_ne_zero fun e=>by have:=lB1 e;omega
  have hb':0<b':=Nat.pos_of_ne_zero fun e=>by have:=lB2 e;omega
  omega
theorem Gq{d e a b E:Nat}(h1:a≤d+1)(k2:b≤e-1)(lE:E≤a+b-1)(lE2:b=0→E=0):E≤d+e-1:=by
 rcases Nat.eq_zero_or_pos b with h0|h0
 ·rw[lE2 h0];omega
 ·omega
/-! ### What is made of a point's numbers -/
section
variable {α:Type} (C:Ec α)
def Ec.DW(d:Nat)(F:α→α→α):Prop:= ∃a b:List α,a.length≤d+1∧b.length≤d-1∧∀x y,C.on (x,y)→F x y=C.R.add (C.R.pev a x) (C.R.mul y (C.R.pev b x))
theorem Ec.DW.up{C:Ec α}{d e:Nat}{F:α→α→α}(h:C.DW d F)(hd:d≤e):C.DW e F:=by
 obtain ⟨a,b,h1,h2,h3⟩:=h
 exact ⟨a,b,by omega,by omega,h3⟩
theorem Ec.DW.add{C:Ec α}{d:Nat}{F G:α→α→α}(h:C.DW d F)(k:C.DW d G):C.DW d (fun x y=>C.R.add (F x y) (G x y)):=by
 obtain ⟨a,b,h1,h2,h3⟩:=h
 obtain ⟨a',b',k1,k2,k3⟩:=k
 refine ⟨C.R.pa a a',C.R.pa b b',C.R.len_pa _ _ _ h1 k1,C.R.len_pa _ _ _ h2 k2,fun x y hxy=> ?_⟩
 show C.R.add (F x y) (G x y)=_
 rw[h3 x y hxy,k3 x y hxy,C.R.pev_pa,C.R.pev_pa,C.R.mul_add,C.R.add_four]
theorem Ec.DW.neg{C:Ec α}{d:Nat}{F:α→α→α}(h:C.DW d F):C.DW d (fun x y=>C.R.neg (F x y)):=by
 obtain ⟨a,b,h1,h2,h3⟩:=h
 refine ⟨C.R.pk (C.R.neg C.R.one) a,C.R.pk (C.R.neg C.R.one) b,by rw[Rg.pk,List.length_map];exact h1,by rw[Rg.pk,List.length_map];exact h2,fun x y hxy=> ?_⟩
 show C.R.neg (F x y)=_
 rw[h3 x y hxy,C.R.pev_pk,C.R.pev_pk]
 generalize C.R.pev a x=s
 generalize C.R.pev b x=t
 exact zq C.R [s,t,y] (tn (ta j0 (tm j2 j1))) (ta (tm (tn to1) j0) (tm j2 (tm (tn to1) j1)))
theorem Ec.DW.sub{C:Ec α}{d:Nat}{F G:α→α→α}(h:C.DW d F)(k:C.DW d G):C.DW d (fun x y=>C.sub (F x y) (G x y)):=h.add k.neg
theorem Ec.DW.mul{C:Ec α}{d e:Nat}{F G:α→α→α}(h:C.DW d F)(k:C.DW e G):C.DW (d+e) (fun x y=>C.R.mul (F x y) (G x y)):=by
 obtain ⟨a,b,h1,h2,h3⟩:=h
 obtain ⟨a',b',k1,k2,k3⟩:=k
 obtain ⟨A,lA,_,_,hA⟩:=C.R.mul_ex a a'
 obtain ⟨B,lB,lB1,lB2,hB⟩:=C.R.mul_ex b b'
 obtain ⟨c,hc,h4⟩: ∃c:List α,c.length=4∧∀x,C.R.pev c x=C.R.add C.b (C.R.mul x (C.R.add C.R.zero (C.R.mul x (C.R.add C.R.zero (C.R.mul x (C.R.add C.R.one (C.R.mul x C.R.zero))))))):=⟨[C.b,C.R.zero,C.R.zero,C.R.one],rfl,fun _=>rfl⟩
 obtain ⟨D,lD,_,lD2,hD⟩:=C.R.mul_ex c B
 obtain ⟨E,lE,_,lE2,hE⟩:=C.R.mul_ex a b'
 obtain ⟨G',lG,_,lG2,hG⟩:=C.R.mul_ex a' b
 have dD:D.length≤d+e+1:=AI h2 k2 lB lB1 lB2 (by rw[hc]at lD;exact lD) lD2
 have dE:E.length≤d+e-1:=Gq h1 k2 lE lE2
 have dG:G'.length≤d+e-1:=by rw[Nat.add_comm d e];exact Gq k1 h2 lG lG2
 have dA:A.length≤d+e+1:=Bb h1 k1 lA
 obtain ⟨S,lS,hS⟩:=C.R.add_ex A D (d+e+1) dA dD
 obtain ⟨U,lU,hU⟩:=C.R.add_ex E G' (d+e-1) dE dG
 refine ⟨S,U,lS,lU,fun x y hxy=> ?_⟩
 ·have hy:C.R.mul y y=C.R.add (C.R.mul x (C.R.mul x x)) C.b:=hxy
  show C.R.mul (F x y) (G x y)=_
  rw[h3 x y hxy,k3 x y hxy,hS,hU,hA,hD,h4,hB,hE,hG]
  generalize C.R.pev a x=s
  generalize C.R.pev b x=t
  generalize C.R.pev a' x=s'
  generalize C.R.pev b' x=t'
  exact Rg.lc (R:=C.R) (zq C.R [s,t,s',t',x,y,C.b] (ta (tm (ta j0 (tm j5 j1)) (ta j2 (tm j5 j3))) (tm (tm j1 j3) (ta (tm j4 (tm j4 j4)) j6))) (ta (ta (ta (tm j0 j2) (tm (ta j6 (tm j4 (ta tz0 (tm j4 (ta tz0 (tm j4 (ta to1 (tm j4 tz0)))))))) (tm j1 j3))) (tm j5 (ta (tm j0 j3) (tm j2 j1)))) (tm (tm j1 j3) (tm j5 j5)))) (lcm hy)
theorem Ec.DW.x(C:Ec α):C.DW 1 (fun x _=>x):=⟨[C.R.zero,C.R.one],[],Nat.le_refl _,Nat.zero_le _,fun x y _=>by
 show x=C.R.add (C.R.add C.R.zero (C.R.mul x (C.R.add C.R.one (C.R.mul x C.R.zero)))) (C.R.mul y C.R.zero)
 exact zq C.R [x,y] j0 (ta (ta tz0 (tm j0 (ta to1 (tm j0 tz0)))) (tm j1 tz0))⟩
theorem Ec.DW.y(C:Ec α):C.DW 2 (fun _ y=>y):=⟨[],[C.R.one],Nat.zero_le _,Nat.le_refl _,fun x y _=>by
 show y=C.R.add C.R.zero (C.R.mul y (C.R.add C.R.one (C.R.mul x C.R.zero)))
 exact zq C.R [x,y] j1 (ta tz0 (tm j1 (ta to1 (tm j0 tz0))))⟩
theorem Ec.DW.one(C:Ec α):C.DW 0 (fun _ _=>C.R.one):=⟨[C.R.one],[],Nat.le_refl _,Nat.zero_le _,fun x y _=>by
 show C.R.one=C.R.add (C.R.add C.R.one (C.R.mul x C.R.zero)) (C.R.mul y C.R.zero)
 exact zq C.R [x,y] to1 (ta (ta to1 (tm j0 tz0)) (tm j1 tz0))⟩
theorem Ec.jd_z(X Y Z:α):(C.jd X Y Z).2.2=C.R.add (C.R.mul Y Z) (C.R.mul Y Z):=rfl
theorem Ec.ja_z(X Y Z X' Y' Z':α):(C.ja X Y Z X' Y' Z').2.2=C.R.mul (C.R.mul Z Z') (C.jh X Z X' Z'):=rfl
theorem Ec.one_ne:C.R.one≠C.R.zero:=fun h=>C.h2 (by rw[h,C.R.add_zero])
theorem Ec.jr_here(x y:α):C.jr (x,y,C.R.one) (some (x,y)):=by
 refine ⟨C.one_ne, ?_, ?_⟩
 ·show x=C.R.mul x (C.R.mul C.R.one C.R.one)
  rw[C.R.mul_one,C.R.mul_one]
 ·show y=C.R.mul y (C.R.mul (C.R.mul C.R.one C.R.one) C.R.one)
  rw[C.R.mul_one,C.R.mul_one,C.R.mul_one]
def Ec.js(x y:α):List Bool→α×α×α→α×α×α
 |[],A=>A
 |false::r,A=>Ec.js x y r (C.jd A.1 A.2.1 A.2.2)
 |true::r,A=>Ec.js x y r (C.ja (C.jd A.1 A.2.1 A.2.2).1 (C.jd A.1 A.2.1 A.2.2).2.1 (C.jd A.1 A.2.1 A.2.2).2.2 x y C.R.one)
def mB:List Bool→Nat→Nat
 |[],m=>m
 |false::r,m=>mB r (4*m)
 |true::r,m=>mB r (3*(4*m)+2)
structure Ec.DJ(m:Nat)(A:α→α→α×α×α):Prop where
 X:C.DW (2*m) (fun x y=>(A x y).1)
 Y:C.DW (3*m) (fun x y=>(A x y).2.1)
 Z:C.DW m (fun x y=>(A x y).2.2)
theorem Ec.DJ.d{C:Ec α}{m:Nat}{A:α→α→α×α×α}(h:C.DJ m A):C.DJ (4*m) (fun x y=>C.jd (A x y).1 (A x y).2.1 (A x y).2.2):=by
 have XX:=h.X.mul h.X
 have M:=(XX.add XX).add XX
 have MM:=M.mul M
 have YY:=h.Y.mul h.Y
 have XY:=h.X.mul YY
 have S2:=XY.add XY
 have S:=S2.add S2
 have Y4:=YY.mul YY
 have Y8:=(Y4.add Y4).add (Y4.add Y4)
 have YZ:=h.Y.mul h.Z
 have X':=((MM.up (e:=2*(4*m)) (by omega)).sub (S.up (by omega))).sub (S.up (by omega))
 refine ⟨X', ?_,(YZ.add YZ).up (by omega)⟩
 exact ((M.mul ((S.up (e:=2*(4*m)) (by omega)).sub X')).up (by omega)).sub ((Y8.add Y8).up (by omega))
theorem Ec.DJ.a{C:Ec α}{m:Nat}{A:α→α→α×α×α}(h:C.DJ m A):C.DJ (3*m+2) (fun x y=>C.ja (A x y).1 (A x y).2.1 (A x y).2.2 x y C.R.one):=by
 have o1:=Ec.DW.one C
 have ZZ:=h.Z.mul h.Z
 have hx:=(Ec.DW.x C).mul ZZ
 have hX:=h.X.mul (o1.mul o1)
 have H:=(hx.up (e:=2*m+1) (by omega)).sub (hX.up (by omega))
 have hy:=((Ec.DW.y C).mul ZZ).mul h.Z
 have hY:=(h.Y.mul (o1.mul o1)).mul o1
 have Q:=(hy.up (e:=3*m+2) (by omega)).sub (hY.up (by omega))
 have HH:=H.mul H
 have HHH:=HH.mul H
 have W:=hX.mul HH
 have X':=(((Q.mul Q).up (e:=2*(3*m+2)) (by omega)).sub (HHH.up (by omega))).sub (W.up (by omega))|>.sub (W.up (by omega))
 refine ⟨X', ?_,((h.Z.mul o1).mul H).up (by omega)⟩
 exact ((Q.mul ((W.up (e:=2*(3*m+2)) (by omega)).sub X')).up (by omega)).sub ((hY.mul HHH).up (by omega))
theorem Ec.DJ.s{C:Ec α}: ∀(l:List Bool) (m:Nat) (A:α→α→α×α×α),C.DJ m A→C.DJ (mB l m) (fun x y=>C.js x y l (A x y))
 |[],_,_,h=>h
 |false::r,_,_,h=>Ec.DJ.s r _ _ h.d
 |true::r,_,_,h=>Ec.DJ.s r _ _ h.d.a
theorem Ec.DJ.p(C:Ec α):C.DJ 1 (fun x y=>(x,y,C.R.one)):=⟨(Ec.DW.x C).up (by omega),(Ec.DW.y C).up (by omega),(Ec.DW.one C).up (by omega)⟩
end
section
variable {α:Type} [DecidableEq α] (C:Ec α)
theorem Ec.js_d{P:Pt α}(hP:C.onP P){A:α×α×α}(h:A.2.2=C.R.zero∨C.jr A P):(C.jd A.1 A.2.1 A.2.2).2.2=C.R.zero∨C.jr (C.jd A.1 A.2.1 A.2.2) (C.ad P P):=by
 by_cases hz:A.2.2=C.R.zero
 ·left;rw[C.jd_z,hz,C.R.mul_zero,C.R.add_zero]
 by_cases hy:A.2.1=C.R.zero
 ·left;rw[C.jd_z,hy,C.R.zero_mul,C.R.add_zero]
 right
 have k:=C.jr_d hP (h.resolve_left hz)
 rw[show C.jdF A=C.jd A.1 A.2.1 A.2.2 from if_neg (fun e=>e.elim hz hy)]at k
 exact k
theorem Ec.js_a{P Q:Pt α}(hP:C.onP P)(hQ:C.onP Q){A B:α×α×α}(h:A.2.2=C.R.zero∨C.jr A P)(k:C.jr B Q)(hB:B.2.2≠C.R.zero):(C.ja A.1 A.2.1 A.2.2 B.1 B.2.1 B.2.2).2.2=C.R.zero∨C.jr (C.ja A.1 A.2.1 A.2.2 B.1 B.2.1 B.2.2) (C.ad P Q):=by
 by_cases hz:A.2.2=C.R.zero
 ·left;rw[C.ja_z,hz,C.R.zero_mul,C.R.zero_mul]
 by_cases hh:C.jh A.1 A.2.2 B.1 B.2.2=C.R.zero
 ·left;rw[C.ja_z,hh,C.R.mul_zero]
 right
 have j:=C.jr_a hP hQ (h.resolve_left hz) k
 rw[show C.jaF A B=C.ja A.1 A.2.1 A.2.2 B.1 B.2.1 B.2.2 from (if_neg hz).trans ((if_neg hB).trans (if_neg hh))]at j
 exact j
def fM:List Bool→Nat→Nat
 |[],n=>n
 |false::r,n=>fM r (2*n)
 |true::r,n=>fM r (2*n+1)
theorem Ec.js_of{x y:α}(hp:C.onP (some (x,y))): ∀(l:List Bool) (A:α×α×α) (n:Nat),(A.2.2=C.R.zero∨C.jr A (C.times (some (x,y)) n))→((C.js x y l A).2.2=C.R.zero∨C.jr (C.js x y l A) (C.times (some (x,y)) (fM l n)))
 |[],_,_,h=>h
 |false::r,A,n,h=>by
  have hd:=C.js_d (C.times_on hp n) h
  rw[←C.times_add hp,←Nat.two_mul]at hd
  exact Ec.js_of hp r _ _ hd
 |true::r,A,n,h=>by
  have hd:=C.js_d (C.times_on hp n) h
  rw[←C.times_add hp,←Nat.two_mul]at hd
  have ha:=C.js_a (C.times_on hp (2*n)) hp hd (C.jr_here x y) C.one_ne
  exact Ec.js_of hp r _ (2*n+1) ha
theorem Ec.js_none{x y:α}(hp:C.onP (some (x,y)))(l:List Bool)(h:C.times (some (x,y)) (fM l 1)=none):(C.js x y l (x,y,C.R.one)).2.2=C.R.zero:=by
 rcases C.js_of hp l (x,y,C.R.one) 1 (.inr (C.jr_here x y))with k|k
 ·exact k
 ·rw[h]at k
  exact k
theorem Ec.tors{l:List Bool}{x0 y0:α}(h0:C.on (x0,y0))(n1:(C.js x0 y0 l (x0,y0,C.R.one)).2.2≠C.R.zero)(n2:(C.js x0 (C.R.neg y0) l (x0,C.R.neg y0,C.R.one)).2.2≠C.R.zero)
 (n:Nat) (xs ys:Nat→α) (hon: ∀i,i<n→C.on (xs i,ys i)) (ht: ∀i,i<n→C.times (some (xs i,ys i)) (fM l 1)=none) (hi: ∀i j,i<j→j<n→xs i≠xs j):n≤2*mB l 1:=by
 obtain ⟨a,b,l1,l2,hZ⟩:=(Ec.DJ.s l 1 _ (Ec.DJ.p C)).Z
 obtain ⟨A,lA,_,_,hA⟩:=C.R.mul_ex a a
 obtain ⟨B,lB,lB1,_,hB⟩:=C.R.mul_ex b b
 obtain ⟨c,hc,h4⟩: ∃c:List α,c.length=4∧∀x,C.R.pev c x=C.R.mul (C.R.neg C.R.one) (C.R.add C.b (C.R.mul x (C.R.add C.R.zero (C.R.mul x (C.R.add C.R.zero (C.R.mul x (C.R.add C.R.one (C.R.mul x C.R.zero)))))))):=⟨C.R.pk (C.R.neg C.R.one) [C.b,C.R.zero,C.R.zero,C.R.one],rfl,fun x=>C.R.pev_pk _ x _⟩
 obtain ⟨D,lD,_,lD2,hD⟩:=C.R.mul_ex c B
 generalize hM:mB l 1=M at l1 l2
 have dD:D.length≤2*M+1:=by
  have:=AI l2 l2 lB lB1 lB1 (by rw[hc]at lD;exact lD) lD2
  rw[Nat.two_mul];exact this
 have dA:A.length≤2*M+1:=by
  have:=Bb l1 l1 lA
  rw[Nat.two_mul];exact this
 obtain ⟨N,lN,hN'⟩:=C.R.add_ex A D (2*M+1) dA dD
 have hN: ∀x y,C.on (x,y)→C.R.pev N x=C.R.mul (C.R.add (C.R.pev a x) (C.R.mul y (C.R.pev b x))) (C.R.add (C.R.pev a x) (C.R.mul (C.R.neg y) (C.R.pev b x))):=fun x y hxy=>by
  have hy:C.R.mul y y=C.R.add (C.R.mul x (C.R.mul x x)) C.b:=hxy
  rw[hN',hA,hD,h4,hB]
  generalize C.R.pev a x=s
  generalize C.R.pev b x=t
  exact Rg.lc (R:=C.R) (zq C.R [s,t,x,y,C.b] (ta (ta (tm j0 j0) (tm (tm (tn to1) (ta j4 (tm j2 (ta tz0 (tm j2 (ta tz0 (tm j2 (ta to1 (tm j2 tz0))))))))) (tm j1 j1))) (tm (tm j1 j1) (ta (tm j2 (tm j2 j2)) j4))) (ta (tm (ta j0 (tm j3 j1)) (ta j0 (tm (tn j3) j1))) (tm (tm j1 j1) (tm j3 j3)))) (lcm hy)
 rcases Nat.lt_or_ge (2*M) n with hn|hn
 ·exfalso
  have hz:=C.R.roots C.fd (2*M+1) N xs lN (fun i j hij hj=>hi i j hij (by omega)) (fun i hin=>by
   rw[hN (xs i) (ys i) (hon i (by omega)),←hZ (xs i) (ys i) (hon i (by omega))]
   show C.R.mul (C.js (xs i) (ys i) l (xs i,ys i,C.R.one)).2.2 _=_
   rw[C.js_none (hon i (by omega)) l (ht i (by omega)),C.R.zero_mul]) x0
  rw[hN x0 y0 h0,←hZ x0 y0 h0,←hZ x0 (C.R.neg y0) (C.ng_on (p:=(x0,y0)) h0)]at hz
  exact (C.fd.two hz).elim n1 n2
 ·exact hn
end
end
section
section
variable {α:Type} (C:Ec α)
def Ec.xy:Pt α→α×α
 |none=>(C.R.zero,C.R.zero)
 |some p=>p
theorem Ec.xy_some{T:Pt α}(h:T≠none):T=some (C.xy T):=by
 cases T with
 |none=>exact absurd rfl h
 |some p=>rfl
theorem Ec.x_two{p q:α×α}(hp:C.on p)(hq:C.on q)(h:p.1=q.1):(some p:Pt α)=some q∨(some p:Pt α)=C.ne (some q):=by
 by_cases ho:C.opp p q
 ·right
  refine congrArg some ?_
  rw[C.opp_eq (C.opp_comm ho)]
 ·left
  refine congrArg some (Prod.ext h ?_)
  have hp:C.R.mul p.2 p.2=C.R.add (C.R.mul p.1 (C.R.mul p.1 p.1)) C.b:=hp
  have hq:C.R.mul q.2 q.2=C.R.add (C.R.mul q.1 (C.R.mul q.1 q.1)) C.b:=hq
  have e:C.R.mul (C.sub p.2 q.2) (C.R.add p.2 q.2)=C.R.zero:=by
   have e1:C.R.mul (C.sub p.2 q.2) (C.R.add p.2 q.2)=C.sub (C.R.mul p.2 p.2) (C.R.mul q.2 q.2):=zq C.R [p.2,q.2] (tm (ta j0 (tn j1)) (ta j0 j1)) (ta (tm j0 j0) (tn (tm j1 j1)))
   rw[e1,hp,hq,h,C.sub_self]
  exact C.sub0 ((C.fd.two e).resolve_right fun e2=>ho ⟨h,e2⟩)
end
section
variable {α γ:Type} {C:Ec α} {D:Ec γ} (H:Hw C D)
theorem Hw.p_none{S:Pt α}(h:H.p S=none):S=none:=by
 cases S with
 |none=>rfl
 |some p=>cases h
end
section
variable {α:Type} [DecidableEq α] (C:Ec α)
theorem Ec.opp_of{U W:Pt α}(hU:C.onP U)(hW:C.onP W)(h:C.ad U W=none):W=C.ne U:=by
 have e:=C.undo hU hW
 rw[h,C.ad_nr]at e
 exact e.symm
theorem Ec.same_of{U W:Pt α}(hU:C.onP U)(hW:C.onP W)(h:C.ad U (C.ne W)=none):U=W:=by
 have e:=C.opp_of hU (C.ne_on hW) h
 rw[←C.ne_ne U,←e,C.ne_ne]
theorem Ec.swap{A B A' B':Pt α}(hA:C.onP A)(hB:C.onP B)(hA':C.onP A')(hB':C.onP B')(h:C.ad A B=C.ad A' B'):C.ad A (C.ne A')=C.ad B' (C.ne B):=by
 have e:A=C.ad A' (C.ad B' (C.ne B)):=by
  rw[←C.ad_assoc hA' hB' (C.ne_on hB),←h,C.ad_assoc hA hB (C.ne_on hB),C.ad_ne,C.ad_nr]
 have k:=C.undo hA' (C.ad_on hB' (C.ne_on hB))
 rw[←e]at k
 rw[C.ad_comm hA (C.ne_on hA'),k]
theorem Ec.times_lt{Q:Pt α}(hQ:C.onP Q){r:Nat}(hr: ∀d,0<d→d<r→∃e,(d*e) % r=1)(qr:C.times Q r=none)(qn:Q≠none){m n:Nat}(hn:n<r)(h:C.times Q m=C.times Q n): ¬m<n:=fun hlt=>by
 have e:C.times Q n=C.ad (C.times Q m) (C.times Q (n-m)):=by rw[←C.times_add hQ];exact congrArg _ (by omega)
 rw[←h]at e
 have k:=C.undo (C.times_on hQ m) (C.times_on hQ (n-m))
 rw[←e,C.ne_ad_self]at k
 exact C.cyc_no hQ hr qr qn (d:=n-m) (by omega) (by omega) k.symm
theorem Ec.times_inj{Q:Pt α}(hQ:C.onP Q){r:Nat}(hr: ∀d,0<d→d<r→∃e,(d*e) % r=1)(qr:C.times Q r=none)(qn:Q≠none){m n:Nat}(hm:m<r)(hn:n<r)(h:C.times Q m=C.times Q n):m=n:=by
 have h1:=C.times_lt hQ hr qr qn hn h
 have h2:=C.times_lt hQ hr qr qn hm h.symm
 omega
theorem Ec.two_inj{G P:Pt α}(hG:C.onP G)(hP:C.onP P){r:Nat}(hr: ∀d,0<d→d<r→∃e,(d*e) % r=1)(gr:C.times G r=none)(gn:G≠none)(pr:C.times P r=none)(hne: ¬∃e,P=C.times G e){a b a' b':Nat}(ha:a<r)(hb:b<r)(ha':a'<r)(hb':b'<r)(h:C.ad (C.times G a) (C.times P b)=C.ad (C.times G a') (C.times P b')):a=a'∧b=b':=by
 rcases Nat.lt_trichotomy b b' with hlt|rfl|hlt
 ·exact absurd (C.cyc_one hG hP hr pr (by omega) (by omega) (C.cyc_lt hG hP gr ha' hlt h)) hne
 ·refine ⟨?_,rfl⟩
  rw[C.ad_comm (C.times_on hG _) (C.times_on hP _),C.ad_comm (C.times_on hG a') (C.times_on hP _)]at h
  exact C.times_inj hG hr gr gn ha ha' (C.can (C.times_on hP _) (C.times_on hG _) (C.times_on hG _) h)
 ·exact absurd (C.cyc_one hG hP hr pr (by omega) (by omega) (C.cyc_lt hG hP gr ha hlt h.symm)) hne
end
section
variable {α β γ:Type} [DecidableEq α] [DecidableEq β] [DecidableEq γ] {C:Ec α} {B:Ec β} {D:Ec γ} (H:Hw C D) (K:Hw B D)
theorem vp(sep: ∀S S',C.onP S→B.onP S'→H.p S=K.p S'→S'=none){S1 S2:Pt α}{V1 V2:Pt β}(h1:C.onP S1)(h2:C.onP S2)(k1:B.onP V1)(k2:B.onP V2)(h:D.ad (H.p S1) (K.p V1)=D.ad (H.p S2) (K.p V2)):S1=S2∧V1=V2:=by
 have e:=D.swap (H.p_on h1) (K.p_on k1) (H.p_on h2) (K.p_on k2) h
 rw[←H.p_ne,←K.p_ne,←H.p_ad h1 (C.ne_on h2),←K.p_ad k2 (B.ne_on k1)]at e
 have e1:=sep _ _ (C.ad_on h1 (C.ne_on h2)) (B.ad_on k2 (B.ne_on k1)) e
 rw[e1]at e
 exact ⟨C.same_of h1 h2 (H.p_none e),(B.same_of k2 k1 e1).symm⟩
theorem zg(sep: ∀S S',C.onP S→B.onP S'→H.p S=K.p S'→S'=none){r:Nat}(hr: ∀d,0<d→d<r→∃e,(d*e) % r=1){G P:Pt α}{Q:Pt β}(hG:C.onP G)(hP:C.onP P)(hQ:B.onP Q)(gr:C.times G r=none)(pr:C.times P r=none)(qr:B.times Q r=none)(gn:G≠none)(qn:Q≠none)
 {l:List Bool} (hl:fM l 1=r) {x0 y0:γ} (h0:D.on (x0,y0)) (n1:(D.js x0 y0 l (x0,y0,D.R.one)).2.2≠D.R.zero) (n2:(D.js x0 (D.R.neg y0) l (x0,D.R.neg y0,D.R.one)).2.2≠D.R.zero) {h:Nat} (hh:2*h<r) (hM:2*mB l 1<h*(r*r)): ∃e,P=C.times G e:=by
 refine Classical.byContradiction fun hne=> ?_
 have hr0:0<r:=by omega
 let S:Nat→Pt α:=fun i=>C.ad (C.times G (i % (r*r) / r)) (C.times P (i % (r*r) % r))
 let W:Nat→Pt β:=fun i=>B.times Q (i / (r*r)+1)
 let T:Nat→Pt γ:=fun i=>D.ad (H.p (S i)) (K.p (W i))
 have hS: ∀i,C.onP (S i):=fun i=>C.ad_on (C.times_on hG _) (C.times_on hP _)
 have hW: ∀i,B.onP (W i):=fun i=>B.times_on hQ _
 have hT: ∀i,D.onP (T i):=fun i=>D.ad_on (H.p_on (hS i)) (K.p_on (hW i))
 have hc: ∀i,i<h*(r*r)→i / (r*r)<h:=fun i hi=>Nat.div_lt_of_lt_mul (by rw[Nat.mul_comm];exact hi)
 have ha: ∀i,i % (r*r) / r<r:=fun i=>Nat.div_lt_of_lt_mul (Nat.mod_lt _ (Nat.mul_pos hr0 hr0))
 have hb: ∀i,i % (r*r) % r<r:=fun i=>Nat.mod_lt _ hr0
 have hWn: ∀i,i<h*(r*r)→W i≠none:=fun i hi=>B.cyc_no hQ hr qr qn (Nat.succ_pos _) (by have:=hc i hi;omega)
 have hTn: ∀i,i<h*(r*r)→T i≠none:=fun i hi e=>by
  have e1:=D.opp_of (H.p_on (hS i)) (K.p_on (hW i)) e
  rw[←H.p_ne]at e1
  exact hWn i hi (sep _ _ (C.ne_on (hS i)) (hW i) e1.symm)
 have hTr: ∀i,D.times (T i) r=none:=fun i=>by
  show D.times (D.ad (H.p (S i)) (K.p (W i))) r=none
  rw[D.times_ad (H.p_on (hS i)) (K.p_on (hW i)),←H.p_times (hS i),←K.p_times (hW i)]
  have e1:C.times (S i) r=none:=by
   show C.times (C.ad _ _) r=none
   rw[C.times_ad (C.times_on hG _) (C.times_on hP _),C.times_swap hG,C.times_swap hP,gr,pr,C.times_none,C.times_none];rfl
  have e2:B.times (W i) r=none:=by
   show B.times (B.times Q _) r=none
   rw[B.times_swap hQ,qr,B.times_none]
  rw[e1,e2];rfl
 have hsome: ∀i,i<h*(r*r)→T i=some (D.xy (T i)):=fun i hi=>D.xy_some (hTn i hi)
 have hle:=D.tors h0 n1 n2 (h*(r*r)) (fun i=>(D.xy (T i)).1) (fun i=>(D.xy (T i)).2) (fun i hi=>by
  have:=hT i
  rw[hsome i hi]at this
  exact this) (fun i hi=>by
  have:=hTr i
  rw[hsome i hi]at this
  rw[hl]
  exact this) (fun i j hij hj hx=>by
  have hi:i<h*(r*r):=Nat.lt_trans hij hj
  have o1:=hT i
  have o2:=hT j
  rw[hsome i hi]at o1
  rw[hsome j hj]at o2
  rcases D.x_two o1 o2 hx with e|e
  ·rw[←hsome i hi,←hsome j hj]at e
   have k:=vp H K sep (hS i) (hS j) (hW i) (hW j) e
   have c1:=hc i hi
   have c2:=hc j hj
   have kc:=B.times_inj hQ hr qr qn (by omega) (by omega) k.2
   have kab:=C.two_inj hG hP hr gr gn pr hne (ha i) (hb i) (ha j) (hb j) k.1
   have d1:=Nat.div_add_mod i (r*r)
   have d2:=Nat.div_add_mod j (r*r)
   have d3:=Nat.div_add_mod (i % (r*r)) r
   have d4:=Nat.div_add_mod (j % (r*r)) r
   have kc':i / (r*r)=j / (r*r):=by omega
   rw[kab.1,kab.2]at d3
   have d5:i % (r*r)=j % (r*r):=d3.symm.trans d4
   rw[kc',d5]at d1
   omega
  ·rw[←hsome i hi,←hsome j hj]at e
   have e':D.ad (H.p (S i)) (K.p (W i))=D.ad (H.p (C.ne (S j))) (K.p (B.ne (W j))):=by
    rw[H.p_ne,K.p_ne,←D.ne_ad (H.p_on (hS j)) (K.p_on (hW j))];exact e
   have k:=vp H K sep (hS i) (C.ne_on (hS j)) (hW i) (B.ne_on (hW j)) e'
   have c1:=hc i hi
   have c2:=hc j hj
   have z:B.times Q (i / (r*r)+1+(j / (r*r)+1))=none:=by
    rw[B.times_add hQ]
    have k2:B.times Q (i / (r*r)+1)=B.ne (B.times Q (j / (r*r)+1)):=k.2
    rw[k2,B.ne_ad_self]
   exact B.cyc_no hQ hr qr qn (d:=i / (r*r)+1+(j / (r*r)+1)) (Nat.succ_pos _) (by omega) z)
 omega
end
end
section
section
variable {α β:Type} {C:Ec α} {D:Ec β} (T:Hw C D)
theorem Hw.f1:T.f C.R.one=D.R.one:=by
 have e:D.R.mul (T.f C.R.one) (D.sub (T.f C.R.one) D.R.one)=D.R.zero:=by
  have k:=T.fm C.R.one C.R.one
  rw[C.R.mul_one]at k
  exact Rg.lc (R:=D.R) (zq D.R [T.f C.R.one] (ta (tm j0 (ta j0 (tn to1))) (tm (tn to1) (tm j0 j0))) (ta tz0 (tm (tn to1) j0))) (lcm k)
 exact D.sub0 ((D.fd.two e).resolve_left fun h=>C.one_ne (T.fi _ h))
def Hw.fj(A:α×α×α):β×β×β:=(T.f A.1,T.f A.2.1,T.f A.2.2)
theorem Hw.jd_f(X Y Z:α):D.jd (T.f X) (T.f Y) (T.f Z)=T.fj (C.jd X Y Z):=by
 simp only[Ec.jd,Hw.fj,T.fs,T.fm,T.fa]
theorem Hw.ja_f(X Y Z X' Y' Z':α):D.ja (T.f X) (T.f Y) (T.f Z) (T.f X') (T.f Y') (T.f Z')=T.fj (C.ja X Y Z X' Y' Z'):=by
 simp only[Ec.ja,Hw.fj,T.fs,T.fm]
theorem Hw.js_f(x y:α): ∀(l:List Bool) (A:α×α×α),D.js (T.f x) (T.f y) l (T.fj A)=T.fj (C.js x y l A)
 |[],_=>rfl
 |false::r,A=>by
  show D.js (T.f x) (T.f y) r (D.jd (T.f A.1) (T.f A.2.1) (T.f A.2.2))=T.fj (C.js x y r (C.jd A.1 A.2.1 A.2.2))
  rw[T.jd_f]
  exact Hw.js_f x y r _
 |true::r,A=>by
  show D.js (T.f x) (T.f y) r (D.ja (D.jd (T.f A.1) (T.f A.2.1) (T.f A.2.2)).1 (D.jd (T.f A.1) (T.f A.2.1) (T.f A.2.2)).2.1 (D.jd (T.f A.1) (T.f A.2.1) (T.f A.2.2)).2.2 (T.f x) (T.f y) D.R.one)=T.fj (C.js x y r (C.ja (C.jd A.1 A.2.1 A.2.2).1 (C.jd A.1 A.2.1 A.2.2).2.1 (C.jd A.1 A.2.1 A.2.2).2.2 x y C.R.one))
  rw[T.jd_f,←T.f1]
  exact (congrArg (D.js (T.f x) (T.f y) r) (T.ja_f _ _ _ _ _ _)).trans (Hw.js_f x y r _)
theorem Hw.js_ne(x y:α)(l:List Bool)(h:(C.js x y l (x,y,C.R.one)).2.2≠C.R.zero):(D.js (T.f x) (T.f y) l (T.f x,T.f y,D.R.one)).2.2≠D.R.zero:=fun e=>h (T.fi _ (by
 have k:=T.js_f x y l (x,y,C.R.one)
 have k2:D.js (T.f x) (T.f y) l (T.f x,T.f y,D.R.one)=T.fj (C.js x y l (x,y,C.R.one)):=by rw[←k,←T.f1];rfl
 rw[k2]at e
 exact e))
end
/-! ### Over p^12 -/
def E12:Ec W12 where
 R:=K12
 iv:=Ie
 b:=em (zp 4,zp 4)
 hi:=fun _ h=>yG h
 h2:=by decide+kernel
 h3:=by decide+kernel
 hb:=by decide+kernel
theorem xX(a b:W2):em (ad2 a b)=K12.add (em a) (em b):=Prod.ext (Prod.ext rfl (Prod.ext (R2.add_zero _).symm (R2.add_zero _).symm)) (Prod.ext (R2.add_zero _).symm (Prod.ext (R2.add_zero _).symm (R2.add_zero _).symm))
theorem ph(a:W2):em (ng2 a)=K12.neg (em a):=Prod.ext (Prod.ext rfl (Prod.ext R2.neg_zero.symm R2.neg_zero.symm)) (Prod.ext R2.neg_zero.symm (Prod.ext R2.neg_zero.symm R2.neg_zero.symm))
theorem vF{a:W2}(h:em a=K12.zero):a=ze2:=congrArg (fun x:W12=>x.1.1) h
def HE:Hw E2w E12 where
 f:=em
 w:=K12.one
 fa:=xX
 fm:=fun a b=>(dY a b).symm
 fn:=ph
 f0:=rfl
 fi:=fun _ h=>vF h
 wn:=by decide+kernel
 wb:=by decide+kernel
def WW:W12:=(K6.zero,K6.one)
def re2(a:Zp):W2:=(a,0)
theorem D1(a b:Zp):re2 (a+b)=ad2 (re2 a) (re2 b):=a8 rfl (by show (0:Zp)=0+0;exact (Fo 0).symm)
theorem uD(a b:Zp):re2 (a*b)=ml2 (re2 a) (re2 b):=a8 (by show a*b=a*b-0*0;rw[gD,Mu]) (by show (0:Zp)=a*0+0*b;rw[gD,pL,Fo])
theorem Ex(a:Zp):re2 (-a)=ng2 (re2 a):=a8 rfl (by show (0:Zp)= -0;exact z_n0'.symm)
theorem mt{a:Zp}(h:re2 a=ze2):a=0:=congrArg Prod.fst h
def HB:Hw E1 E12 where
 f:=fun a=>em (re2 a)
 w:=WW
 fa:=fun a b=>by show em (re2 (a+b))=_;rw[D1,xX];rfl
 fm:=fun a b=>by show em (re2 (a*b))=_;rw[uD,←dY];rfl
 fn:=fun a=>by show em (re2 (-a))=_;rw[Ex,ph];rfl
 f0:=rfl
 fi:=fun _ h=>mt (vF h)
 wn:=by decide+kernel
 wb:=by decide+kernel
theorem WW2:K12.mul WW WW=r6 VV:=by decide+kernel
theorem Jm(c:W2):sc6 VV c=(ze2,c,ze2):=Prod.ext (R2.zero_mul c) (Prod.ext (R2.one_mul c) (R2.zero_mul c))
theorem NI(c:W2):K12.mul (K12.mul WW WW) (em c)=r6 (ze2,c,ze2):=by rw[WW2,At,Jm]
theorem Mh(x:W6):K12.mul WW (r6 x)=(K6.zero,x):=by
 refine Prod.ext ?_ ?_
 ·show K6.add (K6.mul K6.zero x) (K6.mul VV (K6.mul K6.one K6.zero))=K6.zero
  rw[K6.zero_mul,K6.mul_zero,K6.mul_zero,K6.add_zero]
 ·show K6.add (K6.mul K6.zero K6.zero) (K6.mul K6.one x)=x
  rw[K6.zero_mul,K6.zero_add,K6.one_mul]
theorem WW_y(c:W2):K12.mul (K12.mul WW (K12.mul WW WW)) (em c)=(K6.zero,(ze2,c,ze2)):=by rw[K12.mul_assoc,NI,Mh]
theorem FB(S:Pt W2)(S':Pt Zp)(_:E2w.onP S)(h':E1.onP S')(h:HE.p S=HB.p S'):S'=none:=by
 cases S' with
 |none=>rfl
 |some q=>
  cases S with
  |none=>cases h
  |some s=>
   exfalso
   have h:HE.m s=HB.m q:=Option.some.inj h
   have hx:K12.mul (K12.mul K12.one K12.one) (em s.1)=K12.mul (K12.mul WW WW) (em (re2 q.1)):=congrArg Prod.fst h
   have hy:K12.mul (K12.mul K12.one (K12.mul K12.one K12.one)) (em s.2)=K12.mul (K12.mul WW (K12.mul WW WW)) (em (re2 q.2)):=congrArg Prod.snd h
   rw[NI,K12.one_mul,K12.one_mul]at hx
   rw[WW_y,K12.one_mul,K12.one_mul,K12.one_mul]at hy
   have x0:q.1=0:=mt (congrArg (fun x:W12=>x.1.2.1) hx).symm
   have y0:q.2=0:=mt (congrArg (fun x:W12=>x.2.2.1) hy).symm
   have k:q.2*q.2=q.1*(q.1*q.1)+zp 4:=h'
   rw[x0,y0]at k
   exact absurd k (by decide+kernel)
def AX:W2:=(zp 2,0)
def AY:W2:=(zp 0x18c6b864ae17dc9da64203ffefb966306425a7bc6aeb7c75247438372716284a4173830420cd476ba1a365b95bfcec38,zp 0x172e93db764a8400a7d5071b6b6f5de0da2f0f4a063119abca014006b7c40a2cfe291a1924e65db0d6d0fcfbf3bf3d5c)
theorem A_on:E2w.on (AX,AY):=by
 unfold Ec.on
 decide+kernel
def l12:List Bool:=(dg 255 ORD []).tail
theorem Ox:fM l12 1=ORD:=by decide+kernel
theorem KL:2*mB l12 1<((ORD-1) / 2)*(ORD*ORD):=by decide+kernel
theorem MB:2*((ORD-1) / 2)<ORD:=by decide+kernel
theorem A_1:(E2w.js AX AY l12 (AX,AY,on2)).2.2≠ze2:=by decide+kernel
theorem A_2:(E2w.js AX (ng2 AY) l12 (AX,ng2 AY,on2)).2.2≠ze2:=by decide+kernel
theorem z6(s:W2×W2):HE.m s=(em s.1,em s.2):=by
 refine Prod.ext ?_ ?_
 ·show K12.mul (K12.mul K12.one K12.one) (em s.1)=em s.1
  rw[K12.one_mul,K12.one_mul]
 ·show K12.mul (K12.mul K12.one (K12.mul K12.one K12.one)) (em s.2)=em s.2
  rw[K12.one_mul,K12.one_mul,K12.one_mul]
theorem Af:E12.on (em AX,em AY):=by
 have h:=HE.m_on A_on
 rw[z6]at h
 exact h
theorem EW:(some G2p:Pt W2)≠none:=fun h=>by cases h
theorem sV:E2w.onP (some G2p):=Cu
theorem IX{l:List Bool}{r h:Nat}(hr:Pr r)(hl:fM l 1=r)(hM:2*mB l 1<h*(r*r))(hh:2*h<r)(n1:(E2w.js AX AY l (AX,AY,on2)).2.2≠ze2)(n2:(E2w.js AX (ng2 AY) l (AX,ng2 AY,on2)).2.2≠ze2)(g1:E1.times (some G1p) r=none)(g2:E2w.times (some G2p) r=none){P:Pt W2}(hP:E2w.onP P)(hp:E2w.times P r=none): ∃e,P=E2w.times (some G2p) e:=by
 have m2:=HE.js_ne AX (ng2 AY) l n2
 have en:em (ng2 AY)=E12.R.neg (em AY):=ph AY
 have m2':(E12.js (em AX) (em (ng2 AY)) l (em AX,em (ng2 AY),E12.R.one)).2.2≠E12.R.zero:=m2
 rw[en]at m2'
 exact zg HE HB FB (fun _ h0 h1=>Bo hr h0 h1) sV hP tP g2 hp g1 EW E2 hl Af (HE.js_ne AX AY l n1) m2' hh hM
theorem GD{P:Pt W2}(hP:E2w.onP P)(h:E2w.times P ORD=none): ∃e,P=E2w.times (some G2p) e:=IX Cn Ox KL MB A_1 A_2 rc qG hP h
end
section
section
variable {α:Type} [DecidableEq α] (C:Ec α)
theorem Ec.line{c x y:α}(hc:C.R.add (C.R.add (C.R.mul c c) c) C.R.one=C.R.zero)(hp:C.on (x,y))(hq:C.on (C.R.mul c x,y)):C.ad (C.ad (some (x,y)) (some (C.R.mul c x,y))) (some (C.R.mul c (C.R.mul c x),y))=none:=by
 have ho: ¬C.opp (x,y) (C.R.mul c x,y):=by
  intro h
  have h1:x=C.R.mul c x:=h.1
  have hy:y=C.R.zero:=C.dbl0 h.2
  have e:C.R.mul (C.R.add (C.R.add C.R.one C.R.one) C.R.one) x=C.R.zero:=Rg.lc (R:=C.R) (zq C.R [x,y,c] (ta (tm (ta (ta to1 to1) to1) j0) (ta (tm j0 tz0) (tm (ta (ta to1 to1) j2) (tm j2 j0)))) (ta tz0 (ta (tm j0 (ta (ta (tm j2 j2) j2) to1)) (tm (ta (ta to1 to1) j2) j0)))) (lca (lcm hc) (lcm h1))
  have hx:x=C.R.zero:=(C.fd.two e).resolve_left C.h3
  subst hx hy
  have k:C.R.mul C.R.zero C.R.zero=C.R.add (C.R.mul C.R.zero (C.R.mul C.R.zero C.R.zero)) C.b:=hp
  rw[C.R.mul_zero,C.R.mul_zero,C.R.zero_add]at k
  exact C.hb k.symm
 have hs:C.Sl (x,y) (C.R.mul c x,y) C.R.zero:=by
  refine ⟨?_, ?_⟩
  ·show C.R.mul C.R.zero (C.R.add x (C.R.neg (C.R.mul c x)))=C.R.add y (C.R.neg y)
   exact zq C.R [x,y,c] (tm tz0 (ta j0 (tn (tm j2 j0)))) (ta j1 (tn j1))
  ·show C.R.mul C.R.zero (C.R.add y y)=C.R.add (C.R.add (C.R.mul x x) (C.R.mul x (C.R.mul c x))) (C.R.mul (C.R.mul c x) (C.R.mul c x))
   exact Rg.lc (R:=C.R) (zq C.R [x,y,c] (ta (tm tz0 (ta j1 j1)) (tm (tn (tm j0 j0)) tz0)) (ta (ta (ta (tm j0 j0) (tm j0 (tm j2 j0))) (tm (tm j2 j0) (tm j2 j0))) (tm (tn (tm j0 j0)) (ta (ta (tm j2 j2) j2) to1)))) (lcm hc)
 rw[C.ad_sl hp hq ho hs]
 refine C.ad_opp ⟨?_, ?_⟩
 ·show C.R.add (C.R.add (C.R.mul C.R.zero C.R.zero) (C.R.neg x)) (C.R.neg (C.R.mul c x))=C.R.mul c (C.R.mul c x)
  exact Rg.lc (R:=C.R) (zq C.R [x,y,c] (ta (ta (ta (tm tz0 tz0) (tn j0)) (tn (tm j2 j0))) (tm (tn j0) tz0)) (ta (tm j2 (tm j2 j0)) (tm (tn j0) (ta (ta (tm j2 j2) j2) to1)))) (lcm hc)
 ·show C.R.add (C.R.add (C.R.mul C.R.zero _) (C.R.neg y)) y=C.R.zero
  rw[C.R.zero_mul,C.R.zero_add,C.R.add_comm,C.R.add_neg]
variable {C} (T:Tw C)
theorem Hw.psi_in{P:Pt α}(hP:C.onP P)(line:C.ad (C.ad P (C.ne (T.p (T.p P)))) (T.p (T.p (T.p (T.p P))))=none){U r:Nat}(hU:r+U*U=(U*U)*(U*U)+1)(h:C.ne (C.times P U)=T.p P):C.times P r=none:=by
 have two: ∀{Q:Pt α},C.onP Q→C.ne (C.times Q U)=T.p Q→T.p (T.p Q)=C.times Q (U*U):=fun {Q} hQ hq=>by
  rw[←hq,T.p_ne,T.p_times hQ,←hq,C.times_ne (C.times_on hQ U),C.ne_ne,C.times_mul hQ]
 have e2:=two hP h
 have hV:=C.times_on hP (U*U)
 have h4:C.ne (C.times (C.times P (U*U)) U)=T.p (C.times P (U*U)):=by
  rw[T.p_times hP,←h,C.times_ne (C.times_on hP U),C.times_swap hP]
 have e4:=two hV h4
 rw[←C.times_mul hP]at e4
 rw[e2,e4]at line
 generalize U*U=V at*
 have hS:=C.times_on hP (V*V)
 have e3:C.ad (C.times P r) (C.times P V)=C.ad (C.times P (V*V)) P:=by rw[←C.times_add hP,hU];rfl
 have e5:C.ad (C.ad (C.times P r) (C.times P V)) (C.ne (C.times P V))=C.times P r:=by
  rw[C.ad_assoc (C.times_on hP r) hV (C.ne_on hV),C.ad_ne,C.ad_nr]
 rw[←e5,e3,C.ad_assoc hS hP (C.ne_on hV),C.ad_comm hS (C.ad_on hP (C.ne_on hV)),line]
theorem Hw.psi_out{G:Pt α}(hG:C.onP G){U:Nat}(h:C.ne (C.times G U)=T.p G)(e:Nat):C.ne (C.times (C.times G e) U)=T.p (C.times G e):=by
 rw[T.p_times hG,←h,C.times_ne (C.times_on hG U),C.times_swap hG e U]
end
/-! ### The second curve -/
def PW:W2:=(zp 0x5b2cfd9013a5fd8df47fa6b48b1e045f39816240c0b8fee8beadf4d8e9c0566c63a3e6e257f87329b18fae980078116,zp 0x5b2cfd9013a5fd8df47fa6b48b1e045f39816240c0b8fee8beadf4d8e9c0566c63a3e6e257f87329b18fae980078116)
def TXn:Nat:=0x1a0111ea397fe699ec02408663d4de85aa0d857d89759ad4897d29650fb85f9b409427eb4f49fffd8bfd00000000aaad
def TY0:Nat:=0x135203e60180a68ee2e9c448d77a2cd91c3dedd930b1cf60ef396489f61eb45e304466cf3e67fa0af1ee7b04121bdea2
def TY1:Nat:=0x6af0e0437ff400b6831e36d6bd17ffe48395dabc2d3435e77f76e17009241c5ee67992f72ec05f4c81084fbede3cc09
def TX2:W2:=(0,zp TXn)
def TY2:W2:=(zp TY0,zp TY1)
theorem PW_2:ml2 PW PW=TX2:=by decide+kernel
theorem PW_3:ml2 PW (ml2 PW PW)=TY2:=by decide+kernel
theorem CY(x:W2):cj2 (ng2 x)=ng2 (cj2 x):=rfl
theorem rP{x:W2}(h:cj2 x=ze2):x=ze2:=by
 have h1:x.1=0:=congrArg Prod.fst h
 have h2: -x.2=0:=congrArg Prod.snd h
 exact a8 h1 (jO.1 h2)
def TW2:Tw E2w where
 f:=cj2
 w:=PW
 fa:=Ep
 fm:=fF
 fn:=CY
 f0:=by decide+kernel
 fi:=fun _ h=>rP h
 wn:=by decide+kernel
 wb:=by decide+kernel
theorem u7(q:W2×W2):TW2.m q=(ml2 TX2 (cj2 q.1),ml2 TY2 (cj2 q.2)):=by
 refine Prod.ext ?_ ?_
 ·show ml2 (ml2 PW PW) (cj2 q.1)=ml2 TX2 (cj2 q.1)
  rw[PW_2]
 ·show ml2 (ml2 PW (ml2 PW PW)) (cj2 q.2)=ml2 TY2 (cj2 q.2)
  rw[PW_3]
def TR2:W2:=ml2 TX2 (cj2 TX2)
theorem CD:ad2 (ad2 (ml2 TR2 TR2) TR2) on2=ze2:=by decide+kernel
theorem LG:ml2 TY2 (cj2 TY2)=ng2 on2:=by decide+kernel
theorem yU(x:W2):cj2 (cj2 x)=x:=a8 rfl (by show- -x.2=x.2;generalize x.2=a;grind)
theorem Fs(q:W2×W2):TW2.m (TW2.m q)=(ml2 TR2 q.1,ng2 q.2):=by
 rw[u7,u7]
 refine Prod.ext ?_ ?_
 ·show ml2 TX2 (cj2 (ml2 TX2 (cj2 q.1)))=ml2 (ml2 TX2 (cj2 TX2)) q.1
  rw[fF,yU]
  exact (R2.mul_assoc _ _ _).symm
 ·show ml2 TY2 (cj2 (ml2 TY2 (cj2 q.2)))=ng2 q.2
  rw[fF,yU]
  refine (R2.mul_assoc _ _ _).symm.trans ?_
  show ml2 (ml2 TY2 (cj2 TY2)) q.2=ng2 q.2
  rw[LG]
  refine (R2.neg_mul _ _).trans ?_
  exact congrArg ng2 (R2.one_mul q.2)
theorem rh{P:Pt W2}(hP:E2w.onP P):E2w.ad (E2w.ad P (E2w.ne (TW2.p (TW2.p P)))) (TW2.p (TW2.p (TW2.p (TW2.p P))))=none:=by
 cases P with
 |none=>rfl
 |some q=>
  have e2: ∀s:W2×W2,TW2.p (TW2.p (some s))=some (ml2 TR2 s.1,ng2 s.2):=fun s=>congrArg some (Fs s)
  have o2:E2w.onP (TW2.p (TW2.p (some q))):=TW2.p_on (TW2.p_on hP)
  rw[e2]at o2
  have nn: ∀a:W2,ng2 (ng2 a)=a:=R2.neg_neg
  have on3:=E2w.ne_on o2
  rw[show E2w.ne (some (ml2 TR2 q.1,ng2 q.2))=some (ml2 TR2 q.1,ng2 (ng2 q.2))from rfl,nn]at on3
  rw[e2,e2,show E2w.ne (some (ml2 TR2 q.1,ng2 q.2))=some (ml2 TR2 q.1,ng2 (ng2 q.2))from rfl,nn]
  show E2w.ad (E2w.ad (some (q.1,q.2)) (some (ml2 TR2 q.1,q.2))) (some (ml2 TR2 (ml2 TR2 q.1),q.2))=none
  exact E2w.line CD hP on3
def nq:W6:=E2w.jm (G2p.1,G2p.2,on2) (dg 64 UG []) (ze2,ze2,ze2)
theorem Ei:E2w.jm (G2p.1,G2p.2,on2) (dg 64 UG []) (E2w.R.zero,E2w.R.zero,E2w.R.zero)=nq:=by unfold nq;rfl
theorem ug64:jf (dg 64 UG []) 0=UG:=by decide+kernel
theorem J9:nq.2.2≠ze2∧nq.1=ml2 (ml2 TX2 (cj2 G2p.1)) (ml2 nq.2.2 nq.2.2)∧nq.2.1=ml2 (ng2 (ml2 TY2 (cj2 G2p.2))) (ml2 (ml2 nq.2.2 nq.2.2) nq.2.2):=by decide+kernel
theorem G2_u:E2w.times (some G2p) UG=some (ml2 TX2 (cj2 G2p.1),ng2 (ml2 TY2 (cj2 G2p.2))):=E8 E2w (P:=some G2p) Cu Gx (dg 64 UG []) ug64 Ei J9.1 J9.2.1 J9.2.2
theorem Fu:E2w.ne (E2w.times (some G2p) UG)=TW2.p (some G2p):=by
 rw[G2_u]
 refine congrArg some ((Prod.ext rfl ?_:_=(ml2 TX2 (cj2 G2p.1),ml2 TY2 (cj2 G2p.2))).trans (u7 G2p).symm)
 show ng2 (ng2 (ml2 TY2 (cj2 G2p.2)))=ml2 TY2 (cj2 G2p.2)
 exact R2.neg_neg _
theorem Nd{P:Pt W2}(hP:E2w.onP P):E2w.ne (E2w.times P UG)=TW2.p P↔E2w.times P ORD=none:=by
 constructor
 ·exact fun h=>TW2.psi_in hP (rh hP) HV h
 ·intro h
  obtain ⟨e,rfl⟩:=GD hP h
  exact TW2.psi_out sV Fu e
end
end Go.Proofs.YtodgbdcjjhmnkaaGreatDoor
