/- M0 -/
import Derived.Test.YtjookodjbjabbaaGreatDoorX3
set_option maxRecDepth 100000
set_option maxHeartbeats 1000000
namespace Go.Proofs.YtjookodjbjabbaaGreatDoor
def V(l:L6):Nat->Nat
 |0=>0
 |i+1=>V l i+(l.getD i 0).toNat*2^(64*i)
theorem ij(i:Nat):2^(64*(i+1))=2^(64*i)*18446744073709551616:=by rw[Nat.mul_add,Nat.pow_add]
theorem dW(l:L6)(k:Nat)(x:BitVec 64)(hk:k<l.length):(l.set k x).getD k 0=x:=by simp[List.getD_eq_getElem?_getD,hk]
theorem dQ(l:L6)(k i:Nat)(x:BitVec 64)(h:i≠k):(l.set k x).getD i 0=l.getD i 0:=by
 simp only[List.getD_eq_getElem?_getD,List.getElem?_set_ne (Ne.symm h)]
theorem jy(l:L6)(k:Nat)(x:BitVec 64): ∀i,i<=k->V (l.set k x) i=V l i
 |0,_=>rfl
 |i+1,h=>by rw[V,V,jy l k x i om,dQ l k i x om]
theorem pS(l:L6)(k:Nat)(x:BitVec 64)(hk:k<l.length): ∀n,k<n->V (l.set k x) n+(l.getD k 0).toNat*2^(64*k)=V l n+x.toNat*2^(64*k)
 |0,h=>om
 |n+1,h=>by
  rcases Nat.lt_or_ge k n with h'|h'
  ·have:=pS l k x hk n h'
   rw[V,V,dQ l k n x om];omega
  ·obtain rfl:k=n:=om
   rw[V,V,jy l k x k (Nat.le_refl _),dW l k x hk];omega
theorem rl(l:L6): ∀i,V l i<2^(64*i)
 |0=>by simp[V]
 |i+1=>by
  have h1:=rl l i;have h2:=(l.getD i 0).isLt;rw[V,ij];have h3:(l.getD i 0).toNat*2^(64*i)<=18446744073709551615*2^(64*i):=Nat.mul_le_mul_right _ om;omega
theorem Ld(l:L6)(i:Nat):V l (i+1) % 2^(64*i)=V l i:=by
 rw[V,Nat.add_mul_mod_self_right,Nat.mod_eq_of_lt (rl l i)]
theorem Eo(l:L6)(i:Nat):V l (i+1) / 2^(64*i)=(l.getD i 0).toNat:=by
 rw[V,Nat.add_mul_div_right _ _ (Nat.two_pow_pos _),Nat.div_eq_of_lt (rl l i),Nat.zero_add]
theorem Mz{l l':L6}: ∀(n:Nat),V l n=V l' n->∀i,i<n->l.getD i 0=l'.getD i 0
 |0,_,_,h=>om
 |n+1,e,i,h=>by
  have h1:V l n=V l' n:=by rw[<-Ld l n,<-Ld l' n,e]
  rcases Nat.lt_or_ge i n with h'|h'
  ·exact Mz n h1 i h'
  ·obtain rfl:i=n:=om
   apply BitVec.eq_of_toNat_eq;rw[<-Eo l i,<-Eo l' i,e]
theorem rV{l l':L6}(n:Nat)(h:l.length=n)(h':l'.length=n)(e:V l n=V l' n):l=l':=by
 apply List.ext_getElem om;intro i h1 h2;have:=Mz n e i om;simpa [List.getD_eq_getElem?_getD,h1,h2]using this
theorem iP(k:Nat): ∀n,V (List.replicate k 0#64) n=0
 |0=>rfl
 |n+1=>by
  have:((List.replicate k 0#64).getD n 0).toNat=0:=by
   rw[List.getD_eq_getElem?_getD,List.getElem?_replicate];split<;>rfl
  rw[V,iP k n,this];simp
/-! ### Sums -/
def ADC(x y c:BitVec 64):BitVec 64×BitVec 64:=(BitVec.ofNat 64 (x.toNat+y.toNat+c.toNat),BitVec.ofNat 64 ((x.toNat+y.toNat+c.toNat) / 18446744073709551616))
theorem oR(x y c:BitVec 64):(ADC x y c).1.toNat+(ADC x y c).2.toNat*18446744073709551616=x.toNat+y.toNat+c.toNat:=by
 simp only[ADC,BitVec.toNat_ofNat];omega
theorem zS(x y c:BitVec 64)(h:c.toNat<=1):(ADC x y c).2.toNat<=1:=by
 have:=x.isLt;have:=y.isLt;simp only[ADC,BitVec.toNat_ofNat];omega
def AS(a b:L6):Nat->L6×BitVec 64
 |0=>(List.replicate 6 0,0)
 |i+1=>((AS a b i).1.set i (ADC (a.getD i 0) (b.getD i 0) (AS a b i).2).1,(ADC (a.getD i 0) (b.getD i 0) (AS a b i).2).2)
theorem aH(a b:L6): ∀i,(AS a b i).1.length=6
 |0=>rfl
 |i+1=>by simp[AS,aH a b i]
theorem xg(a b:L6): ∀i,(AS a b i).2.toNat<=1
 |0=>by show (0:BitVec 64).toNat<=1;decide
 |i+1=>zS _ _ _ (xg a b i)
theorem DS(a b:L6): ∀i,i<=6->V (AS a b i).1 i+(AS a b i).2.toNat*2^(64*i)=V a i+V b i
 |0,_=>by simp[V,AS]
 |i+1,h=>by
  have ih:=DS a b i om;have hv:=oR (a.getD i 0) (b.getD i 0) (AS a b i).2;rw[V,V,V,AS,jy _ _ _ i (Nat.le_refl _),dW _ _ _ (by rw[aH];omega),ij]
  generalize (ADC (a.getD i 0) (b.getD i 0) (AS a b i).2).1.toNat=s at*;generalize (ADC (a.getD i 0) (b.getD i 0) (AS a b i).2).2.toNat=c at*;generalize 2^(64*i)=q at*;have e:s*q+c*(q*18446744073709551616)=(s+c*18446744073709551616)*q:=by rw[Nat.add_mul,Nat.mul_comm q,<-Nat.mul_assoc]
  have e2:((a.getD i 0).toNat+(b.getD i 0).toNat+(AS a b i).2.toNat)*q=(a.getD i 0).toNat*q+(b.getD i 0).toNat*q+(AS a b i).2.toNat*q:=by rw[Nat.add_mul,Nat.add_mul]
  rw[hv,e2]at e;omega
/-! ### Differences -/
def SBB(x y b:BitVec 64):BitVec 64×BitVec 64:=(BitVec.ofNat 64 (x.toNat+18446744073709551616-y.toNat-b.toNat),if x.toNat<y.toNat+b.toNat then 1 else 0)
theorem Ku(x y b:BitVec 64)(h:b.toNat<=1):(SBB x y b).1.toNat+y.toNat+b.toNat=x.toNat+(SBB x y b).2.toNat*18446744073709551616:=by
 have:=x.isLt;have:=y.isLt;simp only[SBB,BitVec.toNat_ofNat];split
 ·rw[show (1:BitVec 64).toNat=1 from O];omega
 ·rw[show (0:BitVec 64).toNat=0 from O];omega
theorem Xf(x y b:BitVec 64):(SBB x y b).2.toNat<=1:=by
 simp only[SBB];split<;>decide
def SS(a b:L6):Nat->L6×BitVec 64
 |0=>(List.replicate 6 0,0)
 |i+1=>((SS a b i).1.set i (SBB (a.getD i 0) (b.getD i 0) (SS a b i).2).1,(SBB (a.getD i 0) (b.getD i 0) (SS a b i).2).2)
theorem aA(a b:L6): ∀i,(SS a b i).1.length=6
 |0=>rfl
 |i+1=>by simp[SS,aA a b i]
theorem n8(a b:L6): ∀i,(SS a b i).2.toNat<=1
 |0=>by show (0:BitVec 64).toNat<=1;decide
 |i+1=>Xf _ _ _
theorem Gf(a b:L6): ∀i,i<=6->V (SS a b i).1 i+V b i=V a i+(SS a b i).2.toNat*2^(64*i)
 |0,_=>by simp[V,SS]
 |i+1,h=>by
  have ih:=Gf a b i om;have hv:=Ku (a.getD i 0) (b.getD i 0) (SS a b i).2 (n8 a b i);rw[V,V,V,SS,jy _ _ _ i (Nat.le_refl _),dW _ _ _ (by rw[aA];omega),ij]
  generalize (SBB (a.getD i 0) (b.getD i 0) (SS a b i).2).1.toNat=s at*;generalize (SBB (a.getD i 0) (b.getD i 0) (SS a b i).2).2.toNat=c at*;generalize 2^(64*i)=q at*;have e:(a.getD i 0).toNat*q+c*(q*18446744073709551616)=((a.getD i 0).toNat+c*18446744073709551616)*q:=by rw[Nat.add_mul,Nat.mul_comm q,<-Nat.mul_assoc]
  have e2:(s+(b.getD i 0).toNat+(SS a b i).2.toNat)*q=s*q+(b.getD i 0).toNat*q+(SS a b i).2.toNat*q:=by rw[Nat.add_mul,Nat.add_mul]
  rw[<-hv,e2]at e;omega
/-! ### Order -/
def LT(a b:L6):Nat->Bool
 |0=>false
 |i+1=>if a.getD i 0<b.getD i 0 then true else if a.getD i 0>b.getD i 0 then false else LT a b i
theorem qa(a b:L6): ∀i,LT a b i=decide (V a i<V b i)
 |0=>by simp[LT,V]
 |i+1=>by
  have ih:=qa a b i;have h1:=rl a i;have h2:=rl b i;rw[LT,V,V];generalize 2^(64*i)=q at*;simp only[gt_iff_lt,BitVec.lt_def];generalize (a.getD i 0).toNat=x at*;generalize (b.getD i 0).toNat=y at*;rcases Nat.lt_trichotomy x y with h|h|h
  ·have:(x+1)*q<=y*q:=Nat.mul_le_mul_right _ h
   rw[Nat.add_mul]at this;rw[if_pos h,decide_eq_true om]
  ·subst h
   rw[if_neg om,if_neg om,ih];congr 1;apply propext;omega
  ·have:(y+1)*q<=x*q:=Nat.mul_le_mul_right _ h
   rw[Nat.add_mul]at this;rw[if_neg om,if_pos h,decide_eq_false om]
/-! ### Products -/
theorem BP(x y:Nat):x*y=(x / 4294967296)*(y / 4294967296)*18446744073709551616+((x / 4294967296)*(y % 4294967296)+(x % 4294967296)*(y / 4294967296))*4294967296+(x % 4294967296)*(y % 4294967296):=by
 conv=>lhs;rw[<-Nat.div_add_mod x 4294967296,<-Nat.div_add_mod y 4294967296]
 generalize x / 4294967296=a;generalize x % 4294967296=b;generalize y / 4294967296=c;generalize y % 4294967296=d;rw[Nat.add_mul,Nat.mul_add,Nat.mul_add,Nat.mul_mul_mul_comm 4294967296 a 4294967296 c,Nat.mul_assoc 4294967296 a d,<-Nat.mul_assoc b 4294967296 c,Nat.mul_comm b 4294967296,Nat.mul_assoc 4294967296 b c];omega
def MH(x y:BitVec 64):BitVec 64:=BitVec.ofNat 64 (x.toNat*y.toNat / 18446744073709551616)
def MLo(x y:BitVec 64):BitVec 64:=BitVec.ofNat 64 (x.toNat*y.toNat)
theorem E8{x y:Nat}(hx:x<18446744073709551616)(hy:y<18446744073709551616):x*y<=340282366920938463426481119284349108225:=(Nat.mul_le_mul (by omega:x<=18446744073709551615) (by omega:y<=18446744073709551615))
theorem Ot(x y:BitVec 64):(MLo x y).toNat+(MH x y).toNat*18446744073709551616=x.toNat*y.toNat:=by
 have:=E8 x.isLt y.isLt;simp only[MH,MLo,BitVec.toNat_ofNat];omega
theorem Vb(x y:BitVec 64):(x>>>32)*(y>>>32)+(((x>>>32)*(y &&& 4294967295#64)+((x &&& 4294967295#64)*(y &&& 4294967295#64))>>>32)>>>32)+
 ((((x>>>32)*(y &&& 4294967295#64)+((x &&& 4294967295#64)*(y &&& 4294967295#64))>>>32) &&& 4294967295#64)+(x &&& 4294967295#64)*(y>>>32))>>>32=MH x y:=by
 have hx:=x.isLt;have hy:=y.isLt;have m32: ∀n:Nat,n &&& 4294967295=n % 4294967296:=λn=>Nat.and_two_pow_sub_one_eq_mod n 32;have s32: ∀n:Nat,n>>>32=n / 4294967296:=λn=>Nat.shiftRight_eq_div_pow n 32;apply BitVec.eq_of_toNat_eq;simp only[MH,BitVec.toNat_ofNat,BitVec.toNat_add,BitVec.toNat_mul,BitVec.toNat_ushiftRight,BitVec.toNat_and,m32,s32,Nat.reduceMod,Nat.reducePow];rw[BP x.toNat y.toNat];have a1:x.toNat / 4294967296<=4294967295:=om;have a2:x.toNat % 4294967296<=4294967295:=om;have a3:y.toNat / 4294967296<=4294967295:=om;have a4:y.toNat % 4294967296<=4294967295:=om;generalize x.toNat / 4294967296=a at*;generalize x.toNat % 4294967296=b at*;generalize y.toNat / 4294967296=c at*;generalize y.toNat % 4294967296=d at*;have b1:a*c<=4294967295*4294967295:=Nat.mul_le_mul a1 a3;have b2:a*d<=4294967295*4294967295:=Nat.mul_le_mul a1 a4;have b3:b*c<=4294967295*4294967295:=Nat.mul_le_mul a2 a3;have b4:b*d<=4294967295*4294967295:=Nat.mul_le_mul a2 a4;generalize a*c=p at*;generalize a*d=q at*;generalize b*c=r at*;generalize b*d=s at*;omega
theorem OG(x y:BitVec 64):x*y=MLo x y:=by
 apply BitVec.eq_of_toNat_eq;simp[MLo,BitVec.toNat_mul]
def MA(x y c d:BitVec 64):BitVec 64×BitVec 64:=((ADC (ADC (MLo x y) c 0).1 d 0).1,MH x y+(ADC (MLo x y) c 0).2+(ADC (ADC (MLo x y) c 0).1 d 0).2)
theorem mJ(x y:BitVec 64):(ADC x y 0).1.toNat+(ADC x y 0).2.toNat*18446744073709551616=x.toNat+y.toNat:=by
 have h:=oR x y 0;rw[show (0:BitVec 64).toNat=0 from O,Nat.add_zero]at h;exact h
theorem Qa{l2 c2 l1 c1 hi lo p c d:Nat}(h1:lo+hi*18446744073709551616=p)(h2:l1+c1*18446744073709551616=lo+c)(h3:l2+c2*18446744073709551616=l1+d)(h4:p<=340282366920938463426481119284349108225)
 (h5:c<18446744073709551616) (h6:d<18446744073709551616) (_h7:l2<18446744073709551616):l2+((hi+c1) % 18446744073709551616+c2) % 18446744073709551616*18446744073709551616=p+c+d:=by
 have e0:(hi+c1+c2)*18446744073709551616+l2=p+c+d:=om;have e1:hi+c1+c2<18446744073709551616:=by
  clear h1 h2 h3;omega
 rw[Nat.mod_eq_of_lt (Nat.lt_of_le_of_lt (Nat.le_add_right _ c2) e1),Nat.mod_eq_of_lt e1];exact (Nat.add_comm _ _).trans e0
theorem jV(x y c d:BitVec 64):(MA x y c d).1.toNat+(MA x y c d).2.toNat*18446744073709551616=x.toNat*y.toNat+c.toNat+d.toNat:=
 Qa (Ot x y) (mJ (MLo x y) c) (mJ (ADC (MLo x y) c 0).1 d) (E8 x.isLt y.isLt) c.isLt d.isLt (ADC (ADC (MLo x y) c 0).1 d 0).1.isLt
def MI(x:BitVec 64)(b:L6)(i:Nat)(p:L6):Nat->L6×BitVec 64
 |0=>(p,0)
 |j+1=>((MI x b i p j).1.set (i+j) (MA x (b.getD j 0) ((MI x b i p j).1.getD (i+j) 0) (MI x b i p j).2).1,(MA x (b.getD j 0) ((MI x b i p j).1.getD (i+j) 0) (MI x b i p j).2).2)
theorem kB(x:BitVec 64)(b:L6)(i:Nat)(p:L6): ∀j,(MI x b i p j).1.length=p.length
 |0=>rfl
 |j+1=>by simp[MI,kB x b i p j]
theorem xH(x:BitVec 64)(b:L6)(i:Nat)(p:L6)(k:Nat): ∀j,i+j<=k->(MI x b i p j).1.getD k 0=p.getD k 0
 |0,_=>rfl
 |j+1,h=>by rw[MI,dQ _ _ _ _ om,xH x b i p k j om]
theorem yC(x:BitVec 64)(b:L6)(i n:Nat)(p:L6)(hp:p.length=n): ∀j,i+j<=n->V (MI x b i p j).1 n+(MI x b i p j).2.toNat*2^(64*(i+j))=V p n+x.toNat*V b j*2^(64*i)
 |0,_=>by simp[MI,V]
 |j+1,h=>by
  have ih:=yC x b i n p hp j om;have hs:=pS (MI x b i p j).1 (i+j) (MA x (b.getD j 0) ((MI x b i p j).1.getD (i+j) 0) (MI x b i p j).2).1 (by rw[kB];omega) n om
  have hv:=jV x (b.getD j 0) ((MI x b i p j).1.getD (i+j) 0) (MI x b i p j).2;rw[MI,V,<-Nat.add_assoc i j 1,ij];dsimp only;have e0:x.toNat*(V b j+(b.getD j 0).toNat*2^(64*j))*2^(64*i)=x.toNat*V b j*2^(64*i)+x.toNat*(b.getD j 0).toNat*2^(64*(i+j)):=by
   rw[Nat.mul_add x.toNat,Nat.add_mul,<-Nat.mul_assoc x.toNat,Nat.mul_assoc (x.toNat*(b.getD j 0).toNat),<-Nat.pow_add,Nat.mul_add 64 i j,Nat.add_comm (64*j)]
  rw[e0];generalize (MA x (b.getD j 0) ((MI x b i p j).1.getD (i+j) 0) (MI x b i p j).2).1=lo at*;generalize (MA x (b.getD j 0) ((MI x b i p j).1.getD (i+j) 0) (MI x b i p j).2).2.toNat=hi at*;generalize 2^(64*(i+j))=q at*;generalize x.toNat*(b.getD j 0).toNat=xy at*;have e1:lo.toNat*q+hi*(q*18446744073709551616)=(lo.toNat+hi*18446744073709551616)*q:=by rw[Nat.add_mul,Nat.mul_comm q,<-Nat.mul_assoc]
  rw[hv,Nat.add_mul,Nat.add_mul]at e1;omega
def MU(a b:L6):Nat->L6
 |0=>List.replicate 12 0
 |i+1=>(MI (a.getD i 0) b i (MU a b i) 6).1.set (i+6) (MI (a.getD i 0) b i (MU a b i) 6).2
theorem ib(a b:L6): ∀i,(MU a b i).length=12
 |0=>rfl
 |i+1=>by simp[MU,kB,ib a b i]
theorem G5(a b:L6)(k:Nat): ∀i,i+6<=k->(MU a b i).getD k 0=0
 |0,_=>by
  rw[MU,List.getD_eq_getElem?_getD,List.getElem?_replicate];split<;>rfl
 |i+1,h=>by rw[MU,dQ _ _ _ _ om,xH _ _ _ _ _ _ om,G5 a b k i om]
theorem HC(a b:L6): ∀i,i<=6->V (MU a b i) 12=V a i*V b 6
 |0,_=>by rw[MU,V,Nat.zero_mul];exact iP 12 12
 |i+1,h=>by
  have ih:=HC a b i om;have h1:=yC (a.getD i 0) b i 12 (MU a b i) (ib a b i) 6 om;have h2:=pS (MI (a.getD i 0) b i (MU a b i) 6).1 (i+6) (MI (a.getD i 0) b i (MU a b i) 6).2 (by rw[kB,ib];omega) 12 om
  rw[xH _ _ _ _ _ _ (Nat.le_refl _),G5 a b (i+6) i (Nat.le_refl _),show (0:BitVec 64).toNat=0 from O,Nat.zero_mul,Nat.add_zero]at h2;rw[MU,h2,h1,ih,show V a (i+1)=V a i+(a.getD i 0).toNat*2^(64*i)from O,Nat.add_mul (V a i),Nat.mul_assoc (a.getD i 0).toNat (V b 6),Nat.mul_comm (V b 6) (2^(64*i)),<-Nat.mul_assoc]
/-! ### Bits of a number -/
theorem En(l:L6)(q:Nat): ∀n,q<=n->∃k,V l n=V l q+2^(64*q)*k
 |0,h=>⟨0,by obtain rfl:q=0:=om
             simp⟩
 |n+1,h=>by
  rcases Nat.lt_or_ge q (n+1)with h'|h'
  ·obtain ⟨k,hk⟩:=En l q n om
   refine ⟨k+(l.getD n 0).toNat*2^(64*(n-q)), ?_⟩;rw[V,hk,Nat.mul_add,Nat.add_assoc,<-Nat.mul_assoc,Nat.mul_comm (2^(64*q)) (l.getD n 0).toNat,Nat.mul_assoc,<-Nat.pow_add,<-Nat.mul_add,show q+(n-q)=n by omega]
  ·obtain rfl:q=n+1:=om
   exact ⟨0,sm⟩
def dig(a:L6)(n:Nat):BitVec 64:=(a.getD (n / 64) 0>>>(n % 64)) &&& 1#64
theorem Qo(a:L6)(q s:Nat)(hs:s<64):(a.getD q 0>>>s) &&& 1#64=dig a (64*q+s):=by
 rw[dig,show (64*q+s) / 64=q by omega,show (64*q+s) % 64=s by omega]
theorem half(x k r:Nat)(hr:r<64):(x+18446744073709551616*k) / 2^r % 2=x / 2^r % 2:=by
 have e:(18446744073709551616:Nat)=2^r*(2^(63-r)*2):=by
  rw[<-Nat.pow_succ,<-Nat.pow_add,show r+(63-r).succ=64 by omega]
 rw[e,Nat.mul_assoc,Nat.add_mul_div_left _ _ (Nat.two_pow_pos r),Nat.mul_right_comm,Nat.add_mul_mod_self_right]
theorem sL(a:L6)(N n:Nat)(h:n<64*N):(dig a n).toNat=V a N / 2^n % 2:=by
 obtain ⟨k,hk⟩:=En a (n / 64+1) N om;have h1:V a N / 2^(64*(n / 64))=(a.getD (n / 64) 0).toNat+18446744073709551616*k:=by
  rw[hk,ij,Nat.mul_assoc,Nat.add_mul_div_left _ _ (Nat.two_pow_pos _),Eo]
 have h2:2^n=2^(64*(n / 64))*2^(n % 64):=by rw[<-Nat.pow_add,Nat.div_add_mod]
 rw[h2,<-Nat.div_div_eq_div_mul,h1,half _ _ _ (Nat.mod_lt _ dc)];rw[dig,BitVec.toNat_and,BitVec.toNat_ushiftRight,Nat.shiftRight_eq_div_pow];exact Nat.and_one_is_mod _
theorem yh(a:L6)(n:Nat):(dig a n).toNat<=1:=by
 rw[dig,BitVec.toNat_and];have:=Nat.and_one_is_mod (a.getD (n / 64) 0>>>(n % 64)).toNat;show (a.getD (n / 64) 0>>>(n % 64)).toNat &&& 1<=1;omega
def R6:Nat:=2^(64*6)
theorem eB:R6=2^(64*6):=by rw[R6]
theorem iU(l:L6):V l 6<R6:=by rw[eB];exact rl l 6
theorem zj(a b:L6):V (AS a b 6).1 6+(AS a b 6).2.toNat*R6=V a 6+V b 6:=by rw[eB];exact DS a b 6 (Nat.le_refl _)
theorem A7(a b:L6):V (SS a b 6).1 6+V b 6=V a 6+(SS a b 6).2.toNat*R6:=by rw[eB];exact Gf a b 6 (Nat.le_refl _)
/-! ### What is left of a number below twice the modulus -/
def RED(a:L6)(top:BitVec 64)(m:L6):L6:=if top=0/\(SS a m 6).2=1 then a else (SS a m 6).1
theorem jE(a:L6)(top:BitVec 64)(m:L6)(ha:a.length=6):(RED a top m).length=6:=by
 unfold RED;split
 ·exact ha
 ·exact aA _ _ _
theorem dZ(x:BitVec 64)(h:x.toNat<=1):x=0/\x.toNat=0\/x=1/\x.toNat=1:=by
 have:x.toNat=0\/x.toNat=1:=om;rcases this with h|h
 ·exact .inl ⟨BitVec.eq_of_toNat_eq h,h⟩
 ·exact .inr ⟨BitVec.eq_of_toNat_eq h,h⟩
theorem r4{x m:Nat}(h:m<=x)(h':x<2*m):x % m=x-m:=by
 rw[Nat.mod_eq_sub_mod h,Nat.mod_eq_of_lt om]
theorem tZ: ¬(1:BitVec 64)=0:=dc
theorem td: ¬(0:BitVec 64)=1:=dc
theorem sK(a:L6)(top:BitVec 64)(m:L6)(ht:top.toNat<=1)(hA:V a 6+top.toNat*R6<2*V m 6):V (RED a top m) 6=(V a 6+top.toNat*R6) % V m 6:=by
 have hs:=A7 a m;have h1:=iU (SS a m 6).1;have h2:=iU m;have h3:=iU a;unfold RED;rcases dZ top ht with ⟨e1,e2⟩|⟨e1,e2⟩<;>rcases dZ _ (n8 a m 6)with ⟨f1,f2⟩|⟨f1,f2⟩
 ·rw[if_neg (by rw[f1];exact λh=>td h.2)]
  rw[e2]at hA⊢;rw[f2]at hs;rw[Nat.zero_mul,Nat.add_zero]at*;rw[r4 om hA];omega
 ·rw[if_pos ⟨e1,f1⟩]
  rw[e2]at hA⊢;rw[f2]at hs;rw[Nat.zero_mul,Nat.add_zero]at*;rw[Nat.mod_eq_of_lt om]
 ·rw[if_neg (by rw[e1];exact λh=>tZ h.1)]
  rw[e2]at hA⊢;rw[f2]at hs;rw[Nat.one_mul]at*;omega
 ·rw[if_neg (by rw[e1];exact λh=>tZ h.1)]
  rw[e2]at hA⊢;rw[f2]at hs;rw[Nat.one_mul]at*;rw[r4 om hA];omega
/-! ### Bit by bit -/
def TW(l:L6)(d:BitVec 64):L6:=(AS l l 6).1.set 0 ((AS l l 6).1.getD 0 0|||d)
theorem oZ(l:L6)(d:BitVec 64):(TW l d).length=6:=by rw[TW,List.length_set,aH]
theorem yY(x d:BitVec 64)(hx:x.toNat % 2=0)(hd:d.toNat<=1):(x|||d).toNat=x.toNat+d.toNat:=by
 rw[BitVec.toNat_or];have h:=Nat.two_pow_add_eq_or_of_lt (i:=1) (b:=d.toNat) om (x.toNat / 2);rw[show 2^1*(x.toNat / 2)=x.toNat by omega]at h
 exact h.symm
theorem H4(l:L6): ∀i,(AS l l (i+1)).1.getD 0 0=(ADC (l.getD 0 0) (l.getD 0 0) 0).1
 |0=>by rw[AS];exact dW _ _ _ (by rw[aH];omega)
 |i+1=>by rw[AS,dQ _ _ _ _ om,H4 l i]
theorem Dv(l:L6)(d:BitVec 64)(hd:d.toNat<=1):V (TW l d) 6+(AS l l 6).2.toNat*R6=2*V l 6+d.toNat:=by
 have h1:=zj l l;have h2:=pS (AS l l 6).1 0 ((AS l l 6).1.getD 0 0|||d) (by rw[aH];omega) 6 om
 have h4:((AS l l 6).1.getD 0 0).toNat % 2=0:=by
  rw[H4 l 5,ADC];simp only[BitVec.toNat_ofNat];rw[show (0:BitVec 64).toNat=0 from O];omega
 rw[yY _ _ h4 hd,show 2^(64*0)=1 from O,Nat.mul_one,Nat.mul_one]at h2;rw[TW];omega
def MDs(t m:L6):Nat->L6
 |0=>List.replicate 6 0
 |j+1=>RED (TW (MDs t m j) (dig t (767-j))) (AS (MDs t m j) (MDs t m j) 6).2 m
theorem cD(t m:L6): ∀j,(MDs t m j).length=6
 |0=>rfl
 |_+1=>jE _ _ _ (oZ _ _)
theorem GG(E X j:Nat)(hE:E=768)(hj:j<768):X / 2^(E-(j+1))=2*(X / 2^(E-j))+X / 2^(767-j) % 2:=by
 rw[show E-(j+1)=767-j by omega,show E-j=(767-j)+1 by omega,Nat.pow_succ,<-Nat.div_div_eq_div_mul]
 omega
theorem G3{x m:Nat}(d:Nat):(2*(x % m)+d) % m=(2*x+d) % m:=by
 rw[Nat.add_mod,Nat.mul_mod,Nat.mod_mod,<-Nat.mul_mod,<-Nat.add_mod]
theorem rY(t m:L6)(hm:0<V m 6)(E:Nat)(hE:E=768): ∀j,j<=768->V (MDs t m j) 6=V t 12 / 2^(E-j) % V m 6
 |0,_=>by
  rw[MDs,show V (List.replicate 6 0) 6=0 from iP 6 6,show E-0=64*12 by omega,Nat.div_eq_of_lt (rl t 12),Nat.zero_mod]
 |j+1,h=>by
  have ih:=rY t m hm E hE j om;have hd:=sL t 12 (767-j) om;have hle:=yh t (767-j);have ht:=Dv (MDs t m j) (dig t (767-j)) hle;have hlt:=Nat.mod_lt (V t 12 / 2^(E-j)) hm;rw[MDs,sK _ _ _ (xg _ _ _) (by rw[ht,ih];omega),ht,ih,hd,G3,<-GG E _ _ hE om]
theorem MD(m:L6)(h:m.length=6)(hm:m≠List.replicate 6 0):0<V m 6:=by
 rcases Nat.eq_zero_or_pos (V m 6)with h0|h0
 ·exact absurd (rV 6 h sm (h0.trans (iP 6 6).symm)) hm
 ·exact h0
def MOD(t m:L6):L6:=if m=List.replicate 6 0 then List.replicate 6 0 else MDs t m 768
theorem mu(t m:L6):(MOD t m).length=6:=by
 unfold MOD;split
 ·rfl
 ·exact cD _ _ _
theorem Bg(t m:L6)(h:m.length=6)(hm:m≠List.replicate 6 0):V (MOD t m) 6=V t 12 % V m 6:=by
 obtain ⟨E,hE⟩: ∃E,E=768:=⟨768,rfl⟩;rw[MOD,if_neg hm,rY t m (MD m h hm) E hE 768 (Nat.le_refl _),show E-768=0 by omega,Nat.pow_zero,Nat.div_one]
/-! ### The same by shifts -/
def SHs(l:L6):Nat->L6
 |0=>l
 |s+1=>(SHs l s).set (5-s) (((SHs l s).getD (5-s) 0<<<1)|||((SHs l s).getD (4-s) 0>>>63))
theorem fH(l:L6)(h:l.length=6): ∀s,(SHs l s).length=6
 |0=>h
 |s+1=>by simp[SHs,fH l h s]
theorem jZ(l:L6)(k:Nat): ∀s,k+s<=5->(SHs l s).getD k 0=l.getD k 0
 |0,_=>rfl
 |s+1,h=>by rw[SHs,dQ _ _ _ _ om,jZ l k s om]
theorem Q8(x y:BitVec 64):((x<<<1)|||(y>>>63)).toNat+(x.toNat / 9223372036854775808)*18446744073709551616=2*x.toNat+y.toNat / 9223372036854775808:=by
 have hx:=x.isLt;have hy:=y.isLt;have e2:(y>>>63).toNat=y.toNat / 9223372036854775808:=by rw[BitVec.toNat_ushiftRight,Nat.shiftRight_eq_div_pow]
 have e1:(x<<<1).toNat=2*x.toNat % 18446744073709551616:=by rw[BitVec.toNat_shiftLeft,Nat.shiftLeft_eq,Nat.mul_comm]
 rw[yY _ _ (by rw[e1];omega) (by rw[e2];omega),e1,e2]
 omega
theorem Fh(x d:BitVec 64)(hd:d.toNat<=1):((x<<<1)|||d).toNat+(x.toNat / 9223372036854775808)*18446744073709551616=2*x.toNat+d.toNat:=by
 have hx:=x.isLt;have e1:(x<<<1).toNat=2*x.toNat % 18446744073709551616:=by rw[BitVec.toNat_shiftLeft,Nat.shiftLeft_eq,Nat.mul_comm]
 rw[yY _ _ (by rw[e1];omega) hd,e1]
 omega
theorem AO(l:L6)(h:l.length=6): ∀s,s<=5->V (SHs l s) 6+((l.getD 5 0).toNat / 9223372036854775808)*R6+V l (6-s)=2*V l 6+((l.getD (5-s) 0).toNat / 9223372036854775808)*2^(64*(6-s))
 |0,_=>by
  rw[SHs,Nat.sub_zero,Nat.sub_zero,<-eB];omega
 |s+1,hs=>by
  have ih:=AO l h s om;have h2:=pS (SHs l s) (5-s) (((SHs l s).getD (5-s) 0<<<1)|||((SHs l s).getD (4-s) 0>>>63)) (by rw[fH l h];omega) 6 om
  rw[jZ l (5-s) s om,jZ l (4-s) s om]at h2;have h3:=Q8 (l.getD (5-s) 0) (l.getD (4-s) 0);rw[SHs,jZ l (5-s) s om,jZ l (4-s) s om,show 6-(s+1)=5-s by omega,show 5-(s+1)=4-s by omega]
  rw[show 6-s=(5-s)+1 by omega,show V l ((5-s)+1)=V l (5-s)+(l.getD (5-s) 0).toNat*2^(64*(5-s))from O,ij]at ih
  generalize (SHs l s).set (5-s) ((l.getD (5-s) 0<<<1)|||(l.getD (4-s) 0>>>63))=nl at*;generalize ((l.getD (5-s) 0<<<1)|||(l.getD (4-s) 0>>>63)).toNat=nw at*;generalize (l.getD (5-s) 0).toNat=old at*;generalize (l.getD (4-s) 0).toNat / 9223372036854775808=tb at*;generalize old / 9223372036854775808=ta at*;generalize 2^(64*(5-s))=q at*;have e1:ta*(q*18446744073709551616)=ta*18446744073709551616*q:=by rw[Nat.mul_comm q,Nat.mul_assoc]
  have e2:(nw+ta*18446744073709551616)*q=(2*old+tb)*q:=by rw[h3]
  rw[Nat.add_mul,Nat.add_mul,Nat.mul_assoc 2]at e2;omega
def RN(l:L6)(d:BitVec 64):L6:=(SHs l 5).set 0 (((SHs l 5).getD 0 0<<<1)|||d)
theorem xp(l:L6)(d:BitVec 64)(h:l.length=6):(RN l d).length=6:=by rw[RN,List.length_set,fH l h]
theorem ND(l:L6)(h:l.length=6)(d:BitVec 64)(hd:d.toNat<=1):V (RN l d) 6+(l.getD 5 0>>>63).toNat*R6=2*V l 6+d.toNat:=by
 have ih:=AO l h 5 (Nat.le_refl _);have h2:=pS (SHs l 5) 0 (((SHs l 5).getD 0 0<<<1)|||d) (by rw[fH l h];omega) 6 om
 rw[jZ l 0 5 om]at h2;have h3:=Fh (l.getD 0 0) d hd;have e2:(l.getD 5 0>>>63).toNat=(l.getD 5 0).toNat / 9223372036854775808:=by rw[BitVec.toNat_ushiftRight,Nat.shiftRight_eq_div_pow]
 rw[RN,jZ l 0 5 om,e2];rw[show 6-5=1 from O,show 5-5=0 from O,show V l 1=0+(l.getD 0 0).toNat*2^(64*0)from O,show 2^(64*0)=1 from O,show 2^(64*1)=18446744073709551616 from O]at ih;rw[show 2^(64*0)=1 from O]at h2;omega
theorem LJ(l:L6)(h:l.length=6)(d:BitVec 64)(hd:d.toNat<=1):RN l d=TW l d/\l.getD 5 0>>>63=(AS l l 6).2:=by
 have h1:=ND l h d hd;have h2:=Dv l d hd;have h3:=iU (RN l d);have h4:=iU (TW l d);have h5:=xg l l 6;have h6:(l.getD 5 0>>>63).toNat<=1:=by
  have:=(l.getD 5 0).isLt;rw[BitVec.toNat_ushiftRight,Nat.shiftRight_eq_div_pow];omega
 rcases dZ _ h5 with ⟨e1,e2⟩|⟨e1,e2⟩<;>rcases dZ _ h6 with ⟨f1,f2⟩|⟨f1,f2⟩<;>rw[e2]at h2<;>rw[f2]at h1
 ·exact ⟨rV 6 (xp l d h) (oZ l d) om,by rw[e1,f1]⟩
 ·omega
 ·omega
 ·exact ⟨rV 6 (xp l d h) (oZ l d) om,by rw[e1,f1]⟩
theorem vj(t m:L6)(j:Nat)(h:(MDs t m j).getD 5 0>>>63=1\/(SS (RN (MDs t m j) (dig t (767-j))) m 6).2=0):MDs t m (j+1)=(SS (RN (MDs t m j) (dig t (767-j))) m 6).1:=by
 obtain ⟨e1,e2⟩:=LJ (MDs t m j) (cD t m j) (dig t (767-j)) (yh _ _);rw[e1,e2]at h;rw[MDs,RED,e1,if_neg];rintro ⟨h1,h2⟩;rcases h with h|h
 ·rw[h]at h1;exact tZ h1
 ·rw[h]at h2;exact td h2
theorem CQ(t m:L6)(j:Nat)(h: ¬(MDs t m j).getD 5 0>>>63=1)(h': ¬(SS (RN (MDs t m j) (dig t (767-j))) m 6).2=0):MDs t m (j+1)=RN (MDs t m j) (dig t (767-j)):=by
 obtain ⟨e1,e2⟩:=LJ (MDs t m j) (cD t m j) (dig t (767-j)) (yh _ _);rw[e1]at h';rw[e2]at h;rw[MDs,RED,e1,if_pos];constructor
 ·rcases dZ _ (xg (MDs t m j) (MDs t m j) 6)with e|e
  ·exact e.1
  ·exact absurd e.1 h
 ·rcases dZ _ (n8 (TW (MDs t m j) (dig t (767-j))) m 6)with e|e
  ·exact absurd e.1 h'
  ·exact e.1
/-! ### The inverse of an odd part -/
def IV(n:BitVec 64):Nat->BitVec 64
 |0=>n
 |k+1=>IV n k*(2#64-n*IV n k)
def IW(n:BitVec 64):Nat->BitVec 64
 |0=>n*n-1
 |k+1=>IW n k*IW n k
theorem Xt(n:BitVec 64): ∀k,n*IV n k-1=IW n k\/n*IV n k-1= -IW n k
 |0=>.inl O
 |k+1=>by
  right;have h:n*(IV n k*(2#64-n*IV n k))-1= -((n*IV n k-1)*(n*IV n k-1)):=by grind
  rw[IV,IW,h];rcases Xt n k with e|e
  ·rw[e]
  ·rw[e];grind
theorem QP(n:BitVec 64)(h:n.toNat % 2=1): ∃z:BitVec 64,n*n-1=8#64*z:=by
 refine ⟨(n*n-1)>>>3, ?_⟩;have h1:(n*n-1).toNat % 8=0:=by
  have e:(n*n).toNat=n.toNat*n.toNat % 18446744073709551616:=BitVec.toNat_mul n n;have e1:n.toNat*n.toNat % 8=1:=by
   have:n.toNat % 8=1\/n.toNat % 8=3\/n.toNat % 8=5\/n.toNat % 8=7:=om;rw[Nat.mul_mod];rcases this with h|h|h|h<;>rw[h]
  rw[BitVec.toNat_sub,e,show (1:BitVec 64).toNat=1 from O];omega
 apply BitVec.eq_of_toNat_eq;rw[BitVec.toNat_mul,BitVec.toNat_ushiftRight,Nat.shiftRight_eq_div_pow,show (8#64).toNat=8 from O];have:=(n*n-1).isLt;omega
theorem Kv(n:BitVec 64)(h:n.toNat % 2=1):IW n 5=0:=by
 obtain ⟨z,hz⟩:=QP n h;have h1:IW n 1=64#64*(z*z):=by rw[IW,IW,hz];grind
 have h2:IW n 2=4096#64*((z*z)*(z*z)):=by rw[show IW n 2=IW n 1*IW n 1 from O,h1];grind
 have h3:IW n 3=16777216#64*(((z*z)*(z*z))*((z*z)*(z*z))):=by rw[show IW n 3=IW n 2*IW n 2 from O,h2];generalize (z*z)*(z*z)=y;grind
 generalize ((z*z)*(z*z))*((z*z)*(z*z))=y at h3;have h4:IW n 4=281474976710656#64*(y*y):=by rw[show IW n 4=IW n 3*IW n 3 from O,h3];grind
 rw[show IW n 5=IW n 4*IW n 4 from O,h4];generalize y*y=x;have:281474976710656#64*x*(281474976710656#64*x)=(281474976710656#64*281474976710656#64)*(x*x):=by grind
 rw[this,show 281474976710656#64*281474976710656#64=0#64 from by decide]
 exact BitVec.zero_mul
theorem R8(n:BitVec 64)(h:n.toNat % 2=1):n*IV n 5=1:=by
 have h0:=Kv n h;rcases Xt n 5 with e|e<;>rw[h0]at e
 ·have:n*IV n 5=(n*IV n 5-1)+1:=by grind
  rw[this,e];rfl
 ·have:n*IV n 5=(n*IV n 5-1)+1:=by grind
  rw[this,e];rfl
/-! ### One row -/
def MJ(x:BitVec 64)(b:L6)(p:L6):Nat->L6×BitVec 64
 |0=>(p,0)
 |j+1=>((MJ x b p j).1.set j (MA x (b.getD j 0) ((MJ x b p j).1.getD j 0) (MJ x b p j).2).1,(MA x (b.getD j 0) ((MJ x b p j).1.getD j 0) (MJ x b p j).2).2)
theorem Gj(x:BitVec 64)(b p:L6): ∀j,MJ x b p j=MI x b 0 p j
 |0=>rfl
 |j+1=>by rw[MJ,MI,Gj x b p j,Nat.zero_add]
theorem kA(x:BitVec 64)(b p:L6)(j:Nat):(MJ x b p j).1.length=p.length:=by rw[Gj,kB]
theorem SD(x:BitVec 64)(b p:L6)(hp:p.length=6):V (MJ x b p 6).1 6+(MJ x b p 6).2.toNat*R6=V p 6+x.toNat*V b 6:=by
 have h:=yC x b 0 6 p hp 6 om;rw[<-Gj,Nat.zero_add,<-eB,Nat.mul_zero,Nat.pow_zero,Nat.mul_one]at h;exact h
def MR(t:BitVec 64)(m s:L6):Nat->L6×BitVec 64
 |0=>(s,(MA t (m.getD 0 0) (s.getD 0 0) 0).2)
 |j+1=>((MR t m s j).1.set j (MA t (m.getD (j+1) 0) ((MR t m s j).1.getD (j+1) 0) (MR t m s j).2).1,(MA t (m.getD (j+1) 0) ((MR t m s j).1.getD (j+1) 0) (MR t m s j).2).2)
theorem i8(t:BitVec 64)(m s:L6): ∀j,(MR t m s j).1.length=s.length
 |0=>rfl
 |j+1=>by simp[MR,i8 t m s j]
theorem D8(t:BitVec 64)(m s:L6)(k:Nat): ∀j,j<=k->(MR t m s j).1.getD k 0=s.getD k 0
 |0,_=>rfl
 |j+1,h=>by rw[MR,dQ _ _ _ _ om,D8 t m s k j om]
theorem NF{Vj c Z X1 X2 s t1 t2:Nat}(B:Nat)(h:(Vj+c)*B=Z+t2)(e:X1+X2=t1+s+c):(Vj+X1+X2)*B=Z+s*B+(t2+t1*B):=by
 rw[Nat.add_assoc,e,Nat.add_mul,Nat.add_mul,Nat.add_mul];rw[Nat.add_mul]at h;omega
theorem Id(t:BitVec 64)(m s:L6)(hs:s.length=6)(h0:(MA t (m.getD 0 0) (s.getD 0 0) 0).1=0): ∀j,j<=5->(V (MR t m s j).1 j+(MR t m s j).2.toNat*2^(64*j))*18446744073709551616=V s (j+1)+t.toNat*V m (j+1)
 |0,_=>by
  have h:=jV t (m.getD 0 0) (s.getD 0 0) 0;rw[h0,show (0:BitVec 64).toNat=0 from O]at h;rw[V,V,V,V,V,show 2^(64*0)=1 from O,MR];simp only[Nat.zero_add,Nat.mul_one];omega
 |j+1,h=>by
  have ih:=Id t m s hs h0 j om;have hv:=jV t (m.getD (j+1) 0) ((MR t m s j).1.getD (j+1) 0) (MR t m s j).2;rw[show V s (j+1+1)=V s (j+1)+(s.getD (j+1) 0).toNat*2^(64*(j+1))from O,show V m (j+1+1)=V m (j+1)+(m.getD (j+1) 0).toNat*2^(64*(j+1))from O];rw[MR,V,jy _ _ _ j (Nat.le_refl _),dW _ _ _ (by rw[i8];omega)]
  dsimp only;rw[D8 t m s (j+1) j om]at hv⊢;rw[ij];generalize (MA t (m.getD (j+1) 0) (s.getD (j+1) 0) (MR t m s j).2).1.toNat=lo at*;generalize (MA t (m.getD (j+1) 0) (s.getD (j+1) 0) (MR t m s j).2).2.toNat=hi at*;generalize 2^(64*j)=q at*;have e1:lo*q+hi*(q*18446744073709551616)=(lo+hi*18446744073709551616)*q:=by rw[Nat.add_mul,Nat.mul_comm q,<-Nat.mul_assoc]
  rw[hv,Nat.add_mul,Nat.add_mul]at e1;have e2:t.toNat*(V m (j+1)+(m.getD (j+1) 0).toNat*(q*18446744073709551616))=t.toNat*V m (j+1)+t.toNat*(m.getD (j+1) 0).toNat*q*18446744073709551616:=by
   rw[Nat.mul_add,<-Nat.mul_assoc t.toNat (m.getD (j+1) 0).toNat,<-Nat.mul_assoc (t.toNat*(m.getD (j+1) 0).toNat) q]
  have e3:(s.getD (j+1) 0).toNat*(q*18446744073709551616)=(s.getD (j+1) 0).toNat*q*18446744073709551616:=by rw[<-Nat.mul_assoc]
  rw[e2,e3];clear h0 hv e2 e3;exact NF _ ih e1
theorem pR(l:L6)(i:Nat):V l (i+1)=V l i+(l.getD i 0).toNat*2^(64*i):=rfl
def MO(a b m:L6)(cl:BitVec 64):Nat->L6×BitVec 64
 |0=>(List.replicate 6 0,0)
 |i+1=>
  let s:=MJ (a.getD i 0) b (MO a b m cl i).1 6
  let p:=ADC (MO a b m cl i).2 s.2 0
  let r:=MR (s.1.getD 0 0*cl) m s.1 5
  let q:=ADC p.1 r.2 0
  (r.1.set 5 q.1,p.2+q.2)
theorem oF(a b m:L6)(cl:BitVec 64)(i:Nat){s r:L6×BitVec 64}(hs:MJ (a.getD i 0) b (MO a b m cl i).1 6=s)(hr:MR (s.1.getD 0 0*cl) m s.1 5=r):
 MO a b m cl (i+1)=(r.1.set 5 (ADC (ADC (MO a b m cl i).2 s.2 0).1 r.2 0).1,(ADC (MO a b m cl i).2 s.2 0).2+(ADC (ADC (MO a b m cl i).2 s.2 0).1 r.2 0).2):=by
 subst hs;subst hr;rw[MO]
theorem ez(a b m:L6)(cl:BitVec 64): ∀i,(MO a b m cl i).1.length=6
 |0=>rfl
 |i+1=>by simp[MO,i8,kA,ez a b m cl i]
theorem JS{lo hi p s:Nat}(h:lo+hi*18446744073709551616=p+s+0)(h1:lo<18446744073709551616)(h2:(p+s) % 18446744073709551616=0):lo=0:=om
theorem wg(s0 m0 cl:BitVec 64)(h:m0*cl= -1):(MA (s0*cl) m0 s0 0).1=0:=by
 have hv:=jV (s0*cl) m0 s0 0;have hlt:=(MA (s0*cl) m0 s0 0).1.isLt;have e:s0*cl*m0+s0=0:=by
  have:s0*cl*m0+s0=s0*(m0*cl)+s0:=by grind
  rw[this,h];grind
 have e2:=congrArg BitVec.toNat e;rw[BitVec.toNat_add,BitVec.toNat_mul]at e2;rw[show (0:BitVec 64).toNat=0 from O]at e2 hv;apply BitVec.eq_of_toNat_eq;rw[show (0:BitVec 64).toNat=0 from O];rw[Nat.add_mod,Nat.mod_mod,<-Nat.add_mod]at e2;exact JS hv hlt e2
theorem OH{q5 V0 V1 V5 s0 c p1 p2 r x5 q2 B M t top R:Nat}(W:Nat)(hR:R=q5*W)
 (h1:V1+c*R=V0+s0*B) (h2:p1+p2*W=top+c) (h3:(V5+r*q5)*W=V1+t*M) (h4:x5+q2*W=p1+r):
 (V5+x5*q5+(p2+q2)*R)*W=V0+top*R+s0*B+t*M:=by
 have e4:(x5+q2*W)*R=(p1+r)*R:=by rw[h4]
 have e2:(p1+p2*W)*R=(top+c)*R:=by rw[h2]
 have e3:V5*W+r*R=V1+t*M:=by rw[<-h3,Nat.add_mul,Nat.mul_assoc,<-hR]
 have eg:(V5+x5*q5+(p2+q2)*R)*W=V5*W+x5*R+(p2*W*R+q2*W*R):=by
  rw[Nat.add_mul,Nat.add_mul,Nat.mul_assoc x5,<-hR,Nat.add_mul,Nat.add_mul,Nat.mul_right_comm,Nat.mul_right_comm q2]
 rw[Nat.add_mul,Nat.add_mul]at e4 e2;rw[eg];omega
theorem KN(n:Nat)(h:n=5+1):2^(64*n)=2^(64*5)*18446744073709551616:=by rw[h];exact ij 5
theorem Ew:R6=2^(64*5)*18446744073709551616:=by rw[eB];exact KN 6 O
theorem JK(a b m:L6)(cl:BitVec 64)(hcl:m.getD 0 0*cl= -1)(i:Nat):
 ∃t,t<18446744073709551616/\(V (MO a b m cl (i+1)).1 6+(MO a b m cl (i+1)).2.toNat*R6)*18446744073709551616=V (MO a b m cl i).1 6+(MO a b m cl i).2.toNat*R6+(a.getD i 0).toNat*V b 6+t*V m 6:=by
 have h1:=SD (a.getD i 0) b (MO a b m cl i).1 (ez a b m cl i);have hl:(MJ (a.getD i 0) b (MO a b m cl i).1 6).1.length=6:=by rw[kA,ez]
 rw[MO];dsimp only;generalize MJ (a.getD i 0) b (MO a b m cl i).1 6=s at*;have h2:=mJ (MO a b m cl i).2 s.2;have hp:=zS (MO a b m cl i).2 s.2 0 dc;generalize ADC (MO a b m cl i).2 s.2 0=p at*;have h3:=Id (s.1.getD 0 0*cl) m s.1 hl (wg _ _ _ hcl) 5 (Nat.le_refl _);have hl2:(MR (s.1.getD 0 0*cl) m s.1 5).1.length=6:=by rw[i8,hl]
 refine ⟨(s.1.getD 0 0*cl).toNat,(s.1.getD 0 0*cl).isLt, ?_⟩;generalize s.1.getD 0 0*cl=t at*;generalize MR t m s.1 5=r at*;have h4:=mJ p.1 r.2;have hq:=zS p.1 r.2 0 dc;generalize ADC p.1 r.2 0=q at*;have e:V (r.1.set 5 q.1) 6=V r.1 5+q.1.toNat*2^(64*5):=by
  refine (pR _ 5).trans ?_;rw[jy _ _ _ 5 (Nat.le_refl _),dW _ _ _ om]
 have e2:(p.2+q.2).toNat=p.2.toNat+q.2.toNat:=by rw[BitVec.toNat_add];omega
 rw[e,e2];exact OH _ Ew h1 h2 h3 h4
theorem GS(a b m:L6)(cl:BitVec 64)(hcl:m.getD 0 0*cl= -1): ∀i,∃Q,Q<2^(64*i)/\(V (MO a b m cl i).1 6+(MO a b m cl i).2.toNat*R6)*2^(64*i)=V a i*V b 6+Q*V m 6
 |0=>⟨0,dc,by
  rw[MO,show V (List.replicate 6 0) 6=0 from iP 6 6,show (0:BitVec 64).toNat=0 from O,V];simp⟩
 |i+1=>by
  obtain ⟨Q,hQ,ih⟩:=GS a b m cl hcl i;obtain ⟨t,ht,hs⟩:=JK a b m cl hcl i;refine ⟨Q+t*2^(64*i), ?_, ?_⟩
  ·rw[ij]
   have:t*2^(64*i)<=18446744073709551615*2^(64*i):=Nat.mul_le_mul_right _ om;omega
  ·rw[ij,Nat.mul_comm (2^(64*i)),<-Nat.mul_assoc,hs,show V a (i+1)=V a i+(a.getD i 0).toNat*2^(64*i)from O]
   generalize V (MO a b m cl i).1 6+(MO a b m cl i).2.toNat*R6=S at*;generalize 2^(64*i)=q at*;rw[Nat.add_mul,Nat.add_mul,ih,Nat.add_mul,Nat.add_mul,Nat.mul_right_comm (a.getD i 0).toNat,Nat.mul_right_comm t];omega
/-! ### The product -/
def MN(a b m:L6):L6:=RED (MO a b m (-(IV (m.getD 0 0) 5)) 6).1 (MO a b m (-(IV (m.getD 0 0) 5)) 6).2 m
def il(a b m:L6):L6:=
 if m.getD 0 0 % 2=0 then List.replicate 6 0 else if LT a m 6 then MN a b m else MN (MOD (a++List.replicate 6 0) m) b m
theorem Qv(a b m:L6):(MN a b m).length=6:=jE _ _ _ (ez _ _ _ _ _)
theorem PA:0<R6:=Nat.lt_of_le_of_lt (Nat.zero_le _) (iU [])
theorem Eb(a b m:L6)(hm:(m.getD 0 0).toNat % 2=1)(ha:V a 6<V m 6):V (MN a b m) 6<V m 6/\V (MN a b m) 6*R6 % V m 6=V a 6*V b 6 % V m 6:=by
 have hcl:m.getD 0 0* -(IV (m.getD 0 0) 5)= -1:=by
  have h:=R8 _ hm;have:m.getD 0 0* -(IV (m.getD 0 0) 5)= -(m.getD 0 0*IV (m.getD 0 0) 5):=by grind
  rw[this,h]
 obtain ⟨Q,hQ,h⟩:=GS a b m _ hcl 6;rw[<-eB]at hQ h;have hR:=PA;have hb:=iU b;have hml:=iU m;unfold MN;generalize MO a b m (-(IV (m.getD 0 0) 5)) 6=s at*;have hS:V s.1 6+s.2.toNat*R6<2*V m 6:=by
  have b1:V a 6*V b 6<=V m 6*R6:=Nat.mul_le_mul (Nat.le_of_lt ha) (Nat.le_of_lt hb);have b2:Q*V m 6<R6*V m 6:=(Nat.mul_lt_mul_right om).2 hQ;have b3:(V s.1 6+s.2.toNat*R6)*R6<2*V m 6*R6:=by
   rw[h,Nat.mul_assoc,Nat.mul_comm R6]at*;omega
  exact Nat.lt_of_mul_lt_mul_right b3
 have ht:s.2.toNat<=1:=by
  rcases Nat.lt_or_ge s.2.toNat 2 with h'|h'
  ·omega
  ·have:2*R6<=s.2.toNat*R6:=Nat.mul_le_mul_right _ h'
   omega
 rw[sK _ _ _ ht hS];refine ⟨Nat.mod_lt _ om, ?_⟩;rw[Nat.mul_mod,Nat.mod_mod,<-Nat.mul_mod,h,Nat.add_mul_mod_self_right]
theorem TV(a:L6)(h:a.length=6):V (a++List.replicate 6 0) 12=V a 6:=by
 have key: ∀k,k<=6->V (a++List.replicate 6 0) k=V a k:=λk=>by
  induction k with
  |zero=>intro _;rfl
  |succ k ih=>
   intro hk;rw[V,V,ih om];simp only[List.getD_eq_getElem?_getD];rw[List.getElem?_append_left om]
 have z: ∀k,6<=k->(a++List.replicate 6 0).getD k 0=0:=λk hk=>by
  rw[List.getD_eq_getElem?_getD,List.getElem?_append_right om,List.getElem?_replicate];split<;>rfl
 have key2: ∀k,V (a++List.replicate 6 0) (6+k)=V a 6:=λk=>by
  induction k with
  |zero=>exact key 6 (Nat.le_refl _)
  |succ k ih=>
   rw[<-Nat.add_assoc,V,ih,z _ om,show (0:BitVec 64).toNat=0 from O,Nat.zero_mul,Nat.add_zero]
 exact key2 6
theorem NX(m:L6)(h: ¬m.getD 0 0 % 2=0):(m.getD 0 0).toNat % 2=1:=by
 have h1: ¬(m.getD 0 0).toNat % 2=0:=λe=>h (by
  apply BitVec.eq_of_toNat_eq;rw[BitVec.toNat_umod];exact e)
 omega
theorem OW(m:L6)(h:(m.getD 0 0).toNat % 2=1):m≠List.replicate 6 0:=λe=>by
 rw[e]at h;exact absurd h dc
theorem aQ(a b m:L6):(il a b m).length=6:=by
 unfold il;split
 ·rfl
 ·split<;>exact Qv _ _ _
theorem v9(a b m:L6)(hal:a.length=6)(hml:m.length=6)(h: ¬m.getD 0 0 % 2=0):V (il a b m) 6<V m 6/\V (il a b m) 6*R6 % V m 6=V a 6*V b 6 % V m 6:=by
 have ho:=NX m h;have hnz:=OW m ho;have hpos:=MD m hml hnz;rw[il,if_neg h];by_cases hl:LT a m 6=true
 ·rw[if_pos hl]
  rw[qa]at hl;exact Eb a b m ho (of_decide_eq_true hl)
 ·rw[if_neg hl]
  have hv:=Bg (a++List.replicate 6 0) m hml hnz;rw[TV a hal]at hv;have h1:=Eb (MOD (a++List.replicate 6 0) m) b m ho (by rw[hv];exact Nat.mod_lt _ hpos)
  refine ⟨h1.1,h1.2.trans ?_⟩;rw[hv,Nat.mul_mod,Nat.mod_mod,<-Nat.mul_mod]
def Pr(n:Nat):Prop:=1<n/\∀d,d∣n->d=1\/d=n
theorem Pr.coprime{p a:Nat}(hp:Pr p)(h: ¬p∣a):Nat.Coprime p a:=by
 rcases hp.2 (Nat.gcd p a) (Nat.gcd_dvd_left _ _)with e|e
 ·exact e
 ·exact absurd (by rw[<-e];exact Nat.gcd_dvd_right p a) h
theorem Pr.dvd_mul{p a b:Nat}(hp:Pr p)(h:p∣a*b):p∣a\/p∣b:=by
 by_cases ha:p∣a
 ·exact .inl ha
 ·exact .inr ((hp.coprime ha).dvd_of_dvd_mul_left h)
theorem Pr.pos{p:Nat}(hp:Pr p):0<p:=Nat.lt_trans Nat.zero_lt_one hp.1
theorem Pr.not_lt{p a:Nat}(h0:0<a)(h:a<p): ¬p∣a:=λhd=>by
 have:=Nat.le_of_dvd h0 hd;omega
/-! ### A number that is no prime has a prime factor that is not above its root -/
theorem rW: ∀n,1<n->∃l,Pr l/\l∣n:=by
 intro n
 induction n using Nat.strongRecOn with
 |ind n ih=>
  intro hn;by_cases hp:Pr n
  ·exact ⟨n,hp,Nat.dvd_refl n⟩
  ·have: ∃d,d∣n/\¬(d=1\/d=n):=Classical.byContradiction λh=>hp ⟨hn,λd hd=>Classical.byContradiction λh'=>h ⟨d,hd,h'⟩⟩
   obtain ⟨d,hd,hne⟩:=this;have hle:=Nat.le_of_dvd om hd;have h0:d≠0:=λe=>by subst e;have:=Nat.eq_zero_of_zero_dvd hd;omega
   obtain ⟨l,hl,hld⟩:=ih d om om;exact ⟨l,hl,Nat.dvd_trans hld hd⟩
theorem mb{n:Nat}(hn:1<n)(h: ∀l,Pr l->l∣n->n<l*l):Pr n:=by
 refine ⟨hn,λd hd=> ?_⟩;by_cases h1:d=1
 ·exact .inl h1
 ·right
  obtain ⟨e,rfl⟩:=hd;by_cases he:e=1
  ·rw[he,Nat.mul_one]
  ·exfalso
   have hd0:d≠0:=λe0=>by rw[e0,Nat.zero_mul]at hn;omega
   have he0:e≠0:=λe0=>by rw[e0,Nat.mul_zero]at hn;omega
   obtain ⟨l,hl,hld⟩:=rW d om;obtain ⟨m,hm,hme⟩:=rW e om;have a1:=h l hl (Nat.dvd_trans hld (Nat.dvd_mul_right d e));have a2:=h m hm (Nat.dvd_trans hme (Nat.dvd_mul_left e d));have b1:=Nat.le_of_dvd om hld;have b2:=Nat.le_of_dvd om hme;have c1:l*m<=d*e:=Nat.mul_le_mul b1 b2;rcases Nat.le_total l m with h'|h'
   ·have:=Nat.mul_le_mul_left l h'
    omega
   ·have:=Nat.mul_le_mul_left m h'
    rw[Nat.mul_comm m l]at this;omega
/-! ### Fermat -/
def Cb:Nat->Nat->Nat
 |_,0=>1
 |0,_+1=>0
 |n+1,k+1=>Cb n k+Cb n (k+1)
theorem jT(n:Nat):Cb n 0=1:=by cases n<;>rfl
theorem sQ: ∀n k,(k+1)*Cb (n+1) (k+1)=(n+1)*Cb n k
 |0,0=>rfl
 |0,k+1=>by simp[Cb]
 |n+1,0=>by
  have:=sQ n 0;rw[show Cb (n+1+1) (0+1)=Cb (n+1) 0+Cb (n+1) (0+1)from O,jT];rw[jT]at this;omega
 |n+1,j+1=>by
  have h1:=sQ n j;have h2:=sQ n (j+1);have e:Cb (n+1) (j+1)=Cb n j+Cb n (j+1):=rfl;rw[Cb,Nat.mul_add,h2];have h3:(j+1+1)*Cb (n+1) (j+1)=(n+1)*Cb n j+Cb (n+1) (j+1):=by rw[Nat.add_mul (j+1),h1,Nat.one_mul]
  rw[h3,Nat.add_mul (n+1) 1,Nat.one_mul];have h4:(n+1)*Cb (n+1) (j+1)=(n+1)*Cb n j+(n+1)*Cb n (j+1):=by rw[e,Nat.mul_add]
  omega
theorem oK: ∀n k,n<k->Cb n k=0
 |0,k+1,_=>rfl
 |n+1,k+1,h=>by rw[Cb,oK n k om,oK n (k+1) om]
theorem mo: ∀n,Cb n n=1
 |0=>rfl
 |n+1=>by rw[Cb,mo n,oK n (n+1) om]
def Sb(a n:Nat):Nat->Nat
 |0=>0
 |m+1=>Sb a n m+Cb n m*a^m
theorem Ay(a n:Nat): ∀m,Sb a (n+1) (m+1)=Sb a n (m+1)+a*Sb a n m
 |0=>by simp[Sb,jT]
 |m+1=>by
  have ih:=Ay a n m;rw[Sb,ih];have e1:Sb a n (m+1+1)=Sb a n (m+1)+Cb n (m+1)*a^(m+1):=rfl;have e2:Sb a n (m+1)=Sb a n m+Cb n m*a^m:=rfl;rw[e1,show Cb (n+1) (m+1)=Cb n m+Cb n (m+1)from O,Nat.add_mul];have e3:a*Sb a n (m+1)=a*Sb a n m+Cb n m*a^(m+1):=by rw[e2,Nat.mul_add,Nat.pow_succ,<-Nat.mul_assoc (Cb n m),Nat.mul_comm a (Cb n m*a^m)]
  omega
theorem binomial(a:Nat): ∀n,Sb a n (n+1)=(a+1)^n
 |0=>by simp[Sb,Cb]
 |n+1=>by
  have ih:=binomial a n;rw[Ay,show Sb a n (n+1+1)=Sb a n (n+1)+Cb n (n+1)*a^(n+1)from O,oK n (n+1) om,ih,Nat.zero_mul,Nat.add_zero,Nat.pow_succ,Nat.mul_add,Nat.mul_one,Nat.mul_comm a];omega
theorem Pr.dvd_Cb{p:Nat}(hp:Pr p){k:Nat}(h0:0<k)(h:k<p):p∣Cb p k:=by
 obtain ⟨q,rfl⟩: ∃q,p=q+1:=⟨p-1,by have:=hp.pos;omega⟩
 obtain ⟨j,rfl⟩: ∃j,k=j+1:=⟨k-1,om⟩;have e:=sQ q j;have hd:q+1∣(j+1)*Cb (q+1) (j+1):=by rw[e];exact Nat.dvd_mul_right _ _
 rcases hp.dvd_mul hd with h1|h1
 ·exact absurd h1 (Pr.not_lt om h)
 ·exact h1
theorem Pr.sum_mod{p:Nat}(hp:Pr p)(a:Nat): ∀m,m<p->Sb a p (m+1) % p=1
 |0,_=>by
  rw[Sb,Sb,jT,Nat.pow_zero,Nat.zero_add,Nat.mul_one];exact Nat.mod_eq_of_lt hp.1
 |m+1,h=>by
  have ih:=hp.sum_mod a m om;have hd:p∣Cb p (m+1)*a^(m+1):=Nat.dvd_trans (hp.dvd_Cb om h) (Nat.dvd_mul_right _ _);rw[Sb,Nat.add_mod,ih,Nat.mod_eq_zero_of_dvd hd,Nat.add_zero];exact Nat.mod_eq_of_lt hp.1
theorem Pr.fermat{p:Nat}(hp:Pr p): ∀a,a^p % p=a % p
 |0=>by
  have:=hp.pos;rw[Nat.zero_pow this]
 |a+1=>by
  have ih:=hp.fermat a;obtain ⟨q,hq⟩: ∃q,p=q+1:=⟨p-1,by have:=hp.pos;omega⟩
  have h1:=hp.sum_mod a q om;rw[<-binomial a p,Sb,mo,Nat.one_mul];rw[<-hq]at h1;rw[Nat.add_mod,h1,ih,Nat.add_mod a 1,Nat.add_comm,Nat.mod_eq_of_lt hp.1]
theorem Pr.fermat1{p:Nat}(hp:Pr p){a:Nat}(h: ¬p∣a):a^(p-1) % p=1:=by
 obtain ⟨q,rfl⟩: ∃q,p=q+1:=⟨p-1,by have:=hp.pos;omega⟩
 have hf:=hp.fermat a;have ha:0<a:=Nat.pos_of_ne_zero λe=>h (by rw[e];exact Nat.dvd_zero _)
 have hpw:1<=a^q:=Nat.pow_pos ha;rw[Nat.pow_succ]at hf;have hd:q+1∣(a^q-1)*a:=by
  rw[Nat.sub_mul,Nat.one_mul];exact Nat.dvd_of_mod_eq_zero (Nat.sub_mod_eq_zero_of_mod_eq hf)
 rcases hp.dvd_mul hd with h1|h1
 ·rw[Nat.add_sub_cancel]
  obtain ⟨c,hc⟩:=h1;have:a^q=(q+1)*c+1:=om;rw[this,Nat.mul_add_mod];exact Nat.mod_eq_of_lt hp.1
 ·exact absurd h1 h
/-! ### Pocklington -/
theorem n6{a l:Nat}(hl:1<l){x:Nat}(h:a^x % l=1)(k:Nat):a^(x*k) % l=1:=by
 rw[Nat.pow_mul,Nat.pow_mod,h,Nat.one_pow];exact Nat.mod_eq_of_lt hl
theorem Jj{a l:Nat}(hl:1<l)(m n:Nat):a^m % l=1->a^n % l=1->a^Nat.gcd m n % l=1:=by
 induction m,n using Nat.gcd.induction with
 |H0 n=>intro _ h;rw[Nat.gcd_zero_left];exact h
 |H1 m n hm ih=>
  intro h1 h2;rw[Nat.gcd_rec];refine ih ?_ h1;have e:a^n=a^(m*(n / m))*a^(n % m):=by rw[<-Nat.pow_add,Nat.div_add_mod]
  rw[e,Nat.mul_mod,n6 hl h1,Nat.one_mul,Nat.mod_mod]at h2;exact h2
theorem Ws{n q l a k:Nat}(hl:Pr l)(hq:Pr q)(hln:l∣n)(hn:1<n)(hk:n-1=q*k)(h1:a^(n-1) % n=1)(h2:Nat.gcd (a^k % n+(n-1)) n=1):q∣l-1:=by
 refine Classical.byContradiction λhnd=> ?_;have hc:Nat.gcd q (l-1)=1:=hq.coprime hnd;have h1l:a^(n-1) % l=1:=by
  have:a^(n-1) % n % l=a^(n-1) % l:=Nat.mod_mod_of_dvd _ hln;rw[<-this,h1];exact Nat.mod_eq_of_lt hl.1
 have hla: ¬l∣a:=λhd=>by
  have h0:0<n-1:=om;have:l∣a^(n-1):=by
   obtain ⟨m,hm⟩: ∃m,n-1=m+1:=⟨n-1-1,om⟩;rw[hm,Nat.pow_succ];exact Nat.dvd_trans hd (Nat.dvd_mul_left _ _)
  rw[Nat.mod_eq_zero_of_dvd this]at h1l
  cases h1l
 have h3:=n6 hl.1 (hl.fermat1 hla) k;rw[Nat.mul_comm]at h3;rw[hk,Nat.mul_comm]at h1l;have h4:=Jj hl.1 (k*q) (k*(l-1)) h1l h3;rw[Nat.gcd_mul_left,hc,Nat.mul_one]at h4;have h5:(a^k % n+(n-1)) % l=0:=by
  obtain ⟨c,hc⟩:=hln;have e1:a^k % n % l=1:=by rw[Nat.mod_mod_of_dvd _ ⟨c,hc⟩];exact h4
  have hl1:=hl.1;have hx:a^k % n=l*(a^k % n / l)+1:=by
   have:=Nat.div_add_mod (a^k % n) l;omega
  have e2:a^k % n+(n-1)=l*(a^k % n / l+c):=by
   rw[Nat.mul_add,<-hc];omega
  rw[e2,Nat.mul_mod_right]
 have hd:l∣Nat.gcd (a^k % n+(n-1)) n:=Nat.dvd_gcd (Nat.dvd_of_mod_eq_zero h5) hln;rw[h2]at hd;have:=Nat.le_of_dvd Nat.zero_lt_one hd;have:=hl.1;omega
theorem G2{n q a k:Nat}(hn:1<n)(hq:Pr q)(hk:n-1=q*k)(h1:a^(n-1) % n=1)(h2:Nat.gcd (a^k % n+(n-1)) n=1)(hF:n<q*q):Pr n:=
 mb hn λl hl hln=>by
  have hd:=Ws hl hq hln hn hk h1 h2;have:=Nat.le_of_dvd (by have:=hl.1;omega) hd
  have h3:q*q<=l*l:=Nat.mul_le_mul om om;omega
/-! ### Powers, for the kernel -/
def pm(a n:Nat):Nat->Nat->Nat
 |0,_=>1 % n
 |f+1,e=>bif Nat.beq (e % 2) 0 then pm a n f (e / 2)*pm a n f (e / 2) % n else pm a n f (e / 2)*pm a n f (e / 2) % n*a % n
theorem zv(a n:Nat): ∀f e,e<2^f->pm a n f e=a^e % n
 |0,e,h=>by
  have:e=0:=by simpa using h
  rw[this,pm,Nat.pow_zero]
 |f+1,e,h=>by
  have ih:=zv a n f (e / 2) (by rw[Nat.pow_succ]at h;omega)
  have e0:a^(e / 2)*a^(e / 2)=a^(2*(e / 2)):=by rw[<-Nat.pow_add,Nat.two_mul]
  rw[pm,ih,<-Nat.mul_mod,e0]
  cases hb:Nat.beq (e % 2) 0 with
  |true=>
   have:=Nat.eq_of_beq_eq_true hb;simp only[cond_true];rw[show 2*(e / 2)=e by omega]
  |false=>
   have:e % 2≠0:=λe1=>by rw[e1]at hb;cases hb
   simp only[cond_false];rw[Nat.mod_mul_mod,<-Nat.pow_succ,show (2*(e / 2)).succ=e by omega]
def BB(n q a f:Nat):Bool:=
 Nat.blt 1 n && (Nat.beq ((n-1) % q) 0 && (Nat.blt (n-1) (2^f) && (Nat.beq (pm a n f (n-1)) 1 && Nat.beq (Nat.gcd (pm a n f ((n-1) / q)+(n-1)) n) 1)))
theorem sp{n q a f:Nat}(h:BB n q a f=true):1<n/\n-1=q*((n-1) / q)/\a^(n-1) % n=1/\Nat.gcd (a^((n-1) / q) % n+(n-1)) n=1:=by
 simp only[BB,Bool.and_eq_true]at h;obtain ⟨h0,h1,h2,h3,h4⟩:=h;have h0:1<n:=by simpa using h0
 have h1:=Nat.eq_of_beq_eq_true h1;have h2:n-1<2^f:=by simpa using h2
 have h3:=Nat.eq_of_beq_eq_true h3;have h4:=Nat.eq_of_beq_eq_true h4;rw[zv a n f _ h2]at h3;rw[zv a n f _ (Nat.lt_of_le_of_lt (Nat.div_le_self _ _) h2)]at h4;refine ⟨h0, ?_,h3,h4⟩;have:=Nat.div_add_mod (n-1) q;omega
theorem mE{n q a:Nat}(f:Nat)(hq:Pr q)(h:BB n q a f=true)(hF:n<q*q):Pr n:=by
 obtain ⟨h0,h1,h2,h3⟩:=sp h;exact G2 h0 hq h1 h2 h3 hF
theorem g8{n q a:Nat}(f:Nat)(hq:Pr q)(h:BB n q a f=true){l:Nat}(hl:Pr l)(hln:l∣n):q∣l-1:=by
 obtain ⟨h0,h1,h2,h3⟩:=sp h;exact Ws hl hq hln h0 h1 h2 h3
def Bc(n:Nat):Nat->Bool
 |0=>true
 |k+1=>(Nat.beq k 0|| !Nat.beq (n % (k+1)) 0) && Bc n k
theorem p9{n:Nat}: ∀k,Bc n k=true->∀d,1<d->d<=k->¬d∣n
 |0,_,d,h1,h2=>om
 |k+1,h,d,h1,h2=>by
  simp only[Bc,Bool.and_eq_true,Bool.or_eq_true,Bool.not_eq_true']at h;rcases Nat.lt_or_ge d (k+1)with h'|h'
  ·exact p9 k h.2 d h1 om
  ·obtain rfl:d=k+1:=om
   rcases h.1 with h3|h3
   ·have:=Nat.eq_of_beq_eq_true h3;omega
   ·intro hd
    rw[Nat.mod_eq_zero_of_dvd hd]at h3
    cases h3
theorem ed{n k:Nat}(hn:1<n)(hk:n<(k+1)*(k+1))(h:Bc n k=true):Pr n:=
 mb hn λl hl hln=>by
  have:=hl.1;rcases Nat.lt_or_ge k l with h'|h'
  ·have:(k+1)*(k+1)<=l*l:=Nat.mul_le_mul h' h'
   omega
  ·exact absurd hln (p9 k h l hl.1 h')
theorem BE:Pr 421987:=ed (k:=649) dc dc kr
theorem Ce:Pr 755057:=ed (k:=868) dc dc kr
theorem pr_c:Pr 13090036741:=mE (a:=2) 34 BE kr dc
theorem pr_b:Pr 3819663927398918131021:=mb dc λl hl hln=>by
 have h1:=g8 (n:=3819663927398918131021) (a:=2) 72 pr_c kr hl hln;have h2:=g8 (n:=3819663927398918131021) (a:=2) 72 Ce kr hl hln;have h3:13090036741*755057∣l-1:=Nat.Coprime.mul_dvd_of_dvd_of_dvd (by decide+kernel) h1 h2
 have h4:=Nat.le_trans (Nat.le_of_dvd (Nat.sub_pos_of_lt hl.1) h3) (Nat.sub_le l 1);exact Nat.lt_of_lt_of_le (show 3819663927398918131021<(13090036741*755057)*(13090036741*755057) by decide) (Nat.mul_le_mul h4 h4)
theorem pr_a:Pr 1125266252156850182658904441386709967:=mE (a:=2) 120 pr_b kr dc
theorem I4:Pr 15778400344354997994418419698270088123916926905054652752758194827714659:=mE (a:=2) 234 pr_a kr dc
def PQ:Nat:=4002409555221667393417789825735904156556882819939007885332058136124031650490837864442687629129015664037894272559786
abbrev PP:Nat:=PQ+1
theorem pr_p:Pr PP:=mE (a:=2) 381 I4 kr dc
theorem uz:Pr 254760293:=ed (k:=15961) dc dc kr
theorem u6:Pr 52437899:=ed (k:=7241) dc dc kr
theorem yA:Pr 2529403:=ed (k:=1590) dc dc kr
theorem xj:Pr 2508409:=ed (k:=1583) dc dc kr
theorem BF:Pr 906349:=ed (k:=952) dc dc kr
theorem BL:Pr 859267:=ed (k:=926) dc dc kr
def RQ:Nat:=52435875175126190479447740508185965837690552500527637822603658699938581184512
abbrev RR:Nat:=RQ+1
theorem pr_r:Pr RR:=mb dc λl hl hln=>by
 have h0:=g8 (n:=RR) (a:=2) 255 uz kr hl hln;have h1:=g8 (n:=RR) (a:=2) 255 u6 kr hl hln;have h2:=g8 (n:=RR) (a:=2) 255 yA kr hl hln;have h3:=g8 (n:=RR) (a:=2) 255 xj kr hl hln;have h4:=g8 (n:=RR) (a:=2) 255 BF kr hl hln;have h5:=g8 (n:=RR) (a:=2) 255 BL kr hl hln;have g1:13359094513544407∣l-1:=Nat.Coprime.mul_dvd_of_dvd_of_dvd (m:=254760293) (n:=52437899) (by decide+kernel) h0 h1
 have g2:33790533739842763699021∣l-1:=Nat.Coprime.mul_dvd_of_dvd_of_dvd (m:=13359094513544407) (n:=2529403) (by decide+kernel) g1 h2
 have g3:84760478947825247047497567589∣l-1:=Nat.Coprime.mul_dvd_of_dvd_of_dvd (m:=33790533739842763699021) (n:=2508409) (by decide+kernel) g2 h3
 have g4:76822575333882464836252372886722561∣l-1:=Nat.Coprime.mul_dvd_of_dvd_of_dvd (m:=84760478947825247047497567589) (n:=906349) (by decide+kernel) g3 h4
 have g5:66011103839419183912452067693255434822787∣l-1:=Nat.Coprime.mul_dvd_of_dvd_of_dvd (m:=76822575333882464836252372886722561) (n:=859267) (by decide+kernel) g4 h5
 have hf:=Nat.le_trans (Nat.le_of_dvd (Nat.sub_pos_of_lt hl.1) g5) (Nat.sub_le l 1);exact Nat.lt_of_lt_of_le (show RR<66011103839419183912452067693255434822787*66011103839419183912452067693255434822787 by decide) (Nat.mul_le_mul hf hf)
def VF(f:Nat->BitVec 64):Nat->Nat
 |0=>0
 |i+1=>VF f i+(f i).toNat*2^(64*i)
theorem oE(f:Nat->BitVec 64)(n:Nat): ∀i,i<=n->V ((List.range n).map f) i=VF f i
 |0,_=>rfl
 |i+1,h=>by
  have:((List.range n).map f).getD i 0=f i:=by
   rw[List.getD_eq_getElem?_getD,List.getElem?_map,List.getElem?_range om];rfl
  rw[V,VF,oE f n i om,this]
theorem vD(x y c:BitVec 64):ADC x y c=ADC y x c:=by simp only[ADC,Nat.add_comm x.toNat y.toNat]
theorem DT{a b c d:BitVec 64}(h:a.toNat+b.toNat*18446744073709551616=c.toNat+d.toNat*18446744073709551616):a=c/\b=d:=by
 have h1:=a.isLt;have h2:=c.isLt;exact ⟨BitVec.eq_of_toNat_eq om,BitVec.eq_of_toNat_eq om⟩
def KC(x:BitVec 64)(a t:L6):Nat->BitVec 64
 |0=>0
 |j+1=>(MA x (a.getD j 0) (t.getD j 0) (KC x a t j)).2
def KT(x:BitVec 64)(a t:L6)(j:Nat):BitVec 64:=(MA x (a.getD j 0) (t.getD j 0) (KC x a t j)).1
theorem Pv{v c q W lo hi xy tj vt va x aj:Nat}(ih:v+c*q=vt+x*va)(hv:lo+hi*W=xy+tj+c)(hxy:xy=x*aj):v+lo*q+hi*(q*W)=vt+tj*q+x*(va+aj*q):=by
 have e:(lo+hi*W)*q=(xy+tj+c)*q:=by rw[hv]
 rw[Nat.add_mul,Nat.add_mul,Nat.add_mul,Nat.mul_assoc hi W q,Nat.mul_comm W q]at e;rw[Nat.mul_add,<-Nat.mul_assoc x aj q,<-hxy];omega
theorem FB(x:BitVec 64)(a t:L6): ∀i,VF (KT x a t) i+(KC x a t i).toNat*2^(64*i)=V t i+x.toNat*V a i
 |0=>by simp[VF,KC,V]
 |i+1=>by
  have ih:=FB x a t i;have hv:=jV x (a.getD i 0) (t.getD i 0) (KC x a t i);rw[VF,V,V,ij];exact Pv ih hv O
def KD(m:BitVec 64)(p s:L6):Nat->BitVec 64
 |0=>(MA m (p.getD 0 0) (s.getD 0 0) 0).2
 |j+1=>(MA m (p.getD (j+1) 0) (s.getD (j+1) 0) (KD m p s j)).2
def KU(m:BitVec 64)(p s:L6)(j:Nat):BitVec 64:=(MA m (p.getD (j+1) 0) (s.getD (j+1) 0) (KD m p s j)).1
theorem Qn{v c q W lo hi xy sj vs vm m mj:Nat}(ih:(v+c*q)*W=vs+m*vm)(hv:lo+hi*W=xy+sj+c)(hxy:xy=m*mj):(v+lo*q+hi*(q*W))*W=vs+sj*(q*W)+m*(vm+mj*(q*W)):=by
 have e:(lo+hi*W)*q=(xy+sj+c)*q:=by rw[hv]
 rw[Nat.add_mul,Nat.add_mul,Nat.add_mul,Nat.mul_assoc hi W q,Nat.mul_comm W q]at e;rw[Nat.add_assoc v,e];rw[Nat.add_mul]at ih;rw[Nat.mul_add m,<-Nat.mul_assoc m mj,<-hxy,<-Nat.mul_assoc sj,<-Nat.mul_assoc xy];rw[Nat.add_mul v,Nat.add_mul (xy*q+sj*q),Nat.add_mul (xy*q)];omega
theorem GK(m:BitVec 64)(p s:L6)(h0:(MA m (p.getD 0 0) (s.getD 0 0) 0).1=0): ∀j,(VF (KU m p s) j+(KD m p s j).toNat*2^(64*j))*18446744073709551616=V s (j+1)+m.toNat*V p (j+1)
 |0=>by
  have h:=jV m (p.getD 0 0) (s.getD 0 0) 0;rw[h0,show (0:BitVec 64).toNat=0 from O]at h;rw[VF,V,V,V,V,show 2^(64*0)=1 from O,KD];simp only[Nat.zero_add,Nat.mul_one];omega
 |j+1=>by
  have ih:=GK m p s h0 j;have hv:=jV m (p.getD (j+1) 0) (s.getD (j+1) 0) (KD m p s j);rw[show V s (j+1+1)=V s (j+1)+(s.getD (j+1) 0).toNat*2^(64*(j+1))from O,show V p (j+1+1)=V p (j+1)+(p.getD (j+1) 0).toNat*2^(64*(j+1))from O,VF,ij];exact Qn ih hv O
def PL:L6:=[0xb9feffffffffaaab#64,0x1eabfffeb153ffff#64,0x6730d2a0f6b0f624#64,0x64774b84f38512bf#64,0x4b1ba7b6434bacd7#64,0x1a0111ea397fe69a#64]
def INV:BitVec 64:=0x89f3fffcfffcfffd#64
theorem ic:V PL 6=PP:=by decide+kernel
theorem Oy:PL.getD 0 0*INV= -1:=by decide+kernel
def T1(x:BitVec 64)(a t:L6):L6:=(List.range 6).map (KT x a t)
def T2(x:BitVec 64)(a t:L6):L6:=
 (List.range 6).map λj=>if j=5 then KC x a t 6+KD ((T1 x a t).getD 0 0*INV) PL (T1 x a t) 5 else KU ((T1 x a t).getD 0 0*INV) PL (T1 x a t) j
def RT(a b:L6):Nat->L6
 |0=>List.replicate 6 0
 |i+1=>T2 (b.getD i 0) a (RT a b i)
theorem QA(x:BitVec 64)(a t:L6):(T2 x a t).length=6:=by simp[T2]
theorem i9(a b:L6): ∀i,(RT a b i).length=6
 |0=>rfl
 |_+1=>QA _ _ _
theorem wE{f g:Nat->BitVec 64}: ∀n,(∀i,i<n->f i=g i)->VF f n=VF g n
 |0,_=>rfl
 |n+1,h=>by rw[VF,VF,wE n (λi hi=>h i om),h n om]
theorem IZ(f:Nat->BitVec 64)(i:Nat):VF f (i+1)=VF f i+(f i).toNat*2^(64*i):=rfl
theorem Ss(f:Nat->BitVec 64):VF f 6=VF f 5+(f 5).toNat*2^(64*5):=IZ f 5
theorem HS{W q5 R v5 c5 c6 x VA m P V1 VT:Nat}(hR:R=q5*W)(h1:V1+c6*R=VT+x*VA)(h2:(v5+c5*q5)*W=V1+m*P):(v5+(c6+c5)*q5)*W=VT+x*VA+m*P:=by
 rw[Nat.add_mul c6,<-Nat.add_assoc,Nat.add_right_comm,Nat.add_mul (v5+c5*q5),h2,Nat.mul_assoc c6,<-hR];omega
theorem Om{W q5 R v c d m P M S:Nat}(hR:R=q5*W)(key:(v+(c+d)*q5)*W=S+m*P)(hm:m*P<=M)(hS:S+M<W*R):c+d<W:=by
 refine Classical.byContradiction λhge=> ?_;have h3:W*q5<=(c+d)*q5:=Nat.mul_le_mul_right _ om;have h5:R<=(c+d)*q5:=by rw[hR,Nat.mul_comm];exact h3
 have h6:W*R<=(v+(c+d)*q5)*W:=by
  rw[Nat.mul_comm];exact Nat.mul_le_mul_right _ (Nat.le_trans h5 (Nat.le_add_left _ _))
 omega
theorem RU(x:BitVec 64)(a t:L6)(hb:V t 6+x.toNat*V a 6+18446744073709551615*PP<18446744073709551616*R6): ∃m,m<18446744073709551616/\V (T2 x a t) 6*18446744073709551616=V t 6+x.toNat*V a 6+m*PP:=by
 have h1:=FB x a t 6;have e1:V (T1 x a t) 6=VF (KT x a t) 6:=oE _ 6 6 (Nat.le_refl _);rw[<-e1,<-eB]at h1;have hz:=wg ((T1 x a t).getD 0 0) (PL.getD 0 0) INV Oy;have h2:=GK ((T1 x a t).getD 0 0*INV) PL (T1 x a t) hz 5;rw[show V PL (5+1)=PP from ic]at h2;have e2:V (T2 x a t) 6=VF (KU ((T1 x a t).getD 0 0*INV) PL (T1 x a t)) 5+(KC x a t 6+KD ((T1 x a t).getD 0 0*INV) PL (T1 x a t) 5).toNat*2^(64*5):=by
  rw[T2,oE _ 6 6 (Nat.le_refl _)];rw[Ss,if_pos O,wE 5 (g:=KU ((T1 x a t).getD 0 0*INV) PL (T1 x a t)) (λi hi=>by rw[if_neg om])]
 refine ⟨((T1 x a t).getD 0 0*INV).toNat,((T1 x a t).getD 0 0*INV).isLt, ?_⟩;have hm:=((T1 x a t).getD 0 0*INV).isLt;have hR:=Ew;rw[e2];clear e2;generalize 2^(64*5)=q5 at*;generalize R6=R at*;have key:=HS hR h1 h2;have hno:(KC x a t 6+KD ((T1 x a t).getD 0 0*INV) PL (T1 x a t) 5).toNat=(KC x a t 6).toNat+(KD ((T1 x a t).getD 0 0*INV) PL (T1 x a t) 5).toNat:=by
  rw[BitVec.toNat_add];refine Nat.mod_eq_of_lt ?_;exact Om hR key (Nat.mul_le_mul_right _ om) hb
 rw[hno];exact key
def PL4:L6:=[0xe7fbfffffffeaaac#64,0x7aaffffac54ffffe#64,0x9cc34a83dac3d890#64,0x91dd2e13ce144afd#64,0x2c6e9ed90d2eb35d#64,0x680447a8e5ff9a69#64]
theorem IP:V PL4 6=4*PP:=by decide+kernel
theorem rF:4*PP<R6/\0<PP:=⟨by rw[<-IP];exact iU _,by decide+kernel⟩
theorem HZ{W A P R T x:Nat}(hA:A<P)(hT:T<2*P)(hx:x<W)(hW:4<=W)(hR:4*P<R):T+x*A+(W-1)*P<W*R:=by
 have h1:x*A<=W*P:=Nat.mul_le_mul (Nat.le_of_lt hx) (Nat.le_of_lt hA);have h2:(W-1)*P<=W*P:=Nat.mul_le_mul_right _ om;have h3:4*P<=W*P:=Nat.mul_le_mul_right _ hW;have h4:W*(4*P)<=W*R:=Nat.mul_le_mul_left _ (Nat.le_of_lt hR);have h5:W*(4*P)=4*(W*P):=Nat.mul_left_comm _ _ _;omega
theorem Hx(a b:L6)(ha:V a 6<PP): ∀i,∃Q,Q<2^(64*i)/\V (RT a b i) 6*2^(64*i)=V b i*V a 6+Q*PP
 |0=>⟨0,dc,by
  rw[RT,show V (List.replicate 6 0) 6=0 from iP 6 6,V];simp⟩
 |i+1=>by
  obtain ⟨Q,hQ,ih⟩:=Hx a b ha i;have hT:V (RT a b i) 6<2*PP:=by
   have b1:V b i*V a 6<=2^(64*i)*PP:=Nat.mul_le_mul (Nat.le_of_lt (rl b i)) (Nat.le_of_lt ha);have b2:Q*PP<2^(64*i)*PP:=(Nat.mul_lt_mul_right rF.2).2 hQ;have b3:V (RT a b i) 6*2^(64*i)<2*PP*2^(64*i):=by
    rw[ih,Nat.mul_assoc,Nat.mul_comm PP];omega
   exact Nat.lt_of_mul_lt_mul_right b3
  obtain ⟨m,hm,hs⟩:=RU (b.getD i 0) a (RT a b i) (HZ (W:=18446744073709551616) ha hT (b.getD i 0).isLt dc rF.1);refine ⟨Q+m*2^(64*i), ?_, ?_⟩
  ·rw[ij]
   have:m*2^(64*i)<=18446744073709551615*2^(64*i):=Nat.mul_le_mul_right _ om;omega
  ·rw[RT,ij,Nat.mul_comm (2^(64*i)),<-Nat.mul_assoc,hs,show V b (i+1)=V b i+(b.getD i 0).toNat*2^(64*i)from O]
   generalize V (RT a b i) 6=S at*;generalize 2^(64*i)=q at*;rw[Nat.add_mul,Nat.add_mul,ih,Nat.add_mul,Nat.add_mul,Nat.mul_right_comm (b.getD i 0).toNat,Nat.mul_right_comm m];omega
def RM(a b:L6):L6:=if (SS (RT a b 6) PL 6).2=0 then (SS (RT a b 6) PL 6).1 else RT a b 6
theorem aY(a b:L6):(RM a b).length=6:=by
 unfold RM;split
 ·exact aA _ _ _
 ·exact i9 _ _ _
theorem xB(a b:L6)(ha:V a 6<PP):V (RM a b) 6<PP/\V (RM a b) 6*R6 % PP=V a 6*V b 6 % PP:=by
 obtain ⟨Q,hQ,h⟩:=Hx a b ha 6;rw[<-eB]at hQ h;have hp:=rF.2;have hT:V (RT a b 6) 6<2*PP:=by
  have b1:V b 6*V a 6<=R6*PP:=Nat.mul_le_mul (Nat.le_of_lt (iU b)) (Nat.le_of_lt ha);have b2:Q*PP<R6*PP:=(Nat.mul_lt_mul_right hp).2 hQ;have b3:V (RT a b 6) 6*R6<2*PP*R6:=by
   rw[h,Nat.mul_assoc,Nat.mul_comm PP];omega
  exact Nat.lt_of_mul_lt_mul_right b3
 have e:RM a b=RED (RT a b 6) 0 PL:=by
  unfold RM RED;rcases dZ _ (n8 (RT a b 6) PL 6)with ⟨e1,_⟩|⟨e1,_⟩
  ·rw[if_pos e1,if_neg (by rw[e1];exact λh=>td h.2)]
  ·rw[if_neg (by rw[e1];exact tZ),if_pos ⟨rfl,e1⟩]
 have hv:=sK (RT a b 6) 0 PL dc (by rw[ic,show (0:BitVec 64).toNat=0 from O,Nat.zero_mul,Nat.add_zero];exact hT)
 rw[ic,show (0:BitVec 64).toNat=0 from O,Nat.zero_mul,Nat.add_zero]at hv;rw[e,hv];refine ⟨Nat.mod_lt _ hp, ?_⟩;rw[Nat.mul_mod,Nat.mod_mod,<-Nat.mul_mod,h,Nat.add_mul_mod_self_right,Nat.mul_comm]
theorem wN:0<PP:=rF.2
abbrev Zp:=Fin PP
def zp(n:Nat):Zp:=Fin.ofNat PP n
theorem fy(n:Nat):(zp n).val=n % PP:=Fin.val_ofNat PP n
theorem sA(x:Zp):zp x.val=x:=Fin.ext (by rw[fy];exact Nat.mod_eq_of_lt x.isLt)
theorem i5(a b:Nat):zp (a*b)=zp a*zp b:=Fin.ext (by rw[Fin.val_mul,fy,fy,fy,<-Nat.mul_mod])
theorem ga(a b:Nat):zp (a+b)=zp a+zp b:=Fin.ext (by rw[Fin.val_add,fy,fy,fy,<-Nat.add_mod])
theorem ui(a:Nat):zp (a % PP)=zp a:=Fin.ext (by rw[fy,fy,Nat.mod_mod])
theorem wp{a b:Nat}(h:a % PP=b % PP):zp a=zp b:=by rw[<-ui,h,ui]
theorem mI:zp PP=0:=Fin.ext (by rw[fy,Nat.mod_self];rfl)
theorem Jl:zp 0=0:=rfl
theorem U9:zp 1=1:=rfl
theorem p0(a:Zp):a^0=1:=by grind
theorem p1(a:Zp):a^1=a:=by grind
theorem ps(a:Zp)(n:Nat):a^(n+1)=a^n*a:=by grind
theorem n7(a:Zp)(m n:Nat):a^(m+n)=a^m*a^n:=by grind
theorem It(a:Zp)(m:Nat): ∀n:Nat,a^(m*n)=(a^m)^n
 |0=>by rw[Nat.mul_zero,p0,p0]
 |n+1=>by rw[Nat.mul_succ,n7,It a m n,ps]
theorem JL(a b:Zp): ∀n:Nat,(a*b)^n=a^n*b^n
 |0=>by rw[p0,p0,p0];grind
 |n+1=>by rw[ps,ps,ps,JL a b n];grind
theorem Mi(n:Nat):(0:Zp)^(n+1)=0:=by rw[ps];grind
theorem Aw(a:Zp): ∀n:Nat,(a^n).val=a.val^n % PP
 |0=>by rw[p0,Nat.pow_zero];rfl
 |n+1=>by rw[ps,Fin.val_mul,Aw a n,Nat.pow_succ,Nat.mod_mul_mod]
theorem R9{a:Zp}(h:a≠0): ¬PP∣a.val:=λhd=>by
 have h0:0<a.val:=Nat.pos_of_ne_zero λe=>h (Fin.ext e);exact Pr.not_lt h0 a.isLt hd
theorem fermat{a:Zp}(h:a≠0):a^(PP-1)=1:=Fin.ext (by rw[Aw,pr_p.fermat1 (R9 h)];rfl)
theorem nf{a:Zp}(h:a≠0):a*a^(PP-2)=1:=by
 have hp:2<PP:=by have:=pr_p.1;have:PP≠2:=by decide+kernel
                  omega
 rw[<-fermat h,show PP-1=1+(PP-2) by omega,n7,p1]
theorem mV{a b:Zp}(h:a*b=0):a=0\/b=0:=by
 by_cases ha:a=0
 ·exact .inl ha
 ·have:=nf ha
  right;grind
theorem jI:(1:Zp)≠0:=λh=>by
 have:=congrArg Fin.val h;rw[show (1:Zp).val=1 % PP from O,Nat.mod_eq_of_lt pr_p.1]at this
 cases this
/-! ### Six parts -/
def po(n:Nat):L6:=(List.range 6).map λi=>BitVec.ofNat 64 (n / 2^(64*i))
theorem m4(n:Nat):(po n).length=6:=by rw[po,List.length_map,List.length_range]
theorem vZ(n:Nat): ∀k,VF (λi=>BitVec.ofNat 64 (n / 2^(64*i))) k=n % 2^(64*k)
 |0=>by rw[VF,Nat.mul_zero,Nat.pow_zero,Nat.mod_one]
 |k+1=>by
  rw[VF,vZ n k,ij,BitVec.toNat_ofNat,Nat.mod_mul,Nat.mul_comm (2^(64*k))]
theorem tG(n:Nat)(h:n<R6):V (po n) 6=n:=by
 rw[po,oE _ 6 6 (Nat.le_refl _),vZ,<-eB];exact Nat.mod_eq_of_lt h
theorem vd:PP<R6:=by have:=rF.1;omega
/-! ### Elements, times 2^384 -/
def RZ:Zp:=zp R6
theorem Vu: ¬PP∣R6:=λh=>by
 rw[eB]at h;have key: ∀k,¬PP∣2^k:=λk=>by
  induction k with
  |zero=>intro h;have:=Nat.le_of_dvd dc h;have:=pr_p.1;omega
  |succ k ih=>
   intro h;rw[Nat.pow_succ]at h;rcases pr_p.dvd_mul h with h|h
   ·exact ih h
   ·have:=Nat.le_of_dvd dc h
    have: ¬PP<=2:=by decide+kernel
    omega
 exact key _ h
theorem Fv:RZ≠0:=λh=>by
 have:=congrArg Fin.val h;rw[RZ,fy]at this;exact Vu (Nat.dvd_of_mod_eq_zero this)
theorem le{x y:Zp}(h:x*RZ=y*RZ):x=y:=by
 have h0:=nf Fv;have:(x-y)*RZ=0:=by grind
 rcases mV this with h|h
 ·grind
 ·exact absurd h Fv
def fe(x:Zp):L6:=po (x*RZ).val
def nm(x:Zp):L6:=po x.val
theorem a6(x:Zp):(fe x).length=6:=m4 _
theorem bv(x:Zp):(nm x).length=6:=m4 _
theorem QK(x:Zp):V (fe x) 6=(x*RZ).val:=tG _ (Nat.lt_trans (x*RZ).isLt vd)
theorem sZ(x:Zp):V (nm x) 6=x.val:=tG _ (Nat.lt_trans x.isLt vd)
theorem lC(x:Zp):V (fe x) 6<PP:=by rw[QK];exact (x*RZ).isLt
theorem gu(x:Zp):zp (V (fe x) 6)=x*RZ:=by rw[QK,sA]
theorem ls{l:L6}{x:Zp}(hl:l.length=6)(hlt:V l 6<PP)(h:zp (V l 6)=x*RZ):l=fe x:=by
 refine rV 6 hl (a6 x) ?_;rw[QK,<-h,fy,Nat.mod_eq_of_lt hlt]
theorem Xh{l:L6}{x:Zp}(hl:l.length=6)(hlt:V l 6<PP)(h:zp (V l 6)=x):l=nm x:=by
 refine rV 6 hl (bv x) ?_;rw[sZ,<-h,fy,Nat.mod_eq_of_lt hlt]
theorem pi{x y:Zp}:fe x=fe y↔x=y:=⟨λh=>le (by rw[<-gu,<-gu,h]),λh=>by rw[h]⟩
theorem i2:fe 0=List.replicate 6 0#64:=(ls (x:=0) sm (by rw[iP];exact wN) (by rw[iP,Jl];grind)).symm
theorem Bw{l a b:L6}(hl:l.length=6)(h:V l 6<PP/\V l 6*R6 % PP=V a 6*V b 6 % PP){x y:Zp}(ha:zp (V a 6)=x*RZ)(hb:zp (V b 6)=y*RZ):l=fe (x*y):=by
 refine ls hl h.1 (le ?_);have:=wp h.2;rw[i5,i5,ha,hb]at this;rw[show zp (V l 6)*RZ=x*RZ*(y*RZ)from this];grind
theorem zR{l a b:L6}(hl:l.length=6)(h:V l 6<PP/\V l 6*R6 % PP=V a 6*V b 6 % PP){x:Zp}(ha:zp (V a 6)=x*RZ)(hb:V b 6=1):l=nm x:=by
 refine Xh hl h.1 (le ?_);have:=wp h.2;rw[i5,i5,ha,hb,U9]at this;rw[show zp (V l 6)*RZ=x*RZ*1 from this];grind
theorem Av(x y:Zp):RM (fe x) (fe y)=fe (x*y):=Bw (aY _ _) (xB _ _ (lC x)) (gu x) (gu y)
def FRs(bs:L8):Nat->L6
 |0=>List.replicate 6 0
 |i+1=>(FRs bs i).set ((bs.length-1-i) / 8) ((FRs bs i).getD ((bs.length-1-i) / 8) 0|||((bs.getD i 0).setWidth 64<<<(8*((bs.length-1-i) % 8))))
theorem aR(bs:L8): ∀i,(FRs bs i).length=6
 |0=>rfl
 |i+1=>by simp[FRs,aR bs i]
def BYs(a:L6):Nat->L8
 |0=>List.replicate 48 0
 |i+1=>(BYs a i).set i ((a.getD ((47-i) / 8) 0>>>(8*((47-i) % 8))).setWidth 8)
theorem aK(a:L6): ∀i,(BYs a i).length=48
 |0=>rfl
 |i+1=>by simp[BYs,aK a i]
theorem qW(l:L8)(k:Nat)(x:BitVec 8)(hk:k<l.length):(l.set k x).getD k 0=x:=by simp[List.getD_eq_getElem?_getD,hk]
theorem sO(l:L8)(k i:Nat)(x:BitVec 8)(h:i≠k):(l.set k x).getD i 0=l.getD i 0:=by
 simp only[List.getD_eq_getElem?_getD,List.getElem?_set_ne (Ne.symm h)]
theorem zw(a:L6)(j:Nat)(hj:j<48): ∀i,j<i->(BYs a i).getD j 0=(a.getD ((47-j) / 8) 0>>>(8*((47-j) % 8))).setWidth 8
 |0,h=>om
 |i+1,h=>by
  rw[BYs];rcases Nat.lt_or_ge j i with h'|h'
  ·rw[sO _ _ _ _ om,zw a j hj i h']
  ·obtain rfl:j=i:=om
   rw[qW _ _ _ (by rw[aK];exact hj)]
theorem tW(bs:L8)(hl:bs.length<=48): ∀i,i<=bs.length->∀n,n<384->
 ((FRs bs i).getD (n / 64) 0).getLsbD (n % 64)=(decide (n / 8<bs.length/\bs.length<=n / 8+i) && (bs.getD (bs.length-1-n / 8) 0).getLsbD (n % 8))
 |0,_,n,_=>by
  have:(List.replicate 6 (0:BitVec 64)).getD (n / 64) 0=0:=by
   rw[List.getD_eq_getElem?_getD,List.getElem?_replicate];split<;>rfl
  rw[FRs,this,decide_eq_false om];simp
 |i+1,hi,n,hn=>by
  have ih:=tW bs hl i om n hn;rw[FRs];by_cases hq:n / 64=(bs.length-1-i) / 8
  ·rw[hq,dW _ _ _ (by rw[aR];omega)]
   rw[hq]at ih;rw[BitVec.getLsbD_or,ih,BitVec.getLsbD_shiftLeft,BitVec.getLsbD_setWidth];by_cases hk:n / 8=bs.length-1-i
   ·rw[decide_eq_false om,decide_eq_true (by omega:n / 8<bs.length/\bs.length<=n / 8+(i+1)),decide_eq_true (by omega:n % 64<64),decide_eq_false (by omega: ¬n % 64<8*((bs.length-1-i) % 8)),decide_eq_true (by omega:n % 64-8*((bs.length-1-i) % 8)<64),
     show n % 64-8*((bs.length-1-i) % 8)=n % 8 by omega,show bs.length-1-n / 8=i by omega]
    simp
   ·have hz:((!decide (n % 64<8*((bs.length-1-i) % 8))) && (bs.getD i 0).getLsbD (n % 64-8*((bs.length-1-i) % 8)))=false:=by
     by_cases h1:n % 64<8*((bs.length-1-i) % 8)
     ·rw[decide_eq_true h1];rfl
     ·rw[BitVec.getLsbD_of_ge _ _ om];simp
    have hd:decide (n / 8<bs.length/\bs.length<=n / 8+i)=decide (n / 8<bs.length/\bs.length<=n / 8+(i+1)):=by
     congr 1;apply propext;omega
    rw[hd];generalize decide (n / 8<bs.length/\bs.length<=n / 8+(i+1))=D;generalize (bs.getD (bs.length-1-n / 8) 0).getLsbD (n % 8)=E;generalize decide (n % 64<8*((bs.length-1-i) % 8))=A at*;generalize (bs.getD i 0).getLsbD (n % 64-8*((bs.length-1-i) % 8))=X at*;generalize decide (n % 64<64)=Y;generalize decide (n % 64-8*((bs.length-1-i) % 8)<64)=Z
    cases A<;>cases X<;>simp at hz<;>simp
  ·rw[dQ _ _ _ _ hq,ih]
   have hd:decide (n / 8<bs.length/\bs.length<=n / 8+i)=decide (n / 8<bs.length/\bs.length<=n / 8+(i+1)):=by
    congr 1;apply propext;omega
   rw[hd]
theorem wA(l:L6)(q:Nat)(h:q<l.length):l[q]=l.getD q 0:=by simp[List.getD_eq_getElem?_getD,h]
theorem yB(a:L6)(ha:a.length=6)(n:Nat)(hn:n=48):FRs (BYs a n) n=a:=by
 have hb:=aK a n;have hg: ∀j,j<48->(BYs a n).getD j 0=(a.getD ((47-j) / 8) 0>>>(8*((47-j) % 8))).setWidth 8:=λj hj=>zw a j hj n om;generalize BYs a n=B at*;have hfb:=tW B om n om;have hfl:=aR B n;generalize FRs B n=f at*;apply List.ext_getElem om;intro q h1 h2;rw[wA f q h1,wA a q h2];apply BitVec.eq_of_getLsbD_eq;intro r hr;have h:=hfb (64*q+r) om;rw[show (64*q+r) / 64=q by omega,show (64*q+r) % 64=r by omega,hb,decide_eq_true om,Bool.true_and,hg _ om]at h
 rw[h,BitVec.getLsbD_setWidth,BitVec.getLsbD_ushiftRight,decide_eq_true om,Bool.true_and,show (47-(48-1-(64*q+r) / 8)) / 8=q by omega,show 8*((47-(48-1-(64*q+r) / 8)) % 8)+(64*q+r) % 8=r by omega]
/-! ### The bits that are set, the highest first -/
def gq(a:L6):Nat->List Nat
 |0=>[]
 |k+1=>if dig a (383-k)=1 then gq a k++[383-k]else gq a k
theorem vU(a:L6)(k:Nat): ∀n,k<=n->∃r,gq a n=gq a k++r
 |0,h=>⟨[],by obtain rfl:k=0:=om
              simp⟩
 |n+1,h=>by
  rcases Nat.lt_or_ge k (n+1)with h'|h'
  ·obtain ⟨r,hr⟩:=vU a k n om
   rw[gq];split
   ·exact ⟨r++[383-n],by rw[hr,List.append_assoc]⟩
   ·exact ⟨r,hr⟩
  ·obtain rfl:k=n+1:=om
   exact ⟨[],sm⟩
theorem JZ(a:L6)(k:Nat)(hk:k<384)(h:dig a (383-k)=1):(gq a 384)[(gq a k).length]? =some (383-k):=by
 obtain ⟨r,hr⟩:=vU a (k+1) 384 om;rw[hr,gq,if_pos h];simp
/-! ### Numbers of bytes -/
def BN(bs:L8):Nat->Nat
 |0=>0
 |i+1=>256*BN bs i+(bs.getD i 0).toNat
theorem Mq(bs:L8): ∀i,BN bs i<256^i
 |0=>by rw[BN];decide
 |i+1=>by
  have:=Mq bs i;have:=(bs.getD i 0).isLt;rw[BN,Nat.pow_succ];omega
theorem qc{as bs:L8}: ∀n,(∀i,i<n->as.getD i 0=bs.getD i 0)->BN as n=BN bs n
 |0,_=>rfl
 |n+1,h=>by rw[BN,BN,qc n (λi hi=>h i om),h n om]
theorem ql(bs:L8)(k:Nat): ∀m,BN bs (k+m)=BN bs k*256^m+BN (bs.drop k) m
 |0=>by rw[BN,Nat.pow_zero,Nat.mul_one,Nat.add_zero,Nat.add_zero]
 |m+1=>by
  rw[<-Nat.add_assoc,BN,BN,ql bs k m,Nat.pow_succ];have:(bs.drop k).getD m 0=bs.getD (k+m) 0:=by simp only[List.getD_eq_getElem?_getD,List.getElem?_drop]
  rw[this,Nat.mul_add,<-Nat.mul_assoc (BN bs k),Nat.mul_comm 256 (BN bs k*256^m)];omega
theorem CY(bs:L8): ∀i n,(BN bs i).testBit n=(decide (n / 8<i) && (bs.getD (i-1-n / 8) 0).getLsbD (n % 8))
 |0,n=>by rw[BN,Nat.zero_testBit,decide_eq_false om];rfl
 |i+1,n=>by
  have hb:=(bs.getD i 0).isLt;have e:=Nat.testBit_two_pow_mul_add (BN bs i) (i:=8) (b:=(bs.getD i 0).toNat) hb n;rw[BN,show 256*BN bs i+(bs.getD i 0).toNat=2^8*BN bs i+(bs.getD i 0).toNat from O,e];by_cases h:n<8
  ·rw[if_pos h,decide_eq_true (by omega:n / 8<i+1),show n / 8=0 by omega,show n % 8=n by omega,Nat.sub_zero,Nat.add_sub_cancel]
   simp[BitVec.getLsbD]
  ·rw[if_neg h,CY bs i (n-8)]
   have h1:(n-8) / 8=n / 8-1:=om;have h2:(n-8) % 8=n % 8:=om;rw[h1,h2];by_cases h3:n / 8<i+1
   ·rw[decide_eq_true h3,decide_eq_true (by omega:n / 8-1<i),show i+1-1-n / 8=i-1-(n / 8-1) by omega]
   ·rw[decide_eq_false h3,decide_eq_false (by omega: ¬n / 8-1<i)];rfl
theorem CU(x:BitVec 64)(s:Nat):((x>>>s) &&& 1#64).toNat=(x.getLsbD s).toNat:=by
 rw[BitVec.toNat_and,BitVec.toNat_ushiftRight,show (1#64).toNat=1 from O,Nat.and_one_is_mod];rw[BitVec.getLsbD,Nat.testBit,Nat.shiftRight_eq_div_pow];rcases Nat.mod_two_eq_zero_or_one (x.toNat / 2^s)with h|h<;>rw[Nat.and_comm,Nat.and_one_is_mod,h]<;>rfl
theorem Mw(l:L6)(N n:Nat)(h:n<64*N):(V l N).testBit n=(l.getD (n / 64) 0).getLsbD (n % 64):=by
 have hd:=sL l N n h;rw[dig,CU]at hd;rw[Nat.testBit,Nat.shiftRight_eq_div_pow,Nat.and_comm,Nat.and_one_is_mod,<-hd]
 cases (l.getD (n / 64) 0).getLsbD (n % 64)<;>rfl
theorem xr(n:Nat):256^n=2^(8*n):=by rw[Nat.pow_mul]
theorem Va{m n:Nat}(h:m<=n):2^m<=2^n:=Nat.pow_le_pow_right dc h
theorem Sf{k n:Nat}(hk:R6=2^k)(h:k<=n):R6<=2^n:=by rw[hk];exact Va h
theorem TC{n:Nat}(h: ¬n<384):R6<=2^n:=Sf eB om
theorem nC(bs:L8)(hl:bs.length<=48):V (FRs bs bs.length) 6=BN bs bs.length:=by
 refine Nat.eq_of_testBit_eq λn=> ?_;by_cases h:n<384
 ·rw[Mw _ 6 n h,tW bs hl bs.length (Nat.le_refl _) n h,CY]
  congr 2;apply propext;omega
 ·have e1:V (FRs bs bs.length) 6<2^n:=Nat.lt_of_lt_of_le (iU _) (TC h)
  have e2:BN bs bs.length<2^n:=Nat.lt_of_lt_of_le (Mq bs _) (by rw[xr];exact Nat.pow_le_pow_right dc om)
  rw[Nat.testBit_lt_two_pow e1,Nat.testBit_lt_two_pow e2]
theorem lX(a:L6)(ha:a.length=6)(n:Nat)(hn:n=48):BN (BYs a n) n=V a 6:=by
 have h:=nC (BYs a n) (by rw[aK];exact Nat.le_refl _)
 rw[aK,<-hn,yB a ha n hn]at h;exact h.symm
def cG(x:Zp):L8:=BYs (nm x) 48
theorem aM(x:Zp):(cG x).length=48:=aK _ _
theorem Af(x:Zp):BN (cG x) 48=x.val:=by rw[cG,lX _ (bv x) 48 O,sZ]
/-! ### Sums and differences -/
theorem nH(a b:L6):((SS a b 6).2=0/\V (SS a b 6).1 6+V b 6=V a 6)\/((SS a b 6).2=1/\V (SS a b 6).1 6+V b 6=V a 6+R6/\V a 6<V b 6):=by
 have h:=A7 a b;have hl:=iU (SS a b 6).1;rcases dZ _ (n8 a b 6)with ⟨e1,e2⟩|⟨e1,e2⟩
 ·exact .inl ⟨e1,by rw[e2,Nat.zero_mul,Nat.add_zero]at h;exact h⟩
 ·rw[e2,Nat.one_mul]at h
  exact .inr ⟨e1,h,om⟩
theorem GQ(a b:L6):((AS a b 6).2.toNat=0/\V (AS a b 6).1 6=V a 6+V b 6)\/((AS a b 6).2.toNat=1/\V (AS a b 6).1 6+R6=V a 6+V b 6):=by
 have h:=zj a b;rcases dZ _ (xg a b 6)with ⟨_,e2⟩|⟨_,e2⟩
 ·exact .inl ⟨e2,by rw[e2,Nat.zero_mul,Nat.add_zero]at h;exact h⟩
 ·exact .inr ⟨e2,by rw[e2,Nat.one_mul]at h;exact h⟩
theorem Mj(x y:Zp):V (AS (fe x) (fe y) 6).1 6=V (fe x) 6+V (fe y) 6:=by
 have h4:=rF.1;have hx:=lC x;have hy:=lC y;rcases GQ (fe x) (fe y)with ⟨_,h⟩|⟨_,h⟩
 ·exact h
 ·omega
theorem Lb(l:L6):V l 6=V l 5+(l.getD 5 0).toNat*2^(64*5):=V.eq_2 l 5
theorem Ki{q v s t x:Nat}(hv:v<q)(hs:s<t):v+s*q<x+t*q:=by
 have h:(s+1)*q<=t*q:=Nat.mul_le_mul_right _ hs;rw[Nat.add_mul,Nat.one_mul]at h;omega
theorem Jv(l:L6)(h: ¬1873798617647539866#64<=l.getD 5 0):V l 6<PP:=by
 rw[Lb l,<-ic,Lb PL];refine Ki (rl l 5) ?_;have h': ¬(1873798617647539866#64).toNat<=(l.getD 5 0).toNat:=h;rw[show (PL.getD 5 0).toNat=1873798617647539866 from O];rw[show (1873798617647539866#64).toNat=1873798617647539866 from O]at h';omega
theorem zh{x y:Zp}(h:V (AS (fe x) (fe y) 6).1 6<PP):(AS (fe x) (fe y) 6).1=fe (x+y):=
 ls (aH _ _ _) h (by rw[Mj,ga,gu,gu];grind)
theorem vu{x y:Zp}(h:(SS (AS (fe x) (fe y) 6).1 PL 6).2=0):(SS (AS (fe x) (fe y) 6).1 PL 6).1=fe (x+y):=by
 have hs:=Mj x y;have hp:=ic;have hx:=lC x;have hy:=lC y;rcases nH (AS (fe x) (fe y) 6).1 PL with ⟨_,h'⟩|⟨h',_⟩
 ·refine ls (aA _ _ _) om ?_
  rw[hs,hp]at h';have e:=congrArg zp h';rw[ga,mI,ga,gu,gu]at e;grind
 ·rw[h]at h';exact absurd h' dc
theorem HW{x y:Zp}(h:(SS (AS (fe x) (fe y) 6).1 PL 6).2=1):V (AS (fe x) (fe y) 6).1 6<PP:=by
 rcases nH (AS (fe x) (fe y) 6).1 PL with ⟨h',_⟩|⟨_,_,h'⟩
 ·rw[h]at h';exact absurd h' dc
 ·rw[ic]at h';exact h'
theorem tI{x:BitVec 64}(hc:x.toNat<=1)(h: ¬x=1):x=0:=by
 rcases dZ x hc with ⟨e,_⟩|⟨e,_⟩
 ·exact e
 ·exact absurd e h
theorem IE{x:BitVec 64}(hc:x.toNat<=1)(h: ¬x=0):x=1:=by
 rcases dZ x hc with ⟨e,_⟩|⟨e,_⟩
 ·exact absurd e h
 ·exact e
theorem vH{x y:Zp}(h:(SS (fe x) (fe y) 6).2=0):(SS (fe x) (fe y) 6).1=fe (x-y):=by
 have hx:=lC x;rcases nH (fe x) (fe y)with ⟨_,h'⟩|⟨h',_⟩
 ·refine ls (aA _ _ _) om ?_
  have e:=congrArg zp h';rw[ga,gu,gu]at e;grind
 ·rw[h]at h';exact absurd h' dc
theorem Ba{x y:Zp}(h:(SS (fe x) (fe y) 6).2=1):(AS (SS (fe x) (fe y) 6).1 PL 6).1=fe (x-y):=by
 have hx:=lC x;have hy:=lC y;have hp:=ic;have h4:=vd;rcases nH (fe x) (fe y)with ⟨h',_⟩|⟨_,h',hl⟩
 ·rw[h]at h';exact absurd h' dc
 ·have hk:V (AS (SS (fe x) (fe y) 6).1 PL 6).1 6+V (fe y) 6=V (fe x) 6+PP:=by
   have:=iU (AS (SS (fe x) (fe y) 6).1 PL 6).1;rcases GQ (SS (fe x) (fe y) 6).1 PL with ⟨_,h⟩|⟨_,h⟩<;>omega
  refine ls (aH _ _ _) om ?_;have e:=congrArg zp hk;rw[ga,ga,mI,gu,gu]at e;grind
theorem DX{x:Zp}(h:x≠0):(SS PL (fe x) 6).1=fe (-x):=by
 have hx:=lC x;have hp:=ic;have h0:V (fe x) 6≠0:=λe=>h (by
  have:=gu x;rw[e,Jl]at this;rcases mV this.symm with h|h
  ·exact h
  ·exact absurd h Fv)
 rcases nH PL (fe x)with ⟨_,h'⟩|⟨_,_,h'⟩
 ·refine ls (aA _ _ _) om ?_
  have e:=congrArg zp h';rw[hp,ga,mI,gu]at e;grind
 ·omega
/-! ### Products -/
theorem Se: ¬PL.getD 0 0 % 2=0:=by decide+kernel
theorem sI(a b:L6)(ha:a.length=6):V (il a b PL) 6<PP/\V (il a b PL) 6*R6 % PP=V a 6*V b 6 % PP:=by
 have:=v9 a b PL ha O Se;rw[ic]at this;exact this
theorem Jk(x y:Zp):il (fe x) (fe y) PL=fe (x*y):=Bw (aQ _ _ _) (sI _ _ (a6 x)) (gu x) (gu y)
def TWO:L6:=[0xf4df1f341c341746#64,0xa76e6a609d104f1#64,0x8de5476c4c95b6d5#64,0x67eb88a9939d83c0#64,0x9a793e85b519952d#64,0x11988fe592cae3aa#64]
def ONE:L6:=[0x760900000002fffd#64,0xebf4000bc40c0002#64,0x5f48985753c758ba#64,0x77ce585370525745#64,0x5c071a97a256ec6d#64,0x15f65ec3fa80e493#64]
def N1:L6:=1::List.replicate 5 0
theorem tF:TWO.length=6:=rfl
theorem uB:ONE.length=6:=rfl
theorem PU:N1.length=6:=rfl
theorem DR:V N1 6=1:=by decide+kernel
def R6v:Nat:=39402006196394479212279040100143613805079739270465446667948293404245721771497210611414266254884915640806627990306816
theorem xD:R6=R6v:=by decide+kernel
theorem QC:ONE=fe 1:=ls O (by decide+kernel) (by
 have e:V ONE 6 % PP=R6v % PP:=by decide+kernel
 rw[wp e,<-xD,show zp R6=RZ from O];grind)
theorem oP:V TWO 6<PP/\zp (V TWO 6)=RZ*RZ:=⟨by decide+kernel,by
 have e:V TWO 6 % PP=R6v*R6v % PP:=by decide+kernel
 rw[wp e,i5,<-xD];rfl⟩
theorem QN:TWO=fe RZ:=ls O oP.1 oP.2
theorem vz{l a b:L6}(hl:l.length=6)(h:V l 6<PP/\V l 6*R6 % PP=V a 6*V b 6 % PP)(ha:zp (V a 6)=RZ*RZ):l=fe (zp (V b 6)):=by
 refine ls hl h.1 (le ?_);have:=wp h.2;rw[i5,i5,ha]at this;rw[show zp (V l 6)*RZ=RZ*RZ*zp (V b 6)from this];grind
theorem Dk(n:L6):il TWO n PL=fe (zp (V n 6)):=vz (aQ _ _ _) (sI _ _ tF) oP.2
theorem yG(n:L6)(hn:V n 6<PP):RM n TWO=fe (zp (V n 6)):=by
 have h:=xB n TWO hn;rw[Nat.mul_comm (V n 6)]at h;exact vz (aY _ _) h oP.2
theorem Eh(x:Zp):il (fe x) N1 PL=nm x:=zR (aQ _ _ _) (sI _ _ (a6 x)) (gu x) DR
theorem wO(x:Zp):RM (fe x) N1=nm x:=zR (aY _ _) (xB _ _ (lC x)) (gu x) DR
theorem TA(x:Zp):zp (V (nm x) 6)=x:=by rw[sZ,sA]
theorem CJ(x:Zp):RM (nm x) TWO=fe x:=by rw[yG _ (by rw[sZ];exact x.isLt),TA]
def ML:L6:=[0xffffffff00000001#64,0x53bda402fffe5bfe#64,0x3339d80809a1d805#64,0x73eda753299d7d48#64,0#64,0#64]
def LIFT:L6:=[0xc62c1807439b73af#64,0x1b3e0d188cf06990#64,0x73d13c71c7b5f418#64,0x6e2a5bb9c8db33e9#64,0#64,0#64]
theorem MLl:ML.length=6:=rfl
theorem Lz:LIFT.length=6:=rfl
theorem xS:V ML 6=RR:=by decide+kernel
def ML4:L6:=[0xfffffffc00000004#64,0x4ef6900bfff96ffb#64,0xcce7602026876015#64,0xcfb69d4ca675f520#64,1#64,0#64]
theorem Ih:V ML4 6=4*RR:=by decide+kernel
theorem Ls:4*RR<R6:=by rw[<-Ih];exact iU _
theorem Si:0<RR:=Nat.succ_pos _
theorem U3:RR<R6:=by have:=Ls;omega
theorem P6:2^64<RR:=by decide+kernel
abbrev Zr:=Fin RR
def zr(n:Nat):Zr:=Fin.ofNat RR n
theorem h9(n:Nat):(zr n).val=n % RR:=Fin.val_ofNat RR n
theorem K2(x:Zr):zr x.val=x:=Fin.ext (by rw[h9];exact Nat.mod_eq_of_lt x.isLt)
theorem te(a b:Nat):zr (a*b)=zr a*zr b:=Fin.ext (by rw[Fin.val_mul,h9,h9,h9,<-Nat.mul_mod])
theorem tO(a b:Nat):zr (a+b)=zr a+zr b:=Fin.ext (by rw[Fin.val_add,h9,h9,h9,<-Nat.add_mod])
theorem Hr(a:Nat):zr (a % RR)=zr a:=Fin.ext (by rw[h9,h9,Nat.mod_mod])
theorem MG{a b:Nat}(h:a % RR=b % RR):zr a=zr b:=by rw[<-Hr,h,Hr]
theorem WO:zr RR=0:=Fin.ext (by rw[h9,Nat.mod_self];rfl)
theorem Oi:zr 0=0:=rfl
theorem qp0(a:Zr):a^0=1:=by grind
theorem qp1(a:Zr):a^1=a:=by grind
theorem qps(a:Zr)(n:Nat):a^(n+1)=a^n*a:=by grind
theorem V3(a:Zr)(m n:Nat):a^(m+n)=a^m*a^n:=by grind
theorem vT(a:Zr): ∀n:Nat,(a^n).val=a.val^n % RR
 |0=>by rw[qp0,Nat.pow_zero];rfl
 |n+1=>by rw[qps,Fin.val_mul,vT a n,Nat.pow_succ,Nat.mod_mul_mod]
theorem Il{a:Zr}(h:a≠0): ¬RR∣a.val:=λhd=>by
 have h0:0<a.val:=Nat.pos_of_ne_zero λe=>h (Fin.ext e);exact Pr.not_lt h0 a.isLt hd
theorem I3{a:Zr}(h:a≠0):a^(RR-1)=1:=Fin.ext (by rw[vT,pr_r.fermat1 (Il h)];rfl)
theorem Lq{a:Zr}(h:a≠0):a*a^(RR-2)=1:=by
 have hp:2<RR:=by have:=pr_r.1;have:RR≠2:=by decide+kernel
                  omega
 rw[<-I3 h,show RR-1=1+(RR-2) by omega,V3,qp1]
theorem Qj{a b:Zr}(h:a*b=0):a=0\/b=0:=by
 by_cases ha:a=0
 ·exact .inl ha
 ·have:=Lq ha
  right;grind
def qRZ:Zr:=zr R6
theorem NP: ¬RR∣R6:=λh=>by
 rw[eB]at h;have key: ∀k,¬RR∣2^k:=λk=>by
  induction k with
  |zero=>intro h;have:=Nat.le_of_dvd dc h;have:=pr_r.1;omega
  |succ k ih=>
   intro h;rw[Nat.pow_succ]at h;rcases pr_r.dvd_mul h with h|h
   ·exact ih h
   ·have:=Nat.le_of_dvd dc h
    have: ¬RR<=2:=by decide+kernel
    omega
 exact key _ h
theorem CV:qRZ≠0:=λh=>by
 have:=congrArg Fin.val h;rw[qRZ,h9]at this;exact NP (Nat.dvd_of_mod_eq_zero this)
theorem qj{x y:Zr}(h:x*qRZ=y*qRZ):x=y:=by
 have h0:=Lq CV;have:(x-y)*qRZ=0:=by grind
 rcases Qj this with h|h
 ·grind
 ·exact absurd h CV
/-! ### Six parts of a number below r -/
def nr(x:Zr):L6:=po x.val
theorem fP(x:Zr):(nr x).length=6:=m4 _
theorem vw(x:Zr):V (nr x) 6=x.val:=tG _ (Nat.lt_trans x.isLt U3)
theorem AI(x:Zr):V (nr x) 6<RR:=by rw[vw];exact x.isLt
theorem u7(x:Zr):zr (V (nr x) 6)=x:=by rw[vw,K2]
theorem pP{l:L6}{x:Zr}(hl:l.length=6)(hlt:V l 6<RR)(h:zr (V l 6)=x):l=nr x:=by
 refine rV 6 hl (fP x) ?_;rw[vw,<-h,h9,Nat.mod_eq_of_lt hlt]
theorem Q7{x y:Zr}:nr x=nr y↔x=y:=⟨λh=>Fin.ext (by rw[<-vw,<-vw,h]),λh=>by rw[h]⟩
theorem OL:nr 0=List.replicate 6 0#64:=(pP (x:=0) sm (by rw[iP];exact Si) (by rw[iP,Oi])).symm
/-! ### Sums and differences -/
theorem LX(x y:Zr):V (AS (nr x) (nr y) 6).1 6=V (nr x) 6+V (nr y) 6:=by
 have h4:=Ls;have hx:=AI x;have hy:=AI y;rcases GQ (nr x) (nr y)with ⟨_,h⟩|⟨_,h⟩
 ·exact h
 ·omega
theorem DZ{x y:Zr}(h:(SS (AS (nr x) (nr y) 6).1 ML 6).2=1):(AS (nr x) (nr y) 6).1=nr (x+y):=by
 have hl:V (AS (nr x) (nr y) 6).1 6<RR:=by
  rcases nH (AS (nr x) (nr y) 6).1 ML with ⟨h',_⟩|⟨_,_,h'⟩
  ·rw[h]at h';exact absurd h' dc
  ·rw[xS]at h';exact h'
 exact pP (aH _ _ _) hl (by rw[LX,tO,u7,u7])
theorem Cf{x y:Zr}(h:(SS (AS (nr x) (nr y) 6).1 ML 6).2=0):(SS (AS (nr x) (nr y) 6).1 ML 6).1=nr (x+y):=by
 have hs:=LX x y;have hp:=xS;have hx:=AI x;have hy:=AI y;rcases nH (AS (nr x) (nr y) 6).1 ML with ⟨_,h'⟩|⟨h',_⟩
 ·refine pP (aA _ _ _) om ?_
  rw[hs,hp]at h';have e:=congrArg zr h';rw[tO,WO,tO,u7,u7]at e;grind
 ·rw[h]at h';exact absurd h' dc
/-! ### Products -/
theorem Rv: ¬ML.getD 0 0 % 2=0:=by decide+kernel
theorem tJ(a b:L6)(ha:a.length=6):V (il a b ML) 6<RR/\zr (V (il a b ML) 6)*qRZ=zr (V a 6)*zr (V b 6):=by
 have h:=v9 a b ML ha O Rv;rw[xS]at h;refine ⟨h.1, ?_⟩;have e:=MG h.2;rw[te,te]at e;exact e
theorem wK:zr (V LIFT 6)=qRZ*qRZ:=by
 have e:V LIFT 6 % RR=R6v*R6v % RR:=by decide+kernel
 rw[MG e,te,<-xD];rfl
theorem CF(a b:L6)(ha:a.length=6):il (il a b ML) LIFT ML=nr (zr (V a 6)*zr (V b 6)):=by
 have h1:=tJ a b ha;have h2:=tJ (il a b ML) LIFT (aQ _ _ _);refine pP (aQ _ _ _) h2.1 (qj ?_);rw[h2.2,wK];have e:=h1.2;grind
theorem B4(x:Zr):il LIFT (nr x) ML=nr (x*qRZ):=by
 have h1:=tJ LIFT (nr x) Lz;refine pP (aQ _ _ _) h1.1 (qj ?_);have e:=h1.2;rw[wK,u7]at e;grind
/-! ### Bytes -/
def pW(x:Zr):L8:=(BYs (nr x) 48).drop 16
theorem jo(x:Zr):(pW x).length=32:=by rw[pW,List.length_drop,aK]
theorem JF(x:Zr):BN (pW x) 32=x.val:=by
 have h:=ql (BYs (nr x) 48) 16 32;rw[lX _ (fP x) 48 O,vw]at h;have h0:BN (BYs (nr x) 48) 16=0:=by
  rcases Nat.eq_zero_or_pos (BN (BYs (nr x) 48) 16)with e|e
  ·exact e
  ·have h1:=Nat.mul_le_mul_right (256^32) (Nat.succ_le_of_lt e)
   have h2:RR<1*256^32:=by decide+kernel
   have:=x.isLt;omega
 rw[h0,Nat.zero_mul,Nat.zero_add]at h;exact h.symm
theorem Dl(x:Zr):FRs (pW x) 32=nr x:=by
 have h:=nC (pW x) (by rw[jo];decide)
 rw[jo,JF]at h;exact pP (aR _ _) (by rw[h];exact x.isLt) (by rw[h,K2])
def QB(bs:L8):Zr:=zr (BN bs bs.length)
theorem D3{k:Nat}(h:R6=2^k)(hk:k=8*48):R6=256^48:=by rw[xr,h,hk]
theorem Ik:R6=256^48:=D3 eB O
theorem yZ(bs:L8)(k cut:Nat)(h:k=0\/cut=48):zr (BN bs k)*qRZ+zr (BN (bs.drop k) cut)=zr (BN bs (k+cut)):=by
 rcases h with rfl|rfl
 ·rw[BN,Oi,List.drop_zero,Nat.zero_add];grind
 ·rw[ql bs k 48,tO,te,<-Ik];rfl
/-! ### Squares of squares -/
/-! ### What the walks need -/
theorem uP(n:BitVec 64): ∀k,V (n::List.replicate 5 0) (k+1)=n.toNat
 |0=>by rw[pR,V,Nat.mul_zero,Nat.pow_zero,Nat.mul_one,Nat.zero_add];rfl
 |k+1=>by
  have h0:(n::List.replicate 5 (0:BitVec 64)).getD (k+1) 0=0:=by
   rw[List.getD_eq_getElem?_getD,List.getElem?_cons_succ,List.getElem?_replicate];split<;>rfl
  rw[pR,uP n k,h0,show (0:BitVec 64).toNat=0 from O,Nat.zero_mul,Nat.add_zero]
theorem qY(n:BitVec 64):V (n::List.replicate 5 0) 6=n.toNat:=uP n 5
theorem C5(n:BitVec 64):n::List.replicate 5 0=nr (zr n.toNat):=
 pP O (by rw[qY];exact Nat.lt_trans n.isLt P6) (by rw[qY])
theorem CL(n:L6):il (il (1#64::List.replicate 5 0) n ML) LIFT ML=nr (zr (V n 6)):=by
 rw[CF _ _ O,qY,show zr (1#64).toNat=1 from O];exact congrArg nr (by grind)
theorem CM(x:Zr): ∀j v,((pW x).map U8)[j]? =some v->((BYs (nr x) 48).map U8)[16+j]? =some v:=λj v h=>by
 rw[pW,List.getElem?_map,List.getElem?_drop]at h;rw[List.getElem?_map];exact h
theorem KP{n:Nat}(h0:0<n)(h:n % 48=0):(n-1) % 48+1=48:=om
theorem B9{n:Nat}(h0:0<n):(n-((n-1) % 48+1)) % 48=0/\(n-1) % 48+1<=n/\(n-1) % 48+1<=48:=om
theorem Gg(bs:L8)(n:Nat):BN (bs.take n) n=BN bs n:=qc n λi hi=>by
 simp only[List.getD_eq_getElem?_getD,List.getElem?_take,if_pos hi]
theorem lJ(bs:L8)(k cut:Nat)(h:cut<=bs.length-k):((bs.drop k).take cut).length=cut:=by
 rw[List.length_take,List.length_drop];omega
theorem mw{x y c d x' y' c' d':BitVec 64}(h:x.toNat*y.toNat+c.toNat+d.toNat=x'.toNat*y'.toNat+c'.toNat+d'.toNat):MA x y c d=MA x' y' c' d':=by
 obtain ⟨e1,e2⟩:=DT ((jV x y c d).trans (h.trans (jV x' y' c' d').symm));exact Prod.ext e1 e2
theorem Me(x y c d:BitVec 64):MA x y c d=MA x y d c:=mw om
theorem wB(y:BitVec 64):ADC y 0 0=(y,0):=by
 have h:=y.isLt;have e1:(ADC y 0 0).1=y:=by
  apply BitVec.eq_of_toNat_eq;simp only[ADC,BitVec.toNat_ofNat,show (0:BitVec 64).toNat=0 from O];omega
 have e2:(ADC y 0 0).2=0:=by
  apply BitVec.eq_of_toNat_eq;simp only[ADC,BitVec.toNat_ofNat,show (0:BitVec 64).toNat=0 from O];omega
 exact Prod.ext e1 e2
theorem rz1(a x t w:BitVec 64):(ADC t (ADC (MLo a x) w 0).1 0).1=(MA a x t w).1:=by
 rw[Me a x t w,vD t];rfl
theorem rz2(a x t w:BitVec 64):MH a x+(ADC (MLo a x) w 0).2+(ADC t (ADC (MLo a x) w 0).1 0).2=(MA a x t w).2:=by
 rw[Me a x t w,vD t];rfl
theorem rx1(a x t w:BitVec 64):(ADC t (ADC (MLo a x) w 0).1 0).1=(MA x a t w).1:=by
 rw[rz1,mw (x:=a) (y:=x) (x':=x) (y':=a) (c':=t) (d':=w) (by rw[Nat.mul_comm])]
theorem rx2(a x t w:BitVec 64):MH a x+(ADC (MLo a x) w 0).2+(ADC t (ADC (MLo a x) w 0).1 0).2=(MA x a t w).2:=by
 rw[rz2,mw (x:=a) (y:=x) (x':=x) (y':=a) (c':=t) (d':=w) (by rw[Nat.mul_comm])]
theorem rw1(a x t:BitVec 64):(ADC t (MLo a x) 0).1=(MA a x t 0).1:=by
 have h:=rz1 a x t 0;rw[wB]at h;exact h
theorem rw2(a x t:BitVec 64):MH a x+(ADC t (MLo a x) 0).2=(MA a x t 0).2:=by
 have h:=rz2 a x t 0;rw[wB]at h;rw[show MH a x+((MLo a x,(0:BitVec 64)):BitVec 64×BitVec 64).2=MH a x from BitVec.add_zero _]at h;exact h
theorem ry1(a x t:BitVec 64):(ADC t (MLo a x) 0).1=(MA x a t 0).1:=by
 rw[rw1,mw (x:=a) (y:=x) (x':=x) (y':=a) (c':=t) (d':=0) (by rw[Nat.mul_comm])]
theorem ry2(a x t:BitVec 64):MH a x+(ADC t (MLo a x) 0).2=(MA x a t 0).2:=by
 rw[rw2,mw (x:=a) (y:=x) (x':=x) (y':=a) (c':=t) (d':=0) (by rw[Nat.mul_comm])]
theorem py(x:BitVec 64)(a t:L6)(j:Nat)(h:j<6):(T1 x a t).getD j 0=KT x a t j:=by
 rw[T1,List.getD_eq_getElem?_getD,List.getElem?_map,List.getElem?_range h];rfl
theorem RA(x:BitVec 64)(a t:L6)(j:Nat)(h:j<5):(T2 x a t).getD j 0=KU (KT x a t 0*INV) PL (T1 x a t) j:=by
 rw[T2,List.getD_eq_getElem?_getD,List.getElem?_map,List.getElem?_range om];simp only[Option.map_some,Option.getD_some];rw[if_neg om,py x a t 0 om]
theorem Pl(x:BitVec 64)(a t:L6):(T2 x a t).getD 5 0=KC x a t 6+KD (KT x a t 0*INV) PL (T1 x a t) 5:=by
 rw[T2,List.getD_eq_getElem?_getD,List.getElem?_map,List.getElem?_range om];simp only[Option.map_some,Option.getD_some];rw[if_pos trivial,py x a t 0 om]
theorem k1z(x:BitVec 64)(a t:L6):(ADC (t.getD 0 0) (MLo (a.getD 0 0) x) 0).1=KT x a t 0:=ry1 _ _ _
theorem k2z(x:BitVec 64)(a t:L6):MH (a.getD 0 0) x+(ADC (t.getD 0 0) (MLo (a.getD 0 0) x) 0).2=KC x a t 1:=ry2 _ _ _
theorem k1s(x:BitVec 64)(a t:L6)(j:Nat):(ADC (t.getD j 0) (ADC (MLo (a.getD j 0) x) (KC x a t j) 0).1 0).1=KT x a t j:=rx1 _ _ _ _
theorem k2s(x:BitVec 64)(a t:L6)(j:Nat):MH (a.getD j 0) x+(ADC (MLo (a.getD j 0) x) (KC x a t j) 0).2+(ADC (t.getD j 0) (ADC (MLo (a.getD j 0) x) (KC x a t j) 0).1 0).2=KC x a t (j+1):=rx2 _ _ _ _
theorem d2z(x m:BitVec 64)(a t:L6):MH m (PL.getD 0 0)+(ADC (KT x a t 0) (MLo m (PL.getD 0 0)) 0).2=KD m PL (T1 x a t) 0:=by
 rw[KD,py x a t 0 om];exact rw2 _ _ _
theorem d1s(x m:BitVec 64)(a t:L6)(j:Nat)(h:j<5):(ADC (KT x a t (j+1)) (ADC (MLo m (PL.getD (j+1) 0)) (KD m PL (T1 x a t) j) 0).1 0).1=KU m PL (T1 x a t) j:=by
 rw[KU,py x a t (j+1) om];exact rz1 _ _ _ _
theorem d2s(x m:BitVec 64)(a t:L6)(j:Nat)(h:j<5):MH m (PL.getD (j+1) 0)+(ADC (MLo m (PL.getD (j+1) 0)) (KD m PL (T1 x a t) j) 0).2+(ADC (KT x a t (j+1)) (ADC (MLo m (PL.getD (j+1) 0)) (KD m PL (T1 x a t) j) 0).1 0).2=KD m PL (T1 x a t) (j+1):=by
 rw[KD,py x a t (j+1) om];exact rz2 _ _ _ _
theorem Ho(a b:L6)(i j:Nat)(h:j<5):(RT a b (i+1)).getD j 0=KU (KT (b.getD i 0) a (RT a b i) 0*INV) PL (T1 (b.getD i 0) a (RT a b i)) j:=RA _ _ _ _ h
theorem PI(a b:L6)(i:Nat):(RT a b (i+1)).getD 5 0=KC (b.getD i 0) a (RT a b i) 6+KD (KT (b.getD i 0) a (RT a b i) 0*INV) PL (T1 (b.getD i 0) a (RT a b i)) 5:=Pl _ _ _
theorem IX(l:L6)(h:l.length=6):[U64 (l.getD 0 0),U64 (l.getD 1 0),U64 (l.getD 2 0),U64 (l.getD 3 0),U64 (l.getD 4 0),U64 (l.getD 5 0)]=l.map U64:=by
 match l,h with
 |[_,_,_,_,_,_],_=>rfl
def NBv(bs:L8)(m:Nat):BitVec 8:=if m % 2=0 then bs.getD (m / 2) 0>>>4 else bs.getD (m / 2) 0 % 16#8
theorem Rh(bs:L8)(m:Nat):(NBv bs m).toNat<16:=by
 have h:=(bs.getD (m / 2) 0).isLt;unfold NBv;split
 ·rw[BitVec.toNat_ushiftRight,Nat.shiftRight_eq_div_pow];omega
 ·rw[BitVec.toNat_umod];exact Nat.mod_lt _ dc
def DN(bs:L8):Nat->Nat
 |0=>0
 |m+1=>16*DN bs m+(NBv bs m).toNat
theorem Ef(bs:L8): ∀k,DN bs (2*k)=BN bs k
 |0=>rfl
 |k+1=>by
  have h:=(bs.getD k 0).isLt;have e0:NBv bs (2*k)=bs.getD k 0>>>4:=by
   rw[NBv,if_pos om,show 2*k / 2=k by omega]
  have e1:NBv bs (2*k+1)=bs.getD k 0 % 16#8:=by
   rw[NBv,if_neg om,show (2*k+1) / 2=k by omega]
  rw[show 2*(k+1)=2*k+1+1 by omega,DN,DN,Ef bs k,BN,e0,e1,BitVec.toNat_ushiftRight,Nat.shiftRight_eq_div_pow,BitVec.toNat_umod,show (16#8).toNat=16 from O]
  omega
theorem I0(x:Zp)(j D:Nat):x^(2^j*D)*x^(2^j*D)=x^(2^(j+1)*D):=by
 rw[<-n7,Nat.pow_succ,show 2^j*2*D=2^j*D+2^j*D by rw[Nat.mul_right_comm];omega]
theorem CT(x:Zp)(bs:L8)(k:Nat):x^(2^4*DN bs k)*x^(NBv bs k).toNat=x^DN bs (k+1):=by
 rw[<-n7,DN]
/-! ### Sixteen powers -/
def SP(x:Zp)(i:Nat):L6:=FL (λj=>if j<i then fe (x^j)else List.replicate 6 0) 16
theorem bB(x:Zp)(i:Nat):(SP x i).length=96:=bf _ _
theorem Ru(x:Zp):FL (λi=>if i=0 then fe 1 else List.replicate 6 0) 16=SP x 1:=vS λi _=>by
 by_cases h:i=0
 ·rw[if_pos h,if_pos om,h,p0]
 ·rw[if_neg h,if_neg om]
theorem ua(x:Zp)(i k:Nat)(hk:k<i)(hi:i<=16)(o:Nat)(ho:o=6*k): ∀j v,((fe (x^k)).map U64)[j]? =some v->((SP x i).map U64)[o+j]? =some v:=by
 have h:=Iu (λj=>if j<i then fe (x^j)else List.replicate 6 0) 16 k om (by simp only[if_pos hk];exact a6 _) o ho
 simp only[if_pos hk]at h;exact h
theorem IY(x:Zp)(i:Nat)(h1:1<=i)(hi:i<16)(o:Nat)(ho:o=6*i):lay o ((fe (x^(i-1)*x)).map U64) ((SP x i).map U64)=(SP x (i+1)).map U64:=by
 rw[SP,E9 _ 16 i _ hi (a6 _) o ho];congr 1;refine vS λj _=> ?_;by_cases h:j=i
 ·rw[if_pos h,if_pos om,h,<-ps,show i-1+1=i by omega]
 ·rw[if_neg h]
  by_cases h':j<i
  ·rw[if_pos h',if_pos om]
  ·rw[if_neg h',if_neg om]
structure Rg(α:Type) where
 (zero one:α) (add mul:α->α->α) (neg:α->α)
 add_assoc: ∀a b c,add (add a b) c=add a (add b c)
 add_comm: ∀a b,add a b=add b a
 add_zero: ∀a,add a zero=a
 add_neg: ∀a,add a (neg a)=zero
 mul_assoc: ∀a b c,mul (mul a b) c=mul a (mul b c)
 mul_comm: ∀a b,mul a b=mul b a
 mul_one: ∀a,mul a one=a
 mul_add: ∀a b c,mul a (add b c)=add (mul a b) (mul a c)
section
variable {α:Type} (R:Rg α)
theorem Rg.zero_add(a:α):R.add R.zero a=a:=by rw[R.add_comm,R.add_zero]
theorem Rg.one_mul(a:α):R.mul R.one a=a:=by rw[R.mul_comm,R.mul_one]
theorem Rg.add_mul(a b c:α):R.mul (R.add a b) c=R.add (R.mul a c) (R.mul b c):=by rw[R.mul_comm,R.mul_add,R.mul_comm c,R.mul_comm c]
theorem Rg.add_left_comm(a b c:α):R.add a (R.add b c)=R.add b (R.add a c):=by rw[<-R.add_assoc,R.add_comm a b,R.add_assoc]
theorem Rg.mul_left_comm(a b c:α):R.mul a (R.mul b c)=R.mul b (R.mul a c):=by rw[<-R.mul_assoc,R.mul_comm a b,R.mul_assoc]
theorem Rg.cancel{a b c:α}(h:R.add a b=R.add a c):b=c:=by
 have e:R.add (R.neg a) (R.add a b)=R.add (R.neg a) (R.add a c):=by rw[h]
 rw[<-R.add_assoc,<-R.add_assoc,R.add_comm (R.neg a) a,R.add_neg,R.zero_add,R.zero_add]at e;exact e
theorem Rg.mul_zero(a:α):R.mul a R.zero=R.zero:=by
 apply R.cancel (a:=R.mul a R.zero);rw[<-R.mul_add,R.add_zero,R.add_zero]
theorem Rg.zero_mul(a:α):R.mul R.zero a=R.zero:=by rw[R.mul_comm,R.mul_zero]
theorem Rg.neg_of{a b:α}(h:R.add a b=R.zero):b=R.neg a:=by
 apply R.cancel (a:=a);rw[h,R.add_neg]
theorem Rg.neg_add(a b:α):R.neg (R.add a b)=R.add (R.neg a) (R.neg b):=by
 refine (R.neg_of ?_).symm;rw[R.add_assoc,R.add_left_comm b,R.add_neg,R.add_zero,R.add_neg]
theorem Rg.neg_mul(a b:α):R.mul (R.neg a) b=R.neg (R.mul a b):=by
 refine R.neg_of ?_;rw[<-R.add_mul,R.add_neg,R.zero_mul]
theorem Rg.neg_neg(a:α):R.neg (R.neg a)=a:=by
 refine (R.neg_of ?_).symm;rw[R.add_comm,R.add_neg]
theorem Rg.neg_zero:R.neg R.zero=R.zero:=by
 refine (R.neg_of ?_).symm;rw[R.add_zero]
/-! ### Whole numbers -/
def Rg.nat:Nat->α
 |0=>R.zero
 |n+1=>R.add (Rg.nat n) R.one
theorem Rg.nat_add(m:Nat): ∀n,R.nat (m+n)=R.add (R.nat m) (R.nat n)
 |0=>by rw[Nat.add_zero,Rg.nat,R.add_zero]
 |n+1=>by rw[<-Nat.add_assoc,Rg.nat,Rg.nat_add m n,R.add_assoc];rfl
theorem Rg.nat_mul(m:Nat): ∀n,R.nat (m*n)=R.mul (R.nat m) (R.nat n)
 |0=>by rw[Nat.mul_zero,Rg.nat,R.mul_zero]
 |n+1=>by rw[Nat.mul_succ,R.nat_add,Rg.nat_mul m n,Rg.nat,R.mul_add,R.mul_one]
def Rg.int(c:Int):α:=R.add (R.nat c.toNat) (R.neg (R.nat (-c).toNat))
theorem Rg.int_sub(m n:Nat):R.int ((m:Int)-n)=R.add (R.nat m) (R.neg (R.nat n)):=by
 rcases Nat.le_total n m with h|h
 ·obtain ⟨k,rfl⟩:=Nat.exists_eq_add_of_le h
  rw[Rg.int,show ((n+k:Nat):Int)-n=k by omega,show (-(k:Int)).toNat=0 by omega,Int.toNat_natCast,Rg.nat,R.neg_zero,R.add_zero,R.nat_add,R.add_comm (R.nat n),R.add_assoc,R.add_neg,R.add_zero]
 ·obtain ⟨k,rfl⟩:=Nat.exists_eq_add_of_le h
  rw[Rg.int,show (m:Int)-((m+k:Nat):Int)= -(k:Int) by omega,show (-(k:Int)).toNat=0 by omega,show (-(-(k:Int))).toNat=k by omega,Rg.nat,R.zero_add,R.nat_add,R.neg_add,<-R.add_assoc,R.add_neg,R.zero_add]
theorem k5(c:Int): ∃m n:Nat,c=(m:Int)-n:=⟨c.toNat,(-c).toNat,om⟩
theorem Rg.add_four(a b c d:α):R.add (R.add a b) (R.add c d)=R.add (R.add a c) (R.add b d):=by
 rw[R.add_assoc,R.add_assoc,R.add_left_comm b]
theorem Rg.int_add(a b:Int):R.int (a+b)=R.add (R.int a) (R.int b):=by
 obtain ⟨m,n,rfl⟩:=k5 a;obtain ⟨k,l,rfl⟩:=k5 b;rw[show (m:Int)-n+((k:Int)-l)=((m+k:Nat):Int)-((n+l:Nat):Int) by omega,R.int_sub,R.int_sub,R.int_sub,R.nat_add,R.nat_add,R.neg_add,R.add_four]
theorem Rg.int_mul(a b:Int):R.int (a*b)=R.mul (R.int a) (R.int b):=by
 obtain ⟨m,n,rfl⟩:=k5 a;obtain ⟨k,l,rfl⟩:=k5 b;have e:((m:Int)-n)*((k:Int)-l)=((m*k+n*l:Nat):Int)-((m*l+n*k:Nat):Int):=by
  rw[Int.sub_mul,Int.mul_sub,Int.mul_sub];simp only[Int.natCast_add,Int.natCast_mul];omega
 rw[e,R.int_sub,R.int_sub,R.int_sub,R.nat_add,R.nat_add,R.nat_mul,R.nat_mul,R.nat_mul,R.nat_mul,R.mul_add,R.add_mul,R.add_mul,R.neg_mul,R.mul_comm (R.nat m) (R.neg _),R.neg_mul,R.neg_mul,R.mul_comm (R.nat n) (R.neg _),R.neg_mul,R.neg_neg,R.mul_comm (R.nat l) (R.nat m),R.mul_comm (R.nat l) (R.nat n),R.neg_add];rw[R.add_four,R.add_comm (R.mul (R.nat n) (R.nat l)) (R.neg _),R.add_four]
theorem Rg.int_neg(a:Int):R.int (-a)=R.neg (R.int a):=by
 refine R.neg_of ?_;rw[<-R.int_add,Int.add_right_neg];show R.add R.zero (R.neg R.zero)=R.zero;rw[R.neg_zero,R.add_zero]
theorem Rg.int_one:R.int 1=R.one:=by
 show R.add (R.add R.zero R.one) (R.neg R.zero)=R.one;rw[R.neg_zero,R.add_zero,R.zero_add]
theorem Rg.int_zero:R.int 0=R.zero:=by
 show R.add R.zero (R.neg R.zero)=R.zero;rw[R.neg_zero,R.add_zero]
/-! ### Products of letters, and sums of them -/
abbrev Mo:=List Nat
abbrev Po:=List (Mo×Int)
def Hn(i:Nat):Mo->Mo
 |[]=>[i]
 |j::r=>bif Nat.ble i j then i::j::r else j::Hn i r
def FN(a b:Mo):Mo:=a.foldr Hn b
def DW:Mo->Mo->Nat
 |[],[]=>1
 |[],_::_=>0
 |_::_,[]=>2
 |i::r,j::s=>bif Nat.blt i j then 0 else bif Nat.beq i j then DW r s else 2
def tp(m:Mo)(c:Int):Po->Po
 |[]=>bif c==0 then []else [(m,c)]
 |t::r=>
  match DW m t.1 with
  |0=>bif c==0 then t::r else (m,c)::t::r
  |1=>bif c+t.2==0 then r else (m,c+t.2)::r
  |_=>t::tp m c r
def ik(p q:Po):Po:=p.foldr (λt x=>tp t.1 t.2 x) q
def pmt(m:Mo)(c:Int)(p:Po):Po:=p.foldr (λt x=>tp (FN m t.1) (c*t.2) x) []
def kk(p q:Po):Po:=p.foldr (λt x=>ik (pmt t.1 t.2 q) x) []
def lx(p:Po):Po:=p.map λt=>(t.1,-t.2)
def pv(i:Nat):Po:=[([i],1)]
def pc(c:Int):Po:=tp [] c []
variable (ρ:Nat->α)
def Rg.dm(m:Mo):α:=m.foldr (λi x=>R.mul (ρ i) x) R.one
def Rg.dt(m:Mo)(c:Int):α:=R.mul (R.int c) (R.dm ρ m)
def Rg.d(p:Po):α:=p.foldr (λt x=>R.add (R.dt ρ t.1 t.2) x) R.zero
theorem Rg.dm_cons(i:Nat)(m:Mo):R.dm ρ (i::m)=R.mul (ρ i) (R.dm ρ m):=rfl
theorem Rg.d_cons(t:Mo×Int)(p:Po):R.d ρ (t::p)=R.add (R.dt ρ t.1 t.2) (R.d ρ p):=rfl
theorem Rg.dm_ins(i:Nat): ∀m,R.dm ρ (Hn i m)=R.mul (ρ i) (R.dm ρ m)
 |[]=>rfl
 |j::r=>by
  unfold Hn
  cases Nat.ble i j with
  |true=>rfl
  |false=>rw[cond_false,R.dm_cons,Rg.dm_ins i r,R.dm_cons,R.mul_left_comm]
theorem Rg.dm_mul(b:Mo): ∀a,R.dm ρ (FN a b)=R.mul (R.dm ρ a) (R.dm ρ b)
 |[]=>(R.one_mul _).symm
 |i::r=>by
  have ih:=Rg.dm_mul b r;show R.dm ρ (Hn i (FN r b))=_;rw[R.dm_ins,ih,R.dm_cons,R.mul_assoc]
theorem qG: ∀a b:Mo,DW a b=1->a=b
 |[],[],_=>rfl
 |[],_::_,h=>by cases h
 |_::_,[],h=>by cases h
 |i::r,j::s,h=>by
  unfold DW at h
  cases h1:Nat.blt i j with
  |true=>rw[h1]at h;cases h
  |false=>
   rw[h1]at h
   cases h2:Nat.beq i j with
   |true=>rw[h2]at h;rw[Nat.eq_of_beq_eq_true h2,qG r s h]
   |false=>rw[h2]at h;cases h
theorem Rg.dt_zero(m:Mo):R.dt ρ m 0=R.zero:=by rw[Rg.dt,R.int_zero,R.zero_mul]
theorem Rg.d_ins(m:Mo)(c:Int): ∀p,R.d ρ (tp m c p)=R.add (R.dt ρ m c) (R.d ρ p)
 |[]=>by
  unfold tp;by_cases h:c=0
  ·subst h;rw[show ((0:Int)==0)=true from O,cond_true,R.dt_zero,R.zero_add]
  ·rw[beq_eq_false_iff_ne.2 h,cond_false];rfl
 |t::r=>by
  have ih:=Rg.d_ins m c r;unfold tp;split
  ·by_cases h:c=0
   ·subst h;rw[show ((0:Int)==0)=true from O,cond_true,R.dt_zero,R.zero_add]
   ·rw[beq_eq_false_iff_ne.2 h,cond_false];rfl
  ·rename_i h1
   have e:=qG m t.1 h1;have e2:R.add (R.dt ρ m c) (R.dt ρ t.1 t.2)=R.dt ρ m (c+t.2):=by rw[<-e,Rg.dt,Rg.dt,Rg.dt,R.int_add,R.add_mul]
   rw[R.d_cons,<-R.add_assoc,e2];by_cases h:c+t.2=0
   ·rw[h,show ((0:Int)==0)=true from O,cond_true,R.dt_zero,R.zero_add]
   ·rw[beq_eq_false_iff_ne.2 h,cond_false];rfl
  ·rw[R.d_cons,ih,R.d_cons,R.add_left_comm]
theorem Rg.d_add(q:Po): ∀p,R.d ρ (ik p q)=R.add (R.d ρ p) (R.d ρ q)
 |[]=>(R.zero_add _).symm
 |t::r=>by
  have ih:=Rg.d_add q r;show R.d ρ (tp t.1 t.2 (ik r q))=_;rw[R.d_ins,ih,R.d_cons,R.add_assoc]
theorem Rg.dt_mul(m n:Mo)(c e:Int):R.dt ρ (FN m n) (c*e)=R.mul (R.dt ρ m c) (R.dt ρ n e):=by
 rw[Rg.dt,Rg.dt,Rg.dt,R.int_mul,R.dm_mul,R.mul_assoc,R.mul_assoc,R.mul_left_comm (R.int e)]
theorem Rg.d_mt(m:Mo)(c:Int): ∀p,R.d ρ (pmt m c p)=R.mul (R.dt ρ m c) (R.d ρ p)
 |[]=>(R.mul_zero _).symm
 |t::r=>by
  have ih:=Rg.d_mt m c r;show R.d ρ (tp (FN m t.1) (c*t.2) (pmt m c r))=_;rw[R.d_ins,ih,R.dt_mul,R.d_cons,R.mul_add]
theorem Rg.d_mul(q:Po): ∀p,R.d ρ (kk p q)=R.mul (R.d ρ p) (R.d ρ q)
 |[]=>(R.zero_mul _).symm
 |t::r=>by
  have ih:=Rg.d_mul q r;show R.d ρ (ik (pmt t.1 t.2 q) (kk r q))=_;rw[R.d_add,R.d_mt,ih,R.d_cons,R.add_mul]
theorem Rg.dt_neg(m:Mo)(c:Int):R.dt ρ m (-c)=R.neg (R.dt ρ m c):=by rw[Rg.dt,Rg.dt,R.int_neg,R.neg_mul]
theorem Rg.d_neg: ∀p,R.d ρ (lx p)=R.neg (R.d ρ p)
 |[]=>R.neg_zero.symm
 |t::r=>by
  have ih:=Rg.d_neg r;show R.add (R.dt ρ t.1 (-t.2)) (R.d ρ (lx r))=_;rw[ih,R.dt_neg,R.d_cons,R.neg_add]
theorem Rg.d_var(i:Nat):R.d ρ (pv i)=ρ i:=by
 show R.add (R.mul (R.int 1) (R.mul (ρ i) R.one)) R.zero=ρ i;rw[R.add_zero,R.mul_one,R.int_one,R.one_mul]
theorem Rg.d_const(c:Int):R.d ρ (pc c)=R.int c:=by
 rw[pc,R.d_ins];show R.add (R.mul (R.int c) R.one) R.zero=_;rw[R.add_zero,R.mul_one]
theorem Rg.same{a b:α}{p q:Po}(ha:R.d ρ p=a)(hb:R.d ρ q=b)(h:p=q):a=b:=by rw[<-ha,h,hb]
end
section
variable {α:Type} (R:Rg α)
def Rg.pw(a:α):Nat->α
 |0=>R.one
 |n+1=>R.mul (Rg.pw a n) a
theorem Rg.pw_add(a:α)(m:Nat): ∀n,R.pw a (m+n)=R.mul (R.pw a m) (R.pw a n)
 |0=>(R.mul_one _).symm
 |n+1=>by rw[<-Nat.add_assoc,Rg.pw,Rg.pw_add a m n,R.mul_assoc];rfl
theorem Rg.pw_one(a:α):R.pw a 1=a:=R.one_mul a
theorem Rg.pw_mul(a:α)(m:Nat): ∀n,R.pw a (m*n)=R.pw (R.pw a m) n
 |0=>rfl
 |n+1=>by rw[Nat.mul_succ,R.pw_add,Rg.pw_mul a m n];rfl
theorem Rg.mul_four(a b c d:α):R.mul (R.mul a b) (R.mul c d)=R.mul (R.mul a c) (R.mul b d):=by
 rw[R.mul_assoc,R.mul_assoc,R.mul_left_comm b]
theorem Rg.mul_pw(a b:α): ∀n,R.pw (R.mul a b) n=R.mul (R.pw a n) (R.pw b n)
 |0=>(R.mul_one _).symm
 |n+1=>by rw[Rg.pw,Rg.mul_pw a b n,R.mul_four];rfl
theorem Rg.one_pw: ∀n,R.pw R.one n=R.one
 |0=>rfl
 |n+1=>by rw[Rg.pw,Rg.one_pw n,R.mul_one]
/-! ### Sums to a power -/
def Rg.bs(a b:α)(n:Nat):Nat->α
 |0=>R.zero
 |m+1=>R.add (Rg.bs a b n m) (R.mul (R.nat (Cb n m)) (R.mul (R.pw a m) (R.pw b (n-m))))
theorem Rg.nat_one:R.nat 1=R.one:=R.zero_add _
theorem Rg.bs_step(a b:α)(n:Nat): ∀m,m<=n->R.bs a b (n+1) (m+1)=R.add (R.mul a (R.bs a b n m)) (R.mul b (R.bs a b n (m+1)))
 |0,_=>by
  show R.add R.zero (R.mul (R.nat (Cb (n+1) 0)) (R.mul R.one (R.mul (R.pw b n) b)))=R.add (R.mul a R.zero) (R.mul b (R.add R.zero (R.mul (R.nat (Cb n 0)) (R.mul R.one (R.pw b n)))));rw[jT,jT,R.nat_one,R.mul_zero,R.zero_add,R.zero_add,R.zero_add,R.one_mul,R.one_mul,R.one_mul,R.one_mul,R.mul_comm]
 |m+1,h=>by
  have ih:=Rg.bs_step a b n m om;rw[Rg.bs,ih];have e1:R.bs a b n (m+1)=R.add (R.bs a b n m) (R.mul (R.nat (Cb n m)) (R.mul (R.pw a m) (R.pw b (n-m)))):=rfl;have e2:R.bs a b n (m+1+1)=R.add (R.bs a b n (m+1)) (R.mul (R.nat (Cb n (m+1))) (R.mul (R.pw a (m+1)) (R.pw b (n-(m+1))))):=rfl;have e3:R.mul a (R.bs a b n (m+1))=R.add (R.mul a (R.bs a b n m)) (R.mul (R.nat (Cb n m)) (R.mul (R.pw a (m+1)) (R.pw b (n-m)))):=by
   rw[e1,R.mul_add,Rg.pw];congr 1;rw[R.mul_left_comm,R.mul_comm (R.pw a m) a,R.mul_assoc]
  have e4:R.mul b (R.bs a b n (m+1+1))=R.add (R.mul b (R.bs a b n (m+1))) (R.mul (R.nat (Cb n (m+1))) (R.mul (R.pw a (m+1)) (R.pw b (n-m)))):=by
   rw[e2,R.mul_add];congr 1;have hb:R.pw b (n-m)=R.mul (R.pw b (n-(m+1))) b:=by rw[show n-m=(n-(m+1))+1 by omega];rfl
   rw[hb,R.mul_left_comm];congr 1;rw[R.mul_left_comm,R.mul_comm b]
  rw[e3,e4,show Cb (n+1) (m+1)=Cb n m+Cb n (m+1)from O,R.nat_add,R.add_mul,show n+1-(m+1)=n-m by omega,R.add_four]
theorem Rg.binomial(a b:α): ∀n,R.pw (R.add a b) n=R.bs a b n (n+1)
 |0=>by
  show R.one=R.add R.zero (R.mul (R.nat 1) (R.mul R.one R.one));rw[R.nat_one,R.mul_one,R.mul_one,R.zero_add]
 |n+1=>by
  have ih:=Rg.binomial a b n;have e0:R.bs a b (n+1) (n+1+1)=R.add (R.bs a b (n+1) (n+1)) (R.mul (R.nat (Cb (n+1) (n+1))) (R.mul (R.pw a (n+1)) (R.pw b (n+1-(n+1))))):=rfl;have e1:R.bs a b n (n+1)=R.add (R.bs a b n n) (R.mul (R.nat (Cb n n)) (R.mul (R.pw a n) (R.pw b (n-n)))):=rfl;have e3:R.mul a (R.bs a b n (n+1))=R.add (R.mul a (R.bs a b n n)) (R.pw a (n+1)):=by
   rw[e1,R.mul_add,mo,R.nat_one,R.one_mul,Nat.sub_self,show R.pw b 0=R.one from O,R.mul_one,R.mul_comm a (R.pw a n)];rfl
  rw[e0,R.bs_step a b n n (Nat.le_refl _),mo,R.nat_one,R.one_mul,Nat.sub_self,show R.pw b 0=R.one from O,R.mul_one,Rg.pw,ih,R.mul_comm,R.add_mul,e3,R.add_assoc,R.add_comm (R.pw a (n+1)),<-R.add_assoc]
theorem Rg.frob_part{p:Nat}(hp:Pr p)(h0:R.nat p=R.zero)(a b:α): ∀m,m<p->R.bs a b p (m+1)=R.pw b p
 |0,_=>by
  show R.add R.zero (R.mul (R.nat (Cb p 0)) (R.mul R.one (R.pw b (p-0))))=_;rw[jT,R.nat_one,R.one_mul,R.one_mul,R.zero_add,Nat.sub_zero]
 |m+1,h=>by
  obtain ⟨c,hc⟩:=hp.dvd_Cb (k:=m+1) om h;rw[Rg.bs,Rg.frob_part hp h0 a b m om,hc,R.nat_mul,h0,R.zero_mul,R.zero_mul,R.add_zero]
theorem Rg.frob{p:Nat}(hp:Pr p)(h0:R.nat p=R.zero)(a b:α):R.pw (R.add a b) p=R.add (R.pw a p) (R.pw b p):=by
 obtain ⟨q,rfl⟩: ∃q,p=q+1:=⟨p-1,by have:=hp.1;omega⟩
 rw[R.binomial,Rg.bs,R.frob_part hp h0 a b q om,mo,R.nat_one,R.one_mul,Nat.sub_self,show R.pw b 0=R.one from O,R.mul_one,R.add_comm]
end
section
variable {α:Type} {R:Rg α} {ρ:Nat->α} {p q:Po} {a b:α}
def ev(R:Rg α)(l:List α)(i:Nat):α:=l.getD i R.zero
theorem ta(ha:R.d ρ p=a)(hb:R.d ρ q=b):R.d ρ (ik p q)=R.add a b:=by rw[R.d_add,ha,hb]
theorem tm(ha:R.d ρ p=a)(hb:R.d ρ q=b):R.d ρ (kk p q)=R.mul a b:=by rw[R.d_mul,ha,hb]
theorem tn(ha:R.d ρ p=a):R.d ρ (lx p)=R.neg a:=by rw[R.d_neg,ha]
theorem tv(i:Nat):R.d ρ (pv i)=ρ i:=R.d_var ρ i
theorem to1:R.d ρ (pc 1)=R.one:=(R.d_const ρ 1).trans R.int_one
theorem tz0:R.d ρ []=R.zero:=rfl
theorem j0:R.d ρ (pv 0)=ρ 0:=tv 0
theorem j1:R.d ρ (pv 1)=ρ 1:=tv 1
theorem j2:R.d ρ (pv 2)=ρ 2:=tv 2
theorem j3:R.d ρ (pv 3)=ρ 3:=tv 3
theorem j4:R.d ρ (pv 4)=ρ 4:=tv 4
theorem j5:R.d ρ (pv 5)=ρ 5:=tv 5
theorem j6:R.d ρ (pv 6)=ρ 6:=tv 6
theorem j7:R.d ρ (pv 7)=ρ 7:=tv 7
theorem j8:R.d ρ (pv 8)=ρ 8:=tv 8
theorem j9:R.d ρ (pv 9)=ρ 9:=tv 9
theorem j10:R.d ρ (pv 10)=ρ 10:=tv 10
theorem j11:R.d ρ (pv 11)=ρ 11:=tv 11
theorem j12:R.d ρ (pv 12)=ρ 12:=tv 12
theorem j13:R.d ρ (pv 13)=ρ 13:=tv 13
theorem j14:R.d ρ (pv 14)=ρ 14:=tv 14
theorem j15:R.d ρ (pv 15)=ρ 15:=tv 15
theorem j16:R.d ρ (pv 16)=ρ 16:=tv 16
theorem j17:R.d ρ (pv 17)=ρ 17:=tv 17
theorem j18:R.d ρ (pv 18)=ρ 18:=tv 18
theorem j19:R.d ρ (pv 19)=ρ 19:=tv 19
theorem zq(R:Rg α)(l:List α){a b:α}{p q:Po}(ha:R.d (ev R l) p=a)(hb:R.d (ev R l) q=b)(h:p=q:=by kernel_rfl):a=b:=Rg.same (R:=R) (ρ:=ev R l) ha hb h
end
section
variable {α β:Type}
def z1(g:β->β):List β->List β
 |x::s=>g x::s
 |s=>s
def z2(d:β->β->β):List β->List β
 |x::y::s=>d x y::s
 |s=>s
def zt(z o:β)(g:β->β)(d m:β->β->β)(v:Nat->β)(k:Nat)(s:List β):List β:=bif Nat.beq k 1 then z::s else bif Nat.beq k 2 then o::s else bif Nat.beq k 3 then z1 g s else bif Nat.beq k 4 then z2 d s else bif Nat.beq k 5 then z2 m s else bif Nat.beq k 6 then v 0::s else bif Nat.beq k 7 then v 1::s else bif Nat.beq k 8 then v 2::s else bif Nat.beq k 9 then v 3::s else bif Nat.beq k 10 then v 4::s else bif Nat.beq k 11 then v 5::s else bif Nat.beq k 12 then v 6::s else bif Nat.beq k 13 then v 7::s else bif Nat.beq k 14 then v 8::s else v 9::s
def zf{γ:Type}(k:List β->γ):List β->γ
 |[]=>k []
 |x::s=>k (x::s)
def zs(z o:β)(g:β->β)(d m:β->β->β)(v:Nat->β):Nat->Nat->List β->List β
 |0,_,s=>s
 |_+1,0,s=>s
 |f+1,n+1,s=>zf (zs z o g d m v f ((n+1) / 16)) (zt z o g d m v ((n+1) % 16) s)
variable (R:Rg α) (ρ:Nat->α)
theorem mapb(f:α->β)(b:Bool)(x y:List α):(bif b then x else y).map f=bif b then x.map f else y.map f:=by cases b<;>rfl
theorem z1_d(s:List Po):(z1 lx s).map (R.d ρ)=z1 R.neg (s.map (R.d ρ)):=by
 rcases s with _|⟨x,s⟩<;>simp only[z1,List.map_cons,List.map_nil,R.d_neg]
theorem TO(f:Po->Po->Po)(g:α->α->α)(h: ∀x y,R.d ρ (f x y)=g (R.d ρ x) (R.d ρ y))(s:List Po):(z2 f s).map (R.d ρ)=z2 g (s.map (R.d ρ)):=by
 rcases s with _|⟨x,_|⟨y,s⟩⟩<;>simp only[z2,List.map_cons,List.map_nil,h]
theorem zt_d(k:Nat)(s:List Po):(zt [] (pc 1) lx ik kk pv k s).map (R.d ρ)=zt R.zero R.one R.neg R.add R.mul ρ k (s.map (R.d ρ)):=by
 simp only[zt,mapb,z1_d,TO R ρ ik R.add (λ_ _=>R.d_add ρ _ _),TO R ρ kk R.mul (λ_ _=>R.d_mul ρ _ _),List.map_cons,R.d_var,to1,tz0]
theorem K8{γ:Type}(k:List β->γ)(s:List β):zf k s=k s:=by cases s<;>rfl
theorem SM: ∀(f n:Nat) (s:List Po),(zs [] (pc 1) lx ik kk pv f n s).map (R.d ρ)=zs R.zero R.one R.neg R.add R.mul ρ f n (s.map (R.d ρ))
 |0,_,_=>rfl
 |_+1,0,_=>rfl
 |f+1,n+1,s=>by
  unfold zs;rw[K8,K8,SM f,zt_d]
def zrg(R:Rg α)(l:List α)(n:Nat):α:=(zs R.zero R.one R.neg R.add R.mul (ev R l) n.log2.succ n []).headD R.zero
def zp'(n:Nat):Po:=(zs [] (pc 1) lx ik kk pv n.log2.succ n []).headD []
theorem pY(l:List α)(n:Nat):R.d (ev R l) (zp' n)=zrg R l n:=by
 have h:=SM R (ev R l) n.log2.succ n [];rw[List.map_nil]at h;unfold zrg zp';rw[<-h]
 cases zs [] (pc 1) lx ik kk pv n.log2.succ n []<;>rfl
def peq:Po->Po->Bool
 |[],[]=>true
 |x::p,y::q=>Nat.beq (DW x.1 y.1) 1 && (x.2==y.2 && peq p q)
 |_,_=>false
theorem uh: ∀{p q:Po},peq p q=true->p=q
 |[],[],_=>rfl
 |[],_::_,h=>by cases h
 |_::_,[],h=>by cases h
 |x::p,y::q,h=>by
  simp only[peq,Bool.and_eq_true]at h;rw[uh h.2.2,show x=y from Prod.ext (qG _ _ (Nat.eq_of_beq_eq_true h.1)) (eq_of_beq h.2.1)]
theorem zx(R:Rg α)(l:List α){a b:α}(m n:Nat)(ha:zrg R l m=a:=by kernel_rfl)(hb:zrg R l n=b:=by kernel_rfl)(h:peq (zp' m) (zp' n)=true:=by kernel_rfl):a=b:=by
 rw[<-ha,<-hb,<-pY,<-pY,uh h]
end
section
variable {α:Type} (R:Rg α) (z:α)
/-! ### By a root -/
def qmul(x y:α×α):α×α:=(R.add (R.mul x.1 y.1) (R.mul z (R.mul x.2 y.2)),R.add (R.mul x.1 y.2) (R.mul x.2 y.1))
def qadd(x y:α×α):α×α:=(R.add x.1 y.1,R.add x.2 y.2)
def qneg(x:α×α):α×α:=(R.neg x.1,R.neg x.2)
def Rg.quad:Rg (α×α) where
 zero:=(R.zero,R.zero)
 one:=(R.one,R.zero)
 add:=qadd R
 mul:=qmul R z
 neg:=qneg R
 add_assoc:=λx y w=>Prod.ext (zx R [x.1,x.2,y.1,y.2,w.1,w.2,z] 0x4468a 0x4648a) (zx R [x.1,x.2,y.1,y.2,w.1,w.2,z] 0x4479b 0x4749b)
 add_comm:=λx y=>Prod.ext (zx R [x.1,x.2,y.1,y.2,z] 0x468 0x486) (zx R [x.1,x.2,y.1,y.2,z] 0x479 0x497)
 add_zero:=λx=>Prod.ext (zx R [x.1,x.2,z] 0x461 0x6) (zx R [x.1,x.2,z] 0x471 0x7)
 add_neg:=λx=>Prod.ext (zx R [x.1,x.2,z] 0x4636 0x1) (zx R [x.1,x.2,z] 0x4737 0x1)
 mul_assoc:=λx y w=>Prod.ext (zx R [x.1,x.2,y.1,y.2,w.1,w.2,z] 0x4545685c579a5c54569578b 0x456458a5c59b5c57458b59a) (zx R [x.1,x.2,y.1,y.2,w.1,w.2,z] 0x4545685c579b54569578a 0x456458b59a57458a5c59b)
 mul_comm:=λx y=>Prod.ext (zx R [x.1,x.2,y.1,y.2,z] 0x45685a579 0x45865a597) (zx R [x.1,x.2,y.1,y.2,z] 0x4569578 0x4587596)
 mul_one:=λx=>Prod.ext (zx R [x.1,x.2,z] 0x456258571 0x6) (zx R [x.1,x.2,z] 0x4561572 0x7)
 mul_add:=λx y w=>Prod.ext (zx R [x.1,x.2,y.1,y.2,w.1,w.2,z] 0x45648a5c5749b 0x445685c579456a5c57b) (zx R [x.1,x.2,y.1,y.2,w.1,w.2,z] 0x45649b5748a 0x44569578456b57a)
/-! ### By a third root -/
def cmul(x y:α×α×α):α×α×α:=
 (R.add (R.mul x.1 y.1) (R.mul z (R.add (R.mul x.2.1 y.2.2) (R.mul x.2.2 y.2.1))),R.add (R.add (R.mul x.1 y.2.1) (R.mul x.2.1 y.1)) (R.mul z (R.mul x.2.2 y.2.2)),R.add (R.add (R.mul x.1 y.2.2) (R.mul x.2.1 y.2.1)) (R.mul x.2.2 y.1))
def cadd(x y:α×α×α):α×α×α:=(R.add x.1 y.1,R.add x.2.1 y.2.1,R.add x.2.2 y.2.2)
def cneg(x:α×α×α):α×α×α:=(R.neg x.1,R.neg x.2.1,R.neg x.2.2)
def Rg.cub:Rg (α×α×α) where
 zero:=(R.zero,R.zero,R.zero)
 one:=(R.one,R.zero,R.zero)
 add:=cadd R
 mul:=cmul R z
 neg:=cneg R
 add_assoc:=λx y w=>Prod.ext (zx R [x.1,x.2.1,x.2.2,y.1,y.2.1,y.2.2,w.1,w.2.1,w.2.2,z] 0x4469c 0x4649c) (Prod.ext (zx R [x.1,x.2.1,x.2.2,y.1,y.2.1,y.2.2,w.1,w.2.1,w.2.2,z] 0x447ad 0x474ad) (zx R [x.1,x.2.1,x.2.2,y.1,y.2.1,y.2.2,w.1,w.2.1,w.2.2,z] 0x448be 0x484be))
 add_comm:=λx y=>Prod.ext (zx R [x.1,x.2.1,x.2.2,y.1,y.2.1,y.2.2,z] 0x469 0x496) (Prod.ext (zx R [x.1,x.2.1,x.2.2,y.1,y.2.1,y.2.2,z] 0x47a 0x4a7) (zx R [x.1,x.2.1,x.2.2,y.1,y.2.1,y.2.2,z] 0x48b 0x4b8))
 add_zero:=λx=>Prod.ext (zx R [x.1,x.2.1,x.2.2,z] 0x461 0x6) (Prod.ext (zx R [x.1,x.2.1,x.2.2,z] 0x471 0x7) (zx R [x.1,x.2.1,x.2.2,z] 0x481 0x8))
 add_neg:=λx=>Prod.ext (zx R [x.1,x.2.1,x.2.2,z] 0x4636 0x1) (Prod.ext (zx R [x.1,x.2.1,x.2.2,z] 0x4737 0x1) (zx R [x.1,x.2.1,x.2.2,z] 0x4838 0x1))
 mul_assoc:=λx y w=>Prod.ext (zx R [x.1,x.2.1,x.2.2,y.1,y.2.1,y.2.2,w.1,w.2.1,w.2.2,z] 0x4545695f457b58ac5f454456a5795f58be54456b57a589d 0x456459c5f45ae5bd5f4574459e5ad5bc584459d5ac5f5be) (Prod.ext (zx R [x.1,x.2.1,x.2.2,y.1,y.2.1,y.2.2,w.1,w.2.1,w.2.2,z] 0x44545695f457b58ad54456a5795f58bc5f54456b57a589e 0x44564459d5ac5f5be57459c5f45ae5bd5f584459e5ad5bc) (zx R [x.1,x.2.1,x.2.2,y.1,y.2.1,y.2.2,w.1,w.2.1,w.2.2,z] 0x44545695f457b58ae54456a5795f58bd54456b57a589c 0x44564459e5ad5bc574459d5ac5f5be58459c5f45ae5bd))
 mul_comm:=λx y=>Prod.ext (zx R [x.1,x.2.1,x.2.2,y.1,y.2.1,y.2.2,z] 0x45695c457b58a 0x45965c45a85b7) (Prod.ext (zx R [x.1,x.2.1,x.2.2,y.1,y.2.1,y.2.2,z] 0x4456a5795c58b 0x445975a65c5b8) (zx R [x.1,x.2.1,x.2.2,y.1,y.2.1,y.2.2,z] 0x4456b57a589 0x445985a75b6))
 mul_one:=λx=>Prod.ext (zx R [x.1,x.2.1,x.2.2,z] 0x4562594571581 0x6) (Prod.ext (zx R [x.1,x.2.1,x.2.2,z] 0x4456157259581 0x7) (zx R [x.1,x.2.1,x.2.2,z] 0x44561571582 0x8))
 mul_add:=λx y w=>Prod.ext (zx R [x.1,x.2.1,x.2.2,y.1,y.2.1,y.2.2,w.1,w.2.1,w.2.2,z] 0x45649c5f4574be584ad 0x445695f457b58a456c5f457e58d) (Prod.ext (zx R [x.1,x.2.1,x.2.2,y.1,y.2.1,y.2.2,w.1,w.2.1,w.2.2,z] 0x44564ad5749c5f584be 0x44456a5795f58b4456d57c5f58e) (zx R [x.1,x.2.1,x.2.2,y.1,y.2.1,y.2.2,w.1,w.2.1,w.2.2,z] 0x44564be574ad5849c 0x44456b57a5894456e57d58c))
def qnm(x:α×α):α:=R.add (R.mul x.1 x.1) (R.neg (R.mul z (R.mul x.2 x.2)))
end
section
variable {α:Type} {R:Rg α} {z:α}
def Fd(R:Rg α):Prop:= ∀a,a≠R.zero->∃b,R.mul a b=R.one
theorem Fd.two(hf:Fd R){a b:α}(h:R.mul a b=R.zero):a=R.zero\/b=R.zero:=by
 by_cases ha:a=R.zero
 ·exact .inl ha
 ·obtain ⟨c,hc⟩:=hf a ha
  refine .inr ?_;have e:R.mul (R.mul a c) b=R.mul c (R.mul a b):=by rw[R.mul_comm a c,R.mul_assoc]
  rw[hc,h,R.one_mul,R.mul_zero]at e;exact e
theorem Fd.sq(hf:Fd R){a:α}(h:R.mul a a=R.zero):a=R.zero:=(hf.two h).elim id id
theorem Iq(n:Nat):(Rg.cub R z).nat n=(R.nat n,R.zero,R.zero):=by
 induction n with
 |zero=>rfl
 |succ n ih=>
  show (Rg.cub R z).add ((Rg.cub R z).nat n) (Rg.cub R z).one=_;rw[ih];exact Prod.ext O (Prod.ext (R.add_zero _) (R.add_zero _))
theorem FK(n:Nat):(Rg.quad R z).nat n=(R.nat n,R.zero):=by
 induction n with
 |zero=>rfl
 |succ n ih=>
  show (Rg.quad R z).add ((Rg.quad R z).nat n) (Rg.quad R z).one=_;rw[ih];exact Prod.ext O (R.add_zero _)
end
section
variable {α:Type} {R:Rg α}
theorem Rg.lc{a b x y:α}(h:R.add a x=R.add b y)(e:x=y):a=b:=by
 rw[e,R.add_comm a,R.add_comm b]at h;exact R.cancel h
theorem lcm{c p q:α}(h:p=q):R.mul c q=R.mul c p:=by rw[h]
theorem lca{a b c d:α}(h:a=b)(k:c=d):R.add a c=R.add b d:=by rw[h,k]
theorem zk(R:Rg α)(l:List α){a b p q:α}(m n c u v:Nat)(e:p=q)(ha:zrg R l m=a:=by kernel_rfl)(hb:zrg R l n=b:=by kernel_rfl)(hu:zrg R l u=q:=by kernel_rfl)(hv:zrg R l v=p:=by kernel_rfl)(h:peq (ik (zp' m) (kk (zp' c) (zp' u))) (ik (zp' n) (kk (zp' c) (zp' v)))=true:=by kernel_rfl):a=b:=by
 rw[<-ha,<-hb];refine Rg.lc (R:=R) (x:=R.mul (zrg R l c) (zrg R l u)) (y:=R.mul (zrg R l c) (zrg R l v)) ?_ (by rw[hu,hv,e])
 rw[<-pY,<-pY,<-pY,<-pY,<-pY,<-R.d_mul,<-R.d_mul,<-R.d_add,<-R.d_add,uh h]
theorem zl(R:Rg α)(l:List α){a b:α}(m x n y:Nat)(e:zrg R l x=zrg R l y)(ha:zrg R l m=a:=by kernel_rfl)(hb:zrg R l n=b:=by kernel_rfl)(h:peq (ik (zp' m) (zp' x)) (ik (zp' n) (zp' y))=true:=by kernel_rfl):a=b:=by
 rw[<-ha,<-hb];refine Rg.lc (R:=R) (x:=zrg R l x) (y:=zrg R l y) ?_ e;rw[<-pY,<-pY,<-pY,<-pY,<-R.d_add,<-R.d_add,uh h]
end
structure Ec(α:Type) where
 R:Rg α
 iv:α->α
 b:α
 hi: ∀a,a≠R.zero->R.mul a (iv a)=R.one
 h2:R.add R.one R.one≠R.zero
 h3:R.add (R.add R.one R.one) R.one≠R.zero
 hb:b≠R.zero
section
variable {α:Type} (C:Ec α)
theorem Ec.fd:Fd C.R:=λa h=>⟨C.iv a,C.hi a h⟩
def Ec.sub(a b:α):α:=C.R.add a (C.R.neg b)
theorem Ec.sub0{a b:α}(h:C.sub a b=C.R.zero):a=b:=by
 have:=C.R.neg_of h;rw[<-C.R.neg_neg b,this,C.R.neg_neg]
theorem Ec.sub_self(a:α):C.sub a a=C.R.zero:=C.R.add_neg a
def Ec.on(p:α×α):Prop:=C.R.mul p.2 p.2=C.R.add (C.R.mul p.1 (C.R.mul p.1 p.1)) C.b
def Ec.Sl(p q:α×α)(s:α):Prop:=C.R.mul s (C.sub p.1 q.1)=C.sub p.2 q.2/\C.R.mul s (C.R.add p.2 q.2)=C.R.add (C.R.add (C.R.mul p.1 p.1) (C.R.mul p.1 q.1)) (C.R.mul q.1 q.1)
def Ec.opp(p q:α×α):Prop:=p.1=q.1/\C.R.add p.2 q.2=C.R.zero
def Ec.x3(p q:α×α)(s:α):α:=C.sub (C.sub (C.R.mul s s) p.1) q.1
def Ec.th(p q:α×α)(s:α):α×α:=(C.x3 p q s,C.sub (C.R.mul s (C.sub p.1 (C.x3 p q s))) p.2)
def Ec.ng(p:α×α):α×α:=(p.1,C.R.neg p.2)
theorem Ec.sl_comm{p q:α×α}{s:α}(h:C.Sl p q s):C.Sl q p s:=
 ⟨zk C.R [p.1,p.2,q.1,q.2,s,C.b] 0x5a4836 0x4937 0x32 0x4739 0x5a4638 h.1,zk C.R [p.1,p.2,q.1,q.2,s,C.b] 0x5a497 0x44588586566 0x2 0x44566568588 0x5a479 h.2⟩
theorem Ec.th_comm{p q:α×α}{s:α}(h:C.Sl p q s):C.th p q s=C.th q p s:=by
 have e:C.x3 p q s=C.x3 q p s:=zx C.R [p.1,p.2,q.1,q.2,s,C.b] 0x445aa3638 0x445aa3836;refine Prod.ext e ?_;show C.sub (C.R.mul s (C.sub p.1 (C.x3 p q s))) p.2=C.sub (C.R.mul s (C.sub q.1 (C.x3 q p s))) q.2;rw[<-e];generalize C.x3 p q s=t;exact zk C.R [p.1,p.2,q.1,q.2,s,t] 0x45a463b37 0x45a483b39 0x2 0x4739 0x5a4638 h.1
theorem Ec.th_on{p q:α×α}{s:α}(hq:C.on q)(h:C.Sl p q s):C.on (C.th p q s):=
 zl C.R [p.1,p.2,q.1,q.2,s,C.b] 0x545a463445aa36383745a463445aa363837 0x4452458588b54445aa3638384456656858854454445aa363838a34495a4445aa363838495a4445aa36383845a4638347394739 0x45445aa36385445aa3638445aa3638b 0x445259954445aa3638385a47954454445aa363838a34495a4445aa363838495a4445aa36383845a4638347395a4638 (lca (lca (lcm hq) (lcm h.2)) (lcm h.1))
theorem Ec.sl_th{p q:α×α}{s:α}(h:C.Sl p q s):C.Sl q (C.ng (C.th p q s)) s:=
 ⟨zk C.R [p.1,p.2,q.1,q.2,s,C.b] 0x5a483445aa3638 0x493345a463445aa363837 0x32 0x4739 0x5a4638 h.1,zk C.R [p.1,p.2,q.1,q.2,s,C.b] 0x5a49345a463445aa363837 0x4458858445aa36385445aa3638445aa3638 0x2 0x44566568588 0x5a479 h.2⟩
theorem Ec.sl_ng{p q:α×α}{s:α}(h:C.Sl p q s):C.Sl (C.ng p) (C.ng q) (C.R.neg s):=
 ⟨zk C.R [p.1,p.2,q.1,q.2,s,C.b] 0x53a4638 0x437339 0x32 0x4739 0x5a4638 h.1,zk C.R [p.1,p.2,q.1,q.2,s,C.b] 0x53a43739 0x44566568588 0x2 0x44566568588 0x5a479 h.2⟩
theorem Ec.ng_ng(p:α×α):C.ng (C.ng p)=p:=Prod.ext O (C.R.neg_neg p.2)
theorem Ec.ng_on{p:α×α}(h:C.on p):C.on (C.ng p):=
 zk C.R [p.1,p.2,p.1,p.2,p.1,C.b] 0x53737 0x456566b 0x2 0x456566b 0x577 h
theorem Ec.th_ng(p q:α×α)(s:α):C.th (C.ng p) (C.ng q) (C.R.neg s)=C.ng (C.th p q s):=
 Prod.ext (zx C.R [p.1,p.2,q.1,q.2,s,C.b] 0x4453a3a3638 0x445aa3638) (zx C.R [p.1,p.2,q.1,q.2,s,C.b] 0x453a4634453a3a3638337 0x345a463445aa363837)
theorem Ec.sl_one{p q:α×α}{s t:α}(h:C.Sl p q s)(k:C.Sl p q t)(ho: ¬C.opp p q):s=t:=by
 have e1:C.R.mul (C.sub s t) (C.sub p.1 q.1)=C.R.zero:=zl C.R [p.1,p.2,q.1,q.2,s,t] 0x54a3b4638 0x45247395324739 0x1 0x4525a46385325b4638 (lca (lcm h.1) (lcm k.1));have e2:C.R.mul (C.sub s t) (C.R.add p.2 q.2)=C.R.zero:=zl C.R [p.1,p.2,q.1,q.2,s,t] 0x54a3b479 0x4524456656858853244566568588 0x1 0x4525a4795325b479 (lca (lcm h.2) (lcm k.2));rcases C.fd.two e1 with h0|h0
 ·exact C.sub0 h0
 ·rcases C.fd.two e2 with h0'|h0'
  ·exact C.sub0 h0'
  ·exact absurd ⟨C.sub0 h0,h0'⟩ ho
theorem Ec.sl_is{p q:α×α}(hp:C.on p)(hq:C.on q)(ho: ¬C.opp p q): ∃s,C.Sl p q s:=by
 by_cases hx:p.1=q.1
 ·have hy:C.R.add p.2 q.2≠C.R.zero:=λe=>ho ⟨hx,e⟩
  have e:C.R.mul (C.sub p.2 q.2) (C.R.add p.2 q.2)=C.R.zero:=by
   have e1:C.R.mul (C.sub p.2 q.2) (C.R.add p.2 q.2)=C.sub (C.R.mul p.2 p.2) (C.R.mul q.2 q.2):=zx C.R [p.1,p.2,q.1,q.2] 0x54739479 0x45773599;rw[e1,show C.R.mul p.2 p.2=_ from hp,show C.R.mul q.2 q.2=_ from hq,hx,C.sub_self]
  have hy2:p.2=q.2:=C.sub0 ((C.fd.two e).resolve_right hy);have hi:=C.hi _ hy;refine ⟨C.R.mul (C.R.add (C.R.add (C.R.mul p.1 p.1) (C.R.mul p.1 q.1)) (C.R.mul q.1 q.1)) (C.iv (C.R.add p.2 q.2)), ?_, ?_⟩
  ·rw[hx,hy2,C.sub_self,C.sub_self,C.R.mul_zero]
  ·rw[C.R.mul_assoc,C.R.mul_comm (C.iv _),hi,C.R.mul_one]
 ·have hd:C.sub p.1 q.1≠C.R.zero:=λe=>hx (C.sub0 e)
  have hi:=C.hi _ hd;have e1:C.R.mul (C.R.mul (C.sub p.2 q.2) (C.iv (C.sub p.1 q.1))) (C.sub p.1 q.1)=C.sub p.2 q.2:=by rw[C.R.mul_assoc,C.R.mul_comm (C.iv _),hi,C.R.mul_one]
  refine ⟨C.R.mul (C.sub p.2 q.2) (C.iv (C.sub p.1 q.1)),e1, ?_⟩;have e2:C.R.mul (C.sub p.1 q.1) (C.sub (C.R.mul (C.R.mul (C.sub p.2 q.2) (C.iv (C.sub p.1 q.1))) (C.R.add p.2 q.2)) (C.R.add (C.R.add (C.R.mul p.1 p.1) (C.R.mul p.1 q.1)) (C.R.mul q.1 q.1)))=C.R.zero:=
   zl C.R [p.1,p.2,q.1,q.2,C.iv (C.sub p.1 q.1),C.b] 0x546384554739a479344566568588 0x44554739479252456566b532458588b 0x1 0x4455473947954638a52577532599 (lca (lca (lcm hi) (lcm hp)) (lcm hq))
  exact C.sub0 ((C.fd.two e2).resolve_left hd)
theorem Ec.assoc_g{A B D:α×α}{a c g:α}(ha:C.Sl A B a)(hc:C.Sl D B c)(hg:C.Sl (C.th A B a) D g)(ho: ¬C.opp (C.th A B a) D):C.sub (C.R.mul (C.sub a c) g) (C.sub (C.sub (C.sub (C.R.mul a c) B.1) D.1) (C.x3 A B a))=C.R.zero:=by
 have e1:C.R.mul (C.sub (C.th A B a).1 D.1) (C.sub (C.R.mul (C.sub a c) g) (C.sub (C.sub (C.sub (C.R.mul a c) B.1) D.1) (C.x3 A B a)))=C.R.zero:=zl C.R [A.1,A.2,B.1,B.2,D.1,D.2,a,c,g] 0x54445cc36383a454c3de34445cd383a3445cc3638 0x444454c3d445c463445cc3638373b53d47395c4b395324456656858852445aa5a8588 0x1 0x444454c3d5e4445cc36383a53d5c46385c5d4a385325c479525d4b9 (lca (lca (lca (lca (lcm hg.1) (lcm ha.1)) (lcm hc.1)) (lcm ha.2)) (lcm hc.2));have e2:C.R.mul (C.R.add (C.th A B a).2 D.2) (C.sub (C.R.mul (C.sub a c) g) (C.sub (C.sub (C.sub (C.R.mul a c) B.1) D.1) (C.x3 A B a)))=C.R.zero:=zl C.R [A.1,A.2,B.1,B.2,D.1,D.2,a,c,g] 0x5445c463445cc363837b454c3de34445cd383a3445cc3638 0x444454c3d445445cc3638445cc36385445cc3638a5aa53c445aa5a85885d445665685885448a445cc3638473953448a445cc36384b39 0x1 0x444454c3d5e445c463445cc363837b53c5d4b95d5c4795448a445cc36385c463853448a445cc36385d4a38 (lca (lca (lca (lca (lcm hg.2) (lcm hc.2)) (lcm ha.2)) (lcm ha.1)) (lcm hc.1));rcases C.fd.two e1 with h|h
 ·rcases C.fd.two e2 with h'|h'
  ·exact absurd ⟨C.sub0 h,h'⟩ ho
  ·exact h'
 ·exact h
theorem Ec.assoc_t{A B D:α×α}{a c g t:α}(hn:a≠c)(h1:C.sub (C.R.mul (C.sub a c) g) (C.sub (C.sub (C.sub (C.R.mul a c) B.1) D.1) (C.x3 A B a))=C.R.zero)(h2:C.sub (C.R.mul (C.sub c a) t) (C.sub (C.sub (C.sub (C.R.mul c a) B.1) A.1) (C.x3 D B c))=C.R.zero):t=C.sub (C.R.add g a) c:=by
 have e:C.R.mul (C.sub a c) (C.sub t (C.sub (C.R.add g a) c))=C.R.zero:=zl C.R [A.1,A.2,B.1,B.2,D.1,D.2,a,c,g,t] 0x54c3d4f344ec3d 0x453215321 0x1 0x4532454c3de34445cd383a3445cc3638532454d3cf34445dc38363445dd3a38 (lca (lcm h1) (lcm h2));exact C.sub0 ((C.fd.two e).resolve_left (λh=>hn (C.sub0 h)))
theorem Ec.assoc_x{A B D:α×α}{a c g:α}(h1:C.sub (C.R.mul (C.sub a c) g) (C.sub (C.sub (C.sub (C.R.mul a c) B.1) D.1) (C.x3 A B a))=C.R.zero):C.x3 (C.th A B a) D g=C.x3 A (C.th D B c) (C.sub (C.R.add g a) c):=
 zk C.R [A.1,A.2,B.1,B.2,D.1,D.2,a,c,g] 0x445ee3445cc36383a 0x44544ec3d44ec3d363445dd3a38 0x43232 0x1 0x454c3de34445cd383a3445cc3638 h1
theorem Ec.assoc_y{A B D:α×α}{a c g:α}(ha:C.Sl A B a)(hc:C.Sl D B c)(hg:C.Sl (C.th A B a) D g)(h1:C.sub (C.R.mul (C.sub a c) g) (C.sub (C.sub (C.sub (C.R.mul a c) B.1) D.1) (C.x3 A B a))=C.R.zero):
 C.sub (C.R.mul g (C.sub (C.th A B a).1 (C.x3 (C.th A B a) D g))) (C.th A B a).2=C.sub (C.R.mul (C.sub (C.R.add g a) c) (C.sub A.1 (C.x3 (C.th A B a) D g))) A.2:=
 zl C.R [A.1,A.2,B.1,B.2,D.1,D.2,a,c,g] 0x45e4445cc36383445ee3445cc36383a345c463445cc363837 0x44454e3c152445c463445cc3638373b5324739524b39 0x4544ec3d463445ee3445cc36383a37 0x44454e3c454c3de34445cd383a3445cc3638525e4445cc36383a5325c4638525d4a38 (lca (lca (lca (lcm h1) (lcm hg.1)) (lcm ha.1)) (lcm hc.1))
theorem Ec.assoc_gen{A B D:α×α}{a c g t:α}(ha:C.Sl A B a)(hc:C.Sl D B c)(hg:C.Sl (C.th A B a) D g)(ht:C.Sl (C.th D B c) A t)(ho: ¬C.opp (C.th A B a) D)(ho': ¬C.opp (C.th D B c) A)(hn:a≠c):
 C.th (C.th A B a) D g=C.th (C.th D B c) A t:=by
 have h1:=C.assoc_g ha hc hg ho;have h2:=C.assoc_g hc ha ht ho';have et:=C.assoc_t hn h1 h2;rw[C.th_comm ht,et];refine Prod.ext (C.assoc_x h1) ?_;show C.sub (C.R.mul g (C.sub (C.th A B a).1 (C.x3 (C.th A B a) D g))) (C.th A B a).2=C.sub (C.R.mul (C.sub (C.R.add g a) c) (C.sub A.1 (C.x3 A (C.th D B c) (C.sub (C.R.add g a) c)))) A.2;rw[<-C.assoc_x h1];exact C.assoc_y ha hc hg h1
theorem Ec.line_three{A B D:α×α}{a:α}(ha:C.Sl A B a)(hc:C.Sl D B a):D=A\/C.opp (C.th A B a) D:=by
 have e:C.R.mul (C.sub D.1 A.1) (C.sub D.1 (C.x3 A B a))=C.R.zero:=zl C.R [A.1,A.2,B.1,B.2,D.1,D.2,a] 0x54a364a3445cc3638 0x444532445aa5a858853c4b3952445665685885c4739 0x1 0x4445325c4b953c5c4a38525c4795c5c4638 (lca (lca (lca (lcm hc.2) (lcm hc.1)) (lcm ha.2)) (lcm ha.1));have ey:C.sub D.2 A.2=C.R.mul a (C.sub D.1 A.1):=zl C.R [A.1,A.2,B.1,B.2,D.1,D.2,a] 0x4b37 0x45324b39524739 0x5c4a36 0x45325c4a38525c4638 (lca (lcm hc.1) (lcm ha.1));rcases C.fd.two e with h|h
 ·left
  rw[h,C.R.mul_zero]at ey;exact Prod.ext (C.sub0 h) (C.sub0 ey)
 ·right
  have hx:=C.sub0 h;refine ⟨hx.symm, ?_⟩;have es:C.R.add (C.th A B a).2 D.2=C.R.mul a (C.sub D.1 (C.x3 A B a)):=zl C.R [A.1,A.2,B.1,B.2,D.1,D.2,a] 0x445c463445cc363837b 0x45324b39524739 0x5c4a3445cc3638 0x45325c4a38525c4638 (lca (lcm hc.1) (lcm ha.1));rw[es,h,C.R.mul_zero]
end
abbrev Pt(α:Type):=Option (α×α)
section
variable {α:Type} (C:Ec α)
def Ec.ne:Pt α->Pt α
 |none=>none
 |some p=>some (C.ng p)
def Ec.onP:Pt α->Prop
 |none=>True
 |some p=>C.on p
theorem Ec.opp_comm{p q:α×α}(h:C.opp p q):C.opp q p:=⟨h.1.symm,by rw[C.R.add_comm];exact h.2⟩
theorem Ec.opp_ng(p:α×α):C.opp p (C.ng p):=⟨rfl,C.R.add_neg _⟩
theorem Ec.opp_eq{p q:α×α}(h:C.opp p q):q=C.ng p:=Prod.ext h.1.symm (C.R.neg_of h.2)
theorem Ec.ne_on{P:Pt α}(hP:C.onP P):C.onP (C.ne P):=by
 cases P with
 |none=>trivial
 |some p=>exact C.ng_on hP
theorem Ec.ne_ne(P:Pt α):C.ne (C.ne P)=P:=by
 cases P with
 |none=>rfl
 |some p=>exact congrArg some (C.ng_ng p)
theorem Ec.no_fix{p:α×α}{s:α}(hp:C.on p)(h:C.Sl p (C.ng p) s):False:=by
 have e1:C.R.mul (C.R.add C.R.one C.R.one) p.2=C.R.zero:=zk C.R [p.1,p.2,s] 0x54227 0x1 0x32 0x47337 0x584636 h.1;have e2:C.R.mul (C.R.add (C.R.add C.R.one C.R.one) C.R.one) (C.R.mul p.1 p.1)=C.R.zero:=zk C.R [p.1,p.2,s] 0x544222566 0x1 0x32 0x44566566566 0x584737 h.2;have hy:=(C.fd.two e1).resolve_left C.h2;have hx:=C.fd.sq ((C.fd.two e2).resolve_left C.h3);have:=hp;unfold Ec.on at this;rw[hy,hx,C.R.mul_zero,C.R.mul_zero,C.R.zero_add]at this;exact C.hb this.symm
theorem Ec.undo_x(p q:α×α)(s:α):C.x3 (C.ng p) (C.th p q s) (C.R.neg s)=q.1:=zx C.R [p.1,p.2,q.1,q.2,s] 0x4453a3a363445aa3638 0x8
theorem Ec.undo_y{p q:α×α}{s:α}(h:C.Sl p q s):C.sub (C.R.mul (C.R.neg s) (C.sub p.1 q.1)) (C.R.neg p.2)=q.2:=zk C.R [p.1,p.2,q.1,q.2,s] 0x453a4638337 0x9 0x32 0x4739 0x5a4638 h.1
end
section
variable {α:Type} [DecidableEq α] (C:Ec α)
def Ec.slope(p q:α×α):α:=if p.1=q.1 then C.R.mul (C.R.add (C.R.add (C.R.mul p.1 p.1) (C.R.mul p.1 q.1)) (C.R.mul q.1 q.1)) (C.iv (C.R.add p.2 q.2))else C.R.mul (C.sub p.2 q.2) (C.iv (C.sub p.1 q.1))
def Ec.ad:Pt α->Pt α->Pt α
 |none,Q=>Q
 |some p,none=>some p
 |some p,some q=>if p.1=q.1/\C.R.add p.2 q.2=C.R.zero then none else some (C.th p q (C.slope p q))
theorem Ec.sl_slope{p q:α×α}(hp:C.on p)(hq:C.on q)(ho: ¬C.opp p q):C.Sl p q (C.slope p q):=by
 obtain ⟨s,hs⟩:=C.sl_is hp hq ho;have e:C.slope p q=s:=by
  unfold Ec.slope;by_cases hx:p.1=q.1
  ·rw[if_pos hx]
   have hy:C.R.add p.2 q.2≠C.R.zero:=λe=>ho ⟨hx,e⟩;rw[<-hs.2,C.R.mul_assoc,C.hi _ hy,C.R.mul_one]
  ·rw[if_neg hx]
   have hd:C.sub p.1 q.1≠C.R.zero:=λe=>hx (C.sub0 e);rw[<-hs.1,C.R.mul_assoc,C.hi _ hd,C.R.mul_one]
 rw[e];exact hs
theorem Ec.ad_nl(P:Pt α):C.ad none P=P:=rfl
theorem Ec.ad_nr(P:Pt α):C.ad P none=P:=by cases P<;>rfl
theorem Ec.ad_opp{p q:α×α}(h:C.opp p q):C.ad (some p) (some q)=none:=if_pos h
theorem Ec.ad_sl{p q:α×α}{s:α}(hp:C.on p)(hq:C.on q)(ho: ¬C.opp p q)(hs:C.Sl p q s):C.ad (some p) (some q)=some (C.th p q s):=by
 rw[<-C.sl_one (C.sl_slope hp hq ho) hs ho];exact if_neg ho
theorem Ec.ad_on{P Q:Pt α}(hP:C.onP P)(hQ:C.onP Q):C.onP (C.ad P Q):=by
 cases P with
 |none=>exact hQ
 |some p=>
  cases Q with
  |none=>exact hP
  |some q=>
   by_cases ho:C.opp p q
   ·rw[C.ad_opp ho];trivial
   ·rw[C.ad_sl hP hQ ho (C.sl_slope hP hQ ho)]
    exact C.th_on hQ (C.sl_slope hP hQ ho)
theorem Ec.ad_comm{P Q:Pt α}(hP:C.onP P)(hQ:C.onP Q):C.ad P Q=C.ad Q P:=by
 cases P with
 |none=>rw[C.ad_nr];rfl
 |some p=>
  cases Q with
  |none=>rfl
  |some q=>
   by_cases ho:C.opp p q
   ·rw[C.ad_opp ho,C.ad_opp (C.opp_comm ho)]
   ·have hs:=C.sl_slope hP hQ ho
    rw[C.ad_sl hP hQ ho hs,C.ad_sl hQ hP (λh=>ho (C.opp_comm h)) (C.sl_comm hs),C.th_comm hs]
theorem Ec.ad_ne(P:Pt α):C.ad P (C.ne P)=none:=by
 cases P with
 |none=>rfl
 |some p=>exact C.ad_opp (C.opp_ng p)
theorem Ec.ne_ad_self(P:Pt α):C.ad (C.ne P) P=none:=by
 have:=C.ad_ne (C.ne P);rw[C.ne_ne]at this;exact this
theorem Ec.ne_ad{P Q:Pt α}(hP:C.onP P)(hQ:C.onP Q):C.ne (C.ad P Q)=C.ad (C.ne P) (C.ne Q):=by
 cases P with
 |none=>rfl
 |some p=>
  cases Q with
  |none=>rfl
  |some q=>
   have hiff:C.opp (C.ng p) (C.ng q)->C.opp p q:=λh=>⟨h.1,by
    have:=h.2;rw[show (C.ng p).2=C.R.neg p.2 from O,show (C.ng q).2=C.R.neg q.2 from O,<-C.R.neg_add]at this;rw[<-C.R.neg_neg (C.R.add p.2 q.2),this,C.R.neg_zero]⟩
   by_cases ho:C.opp p q
   ·have ho':C.opp (C.ng p) (C.ng q):=⟨ho.1,by
     rw[show (C.ng p).2=C.R.neg p.2 from O,show (C.ng q).2=C.R.neg q.2 from O,<-C.R.neg_add,ho.2,C.R.neg_zero]⟩
    rw[C.ad_opp ho];exact (C.ad_opp ho').symm
   ·have hs:=C.sl_slope hP hQ ho
    rw[C.ad_sl hP hQ ho hs];refine ((C.ad_sl (C.ng_on hP) (C.ng_on hQ) (λh=>ho (hiff h)) (C.sl_ng hs)).trans ?_).symm;rw[C.th_ng];rfl
theorem Ec.undo{P Q:Pt α}(hP:C.onP P)(hQ:C.onP Q):C.ad (C.ne P) (C.ad P Q)=Q:=by
 cases P with
 |none=>rfl
 |some p=>
  cases Q with
  |none=>exact C.ne_ad_self (some p)
  |some q=>
   by_cases ho:C.opp p q
   ·rw[C.ad_opp ho,C.ad_nr,C.opp_eq ho];rfl
   ·have hs:=C.sl_slope hP hQ ho
    rw[C.ad_sl hP hQ ho hs];generalize C.slope p q=s at hs;have hon:C.on (C.th p q s):=C.th_on hQ hs;have hs2:C.Sl p (C.ng (C.th p q s)) s:=by
     have:=C.sl_th (C.sl_comm hs);rw[<-C.th_comm hs]at this;exact this
    have ho2: ¬C.opp (C.ng p) (C.th p q s):=λh=>by
     have e:=C.opp_eq h;rw[C.ng_ng]at e;rw[e]at hs2;exact C.no_fix hP hs2
    have hs3:C.Sl (C.ng p) (C.th p q s) (C.R.neg s):=by
     have:=C.sl_ng hs2;rw[C.ng_ng]at this;exact this
    refine (C.ad_sl (C.ng_on hP) hon ho2 hs3).trans (congrArg some ?_);refine Prod.ext (C.undo_x p q s) ?_;show C.sub (C.R.mul (C.R.neg s) (C.sub p.1 (C.x3 (C.ng p) (C.th p q s) (C.R.neg s)))) (C.R.neg p.2)=q.2;rw[C.undo_x];exact C.undo_y hs
theorem Ec.ad_assoc{P Q T:Pt α}(hP:C.onP P)(hQ:C.onP Q)(hT:C.onP T):C.ad (C.ad P Q) T=C.ad P (C.ad Q T):=by
 cases P with
 |none=>rfl
 |some p=>
  cases Q with
  |none=>rfl
  |some q=>
   cases T with
   |none=>rw[C.ad_nr,C.ad_nr]
   |some t=>
    by_cases h1:C.opp p q
    ·have e:(some q:Pt α)=C.ne (some p):=congrArg some (C.opp_eq h1)
     have:=C.undo (P:=C.ne (some p)) (Q:=some t) (C.ne_on hP) hT;rw[C.ne_ne]at this;rw[C.ad_opp h1,C.ad_nl,e,this]
    ·by_cases h2:C.opp q t
     ·have e:(some t:Pt α)=C.ne (some q):=congrArg some (C.opp_eq h2)
      rw[C.ad_opp h2,C.ad_nr,e,C.ad_comm (C.ad_on hP hQ) (C.ne_on hQ),C.ad_comm hP hQ];exact C.undo hQ hP
     ·have hs:=C.sl_slope hP hQ h1
      have hc:=C.sl_comm (C.sl_slope hQ hT h2);have h2': ¬C.opp t q:=λh=>h2 (C.opp_comm h);have e1:=C.ad_sl hP hQ h1 hs;have e2:C.ad (some q) (some t)=some (C.th t q (C.slope q t)):=(C.ad_comm hQ hT).trans (C.ad_sl hT hQ h2' hc);generalize C.slope p q=a at hs e1;generalize C.slope q t=c at hc e2;have hS:C.on (C.th p q a):=C.th_on hQ hs;have hU:C.on (C.th t q c):=C.th_on hQ hc;by_cases h3:C.opp (C.th p q a) t
      ·have e:(some t:Pt α)=C.ne (C.ad (some p) (some q)):=by rw[e1];exact congrArg some (C.opp_eq h3)
       have k:=C.undo (P:=C.ne (some q)) (Q:=C.ne (some p)) (C.ne_on hQ) (C.ne_on hP);rw[C.ne_ne]at k;rw[e,C.ad_ne,C.ne_ad hP hQ,C.ad_comm (C.ne_on hP) (C.ne_on hQ),k,C.ad_ne]
      ·by_cases h4:C.opp (C.th t q c) p
       ·have e:(some p:Pt α)=C.ne (C.ad (some q) (some t)):=by rw[e2];exact congrArg some (C.opp_eq h4)
        have k:=C.undo (P:=C.ne (some q)) (Q:=C.ne (some t)) (C.ne_on hQ) (C.ne_on hT);rw[C.ne_ne]at k;have e3:C.ad (C.ne (C.ad (some q) (some t))) (some q)=C.ne (some t):=by
         rw[C.ne_ad hQ hT,C.ad_comm (C.ad_on (C.ne_on hQ) (C.ne_on hT)) hQ,k]
        rw[e,e3,C.ne_ad_self,C.ne_ad_self]
       ·have g1:=C.sl_slope hS hT h3
        have g2:=C.sl_slope hU hP h4;have eL:C.ad (C.ad (some p) (some q)) (some t)=some (C.th (C.th p q a) t (C.slope (C.th p q a) t)):=by rw[e1];exact C.ad_sl hS hT h3 g1
        have eR:C.ad (some p) (C.ad (some q) (some t))=some (C.th (C.th t q c) p (C.slope (C.th t q c) p)):=by
         rw[e2,C.ad_comm hP (Q:=some (C.th t q c)) hU];exact C.ad_sl hU hP h4 g2
        by_cases hac:a=c
        ·subst hac
         rcases C.line_three hs hc with h|h
         ·subst h
          rw[C.ad_comm hT (C.ad_on hQ hT),C.ad_comm hQ hT]
         ·exact absurd h h3
        ·rw[eL,eR,C.assoc_gen hs hc g1 g2 h3 h4 hac]
/-! ### So many times -/
def Ec.times(P:Pt α):Nat->Pt α
 |0=>none
 |n+1=>C.ad (Ec.times P n) P
theorem Ec.times_on{P:Pt α}(hP:C.onP P): ∀n,C.onP (C.times P n)
 |0=>trivial
 |n+1=>C.ad_on (Ec.times_on hP n) hP
theorem Ec.times_add{P:Pt α}(hP:C.onP P)(m:Nat): ∀n,C.times P (m+n)=C.ad (C.times P m) (C.times P n)
 |0=>(C.ad_nr _).symm
 |n+1=>by
  rw[<-Nat.add_assoc,Ec.times,Ec.times_add hP m n,C.ad_assoc (C.times_on hP m) (C.times_on hP n) hP];rfl
theorem Ec.times_none: ∀n,C.times none n=none
 |0=>rfl
 |n+1=>by rw[Ec.times,Ec.times_none n];rfl
theorem Ec.times_mul{P:Pt α}(hP:C.onP P)(m:Nat): ∀n,C.times P (m*n)=C.times (C.times P m) n
 |0=>rfl
 |n+1=>by rw[Nat.mul_succ,C.times_add hP,Ec.times_mul hP m n];rfl
theorem Ec.times_ne{P:Pt α}(hP:C.onP P): ∀n,C.times (C.ne P) n=C.ne (C.times P n)
 |0=>rfl
 |n+1=>by rw[Ec.times,Ec.times_ne hP n,Ec.times,C.ne_ad (C.times_on hP n) hP]
end
end Go.Proofs.YtjookodjbjabbaaGreatDoor
