/- M0 -/
import Derived.Test.YtfgacclgjklgnaaGreatDoorX2
import Derived.KernelRfl
set_option maxRecDepth 100000
set_option maxHeartbeats 1000000
namespace Go.Proofs.YtfgacclgjklgnaaGreatDoor
section
def V(l:L6):Nat→Nat
 |0=>0
 |i+1=>V l i+(l.getD i 0).toNat*2^(64*i)
theorem kD(i:Nat):2^(64*(i+1))=2^(64*i)*18446744073709551616:=by rw[Nat.mul_add,Nat.pow_add]
theorem dp(l:L6)(k:Nat)(x:BitVec 64)(hk:k<l.length):(l.set k x).getD k 0=x:=by simp[List.getD_eq_getElem?_getD,hk]
theorem fu(l:L6)(k i:Nat)(x:BitVec 64)(h:i≠k):(l.set k x).getD i 0=l.getD i 0:=by
 simp only[List.getD_eq_getElem?_getD,List.getElem?_set_ne (Ne.symm h)]
theorem iz(l:L6)(k:Nat)(x:BitVec 64): ∀i,i≤k→V (l.set k x) i=V l i
 |0,_=>rfl
 |i+1,h=>by rw[V,V,iz l k x i om,fu l k i x om]
theorem Dz(l:L6)(k:Nat)(x:BitVec 64)(hk:k<l.length): ∀n,k<n→V (l.set k x) n+(l.getD k 0).toNat*2^(64*k)=V l n+x.toNat*2^(64*k)
 |0,h=>om
 |n+1,h=>by
  rcases Nat.lt_or_ge k n with h'|h'
  ·have:=Dz l k x hk n h'
   rw[V,V,fu l k n x om]
   omega
  ·obtain rfl:k=n:=om
   rw[V,V,iz l k x k (Nat.le_refl _),dp l k x hk]
   omega
theorem ue(l:L6): ∀i,V l i<2^(64*i)
 |0=>by simp[V]
 |i+1=>by
  have h1:=ue l i
  have h2:=(l.getD i 0).isLt
  rw[V,kD]
  have h3:(l.getD i 0).toNat*2^(64*i)≤18446744073709551615*2^(64*i):=Nat.mul_le_mul_right _ om
  omega
theorem Ki(l:L6)(i:Nat):V l (i+1) % 2^(64*i)=V l i:=by
 rw[V,Nat.add_mul_mod_self_right,Nat.mod_eq_of_lt (ue l i)]
theorem DF(l:L6)(i:Nat):V l (i+1) / 2^(64*i)=(l.getD i 0).toNat:=by
 rw[V,Nat.add_mul_div_right _ _ (Nat.two_pow_pos _),Nat.div_eq_of_lt (ue l i),Nat.zero_add]
theorem Ln{l l':L6}: ∀(n:Nat),V l n=V l' n→∀i,i<n→l.getD i 0=l'.getD i 0
 |0,_,_,h=>om
 |n+1,e,i,h=>by
  have h1:V l n=V l' n:=by rw[←Ki l n,←Ki l' n,e]
  rcases Nat.lt_or_ge i n with h'|h'
  ·exact Ln n h1 i h'
  ·obtain rfl:i=n:=om
   apply BitVec.eq_of_toNat_eq
   rw[←DF l i,←DF l' i,e]
theorem yh{l l':L6}(n:Nat)(h:l.length=n)(h':l'.length=n)(e:V l n=V l' n):l=l':=by
 apply List.ext_getElem om
 intro i h1 h2
 have:=Ln n e i om
 simpa [List.getD_eq_getElem?_getD,h1,h2]using this
theorem jM(k:Nat): ∀n,V (List.replicate k 0#64) n=0
 |0=>rfl
 |n+1=>by
  have:((List.replicate k 0#64).getD n 0).toNat=0:=by
   rw[List.getD_eq_getElem?_getD,List.getElem?_replicate]
   split<;>rfl
  rw[V,jM k n,this];simp
/-! ### Sums -/
def ADC(x y c:BitVec 64):BitVec 64×BitVec 64:=(BitVec.ofNat 64 (x.toNat+y.toNat+c.toNat),BitVec.ofNat 64 ((x.toNat+y.toNat+c.toNat) / 18446744073709551616))
theorem yF(x y c:BitVec 64):(ADC x y c).1.toNat+(ADC x y c).2.toNat*18446744073709551616=x.toNat+y.toNat+c.toNat:=by
 simp only[ADC,BitVec.toNat_ofNat]
 omega
theorem Do(x y c:BitVec 64)(h:c.toNat≤1):(ADC x y c).2.toNat≤1:=by
 have:=x.isLt;have:=y.isLt
 simp only[ADC,BitVec.toNat_ofNat]
 omega
def AS(a b:L6):Nat→L6×BitVec 64
 |0=>(List.replicate 6 0,0)
 |i+1=>((AS a b i).1.set i (ADC (a.getD i 0) (b.getD i 0) (AS a b i).2).1,(ADC (a.getD i 0) (b.getD i 0) (AS a b i).2).2)
theorem aR(a b:L6): ∀i,(AS a b i).1.length=6
 |0=>rfl
 |i+1=>by simp[AS,aR a b i]
theorem Hm(a b:L6): ∀i,(AS a b i).2.toNat≤1
 |0=>by show (0:BitVec 64).toNat≤1;decide
 |i+1=>Do _ _ _ (Hm a b i)
theorem E5(a b:L6): ∀i,i≤6→V (AS a b i).1 i+(AS a b i).2.toNat*2^(64*i)=V a i+V b i
 |0,_=>by simp[V,AS]
 |i+1,h=>by
  have ih:=E5 a b i om
  have hv:=yF (a.getD i 0) (b.getD i 0) (AS a b i).2
  rw[V,V,V,AS,iz _ _ _ i (Nat.le_refl _),dp _ _ _ (by rw[aR];omega),kD]
  generalize (ADC (a.getD i 0) (b.getD i 0) (AS a b i).2).1.toNat=s at*
  generalize (ADC (a.getD i 0) (b.getD i 0) (AS a b i).2).2.toNat=c at*
  generalize 2^(64*i)=q at*
  have e:s*q+c*(q*18446744073709551616)=(s+c*18446744073709551616)*q:=by rw[Nat.add_mul,Nat.mul_comm q,←Nat.mul_assoc]
  have e2:((a.getD i 0).toNat+(b.getD i 0).toNat+(AS a b i).2.toNat)*q=(a.getD i 0).toNat*q+(b.getD i 0).toNat*q+(AS a b i).2.toNat*q:=by rw[Nat.add_mul,Nat.add_mul]
  rw[hv,e2]at e
  omega
/-! ### Differences -/
def SBB(x y b:BitVec 64):BitVec 64×BitVec 64:=(BitVec.ofNat 64 (x.toNat+18446744073709551616-y.toNat-b.toNat),if x.toNat<y.toNat+b.toNat then 1 else 0)
theorem IU(x y b:BitVec 64)(h:b.toNat≤1):(SBB x y b).1.toNat+y.toNat+b.toNat=x.toNat+(SBB x y b).2.toNat*18446744073709551616:=by
 have:=x.isLt;have:=y.isLt
 simp only[SBB,BitVec.toNat_ofNat]
 split
 ·rw[show (1:BitVec 64).toNat=1 from rfl];omega
 ·rw[show (0:BitVec 64).toNat=0 from rfl];omega
theorem RK(x y b:BitVec 64):(SBB x y b).2.toNat≤1:=by
 simp only[SBB]
 split<;>decide
def SS(a b:L6):Nat→L6×BitVec 64
 |0=>(List.replicate 6 0,0)
 |i+1=>((SS a b i).1.set i (SBB (a.getD i 0) (b.getD i 0) (SS a b i).2).1,(SBB (a.getD i 0) (b.getD i 0) (SS a b i).2).2)
theorem aM(a b:L6): ∀i,(SS a b i).1.length=6
 |0=>rfl
 |i+1=>by simp[SS,aM a b i]
theorem wT(a b:L6): ∀i,(SS a b i).2.toNat≤1
 |0=>by show (0:BitVec 64).toNat≤1;decide
 |i+1=>RK _ _ _
theorem Er(a b:L6): ∀i,i≤6→V (SS a b i).1 i+V b i=V a i+(SS a b i).2.toNat*2^(64*i)
 |0,_=>by simp[V,SS]
 |i+1,h=>by
  have ih:=Er a b i om
  have hv:=IU (a.getD i 0) (b.getD i 0) (SS a b i).2 (wT a b i)
  rw[V,V,V,SS,iz _ _ _ i (Nat.le_refl _),dp _ _ _ (by rw[aM];omega),kD]
  generalize (SBB (a.getD i 0) (b.getD i 0) (SS a b i).2).1.toNat=s at*
  generalize (SBB (a.getD i 0) (b.getD i 0) (SS a b i).2).2.toNat=c at*
  generalize 2^(64*i)=q at*
  have e:(a.getD i 0).toNat*q+c*(q*18446744073709551616)=((a.getD i 0).toNat+c*18446744073709551616)*q:=by rw[Nat.add_mul,Nat.mul_comm q,←Nat.mul_assoc]
  have e2:(s+(b.getD i 0).toNat+(SS a b i).2.toNat)*q=s*q+(b.getD i 0).toNat*q+(SS a b i).2.toNat*q:=by rw[Nat.add_mul,Nat.add_mul]
  rw[←hv,e2]at e
  omega
/-! ### Order -/
def LT(a b:L6):Nat→Bool
 |0=>false
 |i+1=>if a.getD i 0<b.getD i 0 then true else if a.getD i 0>b.getD i 0 then false else LT a b i
theorem qk(a b:L6): ∀i,LT a b i=decide (V a i<V b i)
 |0=>by simp[LT,V]
 |i+1=>by
  have ih:=qk a b i
  have h1:=ue a i
  have h2:=ue b i
  rw[LT,V,V]
  generalize 2^(64*i)=q at*
  simp only[gt_iff_lt,BitVec.lt_def]
  generalize (a.getD i 0).toNat=x at*
  generalize (b.getD i 0).toNat=y at*
  rcases Nat.lt_trichotomy x y with h|h|h
  ·have:(x+1)*q≤y*q:=Nat.mul_le_mul_right _ h
   rw[Nat.add_mul]at this
   rw[if_pos h,decide_eq_true om]
  ·subst h
   rw[if_neg om,if_neg om,ih]
   congr 1
   apply propext
   omega
  ·have:(y+1)*q≤x*q:=Nat.mul_le_mul_right _ h
   rw[Nat.add_mul]at this
   rw[if_neg om,if_pos h,decide_eq_false om]
/-! ### Products -/
theorem zI(x y:Nat):x*y=(x / 4294967296)*(y / 4294967296)*18446744073709551616+((x / 4294967296)*(y % 4294967296)+(x % 4294967296)*(y / 4294967296))*4294967296+(x % 4294967296)*(y % 4294967296):=by
 conv=>lhs;rw[←Nat.div_add_mod x 4294967296,←Nat.div_add_mod y 4294967296]
 generalize x / 4294967296=a
 generalize x % 4294967296=b
 generalize y / 4294967296=c
 generalize y % 4294967296=d
 rw[Nat.add_mul,Nat.mul_add,Nat.mul_add,Nat.mul_mul_mul_comm 4294967296 a 4294967296 c,Nat.mul_assoc 4294967296 a d,←Nat.mul_assoc b 4294967296 c,Nat.mul_comm b 4294967296,Nat.mul_assoc 4294967296 b c]
 omega
def MH(x y:BitVec 64):BitVec 64:=BitVec.ofNat 64 (x.toNat*y.toNat / 18446744073709551616)
def MLo(x y:BitVec 64):BitVec 64:=BitVec.ofNat 64 (x.toNat*y.toNat)
theorem BI{x y:Nat}(hx:x<18446744073709551616)(hy:y<18446744073709551616):x*y≤340282366920938463426481119284349108225:=(Nat.mul_le_mul (by omega:x≤18446744073709551615) (by omega:y≤18446744073709551615))
theorem Ob(x y:BitVec 64):(MLo x y).toNat+(MH x y).toNat*18446744073709551616=x.toNat*y.toNat:=by
 have:=BI x.isLt y.isLt
 simp only[MH,MLo,BitVec.toNat_ofNat]
 omega
theorem VB(x y:BitVec 64):(x>>>32)*(y>>>32)+(((x>>>32)*(y &&& 4294967295#64)+((x &&& 4294967295#64)*(y &&& 4294967295#64))>>>32)>>>32)+
 ((((x>>>32)*(y &&& 4294967295#64)+((x &&& 4294967295#64)*(y &&& 4294967295#64))>>>32) &&& 4294967295#64)+(x &&& 4294967295#64)*(y>>>32))>>>32=MH x y:=by
 have hx:=x.isLt
 have hy:=y.isLt
 have m32: ∀n:Nat,n &&& 4294967295=n % 4294967296:=fun n=>Nat.and_two_pow_sub_one_eq_mod n 32
 have s32: ∀n:Nat,n>>>32=n / 4294967296:=fun n=>Nat.shiftRight_eq_div_pow n 32
 apply BitVec.eq_of_toNat_eq
 simp only[MH,BitVec.toNat_ofNat,BitVec.toNat_add,BitVec.toNat_mul,BitVec.toNat_ushiftRight,BitVec.toNat_and,m32,s32,Nat.reduceMod,Nat.reducePow]
 rw[zI x.toNat y.toNat]
 have a1:x.toNat / 4294967296≤4294967295:=om
 have a2:x.toNat % 4294967296≤4294967295:=om
 have a3:y.toNat / 4294967296≤4294967295:=om
 have a4:y.toNat % 4294967296≤4294967295:=om
 generalize x.toNat / 4294967296=a at*
 generalize x.toNat % 4294967296=b at*
 generalize y.toNat / 4294967296=c at*
 generalize y.toNat % 4294967296=d at*
 have b1:a*c≤4294967295*4294967295:=Nat.mul_le_mul a1 a3
 have b2:a*d≤4294967295*4294967295:=Nat.mul_le_mul a1 a4
 have b3:b*c≤4294967295*4294967295:=Nat.mul_le_mul a2 a3
 have b4:b*d≤4294967295*4294967295:=Nat.mul_le_mul a2 a4
 generalize a*c=p at*
 generalize a*d=q at*
 generalize b*c=r at*
 generalize b*d=s at*
 omega
theorem MF(x y:BitVec 64):x*y=MLo x y:=by
 apply BitVec.eq_of_toNat_eq
 simp[MLo,BitVec.toNat_mul]
def MA(x y c d:BitVec 64):BitVec 64×BitVec 64:=((ADC (ADC (MLo x y) c 0).1 d 0).1,MH x y+(ADC (MLo x y) c 0).2+(ADC (ADC (MLo x y) c 0).1 d 0).2)
theorem lQ(x y:BitVec 64):(ADC x y 0).1.toNat+(ADC x y 0).2.toNat*18446744073709551616=x.toNat+y.toNat:=by
 have h:=yF x y 0
 rw[show (0:BitVec 64).toNat=0 from rfl,Nat.add_zero]at h
 exact h
theorem Ot{l2 c2 l1 c1 hi lo p c d:Nat}(h1:lo+hi*18446744073709551616=p)(h2:l1+c1*18446744073709551616=lo+c)(h3:l2+c2*18446744073709551616=l1+d)(h4:p≤340282366920938463426481119284349108225)
 (h5:c<18446744073709551616) (h6:d<18446744073709551616) (_h7:l2<18446744073709551616):l2+((hi+c1) % 18446744073709551616+c2) % 18446744073709551616*18446744073709551616=p+c+d:=by
 have e0:(hi+c1+c2)*18446744073709551616+l2=p+c+d:=om
 have e1:hi+c1+c2<18446744073709551616:=by
  clear h1 h2 h3
  omega
 rw[Nat.mod_eq_of_lt (Nat.lt_of_le_of_lt (Nat.le_add_right _ c2) e1),Nat.mod_eq_of_lt e1]
 exact (Nat.add_comm _ _).trans e0
theorem rF(x y c d:BitVec 64):(MA x y c d).1.toNat+(MA x y c d).2.toNat*18446744073709551616=x.toNat*y.toNat+c.toNat+d.toNat:=
 Ot (Ob x y) (lQ (MLo x y) c) (lQ (ADC (MLo x y) c 0).1 d) (BI x.isLt y.isLt) c.isLt d.isLt (ADC (ADC (MLo x y) c 0).1 d 0).1.isLt
def MI(x:BitVec 64)(b:L6)(i:Nat)(p:L6):Nat→L6×BitVec 64
 |0=>(p,0)
 |j+1=>((MI x b i p j).1.set (i+j) (MA x (b.getD j 0) ((MI x b i p j).1.getD (i+j) 0) (MI x b i p j).2).1,(MA x (b.getD j 0) ((MI x b i p j).1.getD (i+j) 0) (MI x b i p j).2).2)
theorem v9(x:BitVec 64)(b:L6)(i:Nat)(p:L6): ∀j,(MI x b i p j).1.length=p.length
 |0=>rfl
 |j+1=>by simp[MI,v9 x b i p j]
theorem BJ(x:BitVec 64)(b:L6)(i n:Nat)(p:L6)(hp:p.length=n): ∀j,i+j≤n→V (MI x b i p j).1 n+(MI x b i p j).2.toNat*2^(64*(i+j))=V p n+x.toNat*V b j*2^(64*i)
 |0,_=>by simp[MI,V]
 |j+1,h=>by
  have ih:=BJ x b i n p hp j om
  have hs:=Dz (MI x b i p j).1 (i+j) (MA x (b.getD j 0) ((MI x b i p j).1.getD (i+j) 0) (MI x b i p j).2).1 (by rw[v9];omega) n om
  have hv:=rF x (b.getD j 0) ((MI x b i p j).1.getD (i+j) 0) (MI x b i p j).2
  rw[MI,V,←Nat.add_assoc i j 1,kD]
  dsimp only
  have e0:x.toNat*(V b j+(b.getD j 0).toNat*2^(64*j))*2^(64*i)=x.toNat*V b j*2^(64*i)+x.toNat*(b.getD j 0).toNat*2^(64*(i+j)):=by
   rw[Nat.mul_add x.toNat,Nat.add_mul,←Nat.mul_assoc x.toNat,Nat.mul_assoc (x.toNat*(b.getD j 0).toNat),←Nat.pow_add,Nat.mul_add 64 i j,Nat.add_comm (64*j)]
  rw[e0]
  generalize (MA x (b.getD j 0) ((MI x b i p j).1.getD (i+j) 0) (MI x b i p j).2).1=lo at*
  generalize (MA x (b.getD j 0) ((MI x b i p j).1.getD (i+j) 0) (MI x b i p j).2).2.toNat=hi at*
  generalize 2^(64*(i+j))=q at*
  generalize x.toNat*(b.getD j 0).toNat=xy at*
  have e1:lo.toNat*q+hi*(q*18446744073709551616)=(lo.toNat+hi*18446744073709551616)*q:=by rw[Nat.add_mul,Nat.mul_comm q,←Nat.mul_assoc]
  rw[hv,Nat.add_mul,Nat.add_mul]at e1
  omega
def MU(a b:L6):Nat→L6
 |0=>List.replicate 12 0
 |i+1=>(MI (a.getD i 0) b i (MU a b i) 6).1.set (i+6) (MI (a.getD i 0) b i (MU a b i) 6).2
end
section
/-! ### Bits of a number -/
theorem BS(l:L6)(q:Nat): ∀n,q≤n→∃k,V l n=V l q+2^(64*q)*k
 |0,h=>⟨0,by obtain rfl:q=0:=om
             simp⟩
 |n+1,h=>by
  rcases Nat.lt_or_ge q (n+1)with h'|h'
  ·obtain ⟨k,hk⟩:=BS l q n om
   refine ⟨k+(l.getD n 0).toNat*2^(64*(n-q)), ?_⟩
   rw[V,hk,Nat.mul_add,Nat.add_assoc,←Nat.mul_assoc,Nat.mul_comm (2^(64*q)) (l.getD n 0).toNat,Nat.mul_assoc,←Nat.pow_add,←Nat.mul_add,show q+(n-q)=n by omega]
  ·obtain rfl:q=n+1:=om
   exact ⟨0,sm⟩
def dig(a:L6)(n:Nat):BitVec 64:=(a.getD (n / 64) 0>>>(n % 64)) &&& 1#64
theorem Qw(a:L6)(q s:Nat)(hs:s<64):(a.getD q 0>>>s) &&& 1#64=dig a (64*q+s):=by
 rw[dig,show (64*q+s) / 64=q by omega,show (64*q+s) % 64=s by omega]
theorem half(x k r:Nat)(hr:r<64):(x+18446744073709551616*k) / 2^r % 2=x / 2^r % 2:=by
 have e:(18446744073709551616:Nat)=2^r*(2^(63-r)*2):=by
  rw[←Nat.pow_succ,←Nat.pow_add,show r+(63-r).succ=64 by omega]
 rw[e,Nat.mul_assoc,Nat.add_mul_div_left _ _ (Nat.two_pow_pos r),Nat.mul_right_comm,Nat.add_mul_mod_self_right]
theorem sC(a:L6)(N n:Nat)(h:n<64*N):(dig a n).toNat=V a N / 2^n % 2:=by
 obtain ⟨k,hk⟩:=BS a (n / 64+1) N om
 have h1:V a N / 2^(64*(n / 64))=(a.getD (n / 64) 0).toNat+18446744073709551616*k:=by
  rw[hk,kD,Nat.mul_assoc,Nat.add_mul_div_left _ _ (Nat.two_pow_pos _),DF]
 have h2:2^n=2^(64*(n / 64))*2^(n % 64):=by rw[←Nat.pow_add,Nat.div_add_mod]
 rw[h2,←Nat.div_div_eq_div_mul,h1,half _ _ _ (Nat.mod_lt _ dc)]
 rw[dig,BitVec.toNat_and,BitVec.toNat_ushiftRight,Nat.shiftRight_eq_div_pow]
 exact Nat.and_one_is_mod _
theorem Ng(a:L6)(n:Nat):(dig a n).toNat≤1:=by
 rw[dig,BitVec.toNat_and]
 have:=Nat.and_one_is_mod (a.getD (n / 64) 0>>>(n % 64)).toNat
 show (a.getD (n / 64) 0>>>(n % 64)).toNat &&& 1≤1
 omega
def R6:Nat:=2^(64*6)
theorem fM:R6=2^(64*6):=by rw[R6]
theorem jv(l:L6):V l 6<R6:=by rw[fM];exact ue l 6
theorem xf(a b:L6):V (AS a b 6).1 6+(AS a b 6).2.toNat*R6=V a 6+V b 6:=by rw[fM];exact E5 a b 6 (Nat.le_refl _)
theorem y8(a b:L6):V (SS a b 6).1 6+V b 6=V a 6+(SS a b 6).2.toNat*R6:=by rw[fM];exact Er a b 6 (Nat.le_refl _)
/-! ### What is left of a number below twice the modulus -/
def RED(a:L6)(top:BitVec 64)(m:L6):L6:=if top=0∧(SS a m 6).2=1 then a else (SS a m 6).1
theorem iU(a:L6)(top:BitVec 64)(m:L6)(ha:a.length=6):(RED a top m).length=6:=by
 unfold RED
 split
 ·exact ha
 ·exact aM _ _ _
theorem iq(x:BitVec 64)(h:x.toNat≤1):x=0∧x.toNat=0∨x=1∧x.toNat=1:=by
 have:x.toNat=0∨x.toNat=1:=om
 rcases this with h|h
 ·exact .inl ⟨BitVec.eq_of_toNat_eq h,h⟩
 ·exact .inr ⟨BitVec.eq_of_toNat_eq h,h⟩
theorem rc{x m:Nat}(h:m≤x)(h':x<2*m):x % m=x-m:=by
 rw[Nat.mod_eq_sub_mod h,Nat.mod_eq_of_lt om]
theorem one_ne: ¬(1:BitVec 64)=0:=dc
theorem Ii: ¬(0:BitVec 64)=1:=dc
theorem wZ(a:L6)(top:BitVec 64)(m:L6)(ht:top.toNat≤1)(hA:V a 6+top.toNat*R6<2*V m 6):V (RED a top m) 6=(V a 6+top.toNat*R6) % V m 6:=by
 have hs:=y8 a m
 have h1:=jv (SS a m 6).1
 have h2:=jv m
 have h3:=jv a
 unfold RED
 rcases iq top ht with ⟨e1,e2⟩|⟨e1,e2⟩<;>rcases iq _ (wT a m 6)with ⟨f1,f2⟩|⟨f1,f2⟩
 ·rw[if_neg (by rw[f1];exact fun h=>Ii h.2)]
  rw[e2]at hA⊢
  rw[f2]at hs
  rw[Nat.zero_mul,Nat.add_zero]at*
  rw[rc om hA]
  omega
 ·rw[if_pos ⟨e1,f1⟩]
  rw[e2]at hA⊢
  rw[f2]at hs
  rw[Nat.zero_mul,Nat.add_zero]at*
  rw[Nat.mod_eq_of_lt om]
 ·rw[if_neg (by rw[e1];exact fun h=>one_ne h.1)]
  rw[e2]at hA⊢
  rw[f2]at hs
  rw[Nat.one_mul]at*
  omega
 ·rw[if_neg (by rw[e1];exact fun h=>one_ne h.1)]
  rw[e2]at hA⊢
  rw[f2]at hs
  rw[Nat.one_mul]at*
  rw[rc om hA]
  omega
/-! ### Bit by bit -/
def TW(l:L6)(d:BitVec 64):L6:=(AS l l 6).1.set 0 ((AS l l 6).1.getD 0 0|||d)
theorem wm(l:L6)(d:BitVec 64):(TW l d).length=6:=by rw[TW,List.length_set,aR]
theorem Qf(x d:BitVec 64)(hx:x.toNat % 2=0)(hd:d.toNat≤1):(x|||d).toNat=x.toNat+d.toNat:=by
 rw[BitVec.toNat_or]
 have h:=Nat.two_pow_add_eq_or_of_lt (i:=1) (b:=d.toNat) om (x.toNat / 2)
 rw[show 2^1*(x.toNat / 2)=x.toNat by omega]at h
 exact h.symm
theorem F2(l:L6): ∀i,(AS l l (i+1)).1.getD 0 0=(ADC (l.getD 0 0) (l.getD 0 0) 0).1
 |0=>by rw[AS];exact dp _ _ _ (by rw[aR];omega)
 |i+1=>by rw[AS,fu _ _ _ _ om,F2 l i]
theorem O7(l:L6)(d:BitVec 64)(hd:d.toNat≤1):V (TW l d) 6+(AS l l 6).2.toNat*R6=2*V l 6+d.toNat:=by
 have h1:=xf l l
 have h2:=Dz (AS l l 6).1 0 ((AS l l 6).1.getD 0 0|||d) (by rw[aR];omega) 6 om
 have h4:((AS l l 6).1.getD 0 0).toNat % 2=0:=by
  rw[F2 l 5,ADC]
  simp only[BitVec.toNat_ofNat]
  rw[show (0:BitVec 64).toNat=0 from rfl]
  omega
 rw[Qf _ _ h4 hd,show 2^(64*0)=1 from rfl,Nat.mul_one,Nat.mul_one]at h2
 rw[TW]
 omega
def MDs(t m:L6):Nat→L6
 |0=>List.replicate 6 0
 |j+1=>RED (TW (MDs t m j) (dig t (767-j))) (AS (MDs t m j) (MDs t m j) 6).2 m
theorem gc(t m:L6): ∀j,(MDs t m j).length=6
 |0=>rfl
 |_+1=>iU _ _ _ (wm _ _)
theorem Gm(E X j:Nat)(hE:E=768)(hj:j<768):X / 2^(E-(j+1))=2*(X / 2^(E-j))+X / 2^(767-j) % 2:=by
 rw[show E-(j+1)=767-j by omega,show E-j=(767-j)+1 by omega,Nat.pow_succ,←Nat.div_div_eq_div_mul]
 omega
theorem Ey{x m:Nat}(d:Nat):(2*(x % m)+d) % m=(2*x+d) % m:=by
 rw[Nat.add_mod,Nat.mul_mod,Nat.mod_mod,←Nat.mul_mod,←Nat.add_mod]
theorem rf(t m:L6)(hm:0<V m 6)(E:Nat)(hE:E=768): ∀j,j≤768→V (MDs t m j) 6=V t 12 / 2^(E-j) % V m 6
 |0,_=>by
  rw[MDs,show V (List.replicate 6 0) 6=0 from jM 6 6,show E-0=64*12 by omega,Nat.div_eq_of_lt (ue t 12),Nat.zero_mod]
 |j+1,h=>by
  have ih:=rf t m hm E hE j om
  have hd:=sC t 12 (767-j) om
  have hle:=Ng t (767-j)
  have ht:=O7 (MDs t m j) (dig t (767-j)) hle
  have hlt:=Nat.mod_lt (V t 12 / 2^(E-j)) hm
  rw[MDs,wZ _ _ _ (Hm _ _ _) (by rw[ht,ih];omega),ht,ih,hd,Ey,←Gm E _ _ hE om]
theorem JA(m:L6)(h:m.length=6)(hm:m≠List.replicate 6 0):0<V m 6:=by
 rcases Nat.eq_zero_or_pos (V m 6)with h0|h0
 ·exact absurd (yh 6 h sm (h0.trans (jM 6 6).symm)) hm
 ·exact h0
def MOD(t m:L6):L6:=if m=List.replicate 6 0 then List.replicate 6 0 else MDs t m 768
theorem nR(t m:L6):(MOD t m).length=6:=by
 unfold MOD
 split
 ·rfl
 ·exact gc _ _ _
theorem HZ(t m:L6)(h:m.length=6)(hm:m≠List.replicate 6 0):V (MOD t m) 6=V t 12 % V m 6:=by
 obtain ⟨E,hE⟩: ∃E,E=768:=⟨768,rfl⟩
 rw[MOD,if_neg hm,rf t m (JA m h hm) E hE 768 (Nat.le_refl _),show E-768=0 by omega,Nat.pow_zero,Nat.div_one]
/-! ### The same by shifts -/
end
section
/-! ### The inverse of an odd part -/
def IV(n:BitVec 64):Nat→BitVec 64
 |0=>n
 |k+1=>IV n k*(2#64-n*IV n k)
def IW(n:BitVec 64):Nat→BitVec 64
 |0=>n*n-1
 |k+1=>IW n k*IW n k
theorem Uz(n:BitVec 64): ∀k,n*IV n k-1=IW n k∨n*IV n k-1= -IW n k
 |0=>.inl rfl
 |k+1=>by
  right
  have h:n*(IV n k*(2#64-n*IV n k))-1= -((n*IV n k-1)*(n*IV n k-1)):=by grind
  rw[IV,IW,h]
  rcases Uz n k with e|e
  ·rw[e]
  ·rw[e];grind
theorem QI(n:BitVec 64)(h:n.toNat % 2=1): ∃z:BitVec 64,n*n-1=8#64*z:=by
 refine ⟨(n*n-1)>>>3, ?_⟩
 have h1:(n*n-1).toNat % 8=0:=by
  have e:(n*n).toNat=n.toNat*n.toNat % 18446744073709551616:=BitVec.toNat_mul n n
  have e1:n.toNat*n.toNat % 8=1:=by
   have:n.toNat % 8=1∨n.toNat % 8=3∨n.toNat % 8=5∨n.toNat % 8=7:=om
   rw[Nat.mul_mod]
   rcases this with h|h|h|h<;>rw[h]
  rw[BitVec.toNat_sub,e,show (1:BitVec 64).toNat=1 from rfl]
  omega
 apply BitVec.eq_of_toNat_eq
 rw[BitVec.toNat_mul,BitVec.toNat_ushiftRight,Nat.shiftRight_eq_div_pow,show (8#64).toNat=8 from rfl]
 have:=(n*n-1).isLt
 omega
theorem Jh(n:BitVec 64)(h:n.toNat % 2=1):IW n 5=0:=by
 obtain ⟨z,hz⟩:=QI n h
 have h1:IW n 1=64#64*(z*z):=by rw[IW,IW,hz];grind
 have h2:IW n 2=4096#64*((z*z)*(z*z)):=by rw[show IW n 2=IW n 1*IW n 1 from rfl,h1];grind
 have h3:IW n 3=16777216#64*(((z*z)*(z*z))*((z*z)*(z*z))):=by rw[show IW n 3=IW n 2*IW n 2 from rfl,h2];generalize (z*z)*(z*z)=y;grind
 generalize ((z*z)*(z*z))*((z*z)*(z*z))=y at h3
 have h4:IW n 4=281474976710656#64*(y*y):=by rw[show IW n 4=IW n 3*IW n 3 from rfl,h3];grind
 rw[show IW n 5=IW n 4*IW n 4 from rfl,h4]
 generalize y*y=x
 have:281474976710656#64*x*(281474976710656#64*x)=(281474976710656#64*281474976710656#64)*(x*x):=by grind
 rw[this,show 281474976710656#64*281474976710656#64=0#64 from by decide]
 exact BitVec.zero_mul
theorem Qh(n:BitVec 64)(h:n.toNat % 2=1):n*IV n 5=1:=by
 have h0:=Jh n h
 rcases Uz n 5 with e|e<;>rw[h0]at e
 ·have:n*IV n 5=(n*IV n 5-1)+1:=by grind
  rw[this,e];rfl
 ·have:n*IV n 5=(n*IV n 5-1)+1:=by grind
  rw[this,e];rfl
/-! ### One row -/
def MJ(x:BitVec 64)(b:L6)(p:L6):Nat→L6×BitVec 64
 |0=>(p,0)
 |j+1=>((MJ x b p j).1.set j (MA x (b.getD j 0) ((MJ x b p j).1.getD j 0) (MJ x b p j).2).1,(MA x (b.getD j 0) ((MJ x b p j).1.getD j 0) (MJ x b p j).2).2)
theorem Eh(x:BitVec 64)(b p:L6): ∀j,MJ x b p j=MI x b 0 p j
 |0=>rfl
 |j+1=>by rw[MJ,MI,Eh x b p j,Nat.zero_add]
theorem jp(x:BitVec 64)(b p:L6)(j:Nat):(MJ x b p j).1.length=p.length:=by rw[Eh,v9]
theorem Qe(x:BitVec 64)(b p:L6)(hp:p.length=6):V (MJ x b p 6).1 6+(MJ x b p 6).2.toNat*R6=V p 6+x.toNat*V b 6:=by
 have h:=BJ x b 0 6 p hp 6 om
 rw[←Eh,Nat.zero_add,←fM,Nat.mul_zero,Nat.pow_zero,Nat.mul_one]at h
 exact h
def MR(t:BitVec 64)(m s:L6):Nat→L6×BitVec 64
 |0=>(s,(MA t (m.getD 0 0) (s.getD 0 0) 0).2)
 |j+1=>((MR t m s j).1.set j (MA t (m.getD (j+1) 0) ((MR t m s j).1.getD (j+1) 0) (MR t m s j).2).1,(MA t (m.getD (j+1) 0) ((MR t m s j).1.getD (j+1) 0) (MR t m s j).2).2)
theorem ip(t:BitVec 64)(m s:L6): ∀j,(MR t m s j).1.length=s.length
 |0=>rfl
 |j+1=>by simp[MR,ip t m s j]
theorem Gq(t:BitVec 64)(m s:L6)(k:Nat): ∀j,j≤k→(MR t m s j).1.getD k 0=s.getD k 0
 |0,_=>rfl
 |j+1,h=>by rw[MR,fu _ _ _ _ om,Gq t m s k j om]
theorem OG{Vj c Z X1 X2 s t1 t2:Nat}(B:Nat)(h:(Vj+c)*B=Z+t2)(e:X1+X2=t1+s+c):(Vj+X1+X2)*B=Z+s*B+(t2+t1*B):=by
 rw[Nat.add_assoc,e,Nat.add_mul,Nat.add_mul,Nat.add_mul]
 rw[Nat.add_mul]at h
 omega
theorem Cn(t:BitVec 64)(m s:L6)(hs:s.length=6)(h0:(MA t (m.getD 0 0) (s.getD 0 0) 0).1=0): ∀j,j≤5→(V (MR t m s j).1 j+(MR t m s j).2.toNat*2^(64*j))*18446744073709551616=V s (j+1)+t.toNat*V m (j+1)
 |0,_=>by
  have h:=rF t (m.getD 0 0) (s.getD 0 0) 0
  rw[h0,show (0:BitVec 64).toNat=0 from rfl]at h
  rw[V,V,V,V,V,show 2^(64*0)=1 from rfl,MR]
  simp only[Nat.zero_add,Nat.mul_one]
  omega
 |j+1,h=>by
  have ih:=Cn t m s hs h0 j om
  have hv:=rF t (m.getD (j+1) 0) ((MR t m s j).1.getD (j+1) 0) (MR t m s j).2
  rw[show V s (j+1+1)=V s (j+1)+(s.getD (j+1) 0).toNat*2^(64*(j+1))from rfl,show V m (j+1+1)=V m (j+1)+(m.getD (j+1) 0).toNat*2^(64*(j+1))from rfl]
  rw[MR,V,iz _ _ _ j (Nat.le_refl _),dp _ _ _ (by rw[ip];omega)]
  dsimp only
  rw[Gq t m s (j+1) j om]at hv⊢
  rw[kD]
  generalize (MA t (m.getD (j+1) 0) (s.getD (j+1) 0) (MR t m s j).2).1.toNat=lo at*
  generalize (MA t (m.getD (j+1) 0) (s.getD (j+1) 0) (MR t m s j).2).2.toNat=hi at*
  generalize 2^(64*j)=q at*
  have e1:lo*q+hi*(q*18446744073709551616)=(lo+hi*18446744073709551616)*q:=by rw[Nat.add_mul,Nat.mul_comm q,←Nat.mul_assoc]
  rw[hv,Nat.add_mul,Nat.add_mul]at e1
  have e2:t.toNat*(V m (j+1)+(m.getD (j+1) 0).toNat*(q*18446744073709551616))=t.toNat*V m (j+1)+t.toNat*(m.getD (j+1) 0).toNat*q*18446744073709551616:=by
   rw[Nat.mul_add,←Nat.mul_assoc t.toNat (m.getD (j+1) 0).toNat,←Nat.mul_assoc (t.toNat*(m.getD (j+1) 0).toNat) q]
  have e3:(s.getD (j+1) 0).toNat*(q*18446744073709551616)=(s.getD (j+1) 0).toNat*q*18446744073709551616:=by rw[←Nat.mul_assoc]
  rw[e2,e3]
  clear h0 hv e2 e3
  exact OG _ ih e1
theorem qg(l:L6)(i:Nat):V l (i+1)=V l i+(l.getD i 0).toNat*2^(64*i):=rfl
def MO(a b m:L6)(cl:BitVec 64):Nat→L6×BitVec 64
 |0=>(List.replicate 6 0,0)
 |i+1=>
  let s:=MJ (a.getD i 0) b (MO a b m cl i).1 6
  let p:=ADC (MO a b m cl i).2 s.2 0
  let r:=MR (s.1.getD 0 0*cl) m s.1 5
  let q:=ADC p.1 r.2 0
  (r.1.set 5 q.1,p.2+q.2)
theorem nO(a b m:L6)(cl:BitVec 64)(i:Nat){s r:L6×BitVec 64}(hs:MJ (a.getD i 0) b (MO a b m cl i).1 6=s)(hr:MR (s.1.getD 0 0*cl) m s.1 5=r):
 MO a b m cl (i+1)=(r.1.set 5 (ADC (ADC (MO a b m cl i).2 s.2 0).1 r.2 0).1,(ADC (MO a b m cl i).2 s.2 0).2+(ADC (ADC (MO a b m cl i).2 s.2 0).1 r.2 0).2):=by
 subst hs
 subst hr
 rw[MO]
theorem dM(a b m:L6)(cl:BitVec 64): ∀i,(MO a b m cl i).1.length=6
 |0=>rfl
 |i+1=>by simp[MO,ip,jp,dM a b m cl i]
theorem It{lo hi p s:Nat}(h:lo+hi*18446744073709551616=p+s+0)(h1:lo<18446744073709551616)(h2:(p+s) % 18446744073709551616=0):lo=0:=om
theorem BR(s0 m0 cl:BitVec 64)(h:m0*cl= -1):(MA (s0*cl) m0 s0 0).1=0:=by
 have hv:=rF (s0*cl) m0 s0 0
 have hlt:=(MA (s0*cl) m0 s0 0).1.isLt
 have e:s0*cl*m0+s0=0:=by
  have:s0*cl*m0+s0=s0*(m0*cl)+s0:=by grind
  rw[this,h];grind
 have e2:=congrArg BitVec.toNat e
 rw[BitVec.toNat_add,BitVec.toNat_mul]at e2
 rw[show (0:BitVec 64).toNat=0 from rfl]at e2 hv
 apply BitVec.eq_of_toNat_eq
 rw[show (0:BitVec 64).toNat=0 from rfl]
 rw[Nat.add_mod,Nat.mod_mod,←Nat.add_mod]at e2
 exact It hv hlt e2
theorem NM{q5 V0 V1 V5 s0 c p1 p2 r x5 q2 B M t top R:Nat}(W:Nat)(hR:R=q5*W)
 (h1:V1+c*R=V0+s0*B) (h2:p1+p2*W=top+c) (h3:(V5+r*q5)*W=V1+t*M) (h4:x5+q2*W=p1+r):
 (V5+x5*q5+(p2+q2)*R)*W=V0+top*R+s0*B+t*M:=by
 have e4:(x5+q2*W)*R=(p1+r)*R:=by rw[h4]
 have e2:(p1+p2*W)*R=(top+c)*R:=by rw[h2]
 have e3:V5*W+r*R=V1+t*M:=by rw[←h3,Nat.add_mul,Nat.mul_assoc,←hR]
 have eg:(V5+x5*q5+(p2+q2)*R)*W=V5*W+x5*R+(p2*W*R+q2*W*R):=by
  rw[Nat.add_mul,Nat.add_mul,Nat.mul_assoc x5,←hR,Nat.add_mul,Nat.add_mul,Nat.mul_right_comm,Nat.mul_right_comm q2]
 rw[Nat.add_mul,Nat.add_mul]at e4 e2
 rw[eg]
 omega
theorem Jd(n:Nat)(h:n=5+1):2^(64*n)=2^(64*5)*18446744073709551616:=by rw[h];exact kD 5
theorem Nf:R6=2^(64*5)*18446744073709551616:=by rw[fM];exact Jd 6 rfl
theorem Hn(a b m:L6)(cl:BitVec 64)(hcl:m.getD 0 0*cl= -1)(i:Nat):
 ∃t,t<18446744073709551616∧(V (MO a b m cl (i+1)).1 6+(MO a b m cl (i+1)).2.toNat*R6)*18446744073709551616=V (MO a b m cl i).1 6+(MO a b m cl i).2.toNat*R6+(a.getD i 0).toNat*V b 6+t*V m 6:=by
 have h1:=Qe (a.getD i 0) b (MO a b m cl i).1 (dM a b m cl i)
 have hl:(MJ (a.getD i 0) b (MO a b m cl i).1 6).1.length=6:=by rw[jp,dM]
 rw[MO]
 dsimp only
 generalize MJ (a.getD i 0) b (MO a b m cl i).1 6=s at*
 have h2:=lQ (MO a b m cl i).2 s.2
 have hp:=Do (MO a b m cl i).2 s.2 0 dc
 generalize ADC (MO a b m cl i).2 s.2 0=p at*
 have h3:=Cn (s.1.getD 0 0*cl) m s.1 hl (BR _ _ _ hcl) 5 (Nat.le_refl _)
 have hl2:(MR (s.1.getD 0 0*cl) m s.1 5).1.length=6:=by rw[ip,hl]
 refine ⟨(s.1.getD 0 0*cl).toNat,(s.1.getD 0 0*cl).isLt, ?_⟩
 generalize s.1.getD 0 0*cl=t at*
 generalize MR t m s.1 5=r at*
 have h4:=lQ p.1 r.2
 have hq:=Do p.1 r.2 0 dc
 generalize ADC p.1 r.2 0=q at*
 have e:V (r.1.set 5 q.1) 6=V r.1 5+q.1.toNat*2^(64*5):=by
  refine (qg _ 5).trans ?_
  rw[iz _ _ _ 5 (Nat.le_refl _),dp _ _ _ om]
 have e2:(p.2+q.2).toNat=p.2.toNat+q.2.toNat:=by rw[BitVec.toNat_add];omega
 rw[e,e2]
 exact NM _ Nf h1 h2 h3 h4
theorem E0(a b m:L6)(cl:BitVec 64)(hcl:m.getD 0 0*cl= -1): ∀i,∃Q,Q<2^(64*i)∧(V (MO a b m cl i).1 6+(MO a b m cl i).2.toNat*R6)*2^(64*i)=V a i*V b 6+Q*V m 6
 |0=>⟨0,dc,by
  rw[MO,show V (List.replicate 6 0) 6=0 from jM 6 6,show (0:BitVec 64).toNat=0 from rfl,V]
  simp⟩
 |i+1=>by
  obtain ⟨Q,hQ,ih⟩:=E0 a b m cl hcl i
  obtain ⟨t,ht,hs⟩:=Hn a b m cl hcl i
  refine ⟨Q+t*2^(64*i), ?_, ?_⟩
  ·rw[kD]
   have:t*2^(64*i)≤18446744073709551615*2^(64*i):=Nat.mul_le_mul_right _ om
   omega
  ·rw[kD,Nat.mul_comm (2^(64*i)),←Nat.mul_assoc,hs,show V a (i+1)=V a i+(a.getD i 0).toNat*2^(64*i)from rfl]
   generalize V (MO a b m cl i).1 6+(MO a b m cl i).2.toNat*R6=S at*
   generalize 2^(64*i)=q at*
   rw[Nat.add_mul,Nat.add_mul,ih,Nat.add_mul,Nat.add_mul,Nat.mul_right_comm (a.getD i 0).toNat,Nat.mul_right_comm t]
   omega
/-! ### The product -/
def MN(a b m:L6):L6:=RED (MO a b m (-(IV (m.getD 0 0) 5)) 6).1 (MO a b m (-(IV (m.getD 0 0) 5)) 6).2 m
def lR(a b m:L6):L6:=
 if m.getD 0 0 % 2=0 then List.replicate 6 0 else if LT a m 6 then MN a b m else MN (MOD (a++List.replicate 6 0) m) b m
theorem MZ(a b m:L6):(MN a b m).length=6:=iU _ _ _ (dM _ _ _ _ _)
theorem PI:0<R6:=Nat.lt_of_le_of_lt (Nat.zero_le _) (jv [])
theorem Dh(a b m:L6)(hm:(m.getD 0 0).toNat % 2=1)(ha:V a 6<V m 6):V (MN a b m) 6<V m 6∧V (MN a b m) 6*R6 % V m 6=V a 6*V b 6 % V m 6:=by
 have hcl:m.getD 0 0* -(IV (m.getD 0 0) 5)= -1:=by
  have h:=Qh _ hm
  have:m.getD 0 0* -(IV (m.getD 0 0) 5)= -(m.getD 0 0*IV (m.getD 0 0) 5):=by grind
  rw[this,h]
 obtain ⟨Q,hQ,h⟩:=E0 a b m _ hcl 6
 rw[←fM]at hQ h
 have hR:=PI
 have hb:=jv b
 have hml:=jv m
 unfold MN
 generalize MO a b m (-(IV (m.getD 0 0) 5)) 6=s at*
 have hS:V s.1 6+s.2.toNat*R6<2*V m 6:=by
  have b1:V a 6*V b 6≤V m 6*R6:=Nat.mul_le_mul (Nat.le_of_lt ha) (Nat.le_of_lt hb)
  have b2:Q*V m 6<R6*V m 6:=(Nat.mul_lt_mul_right om).2 hQ
  have b3:(V s.1 6+s.2.toNat*R6)*R6<2*V m 6*R6:=by
   rw[h,Nat.mul_assoc,Nat.mul_comm R6]at*
   omega
  exact Nat.lt_of_mul_lt_mul_right b3
 have ht:s.2.toNat≤1:=by
  rcases Nat.lt_or_ge s.2.toNat 2 with h'|h'
  ·omega
  ·have:2*R6≤s.2.toNat*R6:=Nat.mul_le_mul_right _ h'
   omega
 rw[wZ _ _ _ ht hS]
 refine ⟨Nat.mod_lt _ om, ?_⟩
 rw[Nat.mul_mod,Nat.mod_mod,←Nat.mul_mod,h,Nat.add_mul_mod_self_right]
theorem RL(a:L6)(h:a.length=6):V (a++List.replicate 6 0) 12=V a 6:=by
 have key: ∀k,k≤6→V (a++List.replicate 6 0) k=V a k:=fun k=>by
  induction k with
  |zero=>intro _;rfl
  |succ k ih=>
   intro hk
   rw[V,V,ih om]
   simp only[List.getD_eq_getElem?_getD]
   rw[List.getElem?_append_left om]
 have z: ∀k,6≤k→(a++List.replicate 6 0).getD k 0=0:=fun k hk=>by
  rw[List.getD_eq_getElem?_getD,List.getElem?_append_right om,List.getElem?_replicate]
  split<;>rfl
 have key2: ∀k,V (a++List.replicate 6 0) (6+k)=V a 6:=fun k=>by
  induction k with
  |zero=>exact key 6 (Nat.le_refl _)
  |succ k ih=>
   rw[←Nat.add_assoc,V,ih,z _ om,show (0:BitVec 64).toNat=0 from rfl,Nat.zero_mul,Nat.add_zero]
 exact key2 6
theorem NW(m:L6)(h: ¬m.getD 0 0 % 2=0):(m.getD 0 0).toNat % 2=1:=by
 have h1: ¬(m.getD 0 0).toNat % 2=0:=fun e=>h (by
  apply BitVec.eq_of_toNat_eq
  rw[BitVec.toNat_umod]
  exact e)
 omega
theorem NX(m:L6)(h:(m.getD 0 0).toNat % 2=1):m≠List.replicate 6 0:=fun e=>by
 rw[e]at h
 exact absurd h dc
theorem aC(a b m:L6):(lR a b m).length=6:=by
 unfold lR
 split
 ·rfl
 ·split<;>exact MZ _ _ _
theorem D0(a b m:L6)(hal:a.length=6)(hml:m.length=6)(h: ¬m.getD 0 0 % 2=0):V (lR a b m) 6<V m 6∧V (lR a b m) 6*R6 % V m 6=V a 6*V b 6 % V m 6:=by
 have ho:=NW m h
 have hnz:=NX m ho
 have hpos:=JA m hml hnz
 rw[lR,if_neg h]
 by_cases hl:LT a m 6=true
 ·rw[if_pos hl]
  rw[qk]at hl
  exact Dh a b m ho (of_decide_eq_true hl)
 ·rw[if_neg hl]
  have hv:=HZ (a++List.replicate 6 0) m hml hnz
  rw[RL a hal]at hv
  have h1:=Dh (MOD (a++List.replicate 6 0) m) b m ho (by rw[hv];exact Nat.mod_lt _ hpos)
  refine ⟨h1.1,h1.2.trans ?_⟩
  rw[hv,Nat.mul_mod,Nat.mod_mod,←Nat.mul_mod]
end
section
def Pr(n:Nat):Prop:=1<n∧∀d,d∣n→d=1∨d=n
theorem Pr.coprime{p a:Nat}(hp:Pr p)(h: ¬p∣a):Nat.Coprime p a:=by
 rcases hp.2 (Nat.gcd p a) (Nat.gcd_dvd_left _ _)with e|e
 ·exact e
 ·exact absurd (by rw[←e];exact Nat.gcd_dvd_right p a) h
theorem Pr.dvd_mul{p a b:Nat}(hp:Pr p)(h:p∣a*b):p∣a∨p∣b:=by
 by_cases ha:p∣a
 ·exact .inl ha
 ·exact .inr ((hp.coprime ha).dvd_of_dvd_mul_left h)
theorem Pr.pos{p:Nat}(hp:Pr p):0<p:=Nat.lt_trans Nat.zero_lt_one hp.1
theorem Pr.not_lt{p a:Nat}(h0:0<a)(h:a<p): ¬p∣a:=fun hd=>by
 have:=Nat.le_of_dvd h0 hd
 omega
/-! ### A number that is no prime has a prime factor that is not above its root -/
theorem qO: ∀n,1<n→∃l,Pr l∧l∣n:=by
 intro n
 induction n using Nat.strongRecOn with
 |ind n ih=>
  intro hn
  by_cases hp:Pr n
  ·exact ⟨n,hp,Nat.dvd_refl n⟩
  ·have: ∃d,d∣n∧¬(d=1∨d=n):=Classical.byContradiction fun h=>hp ⟨hn,fun d hd=>Classical.byContradiction fun h'=>h ⟨d,hd,h'⟩⟩
   obtain ⟨d,hd,hne⟩:=this
   have hle:=Nat.le_of_dvd om hd
   have h0:d≠0:=fun e=>by subst e;have:=Nat.eq_zero_of_zero_dvd hd;omega
   obtain ⟨l,hl,hld⟩:=ih d om om
   exact ⟨l,hl,Nat.dvd_trans hld hd⟩
theorem l5{n:Nat}(hn:1<n)(h: ∀l,Pr l→l∣n→n<l*l):Pr n:=by
 refine ⟨hn,fun d hd=> ?_⟩
 by_cases h1:d=1
 ·exact .inl h1
 ·right
  obtain ⟨e,rfl⟩:=hd
  by_cases he:e=1
  ·rw[he,Nat.mul_one]
  ·exfalso
   have hd0:d≠0:=fun e0=>by rw[e0,Nat.zero_mul]at hn;omega
   have he0:e≠0:=fun e0=>by rw[e0,Nat.mul_zero]at hn;omega
   obtain ⟨l,hl,hld⟩:=qO d om
   obtain ⟨m,hm,hme⟩:=qO e om
   have a1:=h l hl (Nat.dvd_trans hld (Nat.dvd_mul_right d e))
   have a2:=h m hm (Nat.dvd_trans hme (Nat.dvd_mul_left e d))
   have b1:=Nat.le_of_dvd om hld
   have b2:=Nat.le_of_dvd om hme
   have c1:l*m≤d*e:=Nat.mul_le_mul b1 b2
   rcases Nat.le_total l m with h'|h'
   ·have:=Nat.mul_le_mul_left l h'
    omega
   ·have:=Nat.mul_le_mul_left m h'
    rw[Nat.mul_comm m l]at this
    omega
/-! ### Fermat -/
def Cb:Nat→Nat→Nat
 |_,0=>1
 |0,_+1=>0
 |n+1,k+1=>Cb n k+Cb n (k+1)
theorem iZ(n:Nat):Cb n 0=1:=by cases n<;>rfl
theorem rR: ∀n k,(k+1)*Cb (n+1) (k+1)=(n+1)*Cb n k
 |0,0=>rfl
 |0,k+1=>by simp[Cb]
 |n+1,0=>by
  have:=rR n 0
  rw[show Cb (n+1+1) (0+1)=Cb (n+1) 0+Cb (n+1) (0+1)from rfl,iZ]
  rw[iZ]at this
  omega
 |n+1,j+1=>by
  have h1:=rR n j
  have h2:=rR n (j+1)
  have e:Cb (n+1) (j+1)=Cb n j+Cb n (j+1):=rfl
  rw[Cb,Nat.mul_add,h2]
  have h3:(j+1+1)*Cb (n+1) (j+1)=(n+1)*Cb n j+Cb (n+1) (j+1):=by rw[Nat.add_mul (j+1),h1,Nat.one_mul]
  rw[h3,Nat.add_mul (n+1) 1,Nat.one_mul]
  have h4:(n+1)*Cb (n+1) (j+1)=(n+1)*Cb n j+(n+1)*Cb n (j+1):=by rw[e,Nat.mul_add]
  omega
theorem nU: ∀n k,n<k→Cb n k=0
 |0,k+1,_=>rfl
 |n+1,k+1,h=>by rw[Cb,nU n k om,nU n (k+1) om]
theorem ml: ∀n,Cb n n=1
 |0=>rfl
 |n+1=>by rw[Cb,ml n,nU n (n+1) om]
def Sb(a n:Nat):Nat→Nat
 |0=>0
 |m+1=>Sb a n m+Cb n m*a^m
theorem y2(a n:Nat): ∀m,Sb a (n+1) (m+1)=Sb a n (m+1)+a*Sb a n m
 |0=>by simp[Sb,iZ]
 |m+1=>by
  have ih:=y2 a n m
  rw[Sb,ih]
  have e1:Sb a n (m+1+1)=Sb a n (m+1)+Cb n (m+1)*a^(m+1):=rfl
  have e2:Sb a n (m+1)=Sb a n m+Cb n m*a^m:=rfl
  rw[e1,show Cb (n+1) (m+1)=Cb n m+Cb n (m+1)from rfl,Nat.add_mul]
  have e3:a*Sb a n (m+1)=a*Sb a n m+Cb n m*a^(m+1):=by rw[e2,Nat.mul_add,Nat.pow_succ,←Nat.mul_assoc (Cb n m),Nat.mul_comm a (Cb n m*a^m)]
  omega
theorem binomial(a:Nat): ∀n,Sb a n (n+1)=(a+1)^n
 |0=>by simp[Sb,Cb]
 |n+1=>by
  have ih:=binomial a n
  rw[y2,show Sb a n (n+1+1)=Sb a n (n+1)+Cb n (n+1)*a^(n+1)from rfl,nU n (n+1) om,ih,Nat.zero_mul,Nat.add_zero,Nat.pow_succ,Nat.mul_add,Nat.mul_one,Nat.mul_comm a]
  omega
theorem Pr.dvd_Cb{p:Nat}(hp:Pr p){k:Nat}(h0:0<k)(h:k<p):p∣Cb p k:=by
 obtain ⟨q,rfl⟩: ∃q,p=q+1:=⟨p-1,by have:=hp.pos;omega⟩
 obtain ⟨j,rfl⟩: ∃j,k=j+1:=⟨k-1,om⟩
 have e:=rR q j
 have hd:q+1∣(j+1)*Cb (q+1) (j+1):=by rw[e];exact Nat.dvd_mul_right _ _
 rcases hp.dvd_mul hd with h1|h1
 ·exact absurd h1 (Pr.not_lt om h)
 ·exact h1
theorem Pr.sum_mod{p:Nat}(hp:Pr p)(a:Nat): ∀m,m<p→Sb a p (m+1) % p=1
 |0,_=>by
  rw[Sb,Sb,iZ,Nat.pow_zero,Nat.zero_add,Nat.mul_one]
  exact Nat.mod_eq_of_lt hp.1
 |m+1,h=>by
  have ih:=hp.sum_mod a m om
  have hd:p∣Cb p (m+1)*a^(m+1):=Nat.dvd_trans (hp.dvd_Cb om h) (Nat.dvd_mul_right _ _)
  rw[Sb,Nat.add_mod,ih,Nat.mod_eq_zero_of_dvd hd,Nat.add_zero]
  exact Nat.mod_eq_of_lt hp.1
theorem Pr.fermat{p:Nat}(hp:Pr p): ∀a,a^p % p=a % p
 |0=>by
  have:=hp.pos
  rw[Nat.zero_pow this]
 |a+1=>by
  have ih:=hp.fermat a
  obtain ⟨q,hq⟩: ∃q,p=q+1:=⟨p-1,by have:=hp.pos;omega⟩
  have h1:=hp.sum_mod a q om
  rw[←binomial a p,Sb,ml,Nat.one_mul]
  rw[←hq]at h1
  rw[Nat.add_mod,h1,ih,Nat.add_mod a 1,Nat.add_comm,Nat.mod_eq_of_lt hp.1]
theorem Pr.fermat1{p:Nat}(hp:Pr p){a:Nat}(h: ¬p∣a):a^(p-1) % p=1:=by
 obtain ⟨q,rfl⟩: ∃q,p=q+1:=⟨p-1,by have:=hp.pos;omega⟩
 have hf:=hp.fermat a
 have ha:0<a:=Nat.pos_of_ne_zero fun e=>h (by rw[e];exact Nat.dvd_zero _)
 have hpw:1≤a^q:=Nat.pow_pos ha
 rw[Nat.pow_succ]at hf
 have hd:q+1∣(a^q-1)*a:=by
  rw[Nat.sub_mul,Nat.one_mul]
  exact Nat.dvd_of_mod_eq_zero (Nat.sub_mod_eq_zero_of_mod_eq hf)
 rcases hp.dvd_mul hd with h1|h1
 ·rw[Nat.add_sub_cancel]
  obtain ⟨c,hc⟩:=h1
  have:a^q=(q+1)*c+1:=om
  rw[this,Nat.mul_add_mod]
  exact Nat.mod_eq_of_lt hp.1
 ·exact absurd h1 h
/-! ### Pocklington -/
theorem m3{a l:Nat}(hl:1<l){x:Nat}(h:a^x % l=1)(k:Nat):a^(x*k) % l=1:=by
 rw[Nat.pow_mul,Nat.pow_mod,h,Nat.one_pow]
 exact Nat.mod_eq_of_lt hl
theorem GQ{a l:Nat}(hl:1<l)(m n:Nat):a^m % l=1→a^n % l=1→a^Nat.gcd m n % l=1:=by
 induction m,n using Nat.gcd.induction with
 |H0 n=>intro _ h;rw[Nat.gcd_zero_left];exact h
 |H1 m n hm ih=>
  intro h1 h2
  rw[Nat.gcd_rec]
  refine ih ?_ h1
  have e:a^n=a^(m*(n / m))*a^(n % m):=by rw[←Nat.pow_add,Nat.div_add_mod]
  rw[e,Nat.mul_mod,m3 hl h1,Nat.one_mul,Nat.mod_mod]at h2
  exact h2
theorem UP{n q l a k:Nat}(hl:Pr l)(hq:Pr q)(hln:l∣n)(hn:1<n)(hk:n-1=q*k)(h1:a^(n-1) % n=1)(h2:Nat.gcd (a^k % n+(n-1)) n=1):q∣l-1:=by
 refine Classical.byContradiction fun hnd=> ?_
 have hc:Nat.gcd q (l-1)=1:=hq.coprime hnd
 have h1l:a^(n-1) % l=1:=by
  have:a^(n-1) % n % l=a^(n-1) % l:=Nat.mod_mod_of_dvd _ hln
  rw[←this,h1]
  exact Nat.mod_eq_of_lt hl.1
 have hla: ¬l∣a:=fun hd=>by
  have h0:0<n-1:=om
  have:l∣a^(n-1):=by
   obtain ⟨m,hm⟩: ∃m,n-1=m+1:=⟨n-1-1,om⟩
   rw[hm,Nat.pow_succ]
   exact Nat.dvd_trans hd (Nat.dvd_mul_left _ _)
  rw[Nat.mod_eq_zero_of_dvd this]at h1l
  cases h1l
 have h3:=m3 hl.1 (hl.fermat1 hla) k
 rw[Nat.mul_comm]at h3
 rw[hk,Nat.mul_comm]at h1l
 have h4:=GQ hl.1 (k*q) (k*(l-1)) h1l h3
 rw[Nat.gcd_mul_left,hc,Nat.mul_one]at h4
 have h5:(a^k % n+(n-1)) % l=0:=by
  obtain ⟨c,hc⟩:=hln
  have e1:a^k % n % l=1:=by rw[Nat.mod_mod_of_dvd _ ⟨c,hc⟩];exact h4
  have hl1:=hl.1
  have hx:a^k % n=l*(a^k % n / l)+1:=by
   have:=Nat.div_add_mod (a^k % n) l
   omega
  have e2:a^k % n+(n-1)=l*(a^k % n / l+c):=by
   rw[Nat.mul_add,←hc]
   omega
  rw[e2,Nat.mul_mod_right]
 have hd:l∣Nat.gcd (a^k % n+(n-1)) n:=Nat.dvd_gcd (Nat.dvd_of_mod_eq_zero h5) hln
 rw[h2]at hd
 have:=Nat.le_of_dvd Nat.zero_lt_one hd
 have:=hl.1
 omega
theorem E2{n q a k:Nat}(hn:1<n)(hq:Pr q)(hk:n-1=q*k)(h1:a^(n-1) % n=1)(h2:Nat.gcd (a^k % n+(n-1)) n=1)(hF:n<q*q):Pr n:=
 l5 hn fun l hl hln=>by
  have hd:=UP hl hq hln hn hk h1 h2
  have:=Nat.le_of_dvd (by have:=hl.1;omega) hd
  have h3:q*q≤l*l:=Nat.mul_le_mul om om
  omega
/-! ### Powers, for the kernel -/
def pm(a n:Nat):Nat→Nat→Nat
 |0,_=>1 % n
 |f+1,e=>bif Nat.beq (e % 2) 0 then pm a n f (e / 2)*pm a n f (e / 2) % n else pm a n f (e / 2)*pm a n f (e / 2) % n*a % n
theorem xJ(a n:Nat): ∀f e,e<2^f→pm a n f e=a^e % n
 |0,e,h=>by
  have:e=0:=by simpa using h
  rw[this,pm,Nat.pow_zero]
 |f+1,e,h=>by
  have ih:=xJ a n f (e / 2) (by rw[Nat.pow_succ]at h;omega)
  have e0:a^(e / 2)*a^(e / 2)=a^(2*(e / 2)):=by rw[←Nat.pow_add,Nat.two_mul]
  rw[pm,ih,←Nat.mul_mod,e0]
  cases hb:Nat.beq (e % 2) 0 with
  |true=>
   have:=Nat.eq_of_beq_eq_true hb
   simp only[cond_true]
   rw[show 2*(e / 2)=e by omega]
  |false=>
   have:e % 2≠0:=fun e1=>by rw[e1]at hb;cases hb
   simp only[cond_false]
   rw[Nat.mod_mul_mod,←Nat.pow_succ,show (2*(e / 2)).succ=e by omega]
def y3(n q a f:Nat):Bool:=
 Nat.blt 1 n && (Nat.beq ((n-1) % q) 0 && (Nat.blt (n-1) (2^f) && (Nat.beq (pm a n f (n-1)) 1 && Nat.beq (Nat.gcd (pm a n f ((n-1) / q)+(n-1)) n) 1)))
theorem qG{n q a f:Nat}(h:y3 n q a f=true):1<n∧n-1=q*((n-1) / q)∧a^(n-1) % n=1∧Nat.gcd (a^((n-1) / q) % n+(n-1)) n=1:=by
 simp only[y3,Bool.and_eq_true]at h
 obtain ⟨h0,h1,h2,h3,h4⟩:=h
 have h0:1<n:=by simpa using h0
 have h1:=Nat.eq_of_beq_eq_true h1
 have h2:n-1<2^f:=by simpa using h2
 have h3:=Nat.eq_of_beq_eq_true h3
 have h4:=Nat.eq_of_beq_eq_true h4
 rw[xJ a n f _ h2]at h3
 rw[xJ a n f _ (Nat.lt_of_le_of_lt (Nat.div_le_self _ _) h2)]at h4
 refine ⟨h0, ?_,h3,h4⟩
 have:=Nat.div_add_mod (n-1) q
 omega
theorem lH{n q a:Nat}(f:Nat)(hq:Pr q)(h:y3 n q a f=true)(hF:n<q*q):Pr n:=by
 obtain ⟨h0,h1,h2,h3⟩:=qG h
 exact E2 h0 hq h1 h2 h3 hF
theorem fX{n q a:Nat}(f:Nat)(hq:Pr q)(h:y3 n q a f=true){l:Nat}(hl:Pr l)(hln:l∣n):q∣l-1:=by
 obtain ⟨h0,h1,h2,h3⟩:=qG h
 exact UP hl hq hln h0 h1 h2 h3
def xu(n:Nat):Nat→Bool
 |0=>true
 |k+1=>(Nat.beq k 0|| !Nat.beq (n % (k+1)) 0) && xu n k
theorem pT{n:Nat}: ∀k,xu n k=true→∀d,1<d→d≤k→¬d∣n
 |0,_,d,h1,h2=>om
 |k+1,h,d,h1,h2=>by
  simp only[xu,Bool.and_eq_true,Bool.or_eq_true,Bool.not_eq_true']at h
  rcases Nat.lt_or_ge d (k+1)with h'|h'
  ·exact pT k h.2 d h1 om
  ·obtain rfl:d=k+1:=om
   rcases h.1 with h3|h3
   ·have:=Nat.eq_of_beq_eq_true h3;omega
   ·intro hd
    rw[Nat.mod_eq_zero_of_dvd hd]at h3
    cases h3
theorem dv{n k:Nat}(hn:1<n)(hk:n<(k+1)*(k+1))(h:xu n k=true):Pr n:=
 l5 hn fun l hl hln=>by
  have:=hl.1
  rcases Nat.lt_or_ge k l with h'|h'
  ·have:(k+1)*(k+1)≤l*l:=Nat.mul_le_mul h' h'
   omega
  ·exact absurd hln (pT k h l hl.1 h')
end
section
theorem zT:Pr 421987:=dv (k:=649) dc dc kr
theorem z7:Pr 755057:=dv (k:=868) dc dc kr
theorem pr_c:Pr 13090036741:=lH (a:=2) 34 zT kr dc
theorem pr_b:Pr 3819663927398918131021:=l5 dc fun l hl hln=>by
 have h1:=fX (n:=3819663927398918131021) (a:=2) 72 pr_c kr hl hln
 have h2:=fX (n:=3819663927398918131021) (a:=2) 72 z7 kr hl hln
 have h3:13090036741*755057∣l-1:=Nat.Coprime.mul_dvd_of_dvd_of_dvd (by decide+kernel) h1 h2
 have h4:=Nat.le_trans (Nat.le_of_dvd (Nat.sub_pos_of_lt hl.1) h3) (Nat.sub_le l 1)
 exact Nat.lt_of_lt_of_le (show 3819663927398918131021<(13090036741*755057)*(13090036741*755057) by decide) (Nat.mul_le_mul h4 h4)
theorem pr_a:Pr 1125266252156850182658904441386709967:=lH (a:=2) 120 pr_b kr dc
theorem IK:Pr 15778400344354997994418419698270088123916926905054652752758194827714659:=lH (a:=2) 234 pr_a kr dc
def PQ:Nat:=4002409555221667393417789825735904156556882819939007885332058136124031650490837864442687629129015664037894272559786
abbrev PP:Nat:=PQ+1
theorem pr_p:Pr PP:=lH (a:=2) 381 IK kr dc
theorem rU:Pr 254760293:=dv (k:=15961) dc dc kr
theorem ug:Pr 52437899:=dv (k:=7241) dc dc kr
theorem vC:Pr 2529403:=dv (k:=1590) dc dc kr
theorem wS:Pr 2508409:=dv (k:=1583) dc dc kr
theorem AH:Pr 906349:=dv (k:=952) dc dc kr
theorem At:Pr 859267:=dv (k:=926) dc dc kr
def RQ:Nat:=52435875175126190479447740508185965837690552500527637822603658699938581184512
abbrev RR:Nat:=RQ+1
theorem pr_r:Pr RR:=l5 dc fun l hl hln=>by
 have h0:=fX (n:=RR) (a:=2) 255 rU kr hl hln
 have h1:=fX (n:=RR) (a:=2) 255 ug kr hl hln
 have h2:=fX (n:=RR) (a:=2) 255 vC kr hl hln
 have h3:=fX (n:=RR) (a:=2) 255 wS kr hl hln
 have h4:=fX (n:=RR) (a:=2) 255 AH kr hl hln
 have h5:=fX (n:=RR) (a:=2) 255 At kr hl hln
 have g1:13359094513544407∣l-1:=Nat.Coprime.mul_dvd_of_dvd_of_dvd (m:=254760293) (n:=52437899) (by decide+kernel) h0 h1
 have g2:33790533739842763699021∣l-1:=Nat.Coprime.mul_dvd_of_dvd_of_dvd (m:=13359094513544407) (n:=2529403) (by decide+kernel) g1 h2
 have g3:84760478947825247047497567589∣l-1:=Nat.Coprime.mul_dvd_of_dvd_of_dvd (m:=33790533739842763699021) (n:=2508409) (by decide+kernel) g2 h3
 have g4:76822575333882464836252372886722561∣l-1:=Nat.Coprime.mul_dvd_of_dvd_of_dvd (m:=84760478947825247047497567589) (n:=906349) (by decide+kernel) g3 h4
 have g5:66011103839419183912452067693255434822787∣l-1:=Nat.Coprime.mul_dvd_of_dvd_of_dvd (m:=76822575333882464836252372886722561) (n:=859267) (by decide+kernel) g4 h5
 have hf:=Nat.le_trans (Nat.le_of_dvd (Nat.sub_pos_of_lt hl.1) g5) (Nat.sub_le l 1)
 exact Nat.lt_of_lt_of_le (show RR<66011103839419183912452067693255434822787*66011103839419183912452067693255434822787 by decide) (Nat.mul_le_mul hf hf)
end
section
def VF(f:Nat→BitVec 64):Nat→Nat
 |0=>0
 |i+1=>VF f i+(f i).toNat*2^(64*i)
theorem xw(f:Nat→BitVec 64)(n:Nat): ∀i,i≤n→V ((List.range n).map f) i=VF f i
 |0,_=>rfl
 |i+1,h=>by
  have:((List.range n).map f).getD i 0=f i:=by
   rw[List.getD_eq_getElem?_getD,List.getElem?_map,List.getElem?_range om]
   rfl
  rw[V,VF,xw f n i om,this]
def KC(x:BitVec 64)(a t:L6):Nat→BitVec 64
 |0=>0
 |j+1=>(MA x (a.getD j 0) (t.getD j 0) (KC x a t j)).2
def KT(x:BitVec 64)(a t:L6)(j:Nat):BitVec 64:=(MA x (a.getD j 0) (t.getD j 0) (KC x a t j)).1
def KD(m:BitVec 64)(p s:L6):Nat→BitVec 64
 |0=>(MA m (p.getD 0 0) (s.getD 0 0) 0).2
 |j+1=>(MA m (p.getD (j+1) 0) (s.getD (j+1) 0) (KD m p s j)).2
def KU(m:BitVec 64)(p s:L6)(j:Nat):BitVec 64:=(MA m (p.getD (j+1) 0) (s.getD (j+1) 0) (KD m p s j)).1
def PL:L6:=[0xb9feffffffffaaab#64,0x1eabfffeb153ffff#64,0x6730d2a0f6b0f624#64,0x64774b84f38512bf#64,0x4b1ba7b6434bacd7#64,0x1a0111ea397fe69a#64]
def INV:BitVec 64:=0x89f3fffcfffcfffd#64
theorem my:V PL 6=PP:=by decide+kernel
def T1(x:BitVec 64)(a t:L6):L6:=(List.range 6).map (KT x a t)
def T2(x:BitVec 64)(a t:L6):L6:=
 (List.range 6).map fun j=>if j=5 then KC x a t 6+KD ((T1 x a t).getD 0 0*INV) PL (T1 x a t) 5 else KU ((T1 x a t).getD 0 0*INV) PL (T1 x a t) j
def RT(a b:L6):Nat→L6
 |0=>List.replicate 6 0
 |i+1=>T2 (b.getD i 0) a (RT a b i)
theorem PT(x:BitVec 64)(a t:L6):(T2 x a t).length=6:=by simp[T2]
theorem Nj(a b:L6): ∀i,(RT a b i).length=6
 |0=>rfl
 |_+1=>PT _ _ _
def PL4:L6:=[0xe7fbfffffffeaaac#64,0x7aaffffac54ffffe#64,0x9cc34a83dac3d890#64,0x91dd2e13ce144afd#64,0x2c6e9ed90d2eb35d#64,0x680447a8e5ff9a69#64]
theorem G7:V PL4 6=4*PP:=by decide+kernel
theorem D7:4*PP<R6∧0<PP:=⟨by rw[←G7];exact jv _,by decide+kernel⟩
def RM(a b:L6):L6:=if (SS (RT a b 6) PL 6).2=0 then (SS (RT a b 6) PL 6).1 else RT a b 6
theorem bd(a b:L6):(RM a b).length=6:=by
 unfold RM
 split
 ·exact aM _ _ _
 ·exact Nj _ _ _
end
section
theorem NC:0<PP:=D7.2
abbrev Zp:=Fin PP
def zp(n:Nat):Zp:=Fin.ofNat PP n
theorem eu(n:Nat):(zp n).val=n % PP:=Fin.val_ofNat PP n
theorem FY(x:Zp):zp x.val=x:=Fin.ext (by rw[eu];exact Nat.mod_eq_of_lt x.isLt)
theorem ib(a b:Nat):zp (a*b)=zp a*zp b:=Fin.ext (by rw[Fin.val_mul,eu,eu,eu,←Nat.mul_mod])
theorem fD(a b:Nat):zp (a+b)=zp a+zp b:=Fin.ext (by rw[Fin.val_add,eu,eu,eu,←Nat.add_mod])
theorem wU(a:Nat):zp (a % PP)=zp a:=Fin.ext (by rw[eu,eu,Nat.mod_mod])
theorem xT{a b:Nat}(h:a % PP=b % PP):zp a=zp b:=by rw[←wU,h,wU]
theorem m6:zp PP=0:=Fin.ext (by rw[eu,Nat.mod_self];rfl)
theorem ON:zp 0=0:=rfl
theorem VI:zp 1=1:=rfl
theorem p0(a:Zp):a^0=1:=by grind
theorem p1(a:Zp):a^1=a:=by grind
theorem ps(a:Zp)(n:Nat):a^(n+1)=a^n*a:=by grind
theorem qp(a:Zp)(m n:Nat):a^(m+n)=a^m*a^n:=by grind
theorem Bl(a:Zp)(m:Nat): ∀n:Nat,a^(m*n)=(a^m)^n
 |0=>by rw[Nat.mul_zero,p0,p0]
 |n+1=>by rw[Nat.mul_succ,qp,Bl a m n,ps]
theorem Ik(a b:Zp): ∀n:Nat,(a*b)^n=a^n*b^n
 |0=>by rw[p0,p0,p0];grind
 |n+1=>by rw[ps,ps,ps,Ik a b n];grind
theorem KB(n:Nat):(0:Zp)^(n+1)=0:=by rw[ps];grind
theorem y5(a:Zp): ∀n:Nat,(a^n).val=a.val^n % PP
 |0=>by rw[p0,Nat.pow_zero];rfl
 |n+1=>by rw[ps,Fin.val_mul,y5 a n,Nat.pow_succ,Nat.mod_mul_mod]
theorem O9{a:Zp}(h:a≠0): ¬PP∣a.val:=fun hd=>by
 have h0:0<a.val:=Nat.pos_of_ne_zero fun e=>h (Fin.ext e)
 exact Pr.not_lt h0 a.isLt hd
theorem fermat{a:Zp}(h:a≠0):a^(PP-1)=1:=Fin.ext (by rw[y5,pr_p.fermat1 (O9 h)];rfl)
theorem qs{a:Zp}(h:a≠0):a*a^(PP-2)=1:=by
 have hp:2<PP:=by have:=pr_p.1;have:PP≠2:=by decide+kernel
                  omega
 rw[←fermat h,show PP-1=1+(PP-2) by omega,qp,p1]
theorem kN{a b:Zp}(h:a*b=0):a=0∨b=0:=by
 by_cases ha:a=0
 ·exact .inl ha
 ·have:=qs ha
  right
  grind
theorem kd:(1:Zp)≠0:=fun h=>by
 have:=congrArg Fin.val h
 rw[show (1:Zp).val=1 % PP from rfl,Nat.mod_eq_of_lt pr_p.1]at this
 cases this
/-! ### Six parts -/
def pL(n:Nat):L6:=(List.range 6).map fun i=>BitVec.ofNat 64 (n / 2^(64*i))
theorem mv(n:Nat):(pL n).length=6:=by rw[pL,List.length_map,List.length_range]
theorem uv(n:Nat): ∀k,VF (fun i=>BitVec.ofNat 64 (n / 2^(64*i))) k=n % 2^(64*k)
 |0=>by rw[VF,Nat.mul_zero,Nat.pow_zero,Nat.mod_one]
 |k+1=>by
  rw[VF,uv n k,kD,BitVec.toNat_ofNat,Nat.mod_mul,Nat.mul_comm (2^(64*k))]
theorem rN(n:Nat)(h:n<R6):V (pL n) 6=n:=by
 rw[pL,xw _ 6 6 (Nat.le_refl _),uv,←fM]
 exact Nat.mod_eq_of_lt h
theorem yE:PP<R6:=by have:=D7.1;omega
/-! ### Elements, times 2^384 -/
def RZ:Zp:=zp R6
theorem Ru: ¬PP∣R6:=fun h=>by
 rw[fM]at h
 have key: ∀k,¬PP∣2^k:=fun k=>by
  induction k with
  |zero=>intro h;have:=Nat.le_of_dvd dc h;have:=pr_p.1;omega
  |succ k ih=>
   intro h
   rw[Nat.pow_succ]at h
   rcases pr_p.dvd_mul h with h|h
   ·exact ih h
   ·have:=Nat.le_of_dvd dc h
    have: ¬PP≤2:=by decide+kernel
    omega
 exact key _ h
theorem Ls:RZ≠0:=fun h=>by
 have:=congrArg Fin.val h
 rw[RZ,eu]at this
 exact Ru (Nat.dvd_of_mod_eq_zero this)
theorem ko{x y:Zp}(h:x*RZ=y*RZ):x=y:=by
 have h0:=qs Ls
 have:(x-y)*RZ=0:=by grind
 rcases kN this with h|h
 ·grind
 ·exact absurd h Ls
def fe(x:Zp):L6:=pL (x*RZ).val
def nm(x:Zp):L6:=pL x.val
theorem aT(x:Zp):(fe x).length=6:=mv _
theorem a9(x:Zp):(nm x).length=6:=mv _
theorem Qm(x:Zp):V (fe x) 6=(x*RZ).val:=rN _ (Nat.lt_trans (x*RZ).isLt yE)
theorem GC(x:Zp):V (nm x) 6=x.val:=rN _ (Nat.lt_trans x.isLt yE)
theorem oJ(x:Zp):V (fe x) 6<PP:=by rw[Qm];exact (x*RZ).isLt
theorem iK(x:Zp):zp (V (fe x) 6)=x*RZ:=by rw[Qm,FY]
theorem mW{l:L6}{x:Zp}(hl:l.length=6)(hlt:V l 6<PP)(h:zp (V l 6)=x*RZ):l=fe x:=by
 refine yh 6 hl (aT x) ?_
 rw[Qm,←h,eu,Nat.mod_eq_of_lt hlt]
theorem Ug{l:L6}{x:Zp}(hl:l.length=6)(hlt:V l 6<PP)(h:zp (V l 6)=x):l=nm x:=by
 refine yh 6 hl (a9 x) ?_
 rw[GC,←h,eu,Nat.mod_eq_of_lt hlt]
theorem A3{x y:Zp}:fe x=fe y↔x=y:=⟨fun h=>ko (by rw[←iK,←iK,h]),fun h=>by rw[h]⟩
theorem kA:fe 0=List.replicate 6 0#64:=(mW (x:=0) sm (by rw[jM];exact NC) (by rw[jM,ON];grind)).symm
theorem Gx{l a b:L6}(hl:l.length=6)(h:V l 6<PP∧V l 6*R6 % PP=V a 6*V b 6 % PP){x y:Zp}(ha:zp (V a 6)=x*RZ)(hb:zp (V b 6)=y*RZ):l=fe (x*y):=by
 refine mW hl h.1 (ko ?_)
 have:=xT h.2
 rw[ib,ib,ha,hb]at this
 rw[show zp (V l 6)*RZ=x*RZ*(y*RZ)from this]
 grind
theorem Iv{l a b:L6}(hl:l.length=6)(h:V l 6<PP∧V l 6*R6 % PP=V a 6*V b 6 % PP){x:Zp}(ha:zp (V a 6)=x*RZ)(hb:V b 6=1):l=nm x:=by
 refine Ug hl h.1 (ko ?_)
 have:=xT h.2
 rw[ib,ib,ha,hb,VI]at this
 rw[show zp (V l 6)*RZ=x*RZ*1 from this]
 grind
end
section
def FRs(bs:L8):Nat→L6
 |0=>List.replicate 6 0
 |i+1=>(FRs bs i).set ((bs.length-1-i) / 8) ((FRs bs i).getD ((bs.length-1-i) / 8) 0|||((bs.getD i 0).setWidth 64<<<(8*((bs.length-1-i) % 8))))
theorem aJ(bs:L8): ∀i,(FRs bs i).length=6
 |0=>rfl
 |i+1=>by simp[FRs,aJ bs i]
def BYs(a:L6):Nat→L8
 |0=>List.replicate 48 0
 |i+1=>(BYs a i).set i ((a.getD ((47-i) / 8) 0>>>(8*((47-i) % 8))).setWidth 8)
theorem aI(a:L6): ∀i,(BYs a i).length=48
 |0=>rfl
 |i+1=>by simp[BYs,aI a i]
theorem oO(l:L8)(k:Nat)(x:BitVec 8)(hk:k<l.length):(l.set k x).getD k 0=x:=by simp[List.getD_eq_getElem?_getD,hk]
theorem td(l:L8)(k i:Nat)(x:BitVec 8)(h:i≠k):(l.set k x).getD i 0=l.getD i 0:=by
 simp only[List.getD_eq_getElem?_getD,List.getElem?_set_ne (Ne.symm h)]
theorem zB(a:L6)(j:Nat)(hj:j<48): ∀i,j<i→(BYs a i).getD j 0=(a.getD ((47-j) / 8) 0>>>(8*((47-j) % 8))).setWidth 8
 |0,h=>om
 |i+1,h=>by
  rw[BYs]
  rcases Nat.lt_or_ge j i with h'|h'
  ·rw[td _ _ _ _ om,zB a j hj i h']
  ·obtain rfl:j=i:=om
   rw[oO _ _ _ (by rw[aI];exact hj)]
theorem sM(bs:L8)(hl:bs.length≤48): ∀i,i≤bs.length→∀n,n<384→
 ((FRs bs i).getD (n / 64) 0).getLsbD (n % 64)=(decide (n / 8<bs.length∧bs.length≤n / 8+i) && (bs.getD (bs.length-1-n / 8) 0).getLsbD (n % 8))
 |0,_,n,_=>by
  have:(List.replicate 6 (0:BitVec 64)).getD (n / 64) 0=0:=by
   rw[List.getD_eq_getElem?_getD,List.getElem?_replicate]
   split<;>rfl
  rw[FRs,this,decide_eq_false om]
  simp
 |i+1,hi,n,hn=>by
  have ih:=sM bs hl i om n hn
  rw[FRs]
  by_cases hq:n / 64=(bs.length-1-i) / 8
  ·rw[hq,dp _ _ _ (by rw[aJ];omega)]
   rw[hq]at ih
   rw[BitVec.getLsbD_or,ih,BitVec.getLsbD_shiftLeft,BitVec.getLsbD_setWidth]
   by_cases hk:n / 8=bs.length-1-i
   ·rw[decide_eq_false om,decide_eq_true (by omega:n / 8<bs.length∧bs.length≤n / 8+(i+1)),decide_eq_true (by omega:n % 64<64),decide_eq_false (by omega: ¬n % 64<8*((bs.length-1-i) % 8)),decide_eq_true (by omega:n % 64-8*((bs.length-1-i) % 8)<64),
     show n % 64-8*((bs.length-1-i) % 8)=n % 8 by omega,show bs.length-1-n / 8=i by omega]
    simp
   ·have hz:((!decide (n % 64<8*((bs.length-1-i) % 8))) && (bs.getD i 0).getLsbD (n % 64-8*((bs.length-1-i) % 8)))=false:=by
     by_cases h1:n % 64<8*((bs.length-1-i) % 8)
     ·rw[decide_eq_true h1];rfl
     ·rw[BitVec.getLsbD_of_ge _ _ om];simp
    have hd:decide (n / 8<bs.length∧bs.length≤n / 8+i)=decide (n / 8<bs.length∧bs.length≤n / 8+(i+1)):=by
     congr 1
     apply propext
     omega
    rw[hd]
    generalize decide (n / 8<bs.length∧bs.length≤n / 8+(i+1))=D
    generalize (bs.getD (bs.length-1-n / 8) 0).getLsbD (n % 8)=E
    generalize decide (n % 64<8*((bs.length-1-i) % 8))=A at*
    generalize (bs.getD i 0).getLsbD (n % 64-8*((bs.length-1-i) % 8))=X at*
    generalize decide (n % 64<64)=Y
    generalize decide (n % 64-8*((bs.length-1-i) % 8)<64)=Z
    cases A<;>cases X<;>simp at hz<;>simp
  ·rw[fu _ _ _ _ hq,ih]
   have hd:decide (n / 8<bs.length∧bs.length≤n / 8+i)=decide (n / 8<bs.length∧bs.length≤n / 8+(i+1)):=by
    congr 1
    apply propext
    omega
   rw[hd]
theorem uZ(l:L6)(q:Nat)(h:q<l.length):l[q]=l.getD q 0:=by simp[List.getD_eq_getElem?_getD,h]
theorem vH(a:L6)(ha:a.length=6)(n:Nat)(hn:n=48):FRs (BYs a n) n=a:=by
 have hb:=aI a n
 have hg: ∀j,j<48→(BYs a n).getD j 0=(a.getD ((47-j) / 8) 0>>>(8*((47-j) % 8))).setWidth 8:=fun j hj=>zB a j hj n om
 generalize BYs a n=B at*
 have hfb:=sM B om n om
 have hfl:=aJ B n
 generalize FRs B n=f at*
 apply List.ext_getElem om
 intro q h1 h2
 rw[uZ f q h1,uZ a q h2]
 apply BitVec.eq_of_getLsbD_eq
 intro r hr
 have h:=hfb (64*q+r) om
 rw[show (64*q+r) / 64=q by omega,show (64*q+r) % 64=r by omega,hb,decide_eq_true om,Bool.true_and,hg _ om]at h
 rw[h,BitVec.getLsbD_setWidth,BitVec.getLsbD_ushiftRight,decide_eq_true om,Bool.true_and,show (47-(48-1-(64*q+r) / 8)) / 8=q by omega,show 8*((47-(48-1-(64*q+r) / 8)) % 8)+(64*q+r) % 8=r by omega]
/-! ### The bits that are set, the highest first -/
def fA(a:L6):Nat→List Nat
 |0=>[]
 |k+1=>if dig a (383-k)=1 then fA a k++[383-k]else fA a k
theorem uO(a:L6)(k:Nat): ∀n,k≤n→∃r,fA a n=fA a k++r
 |0,h=>⟨[],by obtain rfl:k=0:=om
              simp⟩
 |n+1,h=>by
  rcases Nat.lt_or_ge k (n+1)with h'|h'
  ·obtain ⟨r,hr⟩:=uO a k n om
   rw[fA]
   split
   ·exact ⟨r++[383-n],by rw[hr,List.append_assoc]⟩
   ·exact ⟨r,hr⟩
  ·obtain rfl:k=n+1:=om
   exact ⟨[],sm⟩
theorem IQ(a:L6)(k:Nat)(hk:k<384)(h:dig a (383-k)=1):(fA a 384)[(fA a k).length]? =some (383-k):=by
 obtain ⟨r,hr⟩:=uO a (k+1) 384 om
 rw[hr,fA,if_pos h]
 simp
end
section
/-! ### Numbers of bytes -/
def BN(bs:L8):Nat→Nat
 |0=>0
 |i+1=>256*BN bs i+(bs.getD i 0).toNat
theorem Kr(bs:L8): ∀i,BN bs i<256^i
 |0=>by rw[BN];decide
 |i+1=>by
  have:=Kr bs i
  have:=(bs.getD i 0).isLt
  rw[BN,Nat.pow_succ]
  omega
theorem u6{as bs:L8}: ∀n,(∀i,i<n→as.getD i 0=bs.getD i 0)→BN as n=BN bs n
 |0,_=>rfl
 |n+1,h=>by rw[BN,BN,u6 n (fun i hi=>h i om),h n om]
theorem BL(bs:L8)(k:Nat): ∀m,BN bs (k+m)=BN bs k*256^m+BN (bs.drop k) m
 |0=>by rw[BN,Nat.pow_zero,Nat.mul_one,Nat.add_zero,Nat.add_zero]
 |m+1=>by
  rw[←Nat.add_assoc,BN,BN,BL bs k m,Nat.pow_succ]
  have:(bs.drop k).getD m 0=bs.getD (k+m) 0:=by simp only[List.getD_eq_getElem?_getD,List.getElem?_drop]
  rw[this,Nat.mul_add,←Nat.mul_assoc (BN bs k),Nat.mul_comm 256 (BN bs k*256^m)]
  omega
theorem En(bs:L8): ∀i n,(BN bs i).testBit n=(decide (n / 8<i) && (bs.getD (i-1-n / 8) 0).getLsbD (n % 8))
 |0,n=>by rw[BN,Nat.zero_testBit,decide_eq_false om];rfl
 |i+1,n=>by
  have hb:=(bs.getD i 0).isLt
  have e:=Nat.testBit_two_pow_mul_add (BN bs i) (i:=8) (b:=(bs.getD i 0).toNat) hb n
  rw[BN,show 256*BN bs i+(bs.getD i 0).toNat=2^8*BN bs i+(bs.getD i 0).toNat from rfl,e]
  by_cases h:n<8
  ·rw[if_pos h,decide_eq_true (by omega:n / 8<i+1),show n / 8=0 by omega,show n % 8=n by omega,Nat.sub_zero,Nat.add_sub_cancel]
   simp[BitVec.getLsbD]
  ·rw[if_neg h,En bs i (n-8)]
   have h1:(n-8) / 8=n / 8-1:=om
   have h2:(n-8) % 8=n % 8:=om
   rw[h1,h2]
   by_cases h3:n / 8<i+1
   ·rw[decide_eq_true h3,decide_eq_true (by omega:n / 8-1<i),show i+1-1-n / 8=i-1-(n / 8-1) by omega]
   ·rw[decide_eq_false h3,decide_eq_false (by omega: ¬n / 8-1<i)];rfl
theorem EK(x:BitVec 64)(s:Nat):((x>>>s) &&& 1#64).toNat=(x.getLsbD s).toNat:=by
 rw[BitVec.toNat_and,BitVec.toNat_ushiftRight,show (1#64).toNat=1 from rfl,Nat.and_one_is_mod]
 rw[BitVec.getLsbD,Nat.testBit,Nat.shiftRight_eq_div_pow]
 rcases Nat.mod_two_eq_zero_or_one (x.toNat / 2^s)with h|h<;>rw[Nat.and_comm,Nat.and_one_is_mod,h]<;>rfl
theorem KF(l:L6)(N n:Nat)(h:n<64*N):(V l N).testBit n=(l.getD (n / 64) 0).getLsbD (n % 64):=by
 have hd:=sC l N n h
 rw[dig,EK]at hd
 rw[Nat.testBit,Nat.shiftRight_eq_div_pow,Nat.and_comm,Nat.and_one_is_mod,←hd]
 cases (l.getD (n / 64) 0).getLsbD (n % 64)<;>rfl
theorem Dx(n:Nat):256^n=2^(8*n):=by rw[Nat.pow_mul]
theorem UN{m n:Nat}(h:m≤n):2^m≤2^n:=Nat.pow_le_pow_right dc h
theorem PN{k n:Nat}(hk:R6=2^k)(h:k≤n):R6≤2^n:=by rw[hk];exact UN h
theorem Vs{n:Nat}(h: ¬n<384):R6≤2^n:=PN fM om
theorem un(bs:L8)(hl:bs.length≤48):V (FRs bs bs.length) 6=BN bs bs.length:=by
 refine Nat.eq_of_testBit_eq fun n=> ?_
 by_cases h:n<384
 ·rw[KF _ 6 n h,sM bs hl bs.length (Nat.le_refl _) n h,En]
  congr 2
  apply propext
  omega
 ·have e1:V (FRs bs bs.length) 6<2^n:=Nat.lt_of_lt_of_le (jv _) (Vs h)
  have e2:BN bs bs.length<2^n:=Nat.lt_of_lt_of_le (Kr bs _) (by rw[Dx];exact Nat.pow_le_pow_right dc om)
  rw[Nat.testBit_lt_two_pow e1,Nat.testBit_lt_two_pow e2]
theorem Dw(a:L6)(ha:a.length=6)(n:Nat)(hn:n=48):BN (BYs a n) n=V a 6:=by
 have h:=un (BYs a n) (by rw[aI];exact Nat.le_refl _)
 rw[aI,←hn,vH a ha n hn]at h
 exact h.symm
def cD(x:Zp):L8:=BYs (nm x) 48
theorem aA(x:Zp):(cD x).length=48:=aI _ _
theorem xV(x:Zp):BN (cD x) 48=x.val:=by rw[cD,Dw _ (a9 x) 48 rfl,GC]
/-! ### Sums and differences -/
theorem q9(a b:L6):((SS a b 6).2=0∧V (SS a b 6).1 6+V b 6=V a 6)∨((SS a b 6).2=1∧V (SS a b 6).1 6+V b 6=V a 6+R6∧V a 6<V b 6):=by
 have h:=y8 a b
 have hl:=jv (SS a b 6).1
 rcases iq _ (wT a b 6)with ⟨e1,e2⟩|⟨e1,e2⟩
 ·exact .inl ⟨e1,by rw[e2,Nat.zero_mul,Nat.add_zero]at h;exact h⟩
 ·rw[e2,Nat.one_mul]at h
  exact .inr ⟨e1,h,om⟩
theorem Gr(a b:L6):((AS a b 6).2.toNat=0∧V (AS a b 6).1 6=V a 6+V b 6)∨((AS a b 6).2.toNat=1∧V (AS a b 6).1 6+R6=V a 6+V b 6):=by
 have h:=xf a b
 rcases iq _ (Hm a b 6)with ⟨_,e2⟩|⟨_,e2⟩
 ·exact .inl ⟨e2,by rw[e2,Nat.zero_mul,Nat.add_zero]at h;exact h⟩
 ·exact .inr ⟨e2,by rw[e2,Nat.one_mul]at h;exact h⟩
theorem Lb(x y:Zp):V (AS (fe x) (fe y) 6).1 6=V (fe x) 6+V (fe y) 6:=by
 have h4:=D7.1
 have hx:=oJ x
 have hy:=oJ y
 rcases Gr (fe x) (fe y)with ⟨_,h⟩|⟨_,h⟩
 ·exact h
 ·omega
theorem GT{x y:Zp}(h:V (AS (fe x) (fe y) 6).1 6<PP):(AS (fe x) (fe y) 6).1=fe (x+y):=
 mW (aR _ _ _) h (by rw[Lb,fD,iK,iK];grind)
theorem Fl{x y:Zp}(h:(SS (AS (fe x) (fe y) 6).1 PL 6).2=0):(SS (AS (fe x) (fe y) 6).1 PL 6).1=fe (x+y):=by
 have hs:=Lb x y
 have hp:=my
 have hx:=oJ x
 have hy:=oJ y
 rcases q9 (AS (fe x) (fe y) 6).1 PL with ⟨_,h'⟩|⟨h',_⟩
 ·refine mW (aM _ _ _) om ?_
  rw[hs,hp]at h'
  have e:=congrArg zp h'
  rw[fD,m6,fD,iK,iK]at e
  grind
 ·rw[h]at h';exact absurd h' dc
theorem M5{x y:Zp}(h:(SS (AS (fe x) (fe y) 6).1 PL 6).2=1):V (AS (fe x) (fe y) 6).1 6<PP:=by
 rcases q9 (AS (fe x) (fe y) 6).1 PL with ⟨h',_⟩|⟨_,_,h'⟩
 ·rw[h]at h';exact absurd h' dc
 ·rw[my]at h';exact h'
theorem wF{x:BitVec 64}(hc:x.toNat≤1)(h: ¬x=1):x=0:=by
 rcases iq x hc with ⟨e,_⟩|⟨e,_⟩
 ·exact e
 ·exact absurd e h
theorem A7{x y:Zp}(h:(SS (fe x) (fe y) 6).2=0):(SS (fe x) (fe y) 6).1=fe (x-y):=by
 have hx:=oJ x
 rcases q9 (fe x) (fe y)with ⟨_,h'⟩|⟨h',_⟩
 ·refine mW (aM _ _ _) om ?_
  have e:=congrArg zp h'
  rw[fD,iK,iK]at e
  grind
 ·rw[h]at h';exact absurd h' dc
theorem Is{x y:Zp}(h:(SS (fe x) (fe y) 6).2=1):(AS (SS (fe x) (fe y) 6).1 PL 6).1=fe (x-y):=by
 have hx:=oJ x
 have hy:=oJ y
 have hp:=my
 have h4:=yE
 rcases q9 (fe x) (fe y)with ⟨h',_⟩|⟨_,h',hl⟩
 ·rw[h]at h';exact absurd h' dc
 ·have hk:V (AS (SS (fe x) (fe y) 6).1 PL 6).1 6+V (fe y) 6=V (fe x) 6+PP:=by
   have:=jv (AS (SS (fe x) (fe y) 6).1 PL 6).1
   rcases Gr (SS (fe x) (fe y) 6).1 PL with ⟨_,h⟩|⟨_,h⟩<;>omega
  refine mW (aR _ _ _) om ?_
  have e:=congrArg zp hk
  rw[fD,fD,m6,iK,iK]at e
  grind
/-! ### Products -/
theorem QM: ¬PL.getD 0 0 % 2=0:=by decide+kernel
theorem ru(a b:L6)(ha:a.length=6):V (lR a b PL) 6<PP∧V (lR a b PL) 6*R6 % PP=V a 6*V b 6 % PP:=by
 have:=D0 a b PL ha rfl QM
 rw[my]at this
 exact this
theorem G0(x y:Zp):lR (fe x) (fe y) PL=fe (x*y):=Gx (aC _ _ _) (ru _ _ (aT x)) (iK x) (iK y)
def TWO:L6:=[0xf4df1f341c341746#64,0xa76e6a609d104f1#64,0x8de5476c4c95b6d5#64,0x67eb88a9939d83c0#64,0x9a793e85b519952d#64,0x11988fe592cae3aa#64]
def ONE:L6:=[0x760900000002fffd#64,0xebf4000bc40c0002#64,0x5f48985753c758ba#64,0x77ce585370525745#64,0x5c071a97a256ec6d#64,0x15f65ec3fa80e493#64]
def N1:L6:=1::List.replicate 5 0
theorem Ig:TWO.length=6:=rfl
theorem Nd:V N1 6=1:=by decide+kernel
def R6v:Nat:=39402006196394479212279040100143613805079739270465446667948293404245721771497210611414266254884915640806627990306816
theorem Oi:R6=R6v:=by decide+kernel
theorem sH:V TWO 6<PP∧zp (V TWO 6)=RZ*RZ:=⟨by decide+kernel,by
 have e:V TWO 6 % PP=R6v*R6v % PP:=by decide+kernel
 rw[xT e,ib,←Oi];rfl⟩
theorem Pm:TWO=fe RZ:=mW rfl sH.1 sH.2
theorem FT{l a b:L6}(hl:l.length=6)(h:V l 6<PP∧V l 6*R6 % PP=V a 6*V b 6 % PP)(ha:zp (V a 6)=RZ*RZ):l=fe (zp (V b 6)):=by
 refine mW hl h.1 (ko ?_)
 have:=xT h.2
 rw[ib,ib,ha]at this
 rw[show zp (V l 6)*RZ=RZ*RZ*zp (V b 6)from this]
 grind
theorem DP(n:L6):lR TWO n PL=fe (zp (V n 6)):=FT (aC _ _ _) (ru _ _ Ig) sH.2
theorem Dp(x:Zp):lR (fe x) N1 PL=nm x:=Iv (aC _ _ _) (ru _ _ (aT x)) (iK x) Nd
end
end Go.Proofs.YtfgacclgjklgnaaGreatDoor
