/- M0 -/
import Derived.Test.YtfgacclgjklgnaaGreatDoorX2
import Derived.KernelRfl
set_option maxRecDepth 100000
set_option maxHeartbeats 1000000
namespace Go.Proofs.YtfgacclgjklgnaaGreatDoor
section
def V(l:L6):Nat→Nat
 |0=>0
 |i+1=>V l i+(l.getD i 0).toNat*2^(64*i)
theorem kG(i:Nat):2^(64*(i+1))=2^(64*i)*18446744073709551616:=by rw[Nat.mul_add,Nat.pow_add]
theorem du(l:L6)(k:Nat)(x:BitVec 64)(hk:k<l.length):(l.set k x).getD k 0=x:=by simp[List.getD_eq_getElem?_getD,hk]
theorem fA(l:L6)(k i:Nat)(x:BitVec 64)(h:i≠k):(l.set k x).getD i 0=l.getD i 0:=by
 simp only[List.getD_eq_getElem?_getD,List.getElem?_set_ne (Ne.symm h)]
theorem iO(l:L6)(k:Nat)(x:BitVec 64): ∀i,i≤k→V (l.set k x) i=V l i
 |0,_=>rfl
 |i+1,h=>by rw[V,V,iO l k x i om,fA l k i x om]
theorem Dt(l:L6)(k:Nat)(x:BitVec 64)(hk:k<l.length): ∀n,k<n→V (l.set k x) n+(l.getD k 0).toNat*2^(64*k)=V l n+x.toNat*2^(64*k)
 |0,h=>om
 |n+1,h=>by
  rcases Nat.lt_or_ge k n with h'|h'
  ·have:=Dt l k x hk n h'
   rw[V,V,fA l k n x om]
   omega
  ·obtain rfl:k=n:=om
   rw[V,V,iO l k x k (Nat.le_refl _),du l k x hk]
   omega
theorem uo(l:L6): ∀i,V l i<2^(64*i)
 |0=>by simp[V]
 |i+1=>by
  have h1:=uo l i
  have h2:=(l.getD i 0).isLt
  rw[V,kG]
  have h3:(l.getD i 0).toNat*2^(64*i)≤18446744073709551615*2^(64*i):=Nat.mul_le_mul_right _ om
  omega
theorem K1(l:L6)(i:Nat):V l (i+1) % 2^(64*i)=V l i:=by
 rw[V,Nat.add_mul_mod_self_right,Nat.mod_eq_of_lt (uo l i)]
theorem D9(l:L6)(i:Nat):V l (i+1) / 2^(64*i)=(l.getD i 0).toNat:=by
 rw[V,Nat.add_mul_div_right _ _ (Nat.two_pow_pos _),Nat.div_eq_of_lt (uo l i),Nat.zero_add]
theorem Kk{l l':L6}: ∀(n:Nat),V l n=V l' n→∀i,i<n→l.getD i 0=l'.getD i 0
 |0,_,_,h=>om
 |n+1,e,i,h=>by
  have h1:V l n=V l' n:=by rw[←K1 l n,←K1 l' n,e]
  rcases Nat.lt_or_ge i n with h'|h'
  ·exact Kk n h1 i h'
  ·obtain rfl:i=n:=om
   apply BitVec.eq_of_toNat_eq
   rw[←D9 l i,←D9 l' i,e]
theorem yN{l l':L6}(n:Nat)(h:l.length=n)(h':l'.length=n)(e:V l n=V l' n):l=l':=by
 apply List.ext_getElem om
 intro i h1 h2
 have:=Kk n e i om
 simpa [List.getD_eq_getElem?_getD,h1,h2]using this
theorem jF(k:Nat): ∀n,V (List.replicate k 0#64) n=0
 |0=>rfl
 |n+1=>by
  have:((List.replicate k 0#64).getD n 0).toNat=0:=by
   rw[List.getD_eq_getElem?_getD,List.getElem?_replicate]
   split<;>rfl
  rw[V,jF k n,this];simp
/-! ### Sums -/
def ADC(x y c:BitVec 64):BitVec 64×BitVec 64:=(BitVec.ofNat 64 (x.toNat+y.toNat+c.toNat),BitVec.ofNat 64 ((x.toNat+y.toNat+c.toNat) / 18446744073709551616))
theorem zB(x y c:BitVec 64):(ADC x y c).1.toNat+(ADC x y c).2.toNat*18446744073709551616=x.toNat+y.toNat+c.toNat:=by
 simp only[ADC,BitVec.toNat_ofNat]
 omega
theorem Ee(x y c:BitVec 64)(h:c.toNat≤1):(ADC x y c).2.toNat≤1:=by
 have:=x.isLt;have:=y.isLt
 simp only[ADC,BitVec.toNat_ofNat]
 omega
def AS(a b:L6):Nat→L6×BitVec 64
 |0=>(List.replicate 6 0,0)
 |i+1=>((AS a b i).1.set i (ADC (a.getD i 0) (b.getD i 0) (AS a b i).2).1,(ADC (a.getD i 0) (b.getD i 0) (AS a b i).2).2)
theorem aT(a b:L6): ∀i,(AS a b i).1.length=6
 |0=>rfl
 |i+1=>by simp[AS,aT a b i]
theorem I0(a b:L6): ∀i,(AS a b i).2.toNat≤1
 |0=>by show (0:BitVec 64).toNat≤1;decide
 |i+1=>Ee _ _ _ (I0 a b i)
theorem DE(a b:L6): ∀i,i≤6→V (AS a b i).1 i+(AS a b i).2.toNat*2^(64*i)=V a i+V b i
 |0,_=>by simp[V,AS]
 |i+1,h=>by
  have ih:=DE a b i om
  have hv:=zB (a.getD i 0) (b.getD i 0) (AS a b i).2
  rw[V,V,V,AS,iO _ _ _ i (Nat.le_refl _),du _ _ _ (by rw[aT];omega),kG]
  generalize (ADC (a.getD i 0) (b.getD i 0) (AS a b i).2).1.toNat=s at*
  generalize (ADC (a.getD i 0) (b.getD i 0) (AS a b i).2).2.toNat=c at*
  generalize 2^(64*i)=q at*
  have e:s*q+c*(q*18446744073709551616)=(s+c*18446744073709551616)*q:=by rw[Nat.add_mul,Nat.mul_comm q,←Nat.mul_assoc]
  have e2:((a.getD i 0).toNat+(b.getD i 0).toNat+(AS a b i).2.toNat)*q=(a.getD i 0).toNat*q+(b.getD i 0).toNat*q+(AS a b i).2.toNat*q:=by rw[Nat.add_mul,Nat.add_mul]
  rw[hv,e2]at e
  omega
/-! ### Differences -/
def SBB(x y b:BitVec 64):BitVec 64×BitVec 64:=(BitVec.ofNat 64 (x.toNat+18446744073709551616-y.toNat-b.toNat),if x.toNat<y.toNat+b.toNat then 1 else 0)
theorem H8(x y b:BitVec 64)(h:b.toNat≤1):(SBB x y b).1.toNat+y.toNat+b.toNat=x.toNat+(SBB x y b).2.toNat*18446744073709551616:=by
 have:=x.isLt;have:=y.isLt
 simp only[SBB,BitVec.toNat_ofNat]
 split
 ·rw[show (1:BitVec 64).toNat=1 from rfl];omega
 ·rw[show (0:BitVec 64).toNat=0 from rfl];omega
theorem Uz(x y b:BitVec 64):(SBB x y b).2.toNat≤1:=by
 simp only[SBB]
 split<;>decide
def SS(a b:L6):Nat→L6×BitVec 64
 |0=>(List.replicate 6 0,0)
 |i+1=>((SS a b i).1.set i (SBB (a.getD i 0) (b.getD i 0) (SS a b i).2).1,(SBB (a.getD i 0) (b.getD i 0) (SS a b i).2).2)
theorem aO(a b:L6): ∀i,(SS a b i).1.length=6
 |0=>rfl
 |i+1=>by simp[SS,aO a b i]
theorem wB(a b:L6): ∀i,(SS a b i).2.toNat≤1
 |0=>by show (0:BitVec 64).toNat≤1;decide
 |i+1=>Uz _ _ _
theorem DF(a b:L6): ∀i,i≤6→V (SS a b i).1 i+V b i=V a i+(SS a b i).2.toNat*2^(64*i)
 |0,_=>by simp[V,SS]
 |i+1,h=>by
  have ih:=DF a b i om
  have hv:=H8 (a.getD i 0) (b.getD i 0) (SS a b i).2 (wB a b i)
  rw[V,V,V,SS,iO _ _ _ i (Nat.le_refl _),du _ _ _ (by rw[aO];omega),kG]
  generalize (SBB (a.getD i 0) (b.getD i 0) (SS a b i).2).1.toNat=s at*
  generalize (SBB (a.getD i 0) (b.getD i 0) (SS a b i).2).2.toNat=c at*
  generalize 2^(64*i)=q at*
  have e:(a.getD i 0).toNat*q+c*(q*18446744073709551616)=((a.getD i 0).toNat+c*18446744073709551616)*q:=by rw[Nat.add_mul,Nat.mul_comm q,←Nat.mul_assoc]
  have e2:(s+(b.getD i 0).toNat+(SS a b i).2.toNat)*q=s*q+(b.getD i 0).toNat*q+(SS a b i).2.toNat*q:=by rw[Nat.add_mul,Nat.add_mul]
  rw[←hv,e2]at e
  omega
/-! ### Order -/
def LT(a b:L6):Nat→Bool
 |0=>false
 |i+1=>if a.getD i 0<b.getD i 0 then true else if a.getD i 0>b.getD i 0 then false else LT a b i
theorem oT(a b:L6): ∀i,LT a b i=decide (V a i<V b i)
 |0=>by simp[LT,V]
 |i+1=>by
  have ih:=oT a b i
  have h1:=uo a i
  have h2:=uo b i
  rw[LT,V,V]
  generalize 2^(64*i)=q at*
  simp only[gt_iff_lt,BitVec.lt_def]
  generalize (a.getD i 0).toNat=x at*
  generalize (b.getD i 0).toNat=y at*
  rcases Nat.lt_trichotomy x y with h|h|h
  ·have:(x+1)*q≤y*q:=Nat.mul_le_mul_right _ h
   rw[Nat.add_mul]at this
   rw[if_pos h,decide_eq_true om]
  ·subst h
   rw[if_neg om,if_neg om,ih]
   congr 1
   apply propext
   omega
  ·have:(y+1)*q≤x*q:=Nat.mul_le_mul_right _ h
   rw[Nat.add_mul]at this
   rw[if_neg om,if_pos h,decide_eq_false om]
/-! ### Products -/
theorem AF(x y:Nat):x*y=(x / 4294967296)*(y / 4294967296)*18446744073709551616+((x / 4294967296)*(y % 4294967296)+(x % 4294967296)*(y / 4294967296))*4294967296+(x % 4294967296)*(y % 4294967296):=by
 conv=>lhs;rw[←Nat.div_add_mod x 4294967296,←Nat.div_add_mod y 4294967296]
 generalize x / 4294967296=a
 generalize x % 4294967296=b
 generalize y / 4294967296=c
 generalize y % 4294967296=d
 rw[Nat.add_mul,Nat.mul_add,Nat.mul_add,Nat.mul_mul_mul_comm 4294967296 a 4294967296 c,Nat.mul_assoc 4294967296 a d,←Nat.mul_assoc b 4294967296 c,Nat.mul_comm b 4294967296,Nat.mul_assoc 4294967296 b c]
 omega
def MH(x y:BitVec 64):BitVec 64:=BitVec.ofNat 64 (x.toNat*y.toNat / 18446744073709551616)
def MLo(x y:BitVec 64):BitVec 64:=BitVec.ofNat 64 (x.toNat*y.toNat)
theorem Dw{x y:Nat}(hx:x<18446744073709551616)(hy:y<18446744073709551616):x*y≤340282366920938463426481119284349108225:=(Nat.mul_le_mul (by omega:x≤18446744073709551615) (by omega:y≤18446744073709551615))
theorem P5(x y:BitVec 64):(MLo x y).toNat+(MH x y).toNat*18446744073709551616=x.toNat*y.toNat:=by
 have:=Dw x.isLt y.isLt
 simp only[MH,MLo,BitVec.toNat_ofNat]
 omega
theorem UP(x y:BitVec 64):(x>>>32)*(y>>>32)+(((x>>>32)*(y &&& 4294967295#64)+((x &&& 4294967295#64)*(y &&& 4294967295#64))>>>32)>>>32)+
 ((((x>>>32)*(y &&& 4294967295#64)+((x &&& 4294967295#64)*(y &&& 4294967295#64))>>>32) &&& 4294967295#64)+(x &&& 4294967295#64)*(y>>>32))>>>32=MH x y:=by
 have hx:=x.isLt
 have hy:=y.isLt
 have m32: ∀n:Nat,n &&& 4294967295=n % 4294967296:=fun n=>Nat.and_two_pow_sub_one_eq_mod n 32
 have s32: ∀n:Nat,n>>>32=n / 4294967296:=fun n=>Nat.shiftRight_eq_div_pow n 32
 apply BitVec.eq_of_toNat_eq
 simp only[MH,BitVec.toNat_ofNat,BitVec.toNat_add,BitVec.toNat_mul,BitVec.toNat_ushiftRight,BitVec.toNat_and,m32,s32,Nat.reduceMod,Nat.reducePow]
 rw[AF x.toNat y.toNat]
 have a1:x.toNat / 4294967296≤4294967295:=om
 have a2:x.toNat % 4294967296≤4294967295:=om
 have a3:y.toNat / 4294967296≤4294967295:=om
 have a4:y.toNat % 4294967296≤4294967295:=om
 generalize x.toNat / 4294967296=a at*
 generalize x.toNat % 4294967296=b at*
 generalize y.toNat / 4294967296=c at*
 generalize y.toNat % 4294967296=d at*
 have b1:a*c≤4294967295*4294967295:=Nat.mul_le_mul a1 a3
 have b2:a*d≤4294967295*4294967295:=Nat.mul_le_mul a1 a4
 have b3:b*c≤4294967295*4294967295:=Nat.mul_le_mul a2 a3
 have b4:b*d≤4294967295*4294967295:=Nat.mul_le_mul a2 a4
 generalize a*c=p at*
 generalize a*d=q at*
 generalize b*c=r at*
 generalize b*d=s at*
 omega
theorem N4(x y:BitVec 64):x*y=MLo x y:=by
 apply BitVec.eq_of_toNat_eq
 simp[MLo,BitVec.toNat_mul]
def MA(x y c d:BitVec 64):BitVec 64×BitVec 64:=((ADC (ADC (MLo x y) c 0).1 d 0).1,MH x y+(ADC (MLo x y) c 0).2+(ADC (ADC (MLo x y) c 0).1 d 0).2)
theorem mb(x y:BitVec 64):(ADC x y 0).1.toNat+(ADC x y 0).2.toNat*18446744073709551616=x.toNat+y.toNat:=by
 have h:=zB x y 0
 rw[show (0:BitVec 64).toNat=0 from rfl,Nat.add_zero]at h
 exact h
theorem Qw{l2 c2 l1 c1 hi lo p c d:Nat}(h1:lo+hi*18446744073709551616=p)(h2:l1+c1*18446744073709551616=lo+c)(h3:l2+c2*18446744073709551616=l1+d)(h4:p≤340282366920938463426481119284349108225)
 (h5:c<18446744073709551616) (h6:d<18446744073709551616) (_h7:l2<18446744073709551616):l2+((hi+c1) % 18446744073709551616+c2) % 18446744073709551616*18446744073709551616=p+c+d:=by
 have e0:(hi+c1+c2)*18446744073709551616+l2=p+c+d:=om
 have e1:hi+c1+c2<18446744073709551616:=by
  clear h1 h2 h3
  omega
 rw[Nat.mod_eq_of_lt (Nat.lt_of_le_of_lt (Nat.le_add_right _ c2) e1),Nat.mod_eq_of_lt e1]
 exact (Nat.add_comm _ _).trans e0
theorem s4(x y c d:BitVec 64):(MA x y c d).1.toNat+(MA x y c d).2.toNat*18446744073709551616=x.toNat*y.toNat+c.toNat+d.toNat:=
 Qw (P5 x y) (mb (MLo x y) c) (mb (ADC (MLo x y) c 0).1 d) (Dw x.isLt y.isLt) c.isLt d.isLt (ADC (ADC (MLo x y) c 0).1 d 0).1.isLt
def MI(x:BitVec 64)(b:L6)(i:Nat)(p:L6):Nat→L6×BitVec 64
 |0=>(p,0)
 |j+1=>((MI x b i p j).1.set (i+j) (MA x (b.getD j 0) ((MI x b i p j).1.getD (i+j) 0) (MI x b i p j).2).1,(MA x (b.getD j 0) ((MI x b i p j).1.getD (i+j) 0) (MI x b i p j).2).2)
theorem vi(x:BitVec 64)(b:L6)(i:Nat)(p:L6): ∀j,(MI x b i p j).1.length=p.length
 |0=>rfl
 |j+1=>by simp[MI,vi x b i p j]
theorem Bp(x:BitVec 64)(b:L6)(i n:Nat)(p:L6)(hp:p.length=n): ∀j,i+j≤n→V (MI x b i p j).1 n+(MI x b i p j).2.toNat*2^(64*(i+j))=V p n+x.toNat*V b j*2^(64*i)
 |0,_=>by simp[MI,V]
 |j+1,h=>by
  have ih:=Bp x b i n p hp j om
  have hs:=Dt (MI x b i p j).1 (i+j) (MA x (b.getD j 0) ((MI x b i p j).1.getD (i+j) 0) (MI x b i p j).2).1 (by rw[vi];omega) n om
  have hv:=s4 x (b.getD j 0) ((MI x b i p j).1.getD (i+j) 0) (MI x b i p j).2
  rw[MI,V,←Nat.add_assoc i j 1,kG]
  dsimp only
  have e0:x.toNat*(V b j+(b.getD j 0).toNat*2^(64*j))*2^(64*i)=x.toNat*V b j*2^(64*i)+x.toNat*(b.getD j 0).toNat*2^(64*(i+j)):=by
   rw[Nat.mul_add x.toNat,Nat.add_mul,←Nat.mul_assoc x.toNat,Nat.mul_assoc (x.toNat*(b.getD j 0).toNat),←Nat.pow_add,Nat.mul_add 64 i j,Nat.add_comm (64*j)]
  rw[e0]
  generalize (MA x (b.getD j 0) ((MI x b i p j).1.getD (i+j) 0) (MI x b i p j).2).1=lo at*
  generalize (MA x (b.getD j 0) ((MI x b i p j).1.getD (i+j) 0) (MI x b i p j).2).2.toNat=hi at*
  generalize 2^(64*(i+j))=q at*
  generalize x.toNat*(b.getD j 0).toNat=xy at*
  have e1:lo.toNat*q+hi*(q*18446744073709551616)=(lo.toNat+hi*18446744073709551616)*q:=by rw[Nat.add_mul,Nat.mul_comm q,←Nat.mul_assoc]
  rw[hv,Nat.add_mul,Nat.add_mul]at e1
  omega
def MU(a b:L6):Nat→L6
 |0=>List.replicate 12 0
 |i+1=>(MI (a.getD i 0) b i (MU a b i) 6).1.set (i+6) (MI (a.getD i 0) b i (MU a b i) 6).2
end
section
/-! ### Bits of a number -/
theorem B6(l:L6)(q:Nat): ∀n,q≤n→∃k,V l n=V l q+2^(64*q)*k
 |0,h=>⟨0,by obtain rfl:q=0:=om
             simp⟩
 |n+1,h=>by
  rcases Nat.lt_or_ge q (n+1)with h'|h'
  ·obtain ⟨k,hk⟩:=B6 l q n om
   refine ⟨k+(l.getD n 0).toNat*2^(64*(n-q)), ?_⟩
   rw[V,hk,Nat.mul_add,Nat.add_assoc,←Nat.mul_assoc,Nat.mul_comm (2^(64*q)) (l.getD n 0).toNat,Nat.mul_assoc,←Nat.pow_add,←Nat.mul_add,show q+(n-q)=n by omega]
  ·obtain rfl:q=n+1:=om
   exact ⟨0,sm⟩
def dig(a:L6)(n:Nat):BitVec 64:=(a.getD (n / 64) 0>>>(n % 64)) &&& 1#64
theorem Nh(a:L6)(q s:Nat)(hs:s<64):(a.getD q 0>>>s) &&& 1#64=dig a (64*q+s):=by
 rw[dig,show (64*q+s) / 64=q by omega,show (64*q+s) % 64=s by omega]
theorem half(x k r:Nat)(hr:r<64):(x+18446744073709551616*k) / 2^r % 2=x / 2^r % 2:=by
 have e:(18446744073709551616:Nat)=2^r*(2^(63-r)*2):=by
  rw[←Nat.pow_succ,←Nat.pow_add,show r+(63-r).succ=64 by omega]
 rw[e,Nat.mul_assoc,Nat.add_mul_div_left _ _ (Nat.two_pow_pos r),Nat.mul_right_comm,Nat.add_mul_mod_self_right]
theorem rH(a:L6)(N n:Nat)(h:n<64*N):(dig a n).toNat=V a N / 2^n % 2:=by
 obtain ⟨k,hk⟩:=B6 a (n / 64+1) N om
 have h1:V a N / 2^(64*(n / 64))=(a.getD (n / 64) 0).toNat+18446744073709551616*k:=by
  rw[hk,kG,Nat.mul_assoc,Nat.add_mul_div_left _ _ (Nat.two_pow_pos _),D9]
 have h2:2^n=2^(64*(n / 64))*2^(n % 64):=by rw[←Nat.pow_add,Nat.div_add_mod]
 rw[h2,←Nat.div_div_eq_div_mul,h1,half _ _ _ (Nat.mod_lt _ dc)]
 rw[dig,BitVec.toNat_and,BitVec.toNat_ushiftRight,Nat.shiftRight_eq_div_pow]
 exact Nat.and_one_is_mod _
theorem OO(a:L6)(n:Nat):(dig a n).toNat≤1:=by
 rw[dig,BitVec.toNat_and]
 have:=Nat.and_one_is_mod (a.getD (n / 64) 0>>>(n % 64)).toNat
 show (a.getD (n / 64) 0>>>(n % 64)).toNat &&& 1≤1
 omega
def R6:Nat:=2^(64*6)
theorem fO:R6=2^(64*6):=by rw[R6]
theorem kh(l:L6):V l 6<R6:=by rw[fO];exact uo l 6
theorem xA(a b:L6):V (AS a b 6).1 6+(AS a b 6).2.toNat*R6=V a 6+V b 6:=by rw[fO];exact DE a b 6 (Nat.le_refl _)
theorem zK(a b:L6):V (SS a b 6).1 6+V b 6=V a 6+(SS a b 6).2.toNat*R6:=by rw[fO];exact DF a b 6 (Nat.le_refl _)
/-! ### What is left of a number below twice the modulus -/
def RED(a:L6)(top:BitVec 64)(m:L6):L6:=if top=0∧(SS a m 6).2=1 then a else (SS a m 6).1
theorem jf(a:L6)(top:BitVec 64)(m:L6)(ha:a.length=6):(RED a top m).length=6:=by
 unfold RED
 split
 ·exact ha
 ·exact aO _ _ _
theorem iF(x:BitVec 64)(h:x.toNat≤1):x=0∧x.toNat=0∨x=1∧x.toNat=1:=by
 have:x.toNat=0∨x.toNat=1:=om
 rcases this with h|h
 ·exact .inl ⟨BitVec.eq_of_toNat_eq h,h⟩
 ·exact .inr ⟨BitVec.eq_of_toNat_eq h,h⟩
theorem qJ{x m:Nat}(h:m≤x)(h':x<2*m):x % m=x-m:=by
 rw[Nat.mod_eq_sub_mod h,Nat.mod_eq_of_lt om]
theorem one_ne: ¬(1:BitVec 64)=0:=dc
theorem Hj: ¬(0:BitVec 64)=1:=dc
theorem zz(a:L6)(top:BitVec 64)(m:L6)(ht:top.toNat≤1)(hA:V a 6+top.toNat*R6<2*V m 6):V (RED a top m) 6=(V a 6+top.toNat*R6) % V m 6:=by
 have hs:=zK a m
 have h1:=kh (SS a m 6).1
 have h2:=kh m
 have h3:=kh a
 unfold RED
 rcases iF top ht with ⟨e1,e2⟩|⟨e1,e2⟩<;>rcases iF _ (wB a m 6)with ⟨f1,f2⟩|⟨f1,f2⟩
 ·rw[if_neg (by rw[f1];exact fun h=>Hj h.2)]
  rw[e2]at hA⊢
  rw[f2]at hs
  rw[Nat.zero_mul,Nat.add_zero]at*
  rw[qJ om hA]
  omega
 ·rw[if_pos ⟨e1,f1⟩]
  rw[e2]at hA⊢
  rw[f2]at hs
  rw[Nat.zero_mul,Nat.add_zero]at*
  rw[Nat.mod_eq_of_lt om]
 ·rw[if_neg (by rw[e1];exact fun h=>one_ne h.1)]
  rw[e2]at hA⊢
  rw[f2]at hs
  rw[Nat.one_mul]at*
  omega
 ·rw[if_neg (by rw[e1];exact fun h=>one_ne h.1)]
  rw[e2]at hA⊢
  rw[f2]at hs
  rw[Nat.one_mul]at*
  rw[qJ om hA]
  omega
/-! ### Bit by bit -/
def TW(l:L6)(d:BitVec 64):L6:=(AS l l 6).1.set 0 ((AS l l 6).1.getD 0 0|||d)
theorem vr(l:L6)(d:BitVec 64):(TW l d).length=6:=by rw[TW,List.length_set,aT]
theorem Qc(x d:BitVec 64)(hx:x.toNat % 2=0)(hd:d.toNat≤1):(x|||d).toNat=x.toNat+d.toNat:=by
 rw[BitVec.toNat_or]
 have h:=Nat.two_pow_add_eq_or_of_lt (i:=1) (b:=d.toNat) om (x.toNat / 2)
 rw[show 2^1*(x.toNat / 2)=x.toNat by omega]at h
 exact h.symm
theorem CY(l:L6): ∀i,(AS l l (i+1)).1.getD 0 0=(ADC (l.getD 0 0) (l.getD 0 0) 0).1
 |0=>by rw[AS];exact du _ _ _ (by rw[aT];omega)
 |i+1=>by rw[AS,fA _ _ _ _ om,CY l i]
theorem Mg(l:L6)(d:BitVec 64)(hd:d.toNat≤1):V (TW l d) 6+(AS l l 6).2.toNat*R6=2*V l 6+d.toNat:=by
 have h1:=xA l l
 have h2:=Dt (AS l l 6).1 0 ((AS l l 6).1.getD 0 0|||d) (by rw[aT];omega) 6 om
 have h4:((AS l l 6).1.getD 0 0).toNat % 2=0:=by
  rw[CY l 5,ADC]
  simp only[BitVec.toNat_ofNat]
  rw[show (0:BitVec 64).toNat=0 from rfl]
  omega
 rw[Qc _ _ h4 hd,show 2^(64*0)=1 from rfl,Nat.mul_one,Nat.mul_one]at h2
 rw[TW]
 omega
def MDs(t m:L6):Nat→L6
 |0=>List.replicate 6 0
 |j+1=>RED (TW (MDs t m j) (dig t (767-j))) (AS (MDs t m j) (MDs t m j) 6).2 m
theorem gh(t m:L6): ∀j,(MDs t m j).length=6
 |0=>rfl
 |_+1=>jf _ _ _ (vr _ _)
theorem EO(E X j:Nat)(hE:E=768)(hj:j<768):X / 2^(E-(j+1))=2*(X / 2^(E-j))+X / 2^(767-j) % 2:=by
 rw[show E-(j+1)=767-j by omega,show E-j=(767-j)+1 by omega,Nat.pow_succ,←Nat.div_div_eq_div_mul]
 omega
theorem E8{x m:Nat}(d:Nat):(2*(x % m)+d) % m=(2*x+d) % m:=by
 rw[Nat.add_mod,Nat.mul_mod,Nat.mod_mod,←Nat.mul_mod,←Nat.add_mod]
theorem rl(t m:L6)(hm:0<V m 6)(E:Nat)(hE:E=768): ∀j,j≤768→V (MDs t m j) 6=V t 12 / 2^(E-j) % V m 6
 |0,_=>by
  rw[MDs,show V (List.replicate 6 0) 6=0 from jF 6 6,show E-0=64*12 by omega,Nat.div_eq_of_lt (uo t 12),Nat.zero_mod]
 |j+1,h=>by
  have ih:=rl t m hm E hE j om
  have hd:=rH t 12 (767-j) om
  have hle:=OO t (767-j)
  have ht:=Mg (MDs t m j) (dig t (767-j)) hle
  have hlt:=Nat.mod_lt (V t 12 / 2^(E-j)) hm
  rw[MDs,zz _ _ _ (I0 _ _ _) (by rw[ht,ih];omega),ht,ih,hd,E8,←EO E _ _ hE om]
theorem JG(m:L6)(h:m.length=6)(hm:m≠List.replicate 6 0):0<V m 6:=by
 rcases Nat.eq_zero_or_pos (V m 6)with h0|h0
 ·exact absurd (yN 6 h sm (h0.trans (jF 6 6).symm)) hm
 ·exact h0
def MOD(t m:L6):L6:=if m=List.replicate 6 0 then List.replicate 6 0 else MDs t m 768
theorem n9(t m:L6):(MOD t m).length=6:=by
 unfold MOD
 split
 ·rfl
 ·exact gh _ _ _
theorem Io(t m:L6)(h:m.length=6)(hm:m≠List.replicate 6 0):V (MOD t m) 6=V t 12 % V m 6:=by
 obtain ⟨E,hE⟩: ∃E,E=768:=⟨768,rfl⟩
 rw[MOD,if_neg hm,rl t m (JG m h hm) E hE 768 (Nat.le_refl _),show E-768=0 by omega,Nat.pow_zero,Nat.div_one]
/-! ### The same by shifts -/
end
section
/-! ### The inverse of an odd part -/
def IV(n:BitVec 64):Nat→BitVec 64
 |0=>n
 |k+1=>IV n k*(2#64-n*IV n k)
def IW(n:BitVec 64):Nat→BitVec 64
 |0=>n*n-1
 |k+1=>IW n k*IW n k
theorem U7(n:BitVec 64): ∀k,n*IV n k-1=IW n k∨n*IV n k-1= -IW n k
 |0=>.inl rfl
 |k+1=>by
  right
  have h:n*(IV n k*(2#64-n*IV n k))-1= -((n*IV n k-1)*(n*IV n k-1)):=by grind
  rw[IV,IW,h]
  rcases U7 n k with e|e
  ·rw[e]
  ·rw[e];grind
theorem QF(n:BitVec 64)(h:n.toNat % 2=1): ∃z:BitVec 64,n*n-1=8#64*z:=by
 refine ⟨(n*n-1)>>>3, ?_⟩
 have h1:(n*n-1).toNat % 8=0:=by
  have e:(n*n).toNat=n.toNat*n.toNat % 18446744073709551616:=BitVec.toNat_mul n n
  have e1:n.toNat*n.toNat % 8=1:=by
   have:n.toNat % 8=1∨n.toNat % 8=3∨n.toNat % 8=5∨n.toNat % 8=7:=om
   rw[Nat.mul_mod]
   rcases this with h|h|h|h<;>rw[h]
  rw[BitVec.toNat_sub,e,show (1:BitVec 64).toNat=1 from rfl]
  omega
 apply BitVec.eq_of_toNat_eq
 rw[BitVec.toNat_mul,BitVec.toNat_ushiftRight,Nat.shiftRight_eq_div_pow,show (8#64).toNat=8 from rfl]
 have:=(n*n-1).isLt
 omega
theorem GT(n:BitVec 64)(h:n.toNat % 2=1):IW n 5=0:=by
 obtain ⟨z,hz⟩:=QF n h
 have h1:IW n 1=64#64*(z*z):=by rw[IW,IW,hz];grind
 have h2:IW n 2=4096#64*((z*z)*(z*z)):=by rw[show IW n 2=IW n 1*IW n 1 from rfl,h1];grind
 have h3:IW n 3=16777216#64*(((z*z)*(z*z))*((z*z)*(z*z))):=by rw[show IW n 3=IW n 2*IW n 2 from rfl,h2];generalize (z*z)*(z*z)=y;grind
 generalize ((z*z)*(z*z))*((z*z)*(z*z))=y at h3
 have h4:IW n 4=281474976710656#64*(y*y):=by rw[show IW n 4=IW n 3*IW n 3 from rfl,h3];grind
 rw[show IW n 5=IW n 4*IW n 4 from rfl,h4]
 generalize y*y=x
 have:281474976710656#64*x*(281474976710656#64*x)=(281474976710656#64*281474976710656#64)*(x*x):=by grind
 rw[this,show 281474976710656#64*281474976710656#64=0#64 from by decide]
 exact BitVec.zero_mul
theorem Nd(n:BitVec 64)(h:n.toNat % 2=1):n*IV n 5=1:=by
 have h0:=GT n h
 rcases U7 n 5 with e|e<;>rw[h0]at e
 ·have:n*IV n 5=(n*IV n 5-1)+1:=by grind
  rw[this,e];rfl
 ·have:n*IV n 5=(n*IV n 5-1)+1:=by grind
  rw[this,e];rfl
/-! ### One row -/
def MJ(x:BitVec 64)(b:L6)(p:L6):Nat→L6×BitVec 64
 |0=>(p,0)
 |j+1=>((MJ x b p j).1.set j (MA x (b.getD j 0) ((MJ x b p j).1.getD j 0) (MJ x b p j).2).1,(MA x (b.getD j 0) ((MJ x b p j).1.getD j 0) (MJ x b p j).2).2)
theorem Gc(x:BitVec 64)(b p:L6): ∀j,MJ x b p j=MI x b 0 p j
 |0=>rfl
 |j+1=>by rw[MJ,MI,Gc x b p j,Nat.zero_add]
theorem ka(x:BitVec 64)(b p:L6)(j:Nat):(MJ x b p j).1.length=p.length:=by rw[Gc,vi]
theorem Mi(x:BitVec 64)(b p:L6)(hp:p.length=6):V (MJ x b p 6).1 6+(MJ x b p 6).2.toNat*R6=V p 6+x.toNat*V b 6:=by
 have h:=Bp x b 0 6 p hp 6 om
 rw[←Gc,Nat.zero_add,←fO,Nat.mul_zero,Nat.pow_zero,Nat.mul_one]at h
 exact h
def MR(t:BitVec 64)(m s:L6):Nat→L6×BitVec 64
 |0=>(s,(MA t (m.getD 0 0) (s.getD 0 0) 0).2)
 |j+1=>((MR t m s j).1.set j (MA t (m.getD (j+1) 0) ((MR t m s j).1.getD (j+1) 0) (MR t m s j).2).1,(MA t (m.getD (j+1) 0) ((MR t m s j).1.getD (j+1) 0) (MR t m s j).2).2)
theorem iy(t:BitVec 64)(m s:L6): ∀j,(MR t m s j).1.length=s.length
 |0=>rfl
 |j+1=>by simp[MR,iy t m s j]
theorem Bz(t:BitVec 64)(m s:L6)(k:Nat): ∀j,j≤k→(MR t m s j).1.getD k 0=s.getD k 0
 |0,_=>rfl
 |j+1,h=>by rw[MR,fA _ _ _ _ om,Bz t m s k j om]
theorem QC{Vj c Z X1 X2 s t1 t2:Nat}(B:Nat)(h:(Vj+c)*B=Z+t2)(e:X1+X2=t1+s+c):(Vj+X1+X2)*B=Z+s*B+(t2+t1*B):=by
 rw[Nat.add_assoc,e,Nat.add_mul,Nat.add_mul,Nat.add_mul]
 rw[Nat.add_mul]at h
 omega
theorem Dn(t:BitVec 64)(m s:L6)(hs:s.length=6)(h0:(MA t (m.getD 0 0) (s.getD 0 0) 0).1=0): ∀j,j≤5→(V (MR t m s j).1 j+(MR t m s j).2.toNat*2^(64*j))*18446744073709551616=V s (j+1)+t.toNat*V m (j+1)
 |0,_=>by
  have h:=s4 t (m.getD 0 0) (s.getD 0 0) 0
  rw[h0,show (0:BitVec 64).toNat=0 from rfl]at h
  rw[V,V,V,V,V,show 2^(64*0)=1 from rfl,MR]
  simp only[Nat.zero_add,Nat.mul_one]
  omega
 |j+1,h=>by
  have ih:=Dn t m s hs h0 j om
  have hv:=s4 t (m.getD (j+1) 0) ((MR t m s j).1.getD (j+1) 0) (MR t m s j).2
  rw[show V s (j+1+1)=V s (j+1)+(s.getD (j+1) 0).toNat*2^(64*(j+1))from rfl,show V m (j+1+1)=V m (j+1)+(m.getD (j+1) 0).toNat*2^(64*(j+1))from rfl]
  rw[MR,V,iO _ _ _ j (Nat.le_refl _),du _ _ _ (by rw[iy];omega)]
  dsimp only
  rw[Bz t m s (j+1) j om]at hv⊢
  rw[kG]
  generalize (MA t (m.getD (j+1) 0) (s.getD (j+1) 0) (MR t m s j).2).1.toNat=lo at*
  generalize (MA t (m.getD (j+1) 0) (s.getD (j+1) 0) (MR t m s j).2).2.toNat=hi at*
  generalize 2^(64*j)=q at*
  have e1:lo*q+hi*(q*18446744073709551616)=(lo+hi*18446744073709551616)*q:=by rw[Nat.add_mul,Nat.mul_comm q,←Nat.mul_assoc]
  rw[hv,Nat.add_mul,Nat.add_mul]at e1
  have e2:t.toNat*(V m (j+1)+(m.getD (j+1) 0).toNat*(q*18446744073709551616))=t.toNat*V m (j+1)+t.toNat*(m.getD (j+1) 0).toNat*q*18446744073709551616:=by
   rw[Nat.mul_add,←Nat.mul_assoc t.toNat (m.getD (j+1) 0).toNat,←Nat.mul_assoc (t.toNat*(m.getD (j+1) 0).toNat) q]
  have e3:(s.getD (j+1) 0).toNat*(q*18446744073709551616)=(s.getD (j+1) 0).toNat*q*18446744073709551616:=by rw[←Nat.mul_assoc]
  rw[e2,e3]
  clear h0 hv e2 e3
  exact QC _ ih e1
theorem qb(l:L6)(i:Nat):V l (i+1)=V l i+(l.getD i 0).toNat*2^(64*i):=rfl
def MO(a b m:L6)(cl:BitVec 64):Nat→L6×BitVec 64
 |0=>(List.replicate 6 0,0)
 |i+1=>
  let s:=MJ (a.getD i 0) b (MO a b m cl i).1 6
  let p:=ADC (MO a b m cl i).2 s.2 0
  let r:=MR (s.1.getD 0 0*cl) m s.1 5
  let q:=ADC p.1 r.2 0
  (r.1.set 5 q.1,p.2+q.2)
theorem n8(a b m:L6)(cl:BitVec 64)(i:Nat){s r:L6×BitVec 64}(hs:MJ (a.getD i 0) b (MO a b m cl i).1 6=s)(hr:MR (s.1.getD 0 0*cl) m s.1 5=r):
 MO a b m cl (i+1)=(r.1.set 5 (ADC (ADC (MO a b m cl i).2 s.2 0).1 r.2 0).1,(ADC (MO a b m cl i).2 s.2 0).2+(ADC (ADC (MO a b m cl i).2 s.2 0).1 r.2 0).2):=by
 subst hs
 subst hr
 rw[MO]
theorem dQ(a b m:L6)(cl:BitVec 64): ∀i,(MO a b m cl i).1.length=6
 |0=>rfl
 |i+1=>by simp[MO,iy,ka,dQ a b m cl i]
theorem He{lo hi p s:Nat}(h:lo+hi*18446744073709551616=p+s+0)(h1:lo<18446744073709551616)(h2:(p+s) % 18446744073709551616=0):lo=0:=om
theorem Bj(s0 m0 cl:BitVec 64)(h:m0*cl= -1):(MA (s0*cl) m0 s0 0).1=0:=by
 have hv:=s4 (s0*cl) m0 s0 0
 have hlt:=(MA (s0*cl) m0 s0 0).1.isLt
 have e:s0*cl*m0+s0=0:=by
  have:s0*cl*m0+s0=s0*(m0*cl)+s0:=by grind
  rw[this,h];grind
 have e2:=congrArg BitVec.toNat e
 rw[BitVec.toNat_add,BitVec.toNat_mul]at e2
 rw[show (0:BitVec 64).toNat=0 from rfl]at e2 hv
 apply BitVec.eq_of_toNat_eq
 rw[show (0:BitVec 64).toNat=0 from rfl]
 rw[Nat.add_mod,Nat.mod_mod,←Nat.add_mod]at e2
 exact He hv hlt e2
theorem MZ{q5 V0 V1 V5 s0 c p1 p2 r x5 q2 B M t top R:Nat}(W:Nat)(hR:R=q5*W)
 (h1:V1+c*R=V0+s0*B) (h2:p1+p2*W=top+c) (h3:(V5+r*q5)*W=V1+t*M) (h4:x5+q2*W=p1+r):
 (V5+x5*q5+(p2+q2)*R)*W=V0+top*R+s0*B+t*M:=by
 have e4:(x5+q2*W)*R=(p1+r)*R:=by rw[h4]
 have e2:(p1+p2*W)*R=(top+c)*R:=by rw[h2]
 have e3:V5*W+r*R=V1+t*M:=by rw[←h3,Nat.add_mul,Nat.mul_assoc,←hR]
 have eg:(V5+x5*q5+(p2+q2)*R)*W=V5*W+x5*R+(p2*W*R+q2*W*R):=by
  rw[Nat.add_mul,Nat.add_mul,Nat.mul_assoc x5,←hR,Nat.add_mul,Nat.add_mul,Nat.mul_right_comm,Nat.mul_right_comm q2]
 rw[Nat.add_mul,Nat.add_mul]at e4 e2
 rw[eg]
 omega
theorem IT(n:Nat)(h:n=5+1):2^(64*n)=2^(64*5)*18446744073709551616:=by rw[h];exact kG 5
theorem OU:R6=2^(64*5)*18446744073709551616:=by rw[fO];exact IT 6 rfl
theorem I2(a b m:L6)(cl:BitVec 64)(hcl:m.getD 0 0*cl= -1)(i:Nat):
 ∃t,t<18446744073709551616∧(V (MO a b m cl (i+1)).1 6+(MO a b m cl (i+1)).2.toNat*R6)*18446744073709551616=V (MO a b m cl i).1 6+(MO a b m cl i).2.toNat*R6+(a.getD i 0).toNat*V b 6+t*V m 6:=by
 have h1:=Mi (a.getD i 0) b (MO a b m cl i).1 (dQ a b m cl i)
 have hl:(MJ (a.getD i 0) b (MO a b m cl i).1 6).1.length=6:=by rw[ka,dQ]
 rw[MO]
 dsimp only
 generalize MJ (a.getD i 0) b (MO a b m cl i).1 6=s at*
 have h2:=mb (MO a b m cl i).2 s.2
 have hp:=Ee (MO a b m cl i).2 s.2 0 dc
 generalize ADC (MO a b m cl i).2 s.2 0=p at*
 have h3:=Dn (s.1.getD 0 0*cl) m s.1 hl (Bj _ _ _ hcl) 5 (Nat.le_refl _)
 have hl2:(MR (s.1.getD 0 0*cl) m s.1 5).1.length=6:=by rw[iy,hl]
 refine ⟨(s.1.getD 0 0*cl).toNat,(s.1.getD 0 0*cl).isLt, ?_⟩
 generalize s.1.getD 0 0*cl=t at*
 generalize MR t m s.1 5=r at*
 have h4:=mb p.1 r.2
 have hq:=Ee p.1 r.2 0 dc
 generalize ADC p.1 r.2 0=q at*
 have e:V (r.1.set 5 q.1) 6=V r.1 5+q.1.toNat*2^(64*5):=by
  refine (qb _ 5).trans ?_
  rw[iO _ _ _ 5 (Nat.le_refl _),du _ _ _ om]
 have e2:(p.2+q.2).toNat=p.2.toNat+q.2.toNat:=by rw[BitVec.toNat_add];omega
 rw[e,e2]
 exact MZ _ OU h1 h2 h3 h4
theorem Ff(a b m:L6)(cl:BitVec 64)(hcl:m.getD 0 0*cl= -1): ∀i,∃Q,Q<2^(64*i)∧(V (MO a b m cl i).1 6+(MO a b m cl i).2.toNat*R6)*2^(64*i)=V a i*V b 6+Q*V m 6
 |0=>⟨0,dc,by
  rw[MO,show V (List.replicate 6 0) 6=0 from jF 6 6,show (0:BitVec 64).toNat=0 from rfl,V]
  simp⟩
 |i+1=>by
  obtain ⟨Q,hQ,ih⟩:=Ff a b m cl hcl i
  obtain ⟨t,ht,hs⟩:=I2 a b m cl hcl i
  refine ⟨Q+t*2^(64*i), ?_, ?_⟩
  ·rw[kG]
   have:t*2^(64*i)≤18446744073709551615*2^(64*i):=Nat.mul_le_mul_right _ om
   omega
  ·rw[kG,Nat.mul_comm (2^(64*i)),←Nat.mul_assoc,hs,show V a (i+1)=V a i+(a.getD i 0).toNat*2^(64*i)from rfl]
   generalize V (MO a b m cl i).1 6+(MO a b m cl i).2.toNat*R6=S at*
   generalize 2^(64*i)=q at*
   rw[Nat.add_mul,Nat.add_mul,ih,Nat.add_mul,Nat.add_mul,Nat.mul_right_comm (a.getD i 0).toNat,Nat.mul_right_comm t]
   omega
/-! ### The product -/
def MN(a b m:L6):L6:=RED (MO a b m (-(IV (m.getD 0 0) 5)) 6).1 (MO a b m (-(IV (m.getD 0 0) 5)) 6).2 m
def ma(a b m:L6):L6:=
 if m.getD 0 0 % 2=0 then List.replicate 6 0 else if LT a m 6 then MN a b m else MN (MOD (a++List.replicate 6 0) m) b m
theorem N8(a b m:L6):(MN a b m).length=6:=jf _ _ _ (dQ _ _ _ _ _)
theorem PZ:0<R6:=Nat.lt_of_le_of_lt (Nat.zero_le _) (kh [])
theorem BB(a b m:L6)(hm:(m.getD 0 0).toNat % 2=1)(ha:V a 6<V m 6):V (MN a b m) 6<V m 6∧V (MN a b m) 6*R6 % V m 6=V a 6*V b 6 % V m 6:=by
 have hcl:m.getD 0 0* -(IV (m.getD 0 0) 5)= -1:=by
  have h:=Nd _ hm
  have:m.getD 0 0* -(IV (m.getD 0 0) 5)= -(m.getD 0 0*IV (m.getD 0 0) 5):=by grind
  rw[this,h]
 obtain ⟨Q,hQ,h⟩:=Ff a b m _ hcl 6
 rw[←fO]at hQ h
 have hR:=PZ
 have hb:=kh b
 have hml:=kh m
 unfold MN
 generalize MO a b m (-(IV (m.getD 0 0) 5)) 6=s at*
 have hS:V s.1 6+s.2.toNat*R6<2*V m 6:=by
  have b1:V a 6*V b 6≤V m 6*R6:=Nat.mul_le_mul (Nat.le_of_lt ha) (Nat.le_of_lt hb)
  have b2:Q*V m 6<R6*V m 6:=(Nat.mul_lt_mul_right om).2 hQ
  have b3:(V s.1 6+s.2.toNat*R6)*R6<2*V m 6*R6:=by
   rw[h,Nat.mul_assoc,Nat.mul_comm R6]at*
   omega
  exact Nat.lt_of_mul_lt_mul_right b3
 have ht:s.2.toNat≤1:=by
  rcases Nat.lt_or_ge s.2.toNat 2 with h'|h'
  ·omega
  ·have:2*R6≤s.2.toNat*R6:=Nat.mul_le_mul_right _ h'
   omega
 rw[zz _ _ _ ht hS]
 refine ⟨Nat.mod_lt _ om, ?_⟩
 rw[Nat.mul_mod,Nat.mod_mod,←Nat.mul_mod,h,Nat.add_mul_mod_self_right]
theorem ST(a:L6)(h:a.length=6):V (a++List.replicate 6 0) 12=V a 6:=by
 have key: ∀k,k≤6→V (a++List.replicate 6 0) k=V a k:=fun k=>by
  induction k with
  |zero=>intro _;rfl
  |succ k ih=>
   intro hk
   rw[V,V,ih om]
   simp only[List.getD_eq_getElem?_getD]
   rw[List.getElem?_append_left om]
 have z: ∀k,6≤k→(a++List.replicate 6 0).getD k 0=0:=fun k hk=>by
  rw[List.getD_eq_getElem?_getD,List.getElem?_append_right om,List.getElem?_replicate]
  split<;>rfl
 have key2: ∀k,V (a++List.replicate 6 0) (6+k)=V a 6:=fun k=>by
  induction k with
  |zero=>exact key 6 (Nat.le_refl _)
  |succ k ih=>
   rw[←Nat.add_assoc,V,ih,z _ om,show (0:BitVec 64).toNat=0 from rfl,Nat.zero_mul,Nat.add_zero]
 exact key2 6
theorem OR(m:L6)(h: ¬m.getD 0 0 % 2=0):(m.getD 0 0).toNat % 2=1:=by
 have h1: ¬(m.getD 0 0).toNat % 2=0:=fun e=>h (by
  apply BitVec.eq_of_toNat_eq
  rw[BitVec.toNat_umod]
  exact e)
 omega
theorem Pb(m:L6)(h:(m.getD 0 0).toNat % 2=1):m≠List.replicate 6 0:=fun e=>by
 rw[e]at h
 exact absurd h dc
theorem aD(a b m:L6):(ma a b m).length=6:=by
 unfold ma
 split
 ·rfl
 ·split<;>exact N8 _ _ _
theorem Bh(a b m:L6)(hal:a.length=6)(hml:m.length=6)(h: ¬m.getD 0 0 % 2=0):V (ma a b m) 6<V m 6∧V (ma a b m) 6*R6 % V m 6=V a 6*V b 6 % V m 6:=by
 have ho:=OR m h
 have hnz:=Pb m ho
 have hpos:=JG m hml hnz
 rw[ma,if_neg h]
 by_cases hl:LT a m 6=true
 ·rw[if_pos hl]
  rw[oT]at hl
  exact BB a b m ho (of_decide_eq_true hl)
 ·rw[if_neg hl]
  have hv:=Io (a++List.replicate 6 0) m hml hnz
  rw[ST a hal]at hv
  have h1:=BB (MOD (a++List.replicate 6 0) m) b m ho (by rw[hv];exact Nat.mod_lt _ hpos)
  refine ⟨h1.1,h1.2.trans ?_⟩
  rw[hv,Nat.mul_mod,Nat.mod_mod,←Nat.mul_mod]
end
section
def Pr(n:Nat):Prop:=1<n∧∀d,d∣n→d=1∨d=n
theorem Pr.coprime{p a:Nat}(hp:Pr p)(h: ¬p∣a):Nat.Coprime p a:=by
 rcases hp.2 (Nat.gcd p a) (Nat.gcd_dvd_left _ _)with e|e
 ·exact e
 ·exact absurd (by rw[←e];exact Nat.gcd_dvd_right p a) h
theorem Pr.dvd_mul{p a b:Nat}(hp:Pr p)(h:p∣a*b):p∣a∨p∣b:=by
 by_cases ha:p∣a
 ·exact .inl ha
 ·exact .inr ((hp.coprime ha).dvd_of_dvd_mul_left h)
theorem Pr.pos{p:Nat}(hp:Pr p):0<p:=Nat.lt_trans Nat.zero_lt_one hp.1
theorem Pr.not_lt{p a:Nat}(h0:0<a)(h:a<p): ¬p∣a:=fun hd=>by
 have:=Nat.le_of_dvd h0 hd
 omega
/-! ### A number that is no prime has a prime factor that is not above its root -/
theorem qO: ∀n,1<n→∃l,Pr l∧l∣n:=by
 intro n
 induction n using Nat.strongRecOn with
 |ind n ih=>
  intro hn
  by_cases hp:Pr n
  ·exact ⟨n,hp,Nat.dvd_refl n⟩
  ·have: ∃d,d∣n∧¬(d=1∨d=n):=Classical.byContradiction fun h=>hp ⟨hn,fun d hd=>Classical.byContradiction fun h'=>h ⟨d,hd,h'⟩⟩
   obtain ⟨d,hd,hne⟩:=this
   have hle:=Nat.le_of_dvd om hd
   have h0:d≠0:=fun e=>by subst e;have:=Nat.eq_zero_of_zero_dvd hd;omega
   obtain ⟨l,hl,hld⟩:=ih d om om
   exact ⟨l,hl,Nat.dvd_trans hld hd⟩
theorem lr{n:Nat}(hn:1<n)(h: ∀l,Pr l→l∣n→n<l*l):Pr n:=by
 refine ⟨hn,fun d hd=> ?_⟩
 by_cases h1:d=1
 ·exact .inl h1
 ·right
  obtain ⟨e,rfl⟩:=hd
  by_cases he:e=1
  ·rw[he,Nat.mul_one]
  ·exfalso
   have hd0:d≠0:=fun e0=>by rw[e0,Nat.zero_mul]at hn;omega
   have he0:e≠0:=fun e0=>by rw[e0,Nat.mul_zero]at hn;omega
   obtain ⟨l,hl,hld⟩:=qO d om
   obtain ⟨m,hm,hme⟩:=qO e om
   have a1:=h l hl (Nat.dvd_trans hld (Nat.dvd_mul_right d e))
   have a2:=h m hm (Nat.dvd_trans hme (Nat.dvd_mul_left e d))
   have b1:=Nat.le_of_dvd om hld
   have b2:=Nat.le_of_dvd om hme
   have c1:l*m≤d*e:=Nat.mul_le_mul b1 b2
   rcases Nat.le_total l m with h'|h'
   ·have:=Nat.mul_le_mul_left l h'
    omega
   ·have:=Nat.mul_le_mul_left m h'
    rw[Nat.mul_comm m l]at this
    omega
/-! ### Fermat -/
def Cb:Nat→Nat→Nat
 |_,0=>1
 |0,_+1=>0
 |n+1,k+1=>Cb n k+Cb n (k+1)
theorem i7(n:Nat):Cb n 0=1:=by cases n<;>rfl
theorem rW: ∀n k,(k+1)*Cb (n+1) (k+1)=(n+1)*Cb n k
 |0,0=>rfl
 |0,k+1=>by simp[Cb]
 |n+1,0=>by
  have:=rW n 0
  rw[show Cb (n+1+1) (0+1)=Cb (n+1) 0+Cb (n+1) (0+1)from rfl,i7]
  rw[i7]at this
  omega
 |n+1,j+1=>by
  have h1:=rW n j
  have h2:=rW n (j+1)
  have e:Cb (n+1) (j+1)=Cb n j+Cb n (j+1):=rfl
  rw[Cb,Nat.mul_add,h2]
  have h3:(j+1+1)*Cb (n+1) (j+1)=(n+1)*Cb n j+Cb (n+1) (j+1):=by rw[Nat.add_mul (j+1),h1,Nat.one_mul]
  rw[h3,Nat.add_mul (n+1) 1,Nat.one_mul]
  have h4:(n+1)*Cb (n+1) (j+1)=(n+1)*Cb n j+(n+1)*Cb n (j+1):=by rw[e,Nat.mul_add]
  omega
theorem n5: ∀n k,n<k→Cb n k=0
 |0,k+1,_=>rfl
 |n+1,k+1,h=>by rw[Cb,n5 n k om,n5 n (k+1) om]
theorem mg: ∀n,Cb n n=1
 |0=>rfl
 |n+1=>by rw[Cb,mg n,n5 n (n+1) om]
def Sb(a n:Nat):Nat→Nat
 |0=>0
 |m+1=>Sb a n m+Cb n m*a^m
theorem yC(a n:Nat): ∀m,Sb a (n+1) (m+1)=Sb a n (m+1)+a*Sb a n m
 |0=>by simp[Sb,i7]
 |m+1=>by
  have ih:=yC a n m
  rw[Sb,ih]
  have e1:Sb a n (m+1+1)=Sb a n (m+1)+Cb n (m+1)*a^(m+1):=rfl
  have e2:Sb a n (m+1)=Sb a n m+Cb n m*a^m:=rfl
  rw[e1,show Cb (n+1) (m+1)=Cb n m+Cb n (m+1)from rfl,Nat.add_mul]
  have e3:a*Sb a n (m+1)=a*Sb a n m+Cb n m*a^(m+1):=by rw[e2,Nat.mul_add,Nat.pow_succ,←Nat.mul_assoc (Cb n m),Nat.mul_comm a (Cb n m*a^m)]
  omega
theorem binomial(a:Nat): ∀n,Sb a n (n+1)=(a+1)^n
 |0=>by simp[Sb,Cb]
 |n+1=>by
  have ih:=binomial a n
  rw[yC,show Sb a n (n+1+1)=Sb a n (n+1)+Cb n (n+1)*a^(n+1)from rfl,n5 n (n+1) om,ih,Nat.zero_mul,Nat.add_zero,Nat.pow_succ,Nat.mul_add,Nat.mul_one,Nat.mul_comm a]
  omega
theorem Pr.dvd_Cb{p:Nat}(hp:Pr p){k:Nat}(h0:0<k)(h:k<p):p∣Cb p k:=by
 obtain ⟨q,rfl⟩: ∃q,p=q+1:=⟨p-1,by have:=hp.pos;omega⟩
 obtain ⟨j,rfl⟩: ∃j,k=j+1:=⟨k-1,om⟩
 have e:=rW q j
 have hd:q+1∣(j+1)*Cb (q+1) (j+1):=by rw[e];exact Nat.dvd_mul_right _ _
 rcases hp.dvd_mul hd with h1|h1
 ·exact absurd h1 (Pr.not_lt om h)
 ·exact h1
theorem Pr.sum_mod{p:Nat}(hp:Pr p)(a:Nat): ∀m,m<p→Sb a p (m+1) % p=1
 |0,_=>by
  rw[Sb,Sb,i7,Nat.pow_zero,Nat.zero_add,Nat.mul_one]
  exact Nat.mod_eq_of_lt hp.1
 |m+1,h=>by
  have ih:=hp.sum_mod a m om
  have hd:p∣Cb p (m+1)*a^(m+1):=Nat.dvd_trans (hp.dvd_Cb om h) (Nat.dvd_mul_right _ _)
  rw[Sb,Nat.add_mod,ih,Nat.mod_eq_zero_of_dvd hd,Nat.add_zero]
  exact Nat.mod_eq_of_lt hp.1
theorem Pr.fermat{p:Nat}(hp:Pr p): ∀a,a^p % p=a % p
 |0=>by
  have:=hp.pos
  rw[Nat.zero_pow this]
 |a+1=>by
  have ih:=hp.fermat a
  obtain ⟨q,hq⟩: ∃q,p=q+1:=⟨p-1,by have:=hp.pos;omega⟩
  have h1:=hp.sum_mod a q om
  rw[←binomial a p,Sb,mg,Nat.one_mul]
  rw[←hq]at h1
  rw[Nat.add_mod,h1,ih,Nat.add_mod a 1,Nat.add_comm,Nat.mod_eq_of_lt hp.1]
theorem Pr.fermat1{p:Nat}(hp:Pr p){a:Nat}(h: ¬p∣a):a^(p-1) % p=1:=by
 obtain ⟨q,rfl⟩: ∃q,p=q+1:=⟨p-1,by have:=hp.pos;omega⟩
 have hf:=hp.fermat a
 have ha:0<a:=Nat.pos_of_ne_zero fun e=>h (by rw[e];exact Nat.dvd_zero _)
 have hpw:1≤a^q:=Nat.pow_pos ha
 rw[Nat.pow_succ]at hf
 have hd:q+1∣(a^q-1)*a:=by
  rw[Nat.sub_mul,Nat.one_mul]
  exact Nat.dvd_of_mod_eq_zero (Nat.sub_mod_eq_zero_of_mod_eq hf)
 rcases hp.dvd_mul hd with h1|h1
 ·rw[Nat.add_sub_cancel]
  obtain ⟨c,hc⟩:=h1
  have:a^q=(q+1)*c+1:=om
  rw[this,Nat.mul_add_mod]
  exact Nat.mod_eq_of_lt hp.1
 ·exact absurd h1 h
/-! ### Pocklington -/
theorem ni{a l:Nat}(hl:1<l){x:Nat}(h:a^x % l=1)(k:Nat):a^(x*k) % l=1:=by
 rw[Nat.pow_mul,Nat.pow_mod,h,Nat.one_pow]
 exact Nat.mod_eq_of_lt hl
theorem G9{a l:Nat}(hl:1<l)(m n:Nat):a^m % l=1→a^n % l=1→a^Nat.gcd m n % l=1:=by
 induction m,n using Nat.gcd.induction with
 |H0 n=>intro _ h;rw[Nat.gcd_zero_left];exact h
 |H1 m n hm ih=>
  intro h1 h2
  rw[Nat.gcd_rec]
  refine ih ?_ h1
  have e:a^n=a^(m*(n / m))*a^(n % m):=by rw[←Nat.pow_add,Nat.div_add_mod]
  rw[e,Nat.mul_mod,ni hl h1,Nat.one_mul,Nat.mod_mod]at h2
  exact h2
theorem Uo{n q l a k:Nat}(hl:Pr l)(hq:Pr q)(hln:l∣n)(hn:1<n)(hk:n-1=q*k)(h1:a^(n-1) % n=1)(h2:Nat.gcd (a^k % n+(n-1)) n=1):q∣l-1:=by
 refine Classical.byContradiction fun hnd=> ?_
 have hc:Nat.gcd q (l-1)=1:=hq.coprime hnd
 have h1l:a^(n-1) % l=1:=by
  have:a^(n-1) % n % l=a^(n-1) % l:=Nat.mod_mod_of_dvd _ hln
  rw[←this,h1]
  exact Nat.mod_eq_of_lt hl.1
 have hla: ¬l∣a:=fun hd=>by
  have h0:0<n-1:=om
  have:l∣a^(n-1):=by
   obtain ⟨m,hm⟩: ∃m,n-1=m+1:=⟨n-1-1,om⟩
   rw[hm,Nat.pow_succ]
   exact Nat.dvd_trans hd (Nat.dvd_mul_left _ _)
  rw[Nat.mod_eq_zero_of_dvd this]at h1l
  cases h1l
 have h3:=ni hl.1 (hl.fermat1 hla) k
 rw[Nat.mul_comm]at h3
 rw[hk,Nat.mul_comm]at h1l
 have h4:=G9 hl.1 (k*q) (k*(l-1)) h1l h3
 rw[Nat.gcd_mul_left,hc,Nat.mul_one]at h4
 have h5:(a^k % n+(n-1)) % l=0:=by
  obtain ⟨c,hc⟩:=hln
  have e1:a^k % n % l=1:=by rw[Nat.mod_mod_of_dvd _ ⟨c,hc⟩];exact h4
  have hl1:=hl.1
  have hx:a^k % n=l*(a^k % n / l)+1:=by
   have:=Nat.div_add_mod (a^k % n) l
   omega
  have e2:a^k % n+(n-1)=l*(a^k % n / l+c):=by
   rw[Nat.mul_add,←hc]
   omega
  rw[e2,Nat.mul_mod_right]
 have hd:l∣Nat.gcd (a^k % n+(n-1)) n:=Nat.dvd_gcd (Nat.dvd_of_mod_eq_zero h5) hln
 rw[h2]at hd
 have:=Nat.le_of_dvd Nat.zero_lt_one hd
 have:=hl.1
 omega
theorem Ex{n q a k:Nat}(hn:1<n)(hq:Pr q)(hk:n-1=q*k)(h1:a^(n-1) % n=1)(h2:Nat.gcd (a^k % n+(n-1)) n=1)(hF:n<q*q):Pr n:=
 lr hn fun l hl hln=>by
  have hd:=Uo hl hq hln hn hk h1 h2
  have:=Nat.le_of_dvd (by have:=hl.1;omega) hd
  have h3:q*q≤l*l:=Nat.mul_le_mul om om
  omega
/-! ### Powers, for the kernel -/
def pm(a n:Nat):Nat→Nat→Nat
 |0,_=>1 % n
 |f+1,e=>bif Nat.beq (e % 2) 0 then pm a n f (e / 2)*pm a n f (e / 2) % n else pm a n f (e / 2)*pm a n f (e / 2) % n*a % n
theorem zG(a n:Nat): ∀f e,e<2^f→pm a n f e=a^e % n
 |0,e,h=>by
  have:e=0:=by simpa using h
  rw[this,pm,Nat.pow_zero]
 |f+1,e,h=>by
  have ih:=zG a n f (e / 2) (by rw[Nat.pow_succ]at h;omega)
  have e0:a^(e / 2)*a^(e / 2)=a^(2*(e / 2)):=by rw[←Nat.pow_add,Nat.two_mul]
  rw[pm,ih,←Nat.mul_mod,e0]
  cases hb:Nat.beq (e % 2) 0 with
  |true=>
   have:=Nat.eq_of_beq_eq_true hb
   simp only[cond_true]
   rw[show 2*(e / 2)=e by omega]
  |false=>
   have:e % 2≠0:=fun e1=>by rw[e1]at hb;cases hb
   simp only[cond_false]
   rw[Nat.mod_mul_mod,←Nat.pow_succ,show (2*(e / 2)).succ=e by omega]
def yq(n q a f:Nat):Bool:=
 Nat.blt 1 n && (Nat.beq ((n-1) % q) 0 && (Nat.blt (n-1) (2^f) && (Nat.beq (pm a n f (n-1)) 1 && Nat.beq (Nat.gcd (pm a n f ((n-1) / q)+(n-1)) n) 1)))
theorem qZ{n q a f:Nat}(h:yq n q a f=true):1<n∧n-1=q*((n-1) / q)∧a^(n-1) % n=1∧Nat.gcd (a^((n-1) / q) % n+(n-1)) n=1:=by
 simp only[yq,Bool.and_eq_true]at h
 obtain ⟨h0,h1,h2,h3,h4⟩:=h
 have h0:1<n:=by simpa using h0
 have h1:=Nat.eq_of_beq_eq_true h1
 have h2:n-1<2^f:=by simpa using h2
 have h3:=Nat.eq_of_beq_eq_true h3
 have h4:=Nat.eq_of_beq_eq_true h4
 rw[zG a n f _ h2]at h3
 rw[zG a n f _ (Nat.lt_of_le_of_lt (Nat.div_le_self _ _) h2)]at h4
 refine ⟨h0, ?_,h3,h4⟩
 have:=Nat.div_add_mod (n-1) q
 omega
theorem l8{n q a:Nat}(f:Nat)(hq:Pr q)(h:yq n q a f=true)(hF:n<q*q):Pr n:=by
 obtain ⟨h0,h1,h2,h3⟩:=qZ h
 exact Ex h0 hq h1 h2 h3 hF
theorem fX{n q a:Nat}(f:Nat)(hq:Pr q)(h:yq n q a f=true){l:Nat}(hl:Pr l)(hln:l∣n):q∣l-1:=by
 obtain ⟨h0,h1,h2,h3⟩:=qZ h
 exact Uo hl hq hln h0 h1 h2 h3
def y8(n:Nat):Nat→Bool
 |0=>true
 |k+1=>(Nat.beq k 0|| !Nat.beq (n % (k+1)) 0) && y8 n k
theorem pz{n:Nat}: ∀k,y8 n k=true→∀d,1<d→d≤k→¬d∣n
 |0,_,d,h1,h2=>om
 |k+1,h,d,h1,h2=>by
  simp only[y8,Bool.and_eq_true,Bool.or_eq_true,Bool.not_eq_true']at h
  rcases Nat.lt_or_ge d (k+1)with h'|h'
  ·exact pz k h.2 d h1 om
  ·obtain rfl:d=k+1:=om
   rcases h.1 with h3|h3
   ·have:=Nat.eq_of_beq_eq_true h3;omega
   ·intro hd
    rw[Nat.mod_eq_zero_of_dvd hd]at h3
    cases h3
theorem dC{n k:Nat}(hn:1<n)(hk:n<(k+1)*(k+1))(h:y8 n k=true):Pr n:=
 lr hn fun l hl hln=>by
  have:=hl.1
  rcases Nat.lt_or_ge k l with h'|h'
  ·have:(k+1)*(k+1)≤l*l:=Nat.mul_le_mul h' h'
   omega
  ·exact absurd hln (pz k h l hl.1 h')
end
section
theorem AC:Pr 421987:=dC (k:=649) dc dc kr
theorem zU:Pr 755057:=dC (k:=868) dc dc kr
theorem pr_c:Pr 13090036741:=l8 (a:=2) 34 AC kr dc
theorem pr_b:Pr 3819663927398918131021:=lr dc fun l hl hln=>by
 have h1:=fX (n:=3819663927398918131021) (a:=2) 72 pr_c kr hl hln
 have h2:=fX (n:=3819663927398918131021) (a:=2) 72 zU kr hl hln
 have h3:13090036741*755057∣l-1:=Nat.Coprime.mul_dvd_of_dvd_of_dvd (by decide+kernel) h1 h2
 have h4:=Nat.le_trans (Nat.le_of_dvd (Nat.sub_pos_of_lt hl.1) h3) (Nat.sub_le l 1)
 exact Nat.lt_of_lt_of_le (show 3819663927398918131021<(13090036741*755057)*(13090036741*755057) by decide) (Nat.mul_le_mul h4 h4)
theorem pr_a:Pr 1125266252156850182658904441386709967:=l8 (a:=2) 120 pr_b kr dc
theorem Iv:Pr 15778400344354997994418419698270088123916926905054652752758194827714659:=l8 (a:=2) 234 pr_a kr dc
def PQ:Nat:=4002409555221667393417789825735904156556882819939007885332058136124031650490837864442687629129015664037894272559786
abbrev PP:Nat:=PQ+1
theorem pr_p:Pr PP:=l8 (a:=2) 381 Iv kr dc
theorem rA:Pr 254760293:=dC (k:=15961) dc dc kr
theorem uE:Pr 52437899:=dC (k:=7241) dc dc kr
theorem wO:Pr 2529403:=dC (k:=1590) dc dc kr
theorem wL:Pr 2508409:=dC (k:=1583) dc dc kr
theorem z6:Pr 906349:=dC (k:=952) dc dc kr
theorem Am:Pr 859267:=dC (k:=926) dc dc kr
def RQ:Nat:=52435875175126190479447740508185965837690552500527637822603658699938581184512
abbrev RR:Nat:=RQ+1
theorem pr_r:Pr RR:=lr dc fun l hl hln=>by
 have h0:=fX (n:=RR) (a:=2) 255 rA kr hl hln
 have h1:=fX (n:=RR) (a:=2) 255 uE kr hl hln
 have h2:=fX (n:=RR) (a:=2) 255 wO kr hl hln
 have h3:=fX (n:=RR) (a:=2) 255 wL kr hl hln
 have h4:=fX (n:=RR) (a:=2) 255 z6 kr hl hln
 have h5:=fX (n:=RR) (a:=2) 255 Am kr hl hln
 have g1:13359094513544407∣l-1:=Nat.Coprime.mul_dvd_of_dvd_of_dvd (m:=254760293) (n:=52437899) (by decide+kernel) h0 h1
 have g2:33790533739842763699021∣l-1:=Nat.Coprime.mul_dvd_of_dvd_of_dvd (m:=13359094513544407) (n:=2529403) (by decide+kernel) g1 h2
 have g3:84760478947825247047497567589∣l-1:=Nat.Coprime.mul_dvd_of_dvd_of_dvd (m:=33790533739842763699021) (n:=2508409) (by decide+kernel) g2 h3
 have g4:76822575333882464836252372886722561∣l-1:=Nat.Coprime.mul_dvd_of_dvd_of_dvd (m:=84760478947825247047497567589) (n:=906349) (by decide+kernel) g3 h4
 have g5:66011103839419183912452067693255434822787∣l-1:=Nat.Coprime.mul_dvd_of_dvd_of_dvd (m:=76822575333882464836252372886722561) (n:=859267) (by decide+kernel) g4 h5
 have hf:=Nat.le_trans (Nat.le_of_dvd (Nat.sub_pos_of_lt hl.1) g5) (Nat.sub_le l 1)
 exact Nat.lt_of_lt_of_le (show RR<66011103839419183912452067693255434822787*66011103839419183912452067693255434822787 by decide) (Nat.mul_le_mul hf hf)
end
section
def VF(f:Nat→BitVec 64):Nat→Nat
 |0=>0
 |i+1=>VF f i+(f i).toNat*2^(64*i)
theorem yo(f:Nat→BitVec 64)(n:Nat): ∀i,i≤n→V ((List.range n).map f) i=VF f i
 |0,_=>rfl
 |i+1,h=>by
  have:((List.range n).map f).getD i 0=f i:=by
   rw[List.getD_eq_getElem?_getD,List.getElem?_map,List.getElem?_range om]
   rfl
  rw[V,VF,yo f n i om,this]
def KC(x:BitVec 64)(a t:L6):Nat→BitVec 64
 |0=>0
 |j+1=>(MA x (a.getD j 0) (t.getD j 0) (KC x a t j)).2
def KT(x:BitVec 64)(a t:L6)(j:Nat):BitVec 64:=(MA x (a.getD j 0) (t.getD j 0) (KC x a t j)).1
def KD(m:BitVec 64)(p s:L6):Nat→BitVec 64
 |0=>(MA m (p.getD 0 0) (s.getD 0 0) 0).2
 |j+1=>(MA m (p.getD (j+1) 0) (s.getD (j+1) 0) (KD m p s j)).2
def KU(m:BitVec 64)(p s:L6)(j:Nat):BitVec 64:=(MA m (p.getD (j+1) 0) (s.getD (j+1) 0) (KD m p s j)).1
def PL:L6:=[0xb9feffffffffaaab#64,0x1eabfffeb153ffff#64,0x6730d2a0f6b0f624#64,0x64774b84f38512bf#64,0x4b1ba7b6434bacd7#64,0x1a0111ea397fe69a#64]
def INV:BitVec 64:=0x89f3fffcfffcfffd#64
theorem mt:V PL 6=PP:=by decide+kernel
def T1(x:BitVec 64)(a t:L6):L6:=(List.range 6).map (KT x a t)
def T2(x:BitVec 64)(a t:L6):L6:=
 (List.range 6).map fun j=>if j=5 then KC x a t 6+KD ((T1 x a t).getD 0 0*INV) PL (T1 x a t) 5 else KU ((T1 x a t).getD 0 0*INV) PL (T1 x a t) j
def RT(a b:L6):Nat→L6
 |0=>List.replicate 6 0
 |i+1=>T2 (b.getD i 0) a (RT a b i)
theorem Pd(x:BitVec 64)(a t:L6):(T2 x a t).length=6:=by simp[T2]
theorem MW(a b:L6): ∀i,(RT a b i).length=6
 |0=>rfl
 |_+1=>Pd _ _ _
def PL4:L6:=[0xe7fbfffffffeaaac#64,0x7aaffffac54ffffe#64,0x9cc34a83dac3d890#64,0x91dd2e13ce144afd#64,0x2c6e9ed90d2eb35d#64,0x680447a8e5ff9a69#64]
theorem I9:V PL4 6=4*PP:=by decide+kernel
theorem Cq:4*PP<R6∧0<PP:=⟨by rw[←I9];exact kh _,by decide+kernel⟩
def RM(a b:L6):L6:=if (SS (RT a b 6) PL 6).2=0 then (SS (RT a b 6) PL 6).1 else RT a b 6
theorem bd(a b:L6):(RM a b).length=6:=by
 unfold RM
 split
 ·exact aO _ _ _
 ·exact MW _ _ _
end
section
theorem Qt:0<PP:=Cq.2
abbrev Zp:=Fin PP
def zp(n:Nat):Zp:=Fin.ofNat PP n
theorem ez(n:Nat):(zp n).val=n % PP:=Fin.val_ofNat PP n
theorem FK(x:Zp):zp x.val=x:=Fin.ext (by rw[ez];exact Nat.mod_eq_of_lt x.isLt)
theorem io(a b:Nat):zp (a*b)=zp a*zp b:=Fin.ext (by rw[Fin.val_mul,ez,ez,ez,←Nat.mul_mod])
theorem fI(a b:Nat):zp (a+b)=zp a+zp b:=Fin.ext (by rw[Fin.val_add,ez,ez,ez,←Nat.add_mod])
theorem wz(a:Nat):zp (a % PP)=zp a:=Fin.ext (by rw[ez,ez,Nat.mod_mod])
theorem xZ{a b:Nat}(h:a % PP=b % PP):zp a=zp b:=by rw[←wz,h,wz]
theorem nc:zp PP=0:=Fin.ext (by rw[ez,Nat.mod_self];rfl)
theorem LA:zp 0=0:=rfl
theorem Tu:zp 1=1:=rfl
theorem p0(a:Zp):a^0=1:=by grind
theorem p1(a:Zp):a^1=a:=by grind
theorem ps(a:Zp)(n:Nat):a^(n+1)=a^n*a:=by grind
theorem qA(a:Zp)(m n:Nat):a^(m+n)=a^m*a^n:=by grind
theorem FJ(a:Zp)(m:Nat): ∀n:Nat,a^(m*n)=(a^m)^n
 |0=>by rw[Nat.mul_zero,p0,p0]
 |n+1=>by rw[Nat.mul_succ,qA,FJ a m n,ps]
theorem IM(a b:Zp): ∀n:Nat,(a*b)^n=a^n*b^n
 |0=>by rw[p0,p0,p0];grind
 |n+1=>by rw[ps,ps,ps,IM a b n];grind
theorem KR(n:Nat):(0:Zp)^(n+1)=0:=by rw[ps];grind
theorem zu(a:Zp): ∀n:Nat,(a^n).val=a.val^n % PP
 |0=>by rw[p0,Nat.pow_zero];rfl
 |n+1=>by rw[ps,Fin.val_mul,zu a n,Nat.pow_succ,Nat.mod_mul_mod]
theorem NI{a:Zp}(h:a≠0): ¬PP∣a.val:=fun hd=>by
 have h0:0<a.val:=Nat.pos_of_ne_zero fun e=>h (Fin.ext e)
 exact Pr.not_lt h0 a.isLt hd
theorem fermat{a:Zp}(h:a≠0):a^(PP-1)=1:=Fin.ext (by rw[zu,pr_p.fermat1 (NI h)];rfl)
theorem qv{a:Zp}(h:a≠0):a*a^(PP-2)=1:=by
 have hp:2<PP:=by have:=pr_p.1;have:PP≠2:=by decide+kernel
                  omega
 rw[←fermat h,show PP-1=1+(PP-2) by omega,qA,p1]
theorem kI{a b:Zp}(h:a*b=0):a=0∨b=0:=by
 by_cases ha:a=0
 ·exact .inl ha
 ·have:=qv ha
  right
  grind
theorem kw:(1:Zp)≠0:=fun h=>by
 have:=congrArg Fin.val h
 rw[show (1:Zp).val=1 % PP from rfl,Nat.mod_eq_of_lt pr_p.1]at this
 cases this
/-! ### Six parts -/
def qa(n:Nat):L6:=(List.range 6).map fun i=>BitVec.ofNat 64 (n / 2^(64*i))
theorem mr(n:Nat):(qa n).length=6:=by rw[qa,List.length_map,List.length_range]
theorem vg(n:Nat): ∀k,VF (fun i=>BitVec.ofNat 64 (n / 2^(64*i))) k=n % 2^(64*k)
 |0=>by rw[VF,Nat.mul_zero,Nat.pow_zero,Nat.mod_one]
 |k+1=>by
  rw[VF,vg n k,kG,BitVec.toNat_ofNat,Nat.mod_mul,Nat.mul_comm (2^(64*k))]
theorem sA(n:Nat)(h:n<R6):V (qa n) 6=n:=by
 rw[qa,yo _ 6 6 (Nat.le_refl _),vg,←fO]
 exact Nat.mod_eq_of_lt h
theorem yv:PP<R6:=by have:=Cq.1;omega
/-! ### Elements, times 2^384 -/
def RZ:Zp:=zp R6
theorem SD: ¬PP∣R6:=fun h=>by
 rw[fO]at h
 have key: ∀k,¬PP∣2^k:=fun k=>by
  induction k with
  |zero=>intro h;have:=Nat.le_of_dvd dc h;have:=pr_p.1;omega
  |succ k ih=>
   intro h
   rw[Nat.pow_succ]at h
   rcases pr_p.dvd_mul h with h|h
   ·exact ih h
   ·have:=Nat.le_of_dvd dc h
    have: ¬PP≤2:=by decide+kernel
    omega
 exact key _ h
theorem JS:RZ≠0:=fun h=>by
 have:=congrArg Fin.val h
 rw[RZ,ez]at this
 exact SD (Nat.dvd_of_mod_eq_zero this)
theorem km{x y:Zp}(h:x*RZ=y*RZ):x=y:=by
 have h0:=qv JS
 have:(x-y)*RZ=0:=by grind
 rcases kI this with h|h
 ·grind
 ·exact absurd h JS
def fe(x:Zp):L6:=qa (x*RZ).val
def nm(x:Zp):L6:=qa x.val
theorem aV(x:Zp):(fe x).length=6:=mr _
theorem ba(x:Zp):(nm x).length=6:=mr _
theorem Mp(x:Zp):V (fe x) 6=(x*RZ).val:=sA _ (Nat.lt_trans (x*RZ).isLt yv)
theorem HM(x:Zp):V (nm x) 6=x.val:=sA _ (Nat.lt_trans x.isLt yv)
theorem oM(x:Zp):V (fe x) 6<PP:=by rw[Mp];exact (x*RZ).isLt
theorem iB(x:Zp):zp (V (fe x) 6)=x*RZ:=by rw[Mp,FK]
theorem na{l:L6}{x:Zp}(hl:l.length=6)(hlt:V l 6<PP)(h:zp (V l 6)=x*RZ):l=fe x:=by
 refine yN 6 hl (aV x) ?_
 rw[Mp,←h,ez,Nat.mod_eq_of_lt hlt]
theorem Uv{l:L6}{x:Zp}(hl:l.length=6)(hlt:V l 6<PP)(h:zp (V l 6)=x):l=nm x:=by
 refine yN 6 hl (ba x) ?_
 rw[HM,←h,ez,Nat.mod_eq_of_lt hlt]
theorem EA{x y:Zp}:fe x=fe y↔x=y:=⟨fun h=>km (by rw[←iB,←iB,h]),fun h=>by rw[h]⟩
theorem kF:fe 0=List.replicate 6 0#64:=(na (x:=0) sm (by rw[jF];exact Qt) (by rw[jF,LA];grind)).symm
theorem GQ{l a b:L6}(hl:l.length=6)(h:V l 6<PP∧V l 6*R6 % PP=V a 6*V b 6 % PP){x y:Zp}(ha:zp (V a 6)=x*RZ)(hb:zp (V b 6)=y*RZ):l=fe (x*y):=by
 refine na hl h.1 (km ?_)
 have:=xZ h.2
 rw[io,io,ha,hb]at this
 rw[show zp (V l 6)*RZ=x*RZ*(y*RZ)from this]
 grind
theorem HI{l a b:L6}(hl:l.length=6)(h:V l 6<PP∧V l 6*R6 % PP=V a 6*V b 6 % PP){x:Zp}(ha:zp (V a 6)=x*RZ)(hb:V b 6=1):l=nm x:=by
 refine Uv hl h.1 (km ?_)
 have:=xZ h.2
 rw[io,io,ha,hb,Tu]at this
 rw[show zp (V l 6)*RZ=x*RZ*1 from this]
 grind
end
section
def FRs(bs:L8):Nat→L6
 |0=>List.replicate 6 0
 |i+1=>(FRs bs i).set ((bs.length-1-i) / 8) ((FRs bs i).getD ((bs.length-1-i) / 8) 0|||((bs.getD i 0).setWidth 64<<<(8*((bs.length-1-i) % 8))))
theorem aK(bs:L8): ∀i,(FRs bs i).length=6
 |0=>rfl
 |i+1=>by simp[FRs,aK bs i]
def BYs(a:L6):Nat→L8
 |0=>List.replicate 48 0
 |i+1=>(BYs a i).set i ((a.getD ((47-i) / 8) 0>>>(8*((47-i) % 8))).setWidth 8)
theorem aJ(a:L6): ∀i,(BYs a i).length=48
 |0=>rfl
 |i+1=>by simp[BYs,aJ a i]
theorem ov(l:L8)(k:Nat)(x:BitVec 8)(hk:k<l.length):(l.set k x).getD k 0=x:=by simp[List.getD_eq_getElem?_getD,hk]
theorem rL(l:L8)(k i:Nat)(x:BitVec 8)(h:i≠k):(l.set k x).getD i 0=l.getD i 0:=by
 simp only[List.getD_eq_getElem?_getD,List.getElem?_set_ne (Ne.symm h)]
theorem xo(a:L6)(j:Nat)(hj:j<48): ∀i,j<i→(BYs a i).getD j 0=(a.getD ((47-j) / 8) 0>>>(8*((47-j) % 8))).setWidth 8
 |0,h=>om
 |i+1,h=>by
  rw[BYs]
  rcases Nat.lt_or_ge j i with h'|h'
  ·rw[rL _ _ _ _ om,xo a j hj i h']
  ·obtain rfl:j=i:=om
   rw[ov _ _ _ (by rw[aJ];exact hj)]
theorem sL(bs:L8)(hl:bs.length≤48): ∀i,i≤bs.length→∀n,n<384→
 ((FRs bs i).getD (n / 64) 0).getLsbD (n % 64)=(decide (n / 8<bs.length∧bs.length≤n / 8+i) && (bs.getD (bs.length-1-n / 8) 0).getLsbD (n % 8))
 |0,_,n,_=>by
  have:(List.replicate 6 (0:BitVec 64)).getD (n / 64) 0=0:=by
   rw[List.getD_eq_getElem?_getD,List.getElem?_replicate]
   split<;>rfl
  rw[FRs,this,decide_eq_false om]
  simp
 |i+1,hi,n,hn=>by
  have ih:=sL bs hl i om n hn
  rw[FRs]
  by_cases hq:n / 64=(bs.length-1-i) / 8
  ·rw[hq,du _ _ _ (by rw[aK];omega)]
   rw[hq]at ih
   rw[BitVec.getLsbD_or,ih,BitVec.getLsbD_shiftLeft,BitVec.getLsbD_setWidth]
   by_cases hk:n / 8=bs.length-1-i
   ·rw[decide_eq_false om,decide_eq_true (by omega:n / 8<bs.length∧bs.length≤n / 8+(i+1)),decide_eq_true (by omega:n % 64<64),decide_eq_false (by omega: ¬n % 64<8*((bs.length-1-i) % 8)),decide_eq_true (by omega:n % 64-8*((bs.length-1-i) % 8)<64),
     show n % 64-8*((bs.length-1-i) % 8)=n % 8 by omega,show bs.length-1-n / 8=i by omega]
    simp
   ·have hz:((!decide (n % 64<8*((bs.length-1-i) % 8))) && (bs.getD i 0).getLsbD (n % 64-8*((bs.length-1-i) % 8)))=false:=by
     by_cases h1:n % 64<8*((bs.length-1-i) % 8)
     ·rw[decide_eq_true h1];rfl
     ·rw[BitVec.getLsbD_of_ge _ _ om];simp
    have hd:decide (n / 8<bs.length∧bs.length≤n / 8+i)=decide (n / 8<bs.length∧bs.length≤n / 8+(i+1)):=by
     congr 1
     apply propext
     omega
    rw[hd]
    generalize decide (n / 8<bs.length∧bs.length≤n / 8+(i+1))=D
    generalize (bs.getD (bs.length-1-n / 8) 0).getLsbD (n % 8)=E
    generalize decide (n % 64<8*((bs.length-1-i) % 8))=A at*
    generalize (bs.getD i 0).getLsbD (n % 64-8*((bs.length-1-i) % 8))=X at*
    generalize decide (n % 64<64)=Y
    generalize decide (n % 64-8*((bs.length-1-i) % 8)<64)=Z
    cases A<;>cases X<;>simp at hz<;>simp
  ·rw[fA _ _ _ _ hq,ih]
   have hd:decide (n / 8<bs.length∧bs.length≤n / 8+i)=decide (n / 8<bs.length∧bs.length≤n / 8+(i+1)):=by
    congr 1
    apply propext
    omega
   rw[hd]
theorem u9(l:L6)(q:Nat)(h:q<l.length):l[q]=l.getD q 0:=by simp[List.getD_eq_getElem?_getD,h]
theorem vQ(a:L6)(ha:a.length=6)(n:Nat)(hn:n=48):FRs (BYs a n) n=a:=by
 have hb:=aJ a n
 have hg: ∀j,j<48→(BYs a n).getD j 0=(a.getD ((47-j) / 8) 0>>>(8*((47-j) % 8))).setWidth 8:=fun j hj=>xo a j hj n om
 generalize BYs a n=B at*
 have hfb:=sL B om n om
 have hfl:=aK B n
 generalize FRs B n=f at*
 apply List.ext_getElem om
 intro q h1 h2
 rw[u9 f q h1,u9 a q h2]
 apply BitVec.eq_of_getLsbD_eq
 intro r hr
 have h:=hfb (64*q+r) om
 rw[show (64*q+r) / 64=q by omega,show (64*q+r) % 64=r by omega,hb,decide_eq_true om,Bool.true_and,hg _ om]at h
 rw[h,BitVec.getLsbD_setWidth,BitVec.getLsbD_ushiftRight,decide_eq_true om,Bool.true_and,show (47-(48-1-(64*q+r) / 8)) / 8=q by omega,show 8*((47-(48-1-(64*q+r) / 8)) % 8)+(64*q+r) % 8=r by omega]
/-! ### The bits that are set, the highest first -/
def fB(a:L6):Nat→List Nat
 |0=>[]
 |k+1=>if dig a (383-k)=1 then fB a k++[383-k]else fB a k
theorem ux(a:L6)(k:Nat): ∀n,k≤n→∃r,fB a n=fB a k++r
 |0,h=>⟨[],by obtain rfl:k=0:=om
              simp⟩
 |n+1,h=>by
  rcases Nat.lt_or_ge k (n+1)with h'|h'
  ·obtain ⟨r,hr⟩:=ux a k n om
   rw[fB]
   split
   ·exact ⟨r++[383-n],by rw[hr,List.append_assoc]⟩
   ·exact ⟨r,hr⟩
  ·obtain rfl:k=n+1:=om
   exact ⟨[],sm⟩
theorem G4(a:L6)(k:Nat)(hk:k<384)(h:dig a (383-k)=1):(fB a 384)[(fB a k).length]? =some (383-k):=by
 obtain ⟨r,hr⟩:=ux a (k+1) 384 om
 rw[hr,fB,if_pos h]
 simp
end
section
/-! ### Numbers of bytes -/
def BN(bs:L8):Nat→Nat
 |0=>0
 |i+1=>256*BN bs i+(bs.getD i 0).toNat
theorem Lj(bs:L8): ∀i,BN bs i<256^i
 |0=>by rw[BN];decide
 |i+1=>by
  have:=Lj bs i
  have:=(bs.getD i 0).isLt
  rw[BN,Nat.pow_succ]
  omega
theorem ug{as bs:L8}: ∀n,(∀i,i<n→as.getD i 0=bs.getD i 0)→BN as n=BN bs n
 |0,_=>rfl
 |n+1,h=>by rw[BN,BN,ug n (fun i hi=>h i om),h n om]
theorem DV(bs:L8)(k:Nat): ∀m,BN bs (k+m)=BN bs k*256^m+BN (bs.drop k) m
 |0=>by rw[BN,Nat.pow_zero,Nat.mul_one,Nat.add_zero,Nat.add_zero]
 |m+1=>by
  rw[←Nat.add_assoc,BN,BN,DV bs k m,Nat.pow_succ]
  have:(bs.drop k).getD m 0=bs.getD (k+m) 0:=by simp only[List.getD_eq_getElem?_getD,List.getElem?_drop]
  rw[this,Nat.mul_add,←Nat.mul_assoc (BN bs k),Nat.mul_comm 256 (BN bs k*256^m)]
  omega
theorem F4(bs:L8): ∀i n,(BN bs i).testBit n=(decide (n / 8<i) && (bs.getD (i-1-n / 8) 0).getLsbD (n % 8))
 |0,n=>by rw[BN,Nat.zero_testBit,decide_eq_false om];rfl
 |i+1,n=>by
  have hb:=(bs.getD i 0).isLt
  have e:=Nat.testBit_two_pow_mul_add (BN bs i) (i:=8) (b:=(bs.getD i 0).toNat) hb n
  rw[BN,show 256*BN bs i+(bs.getD i 0).toNat=2^8*BN bs i+(bs.getD i 0).toNat from rfl,e]
  by_cases h:n<8
  ·rw[if_pos h,decide_eq_true (by omega:n / 8<i+1),show n / 8=0 by omega,show n % 8=n by omega,Nat.sub_zero,Nat.add_sub_cancel]
   simp[BitVec.getLsbD]
  ·rw[if_neg h,F4 bs i (n-8)]
   have h1:(n-8) / 8=n / 8-1:=om
   have h2:(n-8) % 8=n % 8:=om
   rw[h1,h2]
   by_cases h3:n / 8<i+1
   ·rw[decide_eq_true h3,decide_eq_true (by omega:n / 8-1<i),show i+1-1-n / 8=i-1-(n / 8-1) by omega]
   ·rw[decide_eq_false h3,decide_eq_false (by omega: ¬n / 8-1<i)];rfl
theorem A7(x:BitVec 64)(s:Nat):((x>>>s) &&& 1#64).toNat=(x.getLsbD s).toNat:=by
 rw[BitVec.toNat_and,BitVec.toNat_ushiftRight,show (1#64).toNat=1 from rfl,Nat.and_one_is_mod]
 rw[BitVec.getLsbD,Nat.testBit,Nat.shiftRight_eq_div_pow]
 rcases Nat.mod_two_eq_zero_or_one (x.toNat / 2^s)with h|h<;>rw[Nat.and_comm,Nat.and_one_is_mod,h]<;>rfl
theorem Ln(l:L6)(N n:Nat)(h:n<64*N):(V l N).testBit n=(l.getD (n / 64) 0).getLsbD (n % 64):=by
 have hd:=rH l N n h
 rw[dig,A7]at hd
 rw[Nat.testBit,Nat.shiftRight_eq_div_pow,Nat.and_comm,Nat.and_one_is_mod,←hd]
 cases (l.getD (n / 64) 0).getLsbD (n % 64)<;>rfl
theorem DQ(n:Nat):256^n=2^(8*n):=by rw[Nat.pow_mul]
theorem To{m n:Nat}(h:m≤n):2^m≤2^n:=Nat.pow_le_pow_right dc h
theorem LD{k n:Nat}(hk:R6=2^k)(h:k≤n):R6≤2^n:=by rw[hk];exact To h
theorem VL{n:Nat}(h: ¬n<384):R6≤2^n:=LD fO om
theorem ur(bs:L8)(hl:bs.length≤48):V (FRs bs bs.length) 6=BN bs bs.length:=by
 refine Nat.eq_of_testBit_eq fun n=> ?_
 by_cases h:n<384
 ·rw[Ln _ 6 n h,sL bs hl bs.length (Nat.le_refl _) n h,F4]
  congr 2
  apply propext
  omega
 ·have e1:V (FRs bs bs.length) 6<2^n:=Nat.lt_of_lt_of_le (kh _) (VL h)
  have e2:BN bs bs.length<2^n:=Nat.lt_of_lt_of_le (Lj bs _) (by rw[DQ];exact Nat.pow_le_pow_right dc om)
  rw[Nat.testBit_lt_two_pow e1,Nat.testBit_lt_two_pow e2]
theorem Cd(a:L6)(ha:a.length=6)(n:Nat)(hn:n=48):BN (BYs a n) n=V a 6:=by
 have h:=ur (BYs a n) (by rw[aJ];exact Nat.le_refl _)
 rw[aJ,←hn,vQ a ha n hn]at h
 exact h.symm
def cI(x:Zp):L8:=BYs (nm x) 48
theorem aA(x:Zp):(cI x).length=48:=aJ _ _
theorem zN(x:Zp):BN (cI x) 48=x.val:=by rw[cI,Cd _ (ba x) 48 rfl,HM]
/-! ### Sums and differences -/
theorem rj(a b:L6):((SS a b 6).2=0∧V (SS a b 6).1 6+V b 6=V a 6)∨((SS a b 6).2=1∧V (SS a b 6).1 6+V b 6=V a 6+R6∧V a 6<V b 6):=by
 have h:=zK a b
 have hl:=kh (SS a b 6).1
 rcases iF _ (wB a b 6)with ⟨e1,e2⟩|⟨e1,e2⟩
 ·exact .inl ⟨e1,by rw[e2,Nat.zero_mul,Nat.add_zero]at h;exact h⟩
 ·rw[e2,Nat.one_mul]at h
  exact .inr ⟨e1,h,om⟩
theorem E2(a b:L6):((AS a b 6).2.toNat=0∧V (AS a b 6).1 6=V a 6+V b 6)∨((AS a b 6).2.toNat=1∧V (AS a b 6).1 6+R6=V a 6+V b 6):=by
 have h:=xA a b
 rcases iF _ (I0 a b 6)with ⟨_,e2⟩|⟨_,e2⟩
 ·exact .inl ⟨e2,by rw[e2,Nat.zero_mul,Nat.add_zero]at h;exact h⟩
 ·exact .inr ⟨e2,by rw[e2,Nat.one_mul]at h;exact h⟩
theorem Jt(x y:Zp):V (AS (fe x) (fe y) 6).1 6=V (fe x) 6+V (fe y) 6:=by
 have h4:=Cq.1
 have hx:=oM x
 have hy:=oM y
 rcases E2 (fe x) (fe y)with ⟨_,h⟩|⟨_,h⟩
 ·exact h
 ·omega
theorem Ik{x y:Zp}(h:V (AS (fe x) (fe y) 6).1 6<PP):(AS (fe x) (fe y) 6).1=fe (x+y):=
 na (aT _ _ _) h (by rw[Jt,fI,iB,iB];grind)
theorem CQ{x y:Zp}(h:(SS (AS (fe x) (fe y) 6).1 PL 6).2=0):(SS (AS (fe x) (fe y) 6).1 PL 6).1=fe (x+y):=by
 have hs:=Jt x y
 have hp:=mt
 have hx:=oM x
 have hy:=oM y
 rcases rj (AS (fe x) (fe y) 6).1 PL with ⟨_,h'⟩|⟨h',_⟩
 ·refine na (aO _ _ _) om ?_
  rw[hs,hp]at h'
  have e:=congrArg zp h'
  rw[fI,nc,fI,iB,iB]at e
  grind
 ·rw[h]at h';exact absurd h' dc
theorem Pw{x y:Zp}(h:(SS (AS (fe x) (fe y) 6).1 PL 6).2=1):V (AS (fe x) (fe y) 6).1 6<PP:=by
 rcases rj (AS (fe x) (fe y) 6).1 PL with ⟨h',_⟩|⟨_,_,h'⟩
 ·rw[h]at h';exact absurd h' dc
 ·rw[mt]at h';exact h'
theorem vo{x:BitVec 64}(hc:x.toNat≤1)(h: ¬x=1):x=0:=by
 rcases iF x hc with ⟨e,_⟩|⟨e,_⟩
 ·exact e
 ·exact absurd e h
theorem Gn{x y:Zp}(h:(SS (fe x) (fe y) 6).2=0):(SS (fe x) (fe y) 6).1=fe (x-y):=by
 have hx:=oM x
 rcases rj (fe x) (fe y)with ⟨_,h'⟩|⟨h',_⟩
 ·refine na (aO _ _ _) om ?_
  have e:=congrArg zp h'
  rw[fI,iB,iB]at e
  grind
 ·rw[h]at h';exact absurd h' dc
theorem Jl{x y:Zp}(h:(SS (fe x) (fe y) 6).2=1):(AS (SS (fe x) (fe y) 6).1 PL 6).1=fe (x-y):=by
 have hx:=oM x
 have hy:=oM y
 have hp:=mt
 have h4:=yv
 rcases rj (fe x) (fe y)with ⟨h',_⟩|⟨_,h',hl⟩
 ·rw[h]at h';exact absurd h' dc
 ·have hk:V (AS (SS (fe x) (fe y) 6).1 PL 6).1 6+V (fe y) 6=V (fe x) 6+PP:=by
   have:=kh (AS (SS (fe x) (fe y) 6).1 PL 6).1
   rcases E2 (SS (fe x) (fe y) 6).1 PL with ⟨_,h⟩|⟨_,h⟩<;>omega
  refine na (aT _ _ _) om ?_
  have e:=congrArg zp hk
  rw[fI,fI,nc,iB,iB]at e
  grind
/-! ### Products -/
theorem Ol: ¬PL.getD 0 0 % 2=0:=by decide+kernel
theorem sE(a b:L6)(ha:a.length=6):V (ma a b PL) 6<PP∧V (ma a b PL) 6*R6 % PP=V a 6*V b 6 % PP:=by
 have:=Bh a b PL ha rfl Ol
 rw[mt]at this
 exact this
theorem Jk(x y:Zp):ma (fe x) (fe y) PL=fe (x*y):=GQ (aD _ _ _) (sE _ _ (aV x)) (iB x) (iB y)
def TWO:L6:=[0xf4df1f341c341746#64,0xa76e6a609d104f1#64,0x8de5476c4c95b6d5#64,0x67eb88a9939d83c0#64,0x9a793e85b519952d#64,0x11988fe592cae3aa#64]
def ONE:L6:=[0x760900000002fffd#64,0xebf4000bc40c0002#64,0x5f48985753c758ba#64,0x77ce585370525745#64,0x5c071a97a256ec6d#64,0x15f65ec3fa80e493#64]
def N1:L6:=1::List.replicate 5 0
theorem G3:TWO.length=6:=rfl
theorem Nl:V N1 6=1:=by decide+kernel
def R6v:Nat:=39402006196394479212279040100143613805079739270465446667948293404245721771497210611414266254884915640806627990306816
theorem Mf:R6=R6v:=by decide+kernel
theorem sC:V TWO 6<PP∧zp (V TWO 6)=RZ*RZ:=⟨by decide+kernel,by
 have e:V TWO 6 % PP=R6v*R6v % PP:=by decide+kernel
 rw[xZ e,io,←Mf];rfl⟩
theorem Ou:TWO=fe RZ:=na rfl sC.1 sC.2
theorem CW{l a b:L6}(hl:l.length=6)(h:V l 6<PP∧V l 6*R6 % PP=V a 6*V b 6 % PP)(ha:zp (V a 6)=RZ*RZ):l=fe (zp (V b 6)):=by
 refine na hl h.1 (km ?_)
 have:=xZ h.2
 rw[io,io,ha]at this
 rw[show zp (V l 6)*RZ=RZ*RZ*zp (V b 6)from this]
 grind
theorem F6(n:L6):ma TWO n PL=fe (zp (V n 6)):=CW (aD _ _ _) (sE _ _ G3) sC.2
theorem C7(x:Zp):ma (fe x) N1 PL=nm x:=HI (aD _ _ _) (sE _ _ (aV x)) (iB x) Nl
end
end Go.Proofs.YtfgacclgjklgnaaGreatDoor
