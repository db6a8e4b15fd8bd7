/- M1 -/
import Derived.Test.YtfgacclgjklgnaaGreatDoorM0
import Derived.Test.YtfgacclgjklgnaaGreatDoorX3
import Derived.KernelRfl
import Derived.Test.YtfgacclgjklgnaaGreatDoorX1
set_option maxRecDepth 100000
set_option maxHeartbeats 1000000
namespace Go.Proofs.YtfgacclgjklgnaaGreatDoor
section
def ML:L6:=[0xffffffff00000001#64,0x53bda402fffe5bfe#64,0x3339d80809a1d805#64,0x73eda753299d7d48#64,0#64,0#64]
def LIFT:L6:=[0xc62c1807439b73af#64,0x1b3e0d188cf06990#64,0x73d13c71c7b5f418#64,0x6e2a5bb9c8db33e9#64,0#64,0#64]
def IVR:L6:=[0xfffffffeffffffff#64,0x53bda402fffe5bfe#64,0x3339d80809a1d805#64,0x73eda753299d7d48#64,0#64,0#64]
theorem MLl:ML.length=6:=rfl
theorem Ry:LIFT.length=6:=rfl
theorem IVRl:IVR.length=6:=rfl
theorem Dj:V ML 6=RR:=by decide+kernel
def ML4:L6:=[0xfffffffc00000004#64,0x4ef6900bfff96ffb#64,0xcce7602026876015#64,0xcfb69d4ca675f520#64,1#64,0#64]
theorem Iq:V ML4 6=4*RR:=by decide+kernel
theorem Lv:4*RR<R6:=by rw[←Iq];exact kh _
theorem OJ:0<RR:=Nat.succ_pos _
theorem U0:RR<R6:=by have:=Lv;omega
theorem Oc:2^64<RR:=by decide+kernel
abbrev Zr:=Fin RR
def zr(n:Nat):Zr:=Fin.ofNat RR n
theorem mO(n:Nat):(zr n).val=n % RR:=Fin.val_ofNat RR n
theorem R4(x:Zr):zr x.val=x:=Fin.ext (by rw[mO];exact Nat.mod_eq_of_lt x.isLt)
theorem wW(a b:Nat):zr (a+b)=zr a+zr b:=Fin.ext (by rw[Fin.val_add,mO,mO,mO,←Nat.add_mod])
theorem Sj:zr RR=0:=Fin.ext (by rw[mO,Nat.mod_self];rfl)
theorem zr_0:zr 0=0:=rfl
/-! ### Six parts of a number below r -/
def nr(x:Zr):L6:=qa x.val
theorem iq(x:Zr):(nr x).length=6:=mr _
theorem IC(x:Zr):V (nr x) 6=x.val:=sA _ (Nat.lt_trans x.isLt U0)
theorem yp(x:Zr):V (nr x) 6<RR:=by rw[IC];exact x.isLt
theorem xu(x:Zr):zr (V (nr x) 6)=x:=by rw[IC,R4]
theorem xT{l:L6}{x:Zr}(hl:l.length=6)(hlt:V l 6<RR)(h:zr (V l 6)=x):l=nr x:=by
 refine yN 6 hl (iq x) ?_
 rw[IC,←h,mO,Nat.mod_eq_of_lt hlt]
theorem nr_0:nr 0=List.replicate 6 0#64:=(xT (x:=0) sm (by rw[jF];exact OJ) (by rw[jF,zr_0])).symm
/-! ### Sums and differences -/
theorem Kj(x y:Zr):V (AS (nr x) (nr y) 6).1 6=V (nr x) 6+V (nr y) 6:=by
 have h4:=Lv
 have hx:=yp x
 have hy:=yp y
 rcases E2 (nr x) (nr y)with ⟨_,h⟩|⟨_,h⟩
 ·exact h
 ·omega
theorem BP{x y:Zr}(h:(SS (AS (nr x) (nr y) 6).1 ML 6).2=1):(AS (nr x) (nr y) 6).1=nr (x+y):=by
 have hl:V (AS (nr x) (nr y) 6).1 6<RR:=by
  rcases rj (AS (nr x) (nr y) 6).1 ML with ⟨h',_⟩|⟨_,_,h'⟩
  ·rw[h]at h';exact absurd h' dc
  ·rw[Dj]at h';exact h'
 exact xT (aT _ _ _) hl (by rw[Kj,wW,xu,xu])
theorem z9{x y:Zr}(h:(SS (AS (nr x) (nr y) 6).1 ML 6).2=0):(SS (AS (nr x) (nr y) 6).1 ML 6).1=nr (x+y):=by
 have hs:=Kj x y
 have hp:=Dj
 have hx:=yp x
 have hy:=yp y
 rcases rj (AS (nr x) (nr y) 6).1 ML with ⟨_,h'⟩|⟨h',_⟩
 ·refine xT (aO _ _ _) om ?_
  rw[hs,hp]at h'
  have e:=congrArg zr h'
  rw[wW,Sj,wW,xu,xu]at e
  grind
 ·rw[h]at h';exact absurd h' dc
/-! ### Products -/
/-! ### Bytes -/
def TO(x:Zr):L8:=(BYs (nr x) 48).drop 16
theorem uK(x:Zr):(TO x).length=32:=by rw[TO,List.length_drop,aJ]
/-! ### Squares of squares -/
def SQP(x:Zr)(i:Nat):L6:=FL (fun j=>if j<i then nr (x^2^j)else List.replicate 6 0) 256
theorem IQ(x:Zr)(i:Nat):(SQP x i).length=1536:=a7 _ _
/-! ### What the walks need -/
theorem uq(n:BitVec 64): ∀k,V (n::List.replicate 5 0) (k+1)=n.toNat
 |0=>by rw[qb,V,Nat.mul_zero,Nat.pow_zero,Nat.mul_one,Nat.zero_add];rfl
 |k+1=>by
  have h0:(n::List.replicate 5 (0:BitVec 64)).getD (k+1) 0=0:=by
   rw[List.getD_eq_getElem?_getD,List.getElem?_cons_succ,List.getElem?_replicate]
   split<;>rfl
  rw[qb,uq n k,h0,show (0:BitVec 64).toNat=0 from rfl,Nat.zero_mul,Nat.add_zero]
theorem uP(n:BitVec 64):V (n::List.replicate 5 0) 6=n.toNat:=uq n 5
theorem BR(n:BitVec 64):n::List.replicate 5 0=nr (zr n.toNat):=
 xT rfl (by rw[uP];exact Nat.lt_trans n.isLt Oc) (by rw[uP])
end
section
def NBv(bs:L8)(m:Nat):BitVec 8:=if m % 2=0 then bs.getD (m / 2) 0>>>4 else bs.getD (m / 2) 0 % 16#8
theorem Oq(bs:L8)(m:Nat):(NBv bs m).toNat<16:=by
 have h:=(bs.getD (m / 2) 0).isLt
 unfold NBv
 split
 ·rw[BitVec.toNat_ushiftRight,Nat.shiftRight_eq_div_pow];omega
 ·rw[BitVec.toNat_umod];exact Nat.mod_lt _ dc
def DN(bs:L8):Nat→Nat
 |0=>0
 |m+1=>16*DN bs m+(NBv bs m).toNat
theorem Ep(bs:L8): ∀k,DN bs (2*k)=BN bs k
 |0=>rfl
 |k+1=>by
  have h:=(bs.getD k 0).isLt
  have e0:NBv bs (2*k)=bs.getD k 0>>>4:=by
   rw[NBv,if_pos om,show 2*k / 2=k by omega]
  have e1:NBv bs (2*k+1)=bs.getD k 0 % 16#8:=by
   rw[NBv,if_neg om,show (2*k+1) / 2=k by omega]
  rw[show 2*(k+1)=2*k+1+1 by omega,DN,DN,Ep bs k,BN,e0,e1,BitVec.toNat_ushiftRight,Nat.shiftRight_eq_div_pow,BitVec.toNat_umod,show (16#8).toNat=16 from rfl]
  omega
theorem Hs(x:Zp)(j D:Nat):x^(2^j*D)*x^(2^j*D)=x^(2^(j+1)*D):=by
 rw[←qA,Nat.pow_succ,show 2^j*2*D=2^j*D+2^j*D by rw[Nat.mul_right_comm];omega]
theorem EL(x:Zp)(bs:L8)(k:Nat):x^(2^4*DN bs k)*x^(NBv bs k).toNat=x^DN bs (k+1):=by
 rw[←qA,DN]
/-! ### Sixteen powers -/
def SP(x:Zp)(i:Nat):L6:=FL (fun j=>if j<i then fe (x^j)else List.replicate 6 0) 16
theorem bc(x:Zp)(i:Nat):(SP x i).length=96:=a7 _ _
theorem N3(x:Zp):FL (fun i=>if i=0 then fe 1 else List.replicate 6 0) 16=SP x 1:=uS fun i _=>by
 by_cases h:i=0
 ·rw[if_pos h,if_pos om,h,p0]
 ·rw[if_neg h,if_neg om]
theorem rC(x:Zp)(i k:Nat)(hk:k<i)(hi:i≤16)(o:Nat)(ho:o=6*k): ∀j v,((fe (x^k)).map U64)[j]? =some v→((SP x i).map U64)[o+j]? =some v:=by
 have h:=Hb (fun j=>if j<i then fe (x^j)else List.replicate 6 0) 16 k om (by simp only[if_pos hk];exact aV _) o ho
 simp only[if_pos hk]at h
 exact h
theorem Hc(x:Zp)(i:Nat)(h1:1≤i)(hi:i<16)(o:Nat)(ho:o=6*i):lay o ((fe (x^(i-1)*x)).map U64) ((SP x i).map U64)=(SP x (i+1)).map U64:=by
 rw[SP,Eu _ 16 i _ hi (aV _) o ho]
 congr 1
 refine uS fun j _=> ?_
 by_cases h:j=i
 ·rw[if_pos h,if_pos om,h,←ps,show i-1+1=i by omega]
 ·rw[if_neg h]
  by_cases h':j<i
  ·rw[if_pos h',if_pos om]
  ·rw[if_neg h',if_neg om]
end
section
structure Rg(α:Type) where
 (zero one:α) (add mul:α→α→α) (neg:α→α)
 add_assoc: ∀a b c,add (add a b) c=add a (add b c)
 add_comm: ∀a b,add a b=add b a
 add_zero: ∀a,add a zero=a
 add_neg: ∀a,add a (neg a)=zero
 mul_assoc: ∀a b c,mul (mul a b) c=mul a (mul b c)
 mul_comm: ∀a b,mul a b=mul b a
 mul_one: ∀a,mul a one=a
 mul_add: ∀a b c,mul a (add b c)=add (mul a b) (mul a c)
section
variable {α:Type} (R:Rg α)
theorem Rg.zero_add(a:α):R.add R.zero a=a:=by rw[R.add_comm,R.add_zero]
theorem Rg.one_mul(a:α):R.mul R.one a=a:=by rw[R.mul_comm,R.mul_one]
theorem Rg.add_mul(a b c:α):R.mul (R.add a b) c=R.add (R.mul a c) (R.mul b c):=by rw[R.mul_comm,R.mul_add,R.mul_comm c,R.mul_comm c]
theorem Rg.add_left_comm(a b c:α):R.add a (R.add b c)=R.add b (R.add a c):=by rw[←R.add_assoc,R.add_comm a b,R.add_assoc]
theorem Rg.mul_left_comm(a b c:α):R.mul a (R.mul b c)=R.mul b (R.mul a c):=by rw[←R.mul_assoc,R.mul_comm a b,R.mul_assoc]
theorem Rg.cancel{a b c:α}(h:R.add a b=R.add a c):b=c:=by
 have e:R.add (R.neg a) (R.add a b)=R.add (R.neg a) (R.add a c):=by rw[h]
 rw[←R.add_assoc,←R.add_assoc,R.add_comm (R.neg a) a,R.add_neg,R.zero_add,R.zero_add]at e
 exact e
theorem Rg.mul_zero(a:α):R.mul a R.zero=R.zero:=by
 apply R.cancel (a:=R.mul a R.zero)
 rw[←R.mul_add,R.add_zero,R.add_zero]
theorem Rg.zero_mul(a:α):R.mul R.zero a=R.zero:=by rw[R.mul_comm,R.mul_zero]
theorem Rg.neg_of{a b:α}(h:R.add a b=R.zero):b=R.neg a:=by
 apply R.cancel (a:=a)
 rw[h,R.add_neg]
theorem Rg.neg_add(a b:α):R.neg (R.add a b)=R.add (R.neg a) (R.neg b):=by
 refine (R.neg_of ?_).symm
 rw[R.add_assoc,R.add_left_comm b,R.add_neg,R.add_zero,R.add_neg]
theorem Rg.neg_mul(a b:α):R.mul (R.neg a) b=R.neg (R.mul a b):=by
 refine R.neg_of ?_
 rw[←R.add_mul,R.add_neg,R.zero_mul]
theorem Rg.neg_neg(a:α):R.neg (R.neg a)=a:=by
 refine (R.neg_of ?_).symm
 rw[R.add_comm,R.add_neg]
theorem Rg.neg_zero:R.neg R.zero=R.zero:=by
 refine (R.neg_of ?_).symm
 rw[R.add_zero]
/-! ### Whole numbers -/
def Rg.nat:Nat→α
 |0=>R.zero
 |n+1=>R.add (Rg.nat n) R.one
theorem Rg.nat_add(m:Nat): ∀n,R.nat (m+n)=R.add (R.nat m) (R.nat n)
 |0=>by rw[Nat.add_zero,Rg.nat,R.add_zero]
 |n+1=>by rw[←Nat.add_assoc,Rg.nat,Rg.nat_add m n,R.add_assoc];rfl
theorem Rg.nat_mul(m:Nat): ∀n,R.nat (m*n)=R.mul (R.nat m) (R.nat n)
 |0=>by rw[Nat.mul_zero,Rg.nat,R.mul_zero]
 |n+1=>by rw[Nat.mul_succ,R.nat_add,Rg.nat_mul m n,Rg.nat,R.mul_add,R.mul_one]
def Rg.int(c:Int):α:=R.add (R.nat c.toNat) (R.neg (R.nat (-c).toNat))
theorem Rg.int_sub(m n:Nat):R.int ((m:Int)-n)=R.add (R.nat m) (R.neg (R.nat n)):=by
 rcases Nat.le_total n m with h|h
 ·obtain ⟨k,rfl⟩:=Nat.exists_eq_add_of_le h
  rw[Rg.int,show ((n+k:Nat):Int)-n=k by omega,show (-(k:Int)).toNat=0 by omega,Int.toNat_natCast,Rg.nat,R.neg_zero,R.add_zero,R.nat_add,R.add_comm (R.nat n),R.add_assoc,R.add_neg,R.add_zero]
 ·obtain ⟨k,rfl⟩:=Nat.exists_eq_add_of_le h
  rw[Rg.int,show (m:Int)-((m+k:Nat):Int)= -(k:Int) by omega,show (-(k:Int)).toNat=0 by omega,show (-(-(k:Int))).toNat=k by omega,Rg.nat,R.zero_add,R.nat_add,R.neg_add,←R.add_assoc,R.add_neg,R.zero_add]
theorem kC(c:Int): ∃m n:Nat,c=(m:Int)-n:=⟨c.toNat,(-c).toNat,om⟩
theorem Rg.add_four(a b c d:α):R.add (R.add a b) (R.add c d)=R.add (R.add a c) (R.add b d):=by
 rw[R.add_assoc,R.add_assoc,R.add_left_comm b]
theorem Rg.int_add(a b:Int):R.int (a+b)=R.add (R.int a) (R.int b):=by
 obtain ⟨m,n,rfl⟩:=kC a
 obtain ⟨k,l,rfl⟩:=kC b
 rw[show (m:Int)-n+((k:Int)-l)=((m+k:Nat):Int)-((n+l:Nat):Int) by omega,R.int_sub,R.int_sub,R.int_sub,R.nat_add,R.nat_add,R.neg_add,R.add_four]
theorem Rg.int_mul(a b:Int):R.int (a*b)=R.mul (R.int a) (R.int b):=by
 obtain ⟨m,n,rfl⟩:=kC a
 obtain ⟨k,l,rfl⟩:=kC b
 have e:((m:Int)-n)*((k:Int)-l)=((m*k+n*l:Nat):Int)-((m*l+n*k:Nat):Int):=by
  rw[Int.sub_mul,Int.mul_sub,Int.mul_sub]
  simp only[Int.natCast_add,Int.natCast_mul]
  omega
 rw[e,R.int_sub,R.int_sub,R.int_sub,R.nat_add,R.nat_add,R.nat_mul,R.nat_mul,R.nat_mul,R.nat_mul,R.mul_add,R.add_mul,R.add_mul,R.neg_mul,R.mul_comm (R.nat m) (R.neg _),R.neg_mul,R.neg_mul,R.mul_comm (R.nat n) (R.neg _),R.neg_mul,R.neg_neg,R.mul_comm (R.nat l) (R.nat m),R.mul_comm (R.nat l) (R.nat n),R.neg_add]
 rw[R.add_four,R.add_comm (R.mul (R.nat n) (R.nat l)) (R.neg _),R.add_four]
theorem Rg.int_neg(a:Int):R.int (-a)=R.neg (R.int a):=by
 refine R.neg_of ?_
 rw[←R.int_add,Int.add_right_neg]
 show R.add R.zero (R.neg R.zero)=R.zero
 rw[R.neg_zero,R.add_zero]
theorem Rg.int_one:R.int 1=R.one:=by
 show R.add (R.add R.zero R.one) (R.neg R.zero)=R.one
 rw[R.neg_zero,R.add_zero,R.zero_add]
theorem Rg.int_zero:R.int 0=R.zero:=by
 show R.add R.zero (R.neg R.zero)=R.zero
 rw[R.neg_zero,R.add_zero]
/-! ### Products of letters, and sums of them -/
abbrev Mo:=List Nat
abbrev Po:=List (Mo×Int)
def Fg(i:Nat):Mo→Mo
 |[]=>[i]
 |j::r=>bif Nat.ble i j then i::j::r else j::Fg i r
def Eg(a b:Mo):Mo:=a.foldr Fg b
def DO:Mo→Mo→Nat
 |[],[]=>1
 |[],_::_=>0
 |_::_,[]=>2
 |i::r,j::s=>bif Nat.blt i j then 0 else bif Nat.beq i j then DO r s else 2
def r8(m:Mo)(c:Int):Po→Po
 |[]=>bif c==0 then []else [(m,c)]
 |t::r=>
  match DO m t.1 with
  |0=>bif c==0 then t::r else (m,c)::t::r
  |1=>bif c+t.2==0 then r else (m,c+t.2)::r
  |_=>t::r8 m c r
def gg(p q:Po):Po:=p.foldr (fun t x=>r8 t.1 t.2 x) q
def pmt(m:Mo)(c:Int)(p:Po):Po:=p.foldr (fun t x=>r8 (Eg m t.1) (c*t.2) x) []
def jp(p q:Po):Po:=p.foldr (fun t x=>gg (pmt t.1 t.2 q) x) []
def kO(p:Po):Po:=p.map fun t=>(t.1,-t.2)
def pv(i:Nat):Po:=[([i],1)]
def pc(c:Int):Po:=r8 [] c []
variable (ρ:Nat→α)
def Rg.dm(m:Mo):α:=m.foldr (fun i x=>R.mul (ρ i) x) R.one
def Rg.dt(m:Mo)(c:Int):α:=R.mul (R.int c) (R.dm ρ m)
def Rg.d(p:Po):α:=p.foldr (fun t x=>R.add (R.dt ρ t.1 t.2) x) R.zero
theorem Rg.dm_cons(i:Nat)(m:Mo):R.dm ρ (i::m)=R.mul (ρ i) (R.dm ρ m):=rfl
theorem Rg.d_cons(t:Mo×Int)(p:Po):R.d ρ (t::p)=R.add (R.dt ρ t.1 t.2) (R.d ρ p):=rfl
theorem Rg.dm_ins(i:Nat): ∀m,R.dm ρ (Fg i m)=R.mul (ρ i) (R.dm ρ m)
 |[]=>rfl
 |j::r=>by
  unfold Fg
  cases Nat.ble i j with
  |true=>rfl
  |false=>rw[cond_false,R.dm_cons,Rg.dm_ins i r,R.dm_cons,R.mul_left_comm]
theorem Rg.dm_mul(b:Mo): ∀a,R.dm ρ (Eg a b)=R.mul (R.dm ρ a) (R.dm ρ b)
 |[]=>(R.one_mul _).symm
 |i::r=>by
  have ih:=Rg.dm_mul b r
  show R.dm ρ (Fg i (Eg r b))=_
  rw[R.dm_ins,ih,R.dm_cons,R.mul_assoc]
theorem pf: ∀a b:Mo,DO a b=1→a=b
 |[],[],_=>rfl
 |[],_::_,h=>by cases h
 |_::_,[],h=>by cases h
 |i::r,j::s,h=>by
  unfold DO at h
  cases h1:Nat.blt i j with
  |true=>rw[h1]at h;cases h
  |false=>
   rw[h1]at h
   cases h2:Nat.beq i j with
   |true=>rw[h2]at h;rw[Nat.eq_of_beq_eq_true h2,pf r s h]
   |false=>rw[h2]at h;cases h
theorem Rg.dt_zero(m:Mo):R.dt ρ m 0=R.zero:=by rw[Rg.dt,R.int_zero,R.zero_mul]
theorem Rg.d_ins(m:Mo)(c:Int): ∀p,R.d ρ (r8 m c p)=R.add (R.dt ρ m c) (R.d ρ p)
 |[]=>by
  unfold r8
  by_cases h:c=0
  ·subst h;rw[show ((0:Int)==0)=true from rfl,cond_true,R.dt_zero,R.zero_add]
  ·rw[beq_eq_false_iff_ne.2 h,cond_false];rfl
 |t::r=>by
  have ih:=Rg.d_ins m c r
  unfold r8
  split
  ·by_cases h:c=0
   ·subst h;rw[show ((0:Int)==0)=true from rfl,cond_true,R.dt_zero,R.zero_add]
   ·rw[beq_eq_false_iff_ne.2 h,cond_false];rfl
  ·rename_i h1
   have e:=pf m t.1 h1
   have e2:R.add (R.dt ρ m c) (R.dt ρ t.1 t.2)=R.dt ρ m (c+t.2):=by rw[←e,Rg.dt,Rg.dt,Rg.dt,R.int_add,R.add_mul]
   rw[R.d_cons,←R.add_assoc,e2]
   by_cases h:c+t.2=0
   ·rw[h,show ((0:Int)==0)=true from rfl,cond_true,R.dt_zero,R.zero_add]
   ·rw[beq_eq_false_iff_ne.2 h,cond_false];rfl
  ·rw[R.d_cons,ih,R.d_cons,R.add_left_comm]
theorem Rg.d_add(q:Po): ∀p,R.d ρ (gg p q)=R.add (R.d ρ p) (R.d ρ q)
 |[]=>(R.zero_add _).symm
 |t::r=>by
  have ih:=Rg.d_add q r
  show R.d ρ (r8 t.1 t.2 (gg r q))=_
  rw[R.d_ins,ih,R.d_cons,R.add_assoc]
theorem Rg.dt_mul(m n:Mo)(c e:Int):R.dt ρ (Eg m n) (c*e)=R.mul (R.dt ρ m c) (R.dt ρ n e):=by
 rw[Rg.dt,Rg.dt,Rg.dt,R.int_mul,R.dm_mul,R.mul_assoc,R.mul_assoc,R.mul_left_comm (R.int e)]
theorem Rg.d_mt(m:Mo)(c:Int): ∀p,R.d ρ (pmt m c p)=R.mul (R.dt ρ m c) (R.d ρ p)
 |[]=>(R.mul_zero _).symm
 |t::r=>by
  have ih:=Rg.d_mt m c r
  show R.d ρ (r8 (Eg m t.1) (c*t.2) (pmt m c r))=_
  rw[R.d_ins,ih,R.dt_mul,R.d_cons,R.mul_add]
theorem Rg.d_mul(q:Po): ∀p,R.d ρ (jp p q)=R.mul (R.d ρ p) (R.d ρ q)
 |[]=>(R.zero_mul _).symm
 |t::r=>by
  have ih:=Rg.d_mul q r
  show R.d ρ (gg (pmt t.1 t.2 q) (jp r q))=_
  rw[R.d_add,R.d_mt,ih,R.d_cons,R.add_mul]
theorem Rg.dt_neg(m:Mo)(c:Int):R.dt ρ m (-c)=R.neg (R.dt ρ m c):=by rw[Rg.dt,Rg.dt,R.int_neg,R.neg_mul]
theorem Rg.d_neg: ∀p,R.d ρ (kO p)=R.neg (R.d ρ p)
 |[]=>R.neg_zero.symm
 |t::r=>by
  have ih:=Rg.d_neg r
  show R.add (R.dt ρ t.1 (-t.2)) (R.d ρ (kO r))=_
  rw[ih,R.dt_neg,R.d_cons,R.neg_add]
theorem Rg.d_var(i:Nat):R.d ρ (pv i)=ρ i:=by
 show R.add (R.mul (R.int 1) (R.mul (ρ i) R.one)) R.zero=ρ i
 rw[R.add_zero,R.mul_one,R.int_one,R.one_mul]
theorem Rg.d_const(c:Int):R.d ρ (pc c)=R.int c:=by
 rw[pc,R.d_ins]
 show R.add (R.mul (R.int c) R.one) R.zero=_
 rw[R.add_zero,R.mul_one]
theorem Rg.same{a b:α}{p q:Po}(ha:R.d ρ p=a)(hb:R.d ρ q=b)(h:p=q):a=b:=by rw[←ha,h,hb]
end
end
section
section
variable {α:Type} (R:Rg α)
def Rg.pw(a:α):Nat→α
 |0=>R.one
 |n+1=>R.mul (Rg.pw a n) a
theorem Rg.pw_add(a:α)(m:Nat): ∀n,R.pw a (m+n)=R.mul (R.pw a m) (R.pw a n)
 |0=>(R.mul_one _).symm
 |n+1=>by rw[←Nat.add_assoc,Rg.pw,Rg.pw_add a m n,R.mul_assoc];rfl
theorem Rg.pw_one(a:α):R.pw a 1=a:=R.one_mul a
theorem Rg.pw_mul(a:α)(m:Nat): ∀n,R.pw a (m*n)=R.pw (R.pw a m) n
 |0=>rfl
 |n+1=>by rw[Nat.mul_succ,R.pw_add,Rg.pw_mul a m n];rfl
theorem Rg.mul_four(a b c d:α):R.mul (R.mul a b) (R.mul c d)=R.mul (R.mul a c) (R.mul b d):=by
 rw[R.mul_assoc,R.mul_assoc,R.mul_left_comm b]
theorem Rg.mul_pw(a b:α): ∀n,R.pw (R.mul a b) n=R.mul (R.pw a n) (R.pw b n)
 |0=>(R.mul_one _).symm
 |n+1=>by rw[Rg.pw,Rg.mul_pw a b n,R.mul_four];rfl
theorem Rg.one_pw: ∀n,R.pw R.one n=R.one
 |0=>rfl
 |n+1=>by rw[Rg.pw,Rg.one_pw n,R.mul_one]
theorem Rg.zero_pw(n:Nat):R.pw R.zero (n+1)=R.zero:=R.mul_zero _
/-! ### Sums to a power -/
def Rg.bs(a b:α)(n:Nat):Nat→α
 |0=>R.zero
 |m+1=>R.add (Rg.bs a b n m) (R.mul (R.nat (Cb n m)) (R.mul (R.pw a m) (R.pw b (n-m))))
theorem Rg.nat_one:R.nat 1=R.one:=R.zero_add _
theorem Rg.bs_step(a b:α)(n:Nat): ∀m,m≤n→R.bs a b (n+1) (m+1)=R.add (R.mul a (R.bs a b n m)) (R.mul b (R.bs a b n (m+1)))
 |0,_=>by
  show R.add R.zero (R.mul (R.nat (Cb (n+1) 0)) (R.mul R.one (R.mul (R.pw b n) b)))=R.add (R.mul a R.zero) (R.mul b (R.add R.zero (R.mul (R.nat (Cb n 0)) (R.mul R.one (R.pw b n)))))
  rw[i7,i7,R.nat_one,R.mul_zero,R.zero_add,R.zero_add,R.zero_add,R.one_mul,R.one_mul,R.one_mul,R.one_mul,R.mul_comm]
 |m+1,h=>by
  have ih:=Rg.bs_step a b n m om
  rw[Rg.bs,ih]
  have e1:R.bs a b n (m+1)=R.add (R.bs a b n m) (R.mul (R.nat (Cb n m)) (R.mul (R.pw a m) (R.pw b (n-m)))):=rfl
  have e2:R.bs a b n (m+1+1)=R.add (R.bs a b n (m+1)) (R.mul (R.nat (Cb n (m+1))) (R.mul (R.pw a (m+1)) (R.pw b (n-(m+1))))):=rfl
  have e3:R.mul a (R.bs a b n (m+1))=R.add (R.mul a (R.bs a b n m)) (R.mul (R.nat (Cb n m)) (R.mul (R.pw a (m+1)) (R.pw b (n-m)))):=by
   rw[e1,R.mul_add,Rg.pw]
   congr 1
   rw[R.mul_left_comm,R.mul_comm (R.pw a m) a,R.mul_assoc]
  have e4:R.mul b (R.bs a b n (m+1+1))=R.add (R.mul b (R.bs a b n (m+1))) (R.mul (R.nat (Cb n (m+1))) (R.mul (R.pw a (m+1)) (R.pw b (n-m)))):=by
   rw[e2,R.mul_add]
   congr 1
   have hb:R.pw b (n-m)=R.mul (R.pw b (n-(m+1))) b:=by rw[show n-m=(n-(m+1))+1 by omega];rfl
   rw[hb,R.mul_left_comm]
   congr 1
   rw[R.mul_left_comm,R.mul_comm b]
  rw[e3,e4,show Cb (n+1) (m+1)=Cb n m+Cb n (m+1)from rfl,R.nat_add,R.add_mul,show n+1-(m+1)=n-m by omega,R.add_four]
theorem Rg.binomial(a b:α): ∀n,R.pw (R.add a b) n=R.bs a b n (n+1)
 |0=>by
  show R.one=R.add R.zero (R.mul (R.nat 1) (R.mul R.one R.one))
  rw[R.nat_one,R.mul_one,R.mul_one,R.zero_add]
 |n+1=>by
  have ih:=Rg.binomial a b n
  have e0:R.bs a b (n+1) (n+1+1)=R.add (R.bs a b (n+1) (n+1)) (R.mul (R.nat (Cb (n+1) (n+1))) (R.mul (R.pw a (n+1)) (R.pw b (n+1-(n+1))))):=rfl
  have e1:R.bs a b n (n+1)=R.add (R.bs a b n n) (R.mul (R.nat (Cb n n)) (R.mul (R.pw a n) (R.pw b (n-n)))):=rfl
  have e3:R.mul a (R.bs a b n (n+1))=R.add (R.mul a (R.bs a b n n)) (R.pw a (n+1)):=by
   rw[e1,R.mul_add,mg,R.nat_one,R.one_mul,Nat.sub_self,show R.pw b 0=R.one from rfl,R.mul_one,R.mul_comm a (R.pw a n)]
   rfl
  rw[e0,R.bs_step a b n n (Nat.le_refl _),mg,R.nat_one,R.one_mul,Nat.sub_self,show R.pw b 0=R.one from rfl,R.mul_one,Rg.pw,ih,R.mul_comm,R.add_mul,e3,R.add_assoc,R.add_comm (R.pw a (n+1)),←R.add_assoc]
theorem Rg.frob_part{p:Nat}(hp:Pr p)(h0:R.nat p=R.zero)(a b:α): ∀m,m<p→R.bs a b p (m+1)=R.pw b p
 |0,_=>by
  show R.add R.zero (R.mul (R.nat (Cb p 0)) (R.mul R.one (R.pw b (p-0))))=_
  rw[i7,R.nat_one,R.one_mul,R.one_mul,R.zero_add,Nat.sub_zero]
 |m+1,h=>by
  obtain ⟨c,hc⟩:=hp.dvd_Cb (k:=m+1) om h
  rw[Rg.bs,Rg.frob_part hp h0 a b m om,hc,R.nat_mul,h0,R.zero_mul,R.zero_mul,R.add_zero]
theorem Rg.frob{p:Nat}(hp:Pr p)(h0:R.nat p=R.zero)(a b:α):R.pw (R.add a b) p=R.add (R.pw a p) (R.pw b p):=by
 obtain ⟨q,rfl⟩: ∃q,p=q+1:=⟨p-1,by have:=hp.1;omega⟩
 rw[R.binomial,Rg.bs,R.frob_part hp h0 a b q om,mg,R.nat_one,R.one_mul,Nat.sub_self,show R.pw b 0=R.one from rfl,R.mul_one,R.add_comm]
end
end
section
section
variable {α:Type} {R:Rg α} {ρ:Nat→α} {p q:Po} {a b:α}
def ev(R:Rg α)(l:List α)(i:Nat):α:=l.getD i R.zero
theorem ta(ha:R.d ρ p=a)(hb:R.d ρ q=b):R.d ρ (gg p q)=R.add a b:=by rw[R.d_add,ha,hb]
theorem tm(ha:R.d ρ p=a)(hb:R.d ρ q=b):R.d ρ (jp p q)=R.mul a b:=by rw[R.d_mul,ha,hb]
theorem tn(ha:R.d ρ p=a):R.d ρ (kO p)=R.neg a:=by rw[R.d_neg,ha]
theorem tv(i:Nat):R.d ρ (pv i)=ρ i:=R.d_var ρ i
theorem to1:R.d ρ (pc 1)=R.one:=(R.d_const ρ 1).trans R.int_one
theorem tz0:R.d ρ []=R.zero:=rfl
theorem j0:R.d ρ (pv 0)=ρ 0:=tv 0
theorem j1:R.d ρ (pv 1)=ρ 1:=tv 1
theorem j2:R.d ρ (pv 2)=ρ 2:=tv 2
theorem j3:R.d ρ (pv 3)=ρ 3:=tv 3
theorem j4:R.d ρ (pv 4)=ρ 4:=tv 4
theorem j5:R.d ρ (pv 5)=ρ 5:=tv 5
theorem j6:R.d ρ (pv 6)=ρ 6:=tv 6
theorem j7:R.d ρ (pv 7)=ρ 7:=tv 7
theorem j8:R.d ρ (pv 8)=ρ 8:=tv 8
theorem j9:R.d ρ (pv 9)=ρ 9:=tv 9
theorem j10:R.d ρ (pv 10)=ρ 10:=tv 10
theorem j11:R.d ρ (pv 11)=ρ 11:=tv 11
theorem zq(R:Rg α)(l:List α){a b:α}{p q:Po}(ha:R.d (ev R l) p=a)(hb:R.d (ev R l) q=b)(h:p=q:=by kernel_rfl):a=b:=Rg.same (R:=R) (ρ:=ev R l) ha hb h
end
section
variable {α β:Type}
def z1(g:β→β):List β→List β
 |x::s=>g x::s
 |s=>s
def z2(d:β→β→β):List β→List β
 |x::y::s=>d x y::s
 |s=>s
def zt(z o:β)(g:β→β)(d m:β→β→β)(v:Nat→β)(k:Nat)(s:List β):List β:=bif Nat.beq k 1 then z::s else bif Nat.beq k 2 then o::s else bif Nat.beq k 3 then z1 g s else bif Nat.beq k 4 then z2 d s else bif Nat.beq k 5 then z2 m s else bif Nat.beq k 6 then v 0::s else bif Nat.beq k 7 then v 1::s else bif Nat.beq k 8 then v 2::s else bif Nat.beq k 9 then v 3::s else bif Nat.beq k 10 then v 4::s else bif Nat.beq k 11 then v 5::s else bif Nat.beq k 12 then v 6::s else bif Nat.beq k 13 then v 7::s else bif Nat.beq k 14 then v 8::s else v 9::s
def zf{γ:Type}(k:List β→γ):List β→γ
 |[]=>k []
 |x::s=>k (x::s)
def zs(z o:β)(g:β→β)(d m:β→β→β)(v:Nat→β):Nat→Nat→List β→List β
 |0,_,s=>s
 |_+1,0,s=>s
 |f+1,n+1,s=>zf (zs z o g d m v f ((n+1) / 16)) (zt z o g d m v ((n+1) % 16) s)
variable (R:Rg α) (ρ:Nat→α)
theorem mapb(f:α→β)(b:Bool)(x y:List α):(bif b then x else y).map f=bif b then x.map f else y.map f:=by cases b<;>rfl
theorem z1_d(s:List Po):(z1 kO s).map (R.d ρ)=z1 R.neg (s.map (R.d ρ)):=by
 rcases s with _|⟨x,s⟩<;>simp only[z1,List.map_cons,List.map_nil,R.d_neg]
theorem Tr(f:Po→Po→Po)(g:α→α→α)(h: ∀x y,R.d ρ (f x y)=g (R.d ρ x) (R.d ρ y))(s:List Po):(z2 f s).map (R.d ρ)=z2 g (s.map (R.d ρ)):=by
 rcases s with _|⟨x,_|⟨y,s⟩⟩<;>simp only[z2,List.map_cons,List.map_nil,h]
theorem zt_d(k:Nat)(s:List Po):(zt [] (pc 1) kO gg jp pv k s).map (R.d ρ)=zt R.zero R.one R.neg R.add R.mul ρ k (s.map (R.d ρ)):=by
 simp only[zt,mapb,z1_d,Tr R ρ gg R.add (fun _ _=>R.d_add ρ _ _),Tr R ρ jp R.mul (fun _ _=>R.d_mul ρ _ _),List.map_cons,R.d_var,to1,tz0]
theorem Ly{γ:Type}(k:List β→γ)(s:List β):zf k s=k s:=by cases s<;>rfl
theorem RD: ∀(f n:Nat) (s:List Po),(zs [] (pc 1) kO gg jp pv f n s).map (R.d ρ)=zs R.zero R.one R.neg R.add R.mul ρ f n (s.map (R.d ρ))
 |0,_,_=>rfl
 |_+1,0,_=>rfl
 |f+1,n+1,s=>by
  unfold zs
  rw[Ly,Ly,RD f,zt_d]
def zrg(R:Rg α)(l:List α)(n:Nat):α:=(zs R.zero R.one R.neg R.add R.mul (ev R l) n.log2.succ n []).headD R.zero
def zp'(n:Nat):Po:=(zs [] (pc 1) kO gg jp pv n.log2.succ n []).headD []
theorem qh(l:List α)(n:Nat):R.d (ev R l) (zp' n)=zrg R l n:=by
 have h:=RD R (ev R l) n.log2.succ n []
 rw[List.map_nil]at h
 unfold zrg zp'
 rw[←h]
 cases zs [] (pc 1) kO gg jp pv n.log2.succ n []<;>rfl
def peq:Po→Po→Bool
 |[],[]=>true
 |x::p,y::q=>Nat.beq (DO x.1 y.1) 1 && (x.2==y.2 && peq p q)
 |_,_=>false
theorem rK: ∀{p q:Po},peq p q=true→p=q
 |[],[],_=>rfl
 |[],_::_,h=>by cases h
 |_::_,[],h=>by cases h
 |x::p,y::q,h=>by
  simp only[peq,Bool.and_eq_true]at h
  rw[rK h.2.2,show x=y from Prod.ext (pf _ _ (Nat.eq_of_beq_eq_true h.1)) (eq_of_beq h.2.1)]
theorem zx(R:Rg α)(l:List α){a b:α}(m n:Nat)(ha:zrg R l m=a:=by kernel_rfl)(hb:zrg R l n=b:=by kernel_rfl)(h:peq (zp' m) (zp' n)=true:=by kernel_rfl):a=b:=by
 rw[←ha,←hb,←qh,←qh,rK h]
end
section
variable {α:Type} (R:Rg α) (z:α)
/-! ### By a root -/
def vM(x y:α×α):α×α:=(R.add (R.mul x.1 y.1) (R.mul z (R.mul x.2 y.2)),R.add (R.mul x.1 y.2) (R.mul x.2 y.1))
def qadd(x y:α×α):α×α:=(R.add x.1 y.1,R.add x.2 y.2)
def qneg(x:α×α):α×α:=(R.neg x.1,R.neg x.2)
def Rg.quad:Rg (α×α) where
 zero:=(R.zero,R.zero)
 one:=(R.one,R.zero)
 add:=qadd R
 mul:=vM R z
 neg:=qneg R
 add_assoc:=fun x y w=>Prod.ext (zx R [x.1,x.2,y.1,y.2,w.1,w.2,z] 0x4468a 0x4648a) (zx R [x.1,x.2,y.1,y.2,w.1,w.2,z] 0x4479b 0x4749b)
 add_comm:=fun x y=>Prod.ext (zx R [x.1,x.2,y.1,y.2,z] 0x468 0x486) (zx R [x.1,x.2,y.1,y.2,z] 0x479 0x497)
 add_zero:=fun x=>Prod.ext (zx R [x.1,x.2,z] 0x461 0x6) (zx R [x.1,x.2,z] 0x471 0x7)
 add_neg:=fun x=>Prod.ext (zx R [x.1,x.2,z] 0x4636 0x1) (zx R [x.1,x.2,z] 0x4737 0x1)
 mul_assoc:=fun x y w=>Prod.ext (zx R [x.1,x.2,y.1,y.2,w.1,w.2,z] 0x4545685c579a5c54569578b 0x456458a5c59b5c57458b59a) (zx R [x.1,x.2,y.1,y.2,w.1,w.2,z] 0x4545685c579b54569578a 0x456458b59a57458a5c59b)
 mul_comm:=fun x y=>Prod.ext (zx R [x.1,x.2,y.1,y.2,z] 0x45685a579 0x45865a597) (zx R [x.1,x.2,y.1,y.2,z] 0x4569578 0x4587596)
 mul_one:=fun x=>Prod.ext (zx R [x.1,x.2,z] 0x456258571 0x6) (zx R [x.1,x.2,z] 0x4561572 0x7)
 mul_add:=fun x y w=>Prod.ext (zx R [x.1,x.2,y.1,y.2,w.1,w.2,z] 0x45648a5c5749b 0x445685c579456a5c57b) (zx R [x.1,x.2,y.1,y.2,w.1,w.2,z] 0x45649b5748a 0x44569578456b57a)
/-! ### By a third root -/
def FH(x y:α×α×α):α×α×α:=
 (R.add (R.mul x.1 y.1) (R.mul z (R.add (R.mul x.2.1 y.2.2) (R.mul x.2.2 y.2.1))),R.add (R.add (R.mul x.1 y.2.1) (R.mul x.2.1 y.1)) (R.mul z (R.mul x.2.2 y.2.2)),R.add (R.add (R.mul x.1 y.2.2) (R.mul x.2.1 y.2.1)) (R.mul x.2.2 y.1))
def cadd(x y:α×α×α):α×α×α:=(R.add x.1 y.1,R.add x.2.1 y.2.1,R.add x.2.2 y.2.2)
def cneg(x:α×α×α):α×α×α:=(R.neg x.1,R.neg x.2.1,R.neg x.2.2)
def Rg.cub:Rg (α×α×α) where
 zero:=(R.zero,R.zero,R.zero)
 one:=(R.one,R.zero,R.zero)
 add:=cadd R
 mul:=FH R z
 neg:=cneg R
 add_assoc:=fun x y w=>Prod.ext (zx R [x.1,x.2.1,x.2.2,y.1,y.2.1,y.2.2,w.1,w.2.1,w.2.2,z] 0x4469c 0x4649c) (Prod.ext (zx R [x.1,x.2.1,x.2.2,y.1,y.2.1,y.2.2,w.1,w.2.1,w.2.2,z] 0x447ad 0x474ad) (zx R [x.1,x.2.1,x.2.2,y.1,y.2.1,y.2.2,w.1,w.2.1,w.2.2,z] 0x448be 0x484be))
 add_comm:=fun x y=>Prod.ext (zx R [x.1,x.2.1,x.2.2,y.1,y.2.1,y.2.2,z] 0x469 0x496) (Prod.ext (zx R [x.1,x.2.1,x.2.2,y.1,y.2.1,y.2.2,z] 0x47a 0x4a7) (zx R [x.1,x.2.1,x.2.2,y.1,y.2.1,y.2.2,z] 0x48b 0x4b8))
 add_zero:=fun x=>Prod.ext (zx R [x.1,x.2.1,x.2.2,z] 0x461 0x6) (Prod.ext (zx R [x.1,x.2.1,x.2.2,z] 0x471 0x7) (zx R [x.1,x.2.1,x.2.2,z] 0x481 0x8))
 add_neg:=fun x=>Prod.ext (zx R [x.1,x.2.1,x.2.2,z] 0x4636 0x1) (Prod.ext (zx R [x.1,x.2.1,x.2.2,z] 0x4737 0x1) (zx R [x.1,x.2.1,x.2.2,z] 0x4838 0x1))
 mul_assoc:=fun x y w=>Prod.ext (zx R [x.1,x.2.1,x.2.2,y.1,y.2.1,y.2.2,w.1,w.2.1,w.2.2,z] 0x4545695f457b58ac5f454456a5795f58be54456b57a589d 0x456459c5f45ae5bd5f4574459e5ad5bc584459d5ac5f5be) (Prod.ext (zx R [x.1,x.2.1,x.2.2,y.1,y.2.1,y.2.2,w.1,w.2.1,w.2.2,z] 0x44545695f457b58ad54456a5795f58bc5f54456b57a589e 0x44564459d5ac5f5be57459c5f45ae5bd5f584459e5ad5bc) (zx R [x.1,x.2.1,x.2.2,y.1,y.2.1,y.2.2,w.1,w.2.1,w.2.2,z] 0x44545695f457b58ae54456a5795f58bd54456b57a589c 0x44564459e5ad5bc574459d5ac5f5be58459c5f45ae5bd))
 mul_comm:=fun x y=>Prod.ext (zx R [x.1,x.2.1,x.2.2,y.1,y.2.1,y.2.2,z] 0x45695c457b58a 0x45965c45a85b7) (Prod.ext (zx R [x.1,x.2.1,x.2.2,y.1,y.2.1,y.2.2,z] 0x4456a5795c58b 0x445975a65c5b8) (zx R [x.1,x.2.1,x.2.2,y.1,y.2.1,y.2.2,z] 0x4456b57a589 0x445985a75b6))
 mul_one:=fun x=>Prod.ext (zx R [x.1,x.2.1,x.2.2,z] 0x4562594571581 0x6) (Prod.ext (zx R [x.1,x.2.1,x.2.2,z] 0x4456157259581 0x7) (zx R [x.1,x.2.1,x.2.2,z] 0x44561571582 0x8))
 mul_add:=fun x y w=>Prod.ext (zx R [x.1,x.2.1,x.2.2,y.1,y.2.1,y.2.2,w.1,w.2.1,w.2.2,z] 0x45649c5f4574be584ad 0x445695f457b58a456c5f457e58d) (Prod.ext (zx R [x.1,x.2.1,x.2.2,y.1,y.2.1,y.2.2,w.1,w.2.1,w.2.2,z] 0x44564ad5749c5f584be 0x44456a5795f58b4456d57c5f58e) (zx R [x.1,x.2.1,x.2.2,y.1,y.2.1,y.2.2,w.1,w.2.1,w.2.2,z] 0x44564be574ad5849c 0x44456b57a5894456e57d58c))
def qnm(x:α×α):α:=R.add (R.mul x.1 x.1) (R.neg (R.mul z (R.mul x.2 x.2)))
def mI(x:α×α×α):α×α×α:=(R.add (R.mul x.1 x.1) (R.neg (R.mul z (R.mul x.2.1 x.2.2))),R.add (R.mul z (R.mul x.2.2 x.2.2)) (R.neg (R.mul x.1 x.2.1)),R.add (R.mul x.2.1 x.2.1) (R.neg (R.mul x.1 x.2.2)))
def cnm(x:α×α×α):α:=R.add (R.mul x.1 (mI R z x).1) (R.mul z (R.add (R.mul x.2.2 (mI R z x).2.1) (R.mul x.2.1 (mI R z x).2.2)))
theorem QD(x:α×α):vM R z x (x.1,R.neg x.2)=(qnm R z x,R.zero):=Prod.ext (zx R [x.1,x.2,z] 0x4566585737 0x4566358577) (zx R [x.1,x.2,z] 0x45637576 0x1)
theorem Hy(x y:α×α×α):cnm R z (FH R z x y)=R.mul (cnm R z x) (cnm R z y):=zx R [x.1,x.2.1,x.2.2,y.1,y.2.1,y.2.2,z] 0x4545695c457b58a4545695c457b58a45695c457b58a35c54456a5795c58b4456b57a5895c454456b57a58945c54456b57a5894456b57a5893545695c457b58a4456a5795c58b54456a5795c58b454456a5795c58b4456a5795c58b3545695c457b58a4456b57a589 0x5456456635c5785c45845c58835675745773568459459935c5ab5c45b45c5bb359a5a45aa359b
end
end
section
section
variable {α:Type} {R:Rg α} {z:α}
def Fd(R:Rg α):Prop:= ∀a,a≠R.zero→∃b,R.mul a b=R.one
theorem Fd.two(hf:Fd R){a b:α}(h:R.mul a b=R.zero):a=R.zero∨b=R.zero:=by
 by_cases ha:a=R.zero
 ·exact .inl ha
 ·obtain ⟨c,hc⟩:=hf a ha
  refine .inr ?_
  have e:R.mul (R.mul a c) b=R.mul c (R.mul a b):=by rw[R.mul_comm a c,R.mul_assoc]
  rw[hc,h,R.one_mul,R.mul_zero]at e
  exact e
theorem Fd.sq(hf:Fd R){a:α}(h:R.mul a a=R.zero):a=R.zero:=(hf.two h).elim id id
theorem Fd.cube(hf:Fd R){a:α}(h:R.mul a (R.mul a a)=R.zero):a=R.zero:=(hf.two h).elim id hf.sq
theorem Dd{a b:α}(h:R.add a b=R.zero):R.neg a=b:=(R.neg_of h).symm
theorem xH{s r g:α}(h:R.add (R.mul s (R.mul s s)) (R.mul z (R.mul r (R.mul r r)))=R.zero)(hg:R.mul r g=R.one):R.mul (R.neg (R.mul s g)) (R.mul (R.neg (R.mul s g)) (R.neg (R.mul s g)))=z:=by
 have e1:R.mul (R.neg (R.mul s g)) (R.mul (R.neg (R.mul s g)) (R.neg (R.mul s g)))=R.mul (R.neg (R.mul s (R.mul s s))) (R.mul g (R.mul g g)):=zx R [s,r,g,z] 0x53568535683568 0x535656658588
 have e2:R.mul (R.mul z (R.mul r (R.mul r r))) (R.mul g (R.mul g g))=R.mul z (R.mul (R.mul r g) (R.mul (R.mul r g) (R.mul r g))):=zx R [s,r,g,z] 0x5595757758588 0x5955785578578
 rw[e1,Dd h,e2,hg,R.mul_one,R.mul_one,R.mul_one]
theorem Rl{s r g:α}(h:R.mul s s=R.mul z (R.mul r r))(hg:R.mul r g=R.one):R.mul (R.mul s g) (R.mul s g)=z:=by
 have e1:R.mul (R.mul s g) (R.mul s g)=R.mul (R.mul s s) (R.mul g g):=zx R [s,r,g,z] 0x5568568 0x5566588
 have e2:R.mul (R.mul z (R.mul r r)) (R.mul g g)=R.mul z (R.mul (R.mul r g) (R.mul r g)):=zx R [s,r,g,z] 0x559577588 0x595578578
 rw[e1,h,e2,hg,R.mul_one,R.mul_one]
theorem O0(x:α×α×α):R.add (R.mul (R.add (R.mul x.1 x.2.1) (R.neg (R.mul z (R.mul x.2.2 x.2.2)))) (R.mul (R.add (R.mul x.1 x.2.1) (R.neg (R.mul z (R.mul x.2.2 x.2.2)))) (R.add (R.mul x.1 x.2.1) (R.neg (R.mul z (R.mul x.2.2 x.2.2)))))) (R.mul z (R.mul (R.add (R.mul x.2.1 x.2.1) (R.neg (R.mul x.1 x.2.2))) (R.mul (R.add (R.mul x.2.1 x.2.1) (R.neg (R.mul x.1 x.2.2))) (R.add (R.mul x.2.1 x.2.1) (R.neg (R.mul x.1 x.2.2))))))=R.mul (R.add (R.mul x.2.2 (R.add (R.mul x.1 x.2.1) (R.neg (R.mul z (R.mul x.2.2 x.2.2))))) (R.mul x.2.1 (R.add (R.mul x.2.1 x.2.1) (R.neg (R.mul x.1 x.2.2))))) (cnm R z x):=zx R [x.1,x.2.1,x.2.2,z] 0x4545673595885456735958845673595885954577356854577356845773568 0x54584567359588574577356845645663595785945845958835675745773568
theorem ut(hf:Fd R)(hz: ∀a,R.mul a (R.mul a a)≠z){x:α×α×α}(h:cnm R z x=R.zero):x=(R.zero,R.zero,R.zero):=by
 have hid:=O0 (R:=R) (z:=z) x
 rw[h,R.mul_zero]at hid
 by_cases hr:(R.add (R.mul x.2.1 x.2.1) (R.neg (R.mul x.1 x.2.2)))=R.zero
 ·have hs:(R.add (R.mul x.1 x.2.1) (R.neg (R.mul z (R.mul x.2.2 x.2.2))))=R.zero:=by
   rw[hr,R.mul_zero,R.mul_zero,R.mul_zero,R.add_zero]at hid
   exact hf.cube hid
  have t2:R.mul x.2.1 x.2.1=R.mul x.1 x.2.2:=by
   have:=R.neg_of hr
   rw[←R.neg_neg (R.mul x.1 x.2.2),this,R.neg_neg]
  have t1:R.mul x.1 x.2.1=R.mul z (R.mul x.2.2 x.2.2):=by
   have:=R.neg_of hs
   rw[←R.neg_neg (R.mul z (R.mul x.2.2 x.2.2)),this,R.neg_neg]
  by_cases h2:x.2.2=R.zero
  ·rw[h2,R.mul_zero]at t2
   have h1:=hf.sq t2
   have h0:R.mul x.1 (R.mul x.1 x.1)=R.zero:=by
    have e:cnm R z x=R.mul x.1 (R.mul x.1 x.1):=by
     rw[cnm,mI]
     simp only[h1,h2,R.mul_zero,R.neg_zero,R.add_zero]
    rw[←e,h]
   exact Prod.ext (hf.cube h0) (Prod.ext h1 h2)
  ·obtain ⟨g,hg⟩:=hf _ h2
   refine absurd (xH (s:=R.neg x.2.1) (r:=x.2.2) (g:=g) (z:=z) ?_ hg) (hz _)
   have e:R.mul (R.neg x.2.1) (R.mul (R.neg x.2.1) (R.neg x.2.1))=R.neg (R.mul x.2.1 (R.mul x.2.1 x.2.1)):=zx R [x.1,x.2.1,x.2.2,z] 0x53753737 0x357577
   have e2:R.mul x.2.1 (R.mul x.1 x.2.2)=R.mul (R.mul x.1 x.2.1) x.2.2:=zx R [x.1,x.2.1,x.2.2,z] 0x57568 0x55678
   have e3:R.mul (R.mul z (R.mul x.2.2 x.2.2)) x.2.2=R.mul z (R.mul x.2.2 (R.mul x.2.2 x.2.2)):=zx R [x.1,x.2.1,x.2.2,z] 0x5595888 0x5958588
   rw[e,t2,e2,t1,e3,R.add_comm,R.add_neg]
 ·obtain ⟨g,hg⟩:=hf _ hr
  exact absurd (xH hid hg) (hz _)
theorem qN(hf:Fd R)(hz: ∀a,R.mul a a≠z){x:α×α}(h:qnm R z x=R.zero):x=(R.zero,R.zero):=by
 have e:R.mul x.1 x.1=R.mul z (R.mul x.2 x.2):=by
  have:=R.neg_of h
  rw[←R.neg_neg (R.mul z (R.mul x.2 x.2)),this,R.neg_neg]
 by_cases h2:x.2=R.zero
 ·rw[h2,R.mul_zero,R.mul_zero]at e
  exact Prod.ext (hf.sq e) h2
 ·obtain ⟨g,hg⟩:=hf _ h2
  exact absurd (Rl e hg) (hz _)
theorem yu{n:α}(x:α×α×α)(hn:R.mul (cnm R z x) n=R.one):FH R z x (R.mul (mI R z x).1 n,R.mul (mI R z x).2.1 n,R.mul (mI R z x).2.2 n)=(R.one,R.zero,R.zero):=by
 have e:FH R z x (R.mul (mI R z x).1 n,R.mul (mI R z x).2.1 n,R.mul (mI R z x).2.2 n)=(R.mul (cnm R z x) n,R.zero,R.zero):=Prod.ext (zx R [x.1,x.2.1,x.2.2,z,n] 0x45654566359578a59457545773568a5854595883567a 0x545645663595785945845958835675745773568a) (Prod.ext (zx R [x.1,x.2.1,x.2.2,z,n] 0x445654595883567a5754566359578a5958545773568a 0x1) (zx R [x.1,x.2.1,x.2.2,z,n] 0x4456545773568a5754595883567a5854566359578a 0x1))
 rw[e,hn]
theorem CP{n:α}(x:α×α)(hn:R.mul (qnm R z x) n=R.one):vM R z x (R.mul x.1 n,R.mul (R.neg x.2) n)=(R.one,R.zero):=by
 have e:vM R z x (R.mul x.1 n,R.mul (R.neg x.2) n)=(R.mul (qnm R z x) n,R.zero):=Prod.ext (zx R [x.1,x.2,z,n] 0x45656958575379 0x545663585779) (zx R [x.1,x.2,z,n] 0x456537957569 0x1)
 rw[e,hn]
theorem Nt(hf:Fd R)(hz: ∀a,R.mul a (R.mul a a)≠z):Fd (Rg.cub R z):=fun x hx=>by
 obtain ⟨n,hn⟩:=hf (cnm R z x) (fun h=>hx (ut hf hz h))
 exact ⟨_,yu x hn⟩
theorem Iw(hf:Fd R)(hz: ∀a,R.mul a a≠z):Fd (Rg.quad R z):=fun x hx=>by
 obtain ⟨n,hn⟩:=hf (qnm R z x) (fun h=>hx (qN hf hz h))
 exact ⟨_,CP x hn⟩
theorem GF(n:Nat):(Rg.cub R z).nat n=(R.nat n,R.zero,R.zero):=by
 induction n with
 |zero=>rfl
 |succ n ih=>
  show (Rg.cub R z).add ((Rg.cub R z).nat n) (Rg.cub R z).one=_
  rw[ih]
  exact Prod.ext rfl (Prod.ext (R.add_zero _) (R.add_zero _))
theorem BZ(n:Nat):(Rg.quad R z).nat n=(R.nat n,R.zero):=by
 induction n with
 |zero=>rfl
 |succ n ih=>
  show (Rg.quad R z).add ((Rg.quad R z).nat n) (Rg.quad R z).one=_
  rw[ih]
  exact Prod.ext rfl (R.add_zero _)
end
end
section
section
variable {α:Type} {R:Rg α}
theorem Rg.lc{a b x y:α}(h:R.add a x=R.add b y)(e:x=y):a=b:=by
 rw[e,R.add_comm a,R.add_comm b]at h
 exact R.cancel h
theorem lcm{c p q:α}(h:p=q):R.mul c q=R.mul c p:=by rw[h]
theorem lca{a b c d:α}(h:a=b)(k:c=d):R.add a c=R.add b d:=by rw[h,k]
theorem zk(R:Rg α)(l:List α){a b p q:α}(m n c u v:Nat)(e:p=q)(ha:zrg R l m=a:=by kernel_rfl)(hb:zrg R l n=b:=by kernel_rfl)(hu:zrg R l u=q:=by kernel_rfl)(hv:zrg R l v=p:=by kernel_rfl)(h:peq (gg (zp' m) (jp (zp' c) (zp' u))) (gg (zp' n) (jp (zp' c) (zp' v)))=true:=by kernel_rfl):a=b:=by
 rw[←ha,←hb]
 refine Rg.lc (R:=R) (x:=R.mul (zrg R l c) (zrg R l u)) (y:=R.mul (zrg R l c) (zrg R l v)) ?_ (by rw[hu,hv,e])
 rw[←qh,←qh,←qh,←qh,←qh,←R.d_mul,←R.d_mul,←R.d_add,←R.d_add,rK h]
theorem zl(R:Rg α)(l:List α){a b:α}(m x n y:Nat)(e:zrg R l x=zrg R l y)(ha:zrg R l m=a:=by kernel_rfl)(hb:zrg R l n=b:=by kernel_rfl)(h:peq (gg (zp' m) (zp' x)) (gg (zp' n) (zp' y))=true:=by kernel_rfl):a=b:=by
 rw[←ha,←hb]
 refine Rg.lc (R:=R) (x:=zrg R l x) (y:=zrg R l y) ?_ e
 rw[←qh,←qh,←qh,←qh,←R.d_add,←R.d_add,rK h]
end
structure Ec(α:Type) where
 R:Rg α
 iv:α→α
 b:α
 hi: ∀a,a≠R.zero→R.mul a (iv a)=R.one
 h2:R.add R.one R.one≠R.zero
 h3:R.add (R.add R.one R.one) R.one≠R.zero
 hb:b≠R.zero
section
variable {α:Type} (C:Ec α)
theorem Ec.fd:Fd C.R:=fun a h=>⟨C.iv a,C.hi a h⟩
def Ec.sub(a b:α):α:=C.R.add a (C.R.neg b)
theorem Ec.sub0{a b:α}(h:C.sub a b=C.R.zero):a=b:=by
 have:=C.R.neg_of h
 rw[←C.R.neg_neg b,this,C.R.neg_neg]
theorem Ec.sub_self(a:α):C.sub a a=C.R.zero:=C.R.add_neg a
def Ec.on(p:α×α):Prop:=C.R.mul p.2 p.2=C.R.add (C.R.mul p.1 (C.R.mul p.1 p.1)) C.b
def Ec.Sl(p q:α×α)(s:α):Prop:=C.R.mul s (C.sub p.1 q.1)=C.sub p.2 q.2∧C.R.mul s (C.R.add p.2 q.2)=C.R.add (C.R.add (C.R.mul p.1 p.1) (C.R.mul p.1 q.1)) (C.R.mul q.1 q.1)
def Ec.opp(p q:α×α):Prop:=p.1=q.1∧C.R.add p.2 q.2=C.R.zero
def Ec.x3(p q:α×α)(s:α):α:=C.sub (C.sub (C.R.mul s s) p.1) q.1
def Ec.th(p q:α×α)(s:α):α×α:=(C.x3 p q s,C.sub (C.R.mul s (C.sub p.1 (C.x3 p q s))) p.2)
def Ec.ng(p:α×α):α×α:=(p.1,C.R.neg p.2)
theorem Ec.sl_comm{p q:α×α}{s:α}(h:C.Sl p q s):C.Sl q p s:=
 ⟨zk C.R [p.1,p.2,q.1,q.2,s,C.b] 0x5a4836 0x4937 0x32 0x4739 0x5a4638 h.1,zk C.R [p.1,p.2,q.1,q.2,s,C.b] 0x5a497 0x44588586566 0x2 0x44566568588 0x5a479 h.2⟩
theorem Ec.th_comm{p q:α×α}{s:α}(h:C.Sl p q s):C.th p q s=C.th q p s:=by
 have e:C.x3 p q s=C.x3 q p s:=zx C.R [p.1,p.2,q.1,q.2,s,C.b] 0x445aa3638 0x445aa3836
 refine Prod.ext e ?_
 show C.sub (C.R.mul s (C.sub p.1 (C.x3 p q s))) p.2=C.sub (C.R.mul s (C.sub q.1 (C.x3 q p s))) q.2
 rw[←e]
 generalize C.x3 p q s=t
 exact zk C.R [p.1,p.2,q.1,q.2,s,t] 0x45a463b37 0x45a483b39 0x2 0x4739 0x5a4638 h.1
theorem Ec.th_on{p q:α×α}{s:α}(hq:C.on q)(h:C.Sl p q s):C.on (C.th p q s):=
 zl C.R [p.1,p.2,q.1,q.2,s,C.b] 0x545a463445aa36383745a463445aa363837 0x4452458588b54445aa3638384456656858854454445aa363838a34495a4445aa363838495a4445aa36383845a4638347394739 0x45445aa36385445aa3638445aa3638b 0x445259954445aa3638385a47954454445aa363838a34495a4445aa363838495a4445aa36383845a4638347395a4638 (lca (lca (lcm hq) (lcm h.2)) (lcm h.1))
theorem Ec.sl_th{p q:α×α}{s:α}(h:C.Sl p q s):C.Sl q (C.ng (C.th p q s)) s:=
 ⟨zk C.R [p.1,p.2,q.1,q.2,s,C.b] 0x5a483445aa3638 0x493345a463445aa363837 0x32 0x4739 0x5a4638 h.1,zk C.R [p.1,p.2,q.1,q.2,s,C.b] 0x5a49345a463445aa363837 0x4458858445aa36385445aa3638445aa3638 0x2 0x44566568588 0x5a479 h.2⟩
theorem Ec.sl_ng{p q:α×α}{s:α}(h:C.Sl p q s):C.Sl (C.ng p) (C.ng q) (C.R.neg s):=
 ⟨zk C.R [p.1,p.2,q.1,q.2,s,C.b] 0x53a4638 0x437339 0x32 0x4739 0x5a4638 h.1,zk C.R [p.1,p.2,q.1,q.2,s,C.b] 0x53a43739 0x44566568588 0x2 0x44566568588 0x5a479 h.2⟩
theorem Ec.ng_ng(p:α×α):C.ng (C.ng p)=p:=Prod.ext rfl (C.R.neg_neg p.2)
theorem Ec.ng_on{p:α×α}(h:C.on p):C.on (C.ng p):=
 zk C.R [p.1,p.2,p.1,p.2,p.1,C.b] 0x53737 0x456566b 0x2 0x456566b 0x577 h
theorem Ec.th_ng(p q:α×α)(s:α):C.th (C.ng p) (C.ng q) (C.R.neg s)=C.ng (C.th p q s):=
 Prod.ext (zx C.R [p.1,p.2,q.1,q.2,s,C.b] 0x4453a3a3638 0x445aa3638) (zx C.R [p.1,p.2,q.1,q.2,s,C.b] 0x453a4634453a3a3638337 0x345a463445aa363837)
theorem Ec.sl_one{p q:α×α}{s t:α}(h:C.Sl p q s)(k:C.Sl p q t)(ho: ¬C.opp p q):s=t:=by
 have e1:C.R.mul (C.sub s t) (C.sub p.1 q.1)=C.R.zero:=zl C.R [p.1,p.2,q.1,q.2,s,t] 0x54a3b4638 0x45247395324739 0x1 0x4525a46385325b4638 (lca (lcm h.1) (lcm k.1))
 have e2:C.R.mul (C.sub s t) (C.R.add p.2 q.2)=C.R.zero:=zl C.R [p.1,p.2,q.1,q.2,s,t] 0x54a3b479 0x4524456656858853244566568588 0x1 0x4525a4795325b479 (lca (lcm h.2) (lcm k.2))
 rcases C.fd.two e1 with h0|h0
 ·exact C.sub0 h0
 ·rcases C.fd.two e2 with h0'|h0'
  ·exact C.sub0 h0'
  ·exact absurd ⟨C.sub0 h0,h0'⟩ ho
theorem Ec.sl_is{p q:α×α}(hp:C.on p)(hq:C.on q)(ho: ¬C.opp p q): ∃s,C.Sl p q s:=by
 by_cases hx:p.1=q.1
 ·have hy:C.R.add p.2 q.2≠C.R.zero:=fun e=>ho ⟨hx,e⟩
  have e:C.R.mul (C.sub p.2 q.2) (C.R.add p.2 q.2)=C.R.zero:=by
   have e1:C.R.mul (C.sub p.2 q.2) (C.R.add p.2 q.2)=C.sub (C.R.mul p.2 p.2) (C.R.mul q.2 q.2):=zx C.R [p.1,p.2,q.1,q.2] 0x54739479 0x45773599
   rw[e1,show C.R.mul p.2 p.2=_ from hp,show C.R.mul q.2 q.2=_ from hq,hx,C.sub_self]
  have hy2:p.2=q.2:=C.sub0 ((C.fd.two e).resolve_right hy)
  have hi:=C.hi _ hy
  refine ⟨C.R.mul (C.R.add (C.R.add (C.R.mul p.1 p.1) (C.R.mul p.1 q.1)) (C.R.mul q.1 q.1)) (C.iv (C.R.add p.2 q.2)), ?_, ?_⟩
  ·rw[hx,hy2,C.sub_self,C.sub_self,C.R.mul_zero]
  ·rw[C.R.mul_assoc,C.R.mul_comm (C.iv _),hi,C.R.mul_one]
 ·have hd:C.sub p.1 q.1≠C.R.zero:=fun e=>hx (C.sub0 e)
  have hi:=C.hi _ hd
  have e1:C.R.mul (C.R.mul (C.sub p.2 q.2) (C.iv (C.sub p.1 q.1))) (C.sub p.1 q.1)=C.sub p.2 q.2:=by rw[C.R.mul_assoc,C.R.mul_comm (C.iv _),hi,C.R.mul_one]
  refine ⟨C.R.mul (C.sub p.2 q.2) (C.iv (C.sub p.1 q.1)),e1, ?_⟩
  have e2:C.R.mul (C.sub p.1 q.1) (C.sub (C.R.mul (C.R.mul (C.sub p.2 q.2) (C.iv (C.sub p.1 q.1))) (C.R.add p.2 q.2)) (C.R.add (C.R.add (C.R.mul p.1 p.1) (C.R.mul p.1 q.1)) (C.R.mul q.1 q.1)))=C.R.zero:=
   zl C.R [p.1,p.2,q.1,q.2,C.iv (C.sub p.1 q.1),C.b] 0x546384554739a479344566568588 0x44554739479252456566b532458588b 0x1 0x4455473947954638a52577532599 (lca (lca (lcm hi) (lcm hp)) (lcm hq))
  exact C.sub0 ((C.fd.two e2).resolve_left hd)
theorem Ec.assoc_g{A B D:α×α}{a c g:α}(ha:C.Sl A B a)(hc:C.Sl D B c)(hg:C.Sl (C.th A B a) D g)(ho: ¬C.opp (C.th A B a) D):C.sub (C.R.mul (C.sub a c) g) (C.sub (C.sub (C.sub (C.R.mul a c) B.1) D.1) (C.x3 A B a))=C.R.zero:=by
 have e1:C.R.mul (C.sub (C.th A B a).1 D.1) (C.sub (C.R.mul (C.sub a c) g) (C.sub (C.sub (C.sub (C.R.mul a c) B.1) D.1) (C.x3 A B a)))=C.R.zero:=zl C.R [A.1,A.2,B.1,B.2,D.1,D.2,a,c,g] 0x54445cc36383a454c3de34445cd383a3445cc3638 0x444454c3d445c463445cc3638373b53d47395c4b395324456656858852445aa5a8588 0x1 0x444454c3d5e4445cc36383a53d5c46385c5d4a385325c479525d4b9 (lca (lca (lca (lca (lcm hg.1) (lcm ha.1)) (lcm hc.1)) (lcm ha.2)) (lcm hc.2))
 have e2:C.R.mul (C.R.add (C.th A B a).2 D.2) (C.sub (C.R.mul (C.sub a c) g) (C.sub (C.sub (C.sub (C.R.mul a c) B.1) D.1) (C.x3 A B a)))=C.R.zero:=zl C.R [A.1,A.2,B.1,B.2,D.1,D.2,a,c,g] 0x5445c463445cc363837b454c3de34445cd383a3445cc3638 0x444454c3d445445cc3638445cc36385445cc3638a5aa53c445aa5a85885d445665685885448a445cc3638473953448a445cc36384b39 0x1 0x444454c3d5e445c463445cc363837b53c5d4b95d5c4795448a445cc36385c463853448a445cc36385d4a38 (lca (lca (lca (lca (lcm hg.2) (lcm hc.2)) (lcm ha.2)) (lcm ha.1)) (lcm hc.1))
 rcases C.fd.two e1 with h|h
 ·rcases C.fd.two e2 with h'|h'
  ·exact absurd ⟨C.sub0 h,h'⟩ ho
  ·exact h'
 ·exact h
theorem Ec.assoc_t{A B D:α×α}{a c g t:α}(hn:a≠c)(h1:C.sub (C.R.mul (C.sub a c) g) (C.sub (C.sub (C.sub (C.R.mul a c) B.1) D.1) (C.x3 A B a))=C.R.zero)(h2:C.sub (C.R.mul (C.sub c a) t) (C.sub (C.sub (C.sub (C.R.mul c a) B.1) A.1) (C.x3 D B c))=C.R.zero):t=C.sub (C.R.add g a) c:=by
 have e:C.R.mul (C.sub a c) (C.sub t (C.sub (C.R.add g a) c))=C.R.zero:=zl C.R [A.1,A.2,B.1,B.2,D.1,D.2,a,c,g,t] 0x54c3d4f344ec3d 0x453215321 0x1 0x4532454c3de34445cd383a3445cc3638532454d3cf34445dc38363445dd3a38 (lca (lcm h1) (lcm h2))
 exact C.sub0 ((C.fd.two e).resolve_left (fun h=>hn (C.sub0 h)))
theorem Ec.assoc_x{A B D:α×α}{a c g:α}(h1:C.sub (C.R.mul (C.sub a c) g) (C.sub (C.sub (C.sub (C.R.mul a c) B.1) D.1) (C.x3 A B a))=C.R.zero):C.x3 (C.th A B a) D g=C.x3 A (C.th D B c) (C.sub (C.R.add g a) c):=
 zk C.R [A.1,A.2,B.1,B.2,D.1,D.2,a,c,g] 0x445ee3445cc36383a 0x44544ec3d44ec3d363445dd3a38 0x43232 0x1 0x454c3de34445cd383a3445cc3638 h1
theorem Ec.assoc_y{A B D:α×α}{a c g:α}(ha:C.Sl A B a)(hc:C.Sl D B c)(hg:C.Sl (C.th A B a) D g)(h1:C.sub (C.R.mul (C.sub a c) g) (C.sub (C.sub (C.sub (C.R.mul a c) B.1) D.1) (C.x3 A B a))=C.R.zero):
 C.sub (C.R.mul g (C.sub (C.th A B a).1 (C.x3 (C.th A B a) D g))) (C.th A B a).2=C.sub (C.R.mul (C.sub (C.R.add g a) c) (C.sub A.1 (C.x3 (C.th A B a) D g))) A.2:=
 zl C.R [A.1,A.2,B.1,B.2,D.1,D.2,a,c,g] 0x45e4445cc36383445ee3445cc36383a345c463445cc363837 0x44454e3c152445c463445cc3638373b5324739524b39 0x4544ec3d463445ee3445cc36383a37 0x44454e3c454c3de34445cd383a3445cc3638525e4445cc36383a5325c4638525d4a38 (lca (lca (lca (lcm h1) (lcm hg.1)) (lcm ha.1)) (lcm hc.1))
theorem Ec.assoc_gen{A B D:α×α}{a c g t:α}(ha:C.Sl A B a)(hc:C.Sl D B c)(hg:C.Sl (C.th A B a) D g)(ht:C.Sl (C.th D B c) A t)(ho: ¬C.opp (C.th A B a) D)(ho': ¬C.opp (C.th D B c) A)(hn:a≠c):
 C.th (C.th A B a) D g=C.th (C.th D B c) A t:=by
 have h1:=C.assoc_g ha hc hg ho
 have h2:=C.assoc_g hc ha ht ho'
 have et:=C.assoc_t hn h1 h2
 rw[C.th_comm ht,et]
 refine Prod.ext (C.assoc_x h1) ?_
 show C.sub (C.R.mul g (C.sub (C.th A B a).1 (C.x3 (C.th A B a) D g))) (C.th A B a).2=C.sub (C.R.mul (C.sub (C.R.add g a) c) (C.sub A.1 (C.x3 A (C.th D B c) (C.sub (C.R.add g a) c)))) A.2
 rw[←C.assoc_x h1]
 exact C.assoc_y ha hc hg h1
theorem Ec.line_three{A B D:α×α}{a:α}(ha:C.Sl A B a)(hc:C.Sl D B a):D=A∨C.opp (C.th A B a) D:=by
 have e:C.R.mul (C.sub D.1 A.1) (C.sub D.1 (C.x3 A B a))=C.R.zero:=zl C.R [A.1,A.2,B.1,B.2,D.1,D.2,a] 0x54a364a3445cc3638 0x444532445aa5a858853c4b3952445665685885c4739 0x1 0x4445325c4b953c5c4a38525c4795c5c4638 (lca (lca (lca (lcm hc.2) (lcm hc.1)) (lcm ha.2)) (lcm ha.1))
 have ey:C.sub D.2 A.2=C.R.mul a (C.sub D.1 A.1):=zl C.R [A.1,A.2,B.1,B.2,D.1,D.2,a] 0x4b37 0x45324b39524739 0x5c4a36 0x45325c4a38525c4638 (lca (lcm hc.1) (lcm ha.1))
 rcases C.fd.two e with h|h
 ·left
  rw[h,C.R.mul_zero]at ey
  exact Prod.ext (C.sub0 h) (C.sub0 ey)
 ·right
  have hx:=C.sub0 h
  refine ⟨hx.symm, ?_⟩
  have es:C.R.add (C.th A B a).2 D.2=C.R.mul a (C.sub D.1 (C.x3 A B a)):=zl C.R [A.1,A.2,B.1,B.2,D.1,D.2,a] 0x445c463445cc363837b 0x45324b39524739 0x5c4a3445cc3638 0x45325c4a38525c4638 (lca (lcm hc.1) (lcm ha.1))
  rw[es,h,C.R.mul_zero]
end
end
section
abbrev Pt(α:Type):=Option (α×α)
section
variable {α:Type} (C:Ec α)
def Ec.ne:Pt α→Pt α
 |none=>none
 |some p=>some (C.ng p)
def Ec.onP:Pt α→Prop
 |none=>True
 |some p=>C.on p
theorem Ec.opp_comm{p q:α×α}(h:C.opp p q):C.opp q p:=⟨h.1.symm,by rw[C.R.add_comm];exact h.2⟩
theorem Ec.opp_ng(p:α×α):C.opp p (C.ng p):=⟨rfl,C.R.add_neg _⟩
theorem Ec.opp_eq{p q:α×α}(h:C.opp p q):q=C.ng p:=Prod.ext h.1.symm (C.R.neg_of h.2)
theorem Ec.ne_on{P:Pt α}(hP:C.onP P):C.onP (C.ne P):=by
 cases P with
 |none=>trivial
 |some p=>exact C.ng_on hP
theorem Ec.ne_ne(P:Pt α):C.ne (C.ne P)=P:=by
 cases P with
 |none=>rfl
 |some p=>exact congrArg some (C.ng_ng p)
theorem Ec.no_fix{p:α×α}{s:α}(hp:C.on p)(h:C.Sl p (C.ng p) s):False:=by
 have e1:C.R.mul (C.R.add C.R.one C.R.one) p.2=C.R.zero:=zk C.R [p.1,p.2,s] 0x54227 0x1 0x32 0x47337 0x584636 h.1
 have e2:C.R.mul (C.R.add (C.R.add C.R.one C.R.one) C.R.one) (C.R.mul p.1 p.1)=C.R.zero:=zk C.R [p.1,p.2,s] 0x544222566 0x1 0x32 0x44566566566 0x584737 h.2
 have hy:=(C.fd.two e1).resolve_left C.h2
 have hx:=C.fd.sq ((C.fd.two e2).resolve_left C.h3)
 have:=hp
 unfold Ec.on at this
 rw[hy,hx,C.R.mul_zero,C.R.mul_zero,C.R.zero_add]at this
 exact C.hb this.symm
theorem Ec.undo_x(p q:α×α)(s:α):C.x3 (C.ng p) (C.th p q s) (C.R.neg s)=q.1:=zx C.R [p.1,p.2,q.1,q.2,s] 0x4453a3a363445aa3638 0x8
theorem Ec.undo_y{p q:α×α}{s:α}(h:C.Sl p q s):C.sub (C.R.mul (C.R.neg s) (C.sub p.1 q.1)) (C.R.neg p.2)=q.2:=zk C.R [p.1,p.2,q.1,q.2,s] 0x453a4638337 0x9 0x32 0x4739 0x5a4638 h.1
end
section
variable {α:Type} [DecidableEq α] (C:Ec α)
def Ec.slope(p q:α×α):α:=if p.1=q.1 then C.R.mul (C.R.add (C.R.add (C.R.mul p.1 p.1) (C.R.mul p.1 q.1)) (C.R.mul q.1 q.1)) (C.iv (C.R.add p.2 q.2))else C.R.mul (C.sub p.2 q.2) (C.iv (C.sub p.1 q.1))
def Ec.ad:Pt α→Pt α→Pt α
 |none,Q=>Q
 |some p,none=>some p
 |some p,some q=>if p.1=q.1∧C.R.add p.2 q.2=C.R.zero then none else some (C.th p q (C.slope p q))
theorem Ec.sl_slope{p q:α×α}(hp:C.on p)(hq:C.on q)(ho: ¬C.opp p q):C.Sl p q (C.slope p q):=by
 obtain ⟨s,hs⟩:=C.sl_is hp hq ho
 have e:C.slope p q=s:=by
  unfold Ec.slope
  by_cases hx:p.1=q.1
  ·rw[if_pos hx]
   have hy:C.R.add p.2 q.2≠C.R.zero:=fun e=>ho ⟨hx,e⟩
   rw[←hs.2,C.R.mul_assoc,C.hi _ hy,C.R.mul_one]
  ·rw[if_neg hx]
   have hd:C.sub p.1 q.1≠C.R.zero:=fun e=>hx (C.sub0 e)
   rw[←hs.1,C.R.mul_assoc,C.hi _ hd,C.R.mul_one]
 rw[e];exact hs
theorem Ec.ad_nl(P:Pt α):C.ad none P=P:=rfl
theorem Ec.ad_nr(P:Pt α):C.ad P none=P:=by cases P<;>rfl
theorem Ec.ad_opp{p q:α×α}(h:C.opp p q):C.ad (some p) (some q)=none:=if_pos h
theorem Ec.ad_sl{p q:α×α}{s:α}(hp:C.on p)(hq:C.on q)(ho: ¬C.opp p q)(hs:C.Sl p q s):C.ad (some p) (some q)=some (C.th p q s):=by
 rw[←C.sl_one (C.sl_slope hp hq ho) hs ho]
 exact if_neg ho
theorem Ec.ad_on{P Q:Pt α}(hP:C.onP P)(hQ:C.onP Q):C.onP (C.ad P Q):=by
 cases P with
 |none=>exact hQ
 |some p=>
  cases Q with
  |none=>exact hP
  |some q=>
   by_cases ho:C.opp p q
   ·rw[C.ad_opp ho];trivial
   ·rw[C.ad_sl hP hQ ho (C.sl_slope hP hQ ho)]
    exact C.th_on hQ (C.sl_slope hP hQ ho)
theorem Ec.ad_comm{P Q:Pt α}(hP:C.onP P)(hQ:C.onP Q):C.ad P Q=C.ad Q P:=by
 cases P with
 |none=>rw[C.ad_nr];rfl
 |some p=>
  cases Q with
  |none=>rfl
  |some q=>
   by_cases ho:C.opp p q
   ·rw[C.ad_opp ho,C.ad_opp (C.opp_comm ho)]
   ·have hs:=C.sl_slope hP hQ ho
    rw[C.ad_sl hP hQ ho hs,C.ad_sl hQ hP (fun h=>ho (C.opp_comm h)) (C.sl_comm hs),C.th_comm hs]
theorem Ec.ad_ne(P:Pt α):C.ad P (C.ne P)=none:=by
 cases P with
 |none=>rfl
 |some p=>exact C.ad_opp (C.opp_ng p)
theorem Ec.ne_ad_self(P:Pt α):C.ad (C.ne P) P=none:=by
 have:=C.ad_ne (C.ne P)
 rw[C.ne_ne]at this
 exact this
theorem Ec.ne_ad{P Q:Pt α}(hP:C.onP P)(hQ:C.onP Q):C.ne (C.ad P Q)=C.ad (C.ne P) (C.ne Q):=by
 cases P with
 |none=>rfl
 |some p=>
  cases Q with
  |none=>rfl
  |some q=>
   have hiff:C.opp (C.ng p) (C.ng q)→C.opp p q:=fun h=>⟨h.1,by
    have:=h.2
    rw[show (C.ng p).2=C.R.neg p.2 from rfl,show (C.ng q).2=C.R.neg q.2 from rfl,←C.R.neg_add]at this
    rw[←C.R.neg_neg (C.R.add p.2 q.2),this,C.R.neg_zero]⟩
   by_cases ho:C.opp p q
   ·have ho':C.opp (C.ng p) (C.ng q):=⟨ho.1,by
     rw[show (C.ng p).2=C.R.neg p.2 from rfl,show (C.ng q).2=C.R.neg q.2 from rfl,←C.R.neg_add,ho.2,C.R.neg_zero]⟩
    rw[C.ad_opp ho]
    exact (C.ad_opp ho').symm
   ·have hs:=C.sl_slope hP hQ ho
    rw[C.ad_sl hP hQ ho hs]
    refine ((C.ad_sl (C.ng_on hP) (C.ng_on hQ) (fun h=>ho (hiff h)) (C.sl_ng hs)).trans ?_).symm
    rw[C.th_ng];rfl
theorem Ec.undo{P Q:Pt α}(hP:C.onP P)(hQ:C.onP Q):C.ad (C.ne P) (C.ad P Q)=Q:=by
 cases P with
 |none=>rfl
 |some p=>
  cases Q with
  |none=>exact C.ne_ad_self (some p)
  |some q=>
   by_cases ho:C.opp p q
   ·rw[C.ad_opp ho,C.ad_nr,C.opp_eq ho];rfl
   ·have hs:=C.sl_slope hP hQ ho
    rw[C.ad_sl hP hQ ho hs]
    generalize C.slope p q=s at hs
    have hon:C.on (C.th p q s):=C.th_on hQ hs
    have hs2:C.Sl p (C.ng (C.th p q s)) s:=by
     have:=C.sl_th (C.sl_comm hs)
     rw[←C.th_comm hs]at this
     exact this
    have ho2: ¬C.opp (C.ng p) (C.th p q s):=fun h=>by
     have e:=C.opp_eq h
     rw[C.ng_ng]at e
     rw[e]at hs2
     exact C.no_fix hP hs2
    have hs3:C.Sl (C.ng p) (C.th p q s) (C.R.neg s):=by
     have:=C.sl_ng hs2
     rw[C.ng_ng]at this
     exact this
    refine (C.ad_sl (C.ng_on hP) hon ho2 hs3).trans (congrArg some ?_)
    refine Prod.ext (C.undo_x p q s) ?_
    show C.sub (C.R.mul (C.R.neg s) (C.sub p.1 (C.x3 (C.ng p) (C.th p q s) (C.R.neg s)))) (C.R.neg p.2)=q.2
    rw[C.undo_x]
    exact C.undo_y hs
theorem Ec.ad_assoc{P Q T:Pt α}(hP:C.onP P)(hQ:C.onP Q)(hT:C.onP T):C.ad (C.ad P Q) T=C.ad P (C.ad Q T):=by
 cases P with
 |none=>rfl
 |some p=>
  cases Q with
  |none=>rfl
  |some q=>
   cases T with
   |none=>rw[C.ad_nr,C.ad_nr]
   |some t=>
    by_cases h1:C.opp p q
    ·have e:(some q:Pt α)=C.ne (some p):=congrArg some (C.opp_eq h1)
     have:=C.undo (P:=C.ne (some p)) (Q:=some t) (C.ne_on hP) hT
     rw[C.ne_ne]at this
     rw[C.ad_opp h1,C.ad_nl,e,this]
    ·by_cases h2:C.opp q t
     ·have e:(some t:Pt α)=C.ne (some q):=congrArg some (C.opp_eq h2)
      rw[C.ad_opp h2,C.ad_nr,e,C.ad_comm (C.ad_on hP hQ) (C.ne_on hQ),C.ad_comm hP hQ]
      exact C.undo hQ hP
     ·have hs:=C.sl_slope hP hQ h1
      have hc:=C.sl_comm (C.sl_slope hQ hT h2)
      have h2': ¬C.opp t q:=fun h=>h2 (C.opp_comm h)
      have e1:=C.ad_sl hP hQ h1 hs
      have e2:C.ad (some q) (some t)=some (C.th t q (C.slope q t)):=(C.ad_comm hQ hT).trans (C.ad_sl hT hQ h2' hc)
      generalize C.slope p q=a at hs e1
      generalize C.slope q t=c at hc e2
      have hS:C.on (C.th p q a):=C.th_on hQ hs
      have hU:C.on (C.th t q c):=C.th_on hQ hc
      by_cases h3:C.opp (C.th p q a) t
      ·have e:(some t:Pt α)=C.ne (C.ad (some p) (some q)):=by rw[e1];exact congrArg some (C.opp_eq h3)
       have k:=C.undo (P:=C.ne (some q)) (Q:=C.ne (some p)) (C.ne_on hQ) (C.ne_on hP)
       rw[C.ne_ne]at k
       rw[e,C.ad_ne,C.ne_ad hP hQ,C.ad_comm (C.ne_on hP) (C.ne_on hQ),k,C.ad_ne]
      ·by_cases h4:C.opp (C.th t q c) p
       ·have e:(some p:Pt α)=C.ne (C.ad (some q) (some t)):=by rw[e2];exact congrArg some (C.opp_eq h4)
        have k:=C.undo (P:=C.ne (some q)) (Q:=C.ne (some t)) (C.ne_on hQ) (C.ne_on hT)
        rw[C.ne_ne]at k
        have e3:C.ad (C.ne (C.ad (some q) (some t))) (some q)=C.ne (some t):=by
         rw[C.ne_ad hQ hT,C.ad_comm (C.ad_on (C.ne_on hQ) (C.ne_on hT)) hQ,k]
        rw[e,e3,C.ne_ad_self,C.ne_ad_self]
       ·have g1:=C.sl_slope hS hT h3
        have g2:=C.sl_slope hU hP h4
        have eL:C.ad (C.ad (some p) (some q)) (some t)=some (C.th (C.th p q a) t (C.slope (C.th p q a) t)):=by rw[e1];exact C.ad_sl hS hT h3 g1
        have eR:C.ad (some p) (C.ad (some q) (some t))=some (C.th (C.th t q c) p (C.slope (C.th t q c) p)):=by
         rw[e2,C.ad_comm hP (Q:=some (C.th t q c)) hU];exact C.ad_sl hU hP h4 g2
        by_cases hac:a=c
        ·subst hac
         rcases C.line_three hs hc with h|h
         ·subst h
          rw[C.ad_comm hT (C.ad_on hQ hT),C.ad_comm hQ hT]
         ·exact absurd h h3
        ·rw[eL,eR,C.assoc_gen hs hc g1 g2 h3 h4 hac]
/-! ### So many times -/
def Ec.times(P:Pt α):Nat→Pt α
 |0=>none
 |n+1=>C.ad (Ec.times P n) P
theorem Ec.times_on{P:Pt α}(hP:C.onP P): ∀n,C.onP (C.times P n)
 |0=>trivial
 |n+1=>C.ad_on (Ec.times_on hP n) hP
theorem Ec.times_add{P:Pt α}(hP:C.onP P)(m:Nat): ∀n,C.times P (m+n)=C.ad (C.times P m) (C.times P n)
 |0=>(C.ad_nr _).symm
 |n+1=>by
  rw[←Nat.add_assoc,Ec.times,Ec.times_add hP m n,C.ad_assoc (C.times_on hP m) (C.times_on hP n) hP];rfl
theorem Ec.times_none: ∀n,C.times none n=none
 |0=>rfl
 |n+1=>by rw[Ec.times,Ec.times_none n];rfl
theorem Ec.times_mul{P:Pt α}(hP:C.onP P)(m:Nat): ∀n,C.times P (m*n)=C.times (C.times P m) n
 |0=>rfl
 |n+1=>by rw[Nat.mul_succ,C.times_add hP,Ec.times_mul hP m n];rfl
theorem Ec.times_ad{P Q:Pt α}(hP:C.onP P)(hQ:C.onP Q): ∀n,C.times (C.ad P Q) n=C.ad (C.times P n) (C.times Q n)
 |0=>rfl
 |n+1=>by
  have hp:=C.times_on hP n
  have hq:=C.times_on hQ n
  rw[Ec.times,Ec.times_ad hP hQ n,Ec.times,Ec.times,C.ad_assoc hp hq (C.ad_on hP hQ),←C.ad_assoc hq hP hQ,C.ad_comm hq hP,C.ad_assoc hP hq hQ,←C.ad_assoc hp hP (C.ad_on hq hQ)]
theorem Ec.times_ne{P:Pt α}(hP:C.onP P): ∀n,C.times (C.ne P) n=C.ne (C.times P n)
 |0=>rfl
 |n+1=>by rw[Ec.times,Ec.times_ne hP n,Ec.times,C.ne_ad (C.times_on hP n) hP]
end
end
section
section
variable {α:Type} (C:Ec α)
def Ec.z2(z:α):α:=C.R.mul z z
def Ec.z3(z:α):α:=C.R.mul (C.R.mul z z) z
def Ec.jr(J:α×α×α):Pt α→Prop
 |none=>J.2.2=C.R.zero
 |some p=>J.2.2≠C.R.zero∧J.1=C.R.mul p.1 (C.z2 J.2.2)∧J.2.1=C.R.mul p.2 (C.z3 J.2.2)
theorem Ec.z2_ne{z:α}(h:z≠C.R.zero):C.z2 z≠C.R.zero:=fun e=>h (C.fd.sq e)
theorem Ec.z3_ne{z:α}(h:z≠C.R.zero):C.z3 z≠C.R.zero:=fun e=>(C.fd.two e).elim (fun e=>h (C.fd.sq e)) h
theorem Ec.mul_ne{a b:α}(ha:a≠C.R.zero)(hb:b≠C.R.zero):C.R.mul a b≠C.R.zero:=fun e=>(C.fd.two e).elim ha hb
theorem Ec.mul_can{a b c:α}(hc:c≠C.R.zero)(h:C.R.mul a c=C.R.mul b c):a=b:=by
 have e:C.R.mul (C.sub a b) c=C.R.zero:=by
  rw[Ec.sub,C.R.add_mul,C.R.neg_mul,h,C.R.add_neg]
 exact C.sub0 ((C.fd.two e).resolve_right hc)
theorem Ec.dbl0{y:α}(h:C.R.add y y=C.R.zero):y=C.R.zero:=by
 have e:C.R.mul (C.R.add C.R.one C.R.one) y=C.R.zero:=by rw[C.R.add_mul,C.R.one_mul,h]
 exact (C.fd.two e).resolve_left C.h2
def Ec.jd(X Y Z:α):α×α×α:=((C.sub (C.sub (C.R.mul (C.R.add (C.R.add (C.R.mul X X) (C.R.mul X X)) (C.R.mul X X)) (C.R.add (C.R.add (C.R.mul X X) (C.R.mul X X)) (C.R.mul X X))) (C.R.add (C.R.add (C.R.mul X (C.R.mul Y Y)) (C.R.mul X (C.R.mul Y Y))) (C.R.add (C.R.mul X (C.R.mul Y Y)) (C.R.mul X (C.R.mul Y Y))))) (C.R.add (C.R.add (C.R.mul X (C.R.mul Y Y)) (C.R.mul X (C.R.mul Y Y))) (C.R.add (C.R.mul X (C.R.mul Y Y)) (C.R.mul X (C.R.mul Y Y))))),(C.sub (C.R.mul (C.R.add (C.R.add (C.R.mul X X) (C.R.mul X X)) (C.R.mul X X)) (C.sub (C.R.add (C.R.add (C.R.mul X (C.R.mul Y Y)) (C.R.mul X (C.R.mul Y Y))) (C.R.add (C.R.mul X (C.R.mul Y Y)) (C.R.mul X (C.R.mul Y Y)))) (C.sub (C.sub (C.R.mul (C.R.add (C.R.add (C.R.mul X X) (C.R.mul X X)) (C.R.mul X X)) (C.R.add (C.R.add (C.R.mul X X) (C.R.mul X X)) (C.R.mul X X))) (C.R.add (C.R.add (C.R.mul X (C.R.mul Y Y)) (C.R.mul X (C.R.mul Y Y))) (C.R.add (C.R.mul X (C.R.mul Y Y)) (C.R.mul X (C.R.mul Y Y))))) (C.R.add (C.R.add (C.R.mul X (C.R.mul Y Y)) (C.R.mul X (C.R.mul Y Y))) (C.R.add (C.R.mul X (C.R.mul Y Y)) (C.R.mul X (C.R.mul Y Y))))))) (C.R.add (C.R.add (C.R.add (C.R.mul (C.R.mul Y Y) (C.R.mul Y Y)) (C.R.mul (C.R.mul Y Y) (C.R.mul Y Y))) (C.R.add (C.R.mul (C.R.mul Y Y) (C.R.mul Y Y)) (C.R.mul (C.R.mul Y Y) (C.R.mul Y Y)))) (C.R.add (C.R.add (C.R.mul (C.R.mul Y Y) (C.R.mul Y Y)) (C.R.mul (C.R.mul Y Y) (C.R.mul Y Y))) (C.R.add (C.R.mul (C.R.mul Y Y) (C.R.mul Y Y)) (C.R.mul (C.R.mul Y Y) (C.R.mul Y Y)))))),(C.R.add (C.R.mul Y Z) (C.R.mul Y Z)))
theorem Ec.jd_x{p:α×α}{Z l:α}(h:C.R.mul l (C.R.add p.2 p.2)=C.R.add (C.R.add (C.R.mul p.1 p.1) (C.R.mul p.1 p.1)) (C.R.mul p.1 p.1)):
 (C.jd (C.R.mul p.1 (C.z2 Z)) (C.R.mul p.2 (C.z3 Z)) Z).1=C.R.mul (C.x3 p p l) (C.z2 (C.jd (C.R.mul p.1 (C.z2 Z)) (C.R.mul p.2 (C.z3 Z)) Z).2.2):=
 zk C.R [p.1,p.2,Z,l] 0x445445565885658855658856588556588565884455658856588556588565885565885658834455658855755888575588855658855755888575588845565885575588857558885565885575588857558883445565885575588857558885565885575588857558884556588557558885755888556588557558885755888 0x5445993636545575588885575588884557558888557558888 0x355588588444556588565885565885658855658856588594557558888557558888 0x44566566566 0x59477 h
theorem Ec.jd_y{p:α×α}{Z l:α}(h:C.R.mul l (C.R.add p.2 p.2)=C.R.add (C.R.add (C.R.mul p.1 p.1) (C.R.mul p.1 p.1)) (C.R.mul p.1 p.1)):
 (C.jd (C.R.mul p.1 (C.z2 Z)) (C.R.mul p.2 (C.z3 Z)) Z).2.1=C.R.mul (C.th p p l).2 (C.z3 (C.jd (C.R.mul p.1 (C.z2 Z)) (C.R.mul p.2 (C.z3 Z)) Z).2.2):=
 zk C.R [p.1,p.2,Z,l] 0x4544556588565885565885658855658856588444556588557558885755888556588557558885755888455658855755888575588855658855755888575588834454455658856588556588565885565885658844556588565885565885658855658856588344556588557558885755888556588557558885755888455658855755888575588855658855755888575588834455658855755888575588855658855755888575588845565885575588857558885565885575588857558883444555755888575588855755888575588855575588857558885575588857558884555755888575588855755888575588855575588857558885575588857558884455575588857558885575588857558885557558885755888557558885755888455575588857558885575588857558885557558885755888557558885755888 0x54594634459936363755455755888855755888845575588885575588884557558888557558888 0x43555885884445565885575588857558885565885575588857558884556588557558885755888556588557558885755888344544556588565885565885658855658856588445565885658855658856588556588565883445565885575588857558885565885575588857558884556588557558885755888556588557558885755888344556588557558885755888556588557558885755888455658855755888575588855658855755888575588835594557558888557558888355588588444556588565885565885658855658856588594557558888557558888 0x44566566566 0x59477 h
def Ec.jh(X Z X' Z':α):α:=(C.sub (C.R.mul X' (C.R.mul Z Z)) (C.R.mul X (C.R.mul Z' Z')))
def Ec.jq(Y Z Y' Z':α):α:=(C.sub (C.R.mul (C.R.mul Y' (C.R.mul Z Z)) Z) (C.R.mul (C.R.mul Y (C.R.mul Z' Z')) Z'))
def Ec.ja(X Y Z X' Y' Z':α):α×α×α:=((C.sub (C.sub (C.sub (C.R.mul (C.sub (C.R.mul (C.R.mul Y' (C.R.mul Z Z)) Z) (C.R.mul (C.R.mul Y (C.R.mul Z' Z')) Z')) (C.sub (C.R.mul (C.R.mul Y' (C.R.mul Z Z)) Z) (C.R.mul (C.R.mul Y (C.R.mul Z' Z')) Z'))) (C.R.mul (C.R.mul (C.sub (C.R.mul X' (C.R.mul Z Z)) (C.R.mul X (C.R.mul Z' Z'))) (C.sub (C.R.mul X' (C.R.mul Z Z)) (C.R.mul X (C.R.mul Z' Z')))) (C.sub (C.R.mul X' (C.R.mul Z Z)) (C.R.mul X (C.R.mul Z' Z'))))) (C.R.mul (C.R.mul X (C.R.mul Z' Z')) (C.R.mul (C.sub (C.R.mul X' (C.R.mul Z Z)) (C.R.mul X (C.R.mul Z' Z'))) (C.sub (C.R.mul X' (C.R.mul Z Z)) (C.R.mul X (C.R.mul Z' Z')))))) (C.R.mul (C.R.mul X (C.R.mul Z' Z')) (C.R.mul (C.sub (C.R.mul X' (C.R.mul Z Z)) (C.R.mul X (C.R.mul Z' Z'))) (C.sub (C.R.mul X' (C.R.mul Z Z)) (C.R.mul X (C.R.mul Z' Z')))))),(C.sub (C.R.mul (C.sub (C.R.mul (C.R.mul Y' (C.R.mul Z Z)) Z) (C.R.mul (C.R.mul Y (C.R.mul Z' Z')) Z')) (C.sub (C.R.mul (C.R.mul X (C.R.mul Z' Z')) (C.R.mul (C.sub (C.R.mul X' (C.R.mul Z Z)) (C.R.mul X (C.R.mul Z' Z'))) (C.sub (C.R.mul X' (C.R.mul Z Z)) (C.R.mul X (C.R.mul Z' Z'))))) (C.sub (C.sub (C.sub (C.R.mul (C.sub (C.R.mul (C.R.mul Y' (C.R.mul Z Z)) Z) (C.R.mul (C.R.mul Y (C.R.mul Z' Z')) Z')) (C.sub (C.R.mul (C.R.mul Y' (C.R.mul Z Z)) Z) (C.R.mul (C.R.mul Y (C.R.mul Z' Z')) Z'))) (C.R.mul (C.R.mul (C.sub (C.R.mul X' (C.R.mul Z Z)) (C.R.mul X (C.R.mul Z' Z'))) (C.sub (C.R.mul X' (C.R.mul Z Z)) (C.R.mul X (C.R.mul Z' Z')))) (C.sub (C.R.mul X' (C.R.mul Z Z)) (C.R.mul X (C.R.mul Z' Z'))))) (C.R.mul (C.R.mul X (C.R.mul Z' Z')) (C.R.mul (C.sub (C.R.mul X' (C.R.mul Z Z)) (C.R.mul X (C.R.mul Z' Z'))) (C.sub (C.R.mul X' (C.R.mul Z Z)) (C.R.mul X (C.R.mul Z' Z')))))) (C.R.mul (C.R.mul X (C.R.mul Z' Z')) (C.R.mul (C.sub (C.R.mul X' (C.R.mul Z Z)) (C.R.mul X (C.R.mul Z' Z'))) (C.sub (C.R.mul X' (C.R.mul Z Z)) (C.R.mul X (C.R.mul Z' Z')))))))) (C.R.mul (C.R.mul (C.R.mul Y (C.R.mul Z' Z')) Z') (C.R.mul (C.R.mul (C.sub (C.R.mul X' (C.R.mul Z Z)) (C.R.mul X (C.R.mul Z' Z'))) (C.sub (C.R.mul X' (C.R.mul Z Z)) (C.R.mul X (C.R.mul Z' Z')))) (C.sub (C.R.mul X' (C.R.mul Z Z)) (C.R.mul X (C.R.mul Z' Z')))))),(C.R.mul (C.R.mul Z Z') (C.sub (C.R.mul X' (C.R.mul Z Z)) (C.R.mul X (C.R.mul Z' Z')))))
theorem Ec.jh_eq(p q:α×α)(Z Z':α):C.jh (C.R.mul p.1 (C.z2 Z)) Z (C.R.mul q.1 (C.z2 Z')) Z'=C.R.mul (C.R.mul (C.z2 Z) (C.z2 Z')) (C.sub q.1 p.1):=zx C.R [p.1,p.2,Z,q.1,q.2,Z'] 0x45595bb58835565885bb 0x555885bb4936
theorem Ec.jq_eq(p q:α×α)(Z Z':α):C.jq (C.R.mul p.2 (C.z3 Z)) Z (C.R.mul q.2 (C.z3 Z')) Z'=C.R.mul (C.R.mul (C.z3 Z) (C.z3 Z')) (C.sub q.2 p.2):=zx C.R [p.1,p.2,Z,q.1,q.2,Z'] 0x4555a55bbb588835557558885bbb 0x555588855bbb4a37
theorem Ec.ja_x{p q:α×α}{Z Z' l:α}(h:C.R.mul l (C.sub p.1 q.1)=C.sub p.2 q.2):(C.ja (C.R.mul p.1 (C.z2 Z)) (C.R.mul p.2 (C.z3 Z)) Z (C.R.mul q.1 (C.z2 Z')) (C.R.mul q.2 (C.z3 Z')) Z').1=C.R.mul (C.x3 p q l) (C.z2 (C.ja (C.R.mul p.1 (C.z2 Z)) (C.R.mul p.2 (C.z3 Z)) Z (C.R.mul q.1 (C.z2 Z')) (C.R.mul q.2 (C.z3 Z')) Z').2.2):=
 zk C.R [p.1,p.2,Z,q.1,q.2,Z',l] 0x44454555a55bbb588835557558885bbb4555a55bbb588835557558885bbb35545595bb58835565885bb45595bb58835565885bb45595bb58835565885bb355565885bb545595bb58835565885bb45595bb58835565885bb355565885bb545595bb58835565885bb45595bb58835565885bb 0x5445cc36395558b45595bb58835565885bb558b45595bb58835565885bb 0x55558b58b58b44555a55bbb588835557558885bbb5c558b45595bb58835565885bb 0x473a 0x5c4639 h
theorem Ec.ja_y{p q:α×α}{Z Z' l:α}(h:C.R.mul l (C.sub p.1 q.1)=C.sub p.2 q.2):(C.ja (C.R.mul p.1 (C.z2 Z)) (C.R.mul p.2 (C.z3 Z)) Z (C.R.mul q.1 (C.z2 Z')) (C.R.mul q.2 (C.z3 Z')) Z').2.1=C.R.mul (C.th p q l).2 (C.z3 (C.ja (C.R.mul p.1 (C.z2 Z)) (C.R.mul p.2 (C.z3 Z)) Z (C.R.mul q.1 (C.z2 Z')) (C.R.mul q.2 (C.z3 Z')) Z').2.2):=
 zk C.R [p.1,p.2,Z,q.1,q.2,Z',l] 0x454555a55bbb588835557558885bbb455565885bb545595bb58835565885bb45595bb58835565885bb344454555a55bbb588835557558885bbb4555a55bbb588835557558885bbb35545595bb58835565885bb45595bb58835565885bb45595bb58835565885bb355565885bb545595bb58835565885bb45595bb58835565885bb355565885bb545595bb58835565885bb45595bb58835565885bb355557558885bbb5545595bb58835565885bb45595bb58835565885bb45595bb58835565885bb 0x545c463445cc36393755558b45595bb58835565885bb558b45595bb58835565885bb558b45595bb58835565885bb 0x455558b58b58b455565885bb545595bb58835565885bb45595bb58835565885bb344454555a55bbb588835557558885bbb4555a55bbb588835557558885bbb35545595bb58835565885bb45595bb58835565885bb45595bb58835565885bb355565885bb545595bb58835565885bb45595bb58835565885bb355565885bb545595bb58835565885bb45595bb58835565885bb355c558b45595bb58835565885bb55558b58b58b44555a55bbb588835557558885bbb5c558b45595bb58835565885bb 0x473a 0x5c4639 h
theorem Ec.jr_n{J:α×α×α}{P:Pt α}(h:C.jr J P):C.jr (J.1,C.R.neg J.2.1,J.2.2) (C.ne P):=by
 cases P with
 |none=>exact h
 |some p=>exact ⟨h.1,h.2.1,by
  show C.R.neg J.2.1=C.R.mul (C.R.neg p.2) (C.z3 J.2.2)
  rw[h.2.2,C.R.neg_mul]⟩
end
section
variable {α:Type} [DecidableEq α] (C:Ec α)
def Ec.jdF(J:α×α×α):α×α×α:=if J.2.2=C.R.zero∨J.2.1=C.R.zero then (C.R.zero,C.R.zero,C.R.zero)else C.jd J.1 J.2.1 J.2.2
theorem Ec.jr_d{J:α×α×α}{P:Pt α}(hP:C.onP P)(h:C.jr J P):C.jr (C.jdF J) (C.ad P P):=by
 cases P with
 |none=>
  rw[Ec.jdF,if_pos (.inl h)];rfl
 |some p=>
  obtain ⟨hz,hx,hy⟩:=h
  obtain ⟨X,Y,Z⟩:=J
  simp only at hz hx hy
  by_cases hp:p.2=C.R.zero
  ·have hy0:Y=C.R.zero:=by rw[hy,hp,C.R.zero_mul]
   rw[Ec.jdF,if_pos (.inr hy0),C.ad_opp ⟨rfl,by rw[hp,C.R.add_zero]⟩];rfl
  ·have hY:Y≠C.R.zero:=by rw[hy];exact C.mul_ne hp (C.z3_ne hz)
   have ho: ¬C.opp p p:=fun e=>hp (C.dbl0 e.2)
   have hs:=C.sl_slope hP hP ho
   rw[Ec.jdF,if_neg (fun e=>e.elim hz hY),C.ad_sl hP hP ho hs]
   subst hx hy
   refine ⟨?_,C.jd_x hs.2,C.jd_y hs.2⟩
   intro e
   exact (C.mul_ne hY hz) (C.dbl0 e)
def Ec.jaF(J K:α×α×α):α×α×α:=
 if J.2.2=C.R.zero then K else if K.2.2=C.R.zero then J else
  if C.jh J.1 J.2.2 K.1 K.2.2=C.R.zero then (if C.jq J.2.1 J.2.2 K.2.1 K.2.2=C.R.zero then C.jdF J else (C.R.zero,C.R.zero,C.R.zero))else C.ja J.1 J.2.1 J.2.2 K.1 K.2.1 K.2.2
theorem Ec.jr_a{J K:α×α×α}{P Q:Pt α}(hP:C.onP P)(hQ:C.onP Q)(h:C.jr J P)(k:C.jr K Q):C.jr (C.jaF J K) (C.ad P Q):=by
 cases P with
 |none=>rw[Ec.jaF,if_pos (show J.2.2=C.R.zero from h)];exact k
 |some p=>
  cases Q with
  |none=>rw[Ec.jaF,if_neg h.1,if_pos (show K.2.2=C.R.zero from k)];exact h
  |some q=>
   obtain ⟨X,Y,Z⟩:=J
   obtain ⟨X',Y',Z'⟩:=K
   have h':=h
   obtain ⟨hz,hx,hy⟩:=h
   obtain ⟨kz,kx,ky⟩:=k
   simp only at hz hx hy kz kx ky
   rw[Ec.jaF,if_neg hz,if_neg kz]
   show C.jr (if C.jh X Z X' Z'=C.R.zero then (if C.jq Y Z Y' Z'=C.R.zero then C.jdF (X,Y,Z)else (C.R.zero,C.R.zero,C.R.zero))else C.ja X Y Z X' Y' Z') (C.ad (some p) (some q))
   have ex:C.jh X Z X' Z'=C.R.zero↔p.1=q.1:=by
    rw[hx,kx,C.jh_eq]
    refine ⟨fun e=>(C.sub0 ((C.fd.two e).resolve_left (C.mul_ne (C.z2_ne hz) (C.z2_ne kz)))).symm,fun e=>by rw[e,C.sub_self,C.R.mul_zero]⟩
   have ey:C.jq Y Z Y' Z'=C.R.zero↔p.2=q.2:=by
    rw[hy,ky,C.jq_eq]
    refine ⟨fun e=>(C.sub0 ((C.fd.two e).resolve_left (C.mul_ne (C.z3_ne hz) (C.z3_ne kz)))).symm,fun e=>by rw[e,C.sub_self,C.R.mul_zero]⟩
   by_cases hxe:p.1=q.1
   ·rw[if_pos (ex.2 hxe)]
    by_cases hye:p.2=q.2
    ·rw[if_pos (ey.2 hye)]
     obtain rfl:p=q:=Prod.ext hxe hye
     exact C.jr_d hP h'
    ·rw[if_neg (fun e=>hye (ey.1 e))]
     by_cases ho:C.opp p q
     ·rw[C.ad_opp ho];rfl
     ·exact absurd (by
       have hs:=(C.sl_slope hP hQ ho).1
       rw[hxe,C.sub_self,C.R.mul_zero]at hs
       exact C.sub0 hs.symm) hye
   ·rw[if_neg (fun e=>hxe (ex.1 e))]
    have ho: ¬C.opp p q:=fun e=>hxe e.1
    have hs:=C.sl_slope hP hQ ho
    rw[C.ad_sl hP hQ ho hs]
    have hh:C.jh X Z X' Z'≠C.R.zero:=fun e=>hxe (ex.1 e)
    subst hx hy kx ky
    exact ⟨C.mul_ne (C.mul_ne hz kz) hh,C.ja_x hs.1,C.ja_y hs.1⟩
end
end
end Go.Proofs.YtfgacclgjklgnaaGreatDoor
