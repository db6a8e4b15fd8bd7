/- L3 -/
import Derived.Test.YtfakhlafilbjkaaGreatDoorL2
set_option maxRecDepth 100000
set_option maxHeartbeats 1000000
namespace Go.Proofs.YtfakhlafilbjkaaGreatDoor
open Go.Proofs.Tryz
section
open Go.RowKit
theorem ent16:aJ prog 16:=λ_ _=>kr
theorem Cf.all{c:Cf}: ∀j v,c.cs[j]? =some v->c.cs[0+j]? =some v:=λj v hv=>by rw[Nat.zero_add];exact hv
theorem Cf.end_{c:Cf}(h:c.Ok)(j:Nat):c.cs[36+j]? =[U64 c.s,U64 c.e,I c.z][j]? :=by
 rw[Cf.cs,<-List.append_assoc,List.getElem?_append_right (by simp[h.g,h.v])]
 congr 1;simp[h.g,h.v]
theorem Cf.at_s{c:Cf}(h:c.Ok):c.cs[36]? =some (U64 c.s):=c.end_ h 0
theorem Cf.at_e{c:Cf}(h:c.Ok):c.cs[37]? =some (U64 c.e):=c.end_ h 1
theorem Cf.at_z{c:Cf}(h:c.Ok):c.cs[38]? =some (I c.z):=c.end_ h 2
def hH(n:BitVec 64):Bool:=decide (1#64<=n) && decide (n<=65536#64)
def g9(z:Int):Bool:=decide (z∈[1,2,4,8,16,32,64,128,256,512])
def Cf.rt(c:Cf):Bool:=hH c.s && (hH c.e && g9 c.z)
def Cf.chk(c:Cf):Int:=if c.rt then 0 else 210
def Cf.ep(c:Cf)(n:BitVec 64):BitVec 64:=if c.rt then n / c.s else 0#64
def Cf.pe(c:Cf)(n:BitVec 64):BitVec 64:=if c.rt then n / c.s / c.e else 0#64
theorem Fp{c:Cf}(h:c.rt=true):c.chk=0:=by unfold Cf.chk;rw[if_pos h]
theorem Fq{c:Cf}(h:c.rt=false):c.chk=210:=by unfold Cf.chk;rw[h];rfl
theorem I5{c:Cf}(h:c.rt=true)(n:BitVec 64):c.ep n=n / c.s:=by unfold Cf.ep;rw[if_pos h]
theorem ep_f{c:Cf}(h:c.rt=false)(n:BitVec 64):c.ep n=0#64:=by unfold Cf.ep;rw[h];rfl
theorem IT{c:Cf}(h:c.rt=true)(n:BitVec 64):c.pe n=n / c.s / c.e:=by unfold Cf.pe;rw[if_pos h]
theorem IL{c:Cf}(h:c.rt=false)(n:BitVec 64):c.pe n=0#64:=by unfold Cf.pe;rw[h];rfl
theorem nQ{n:BitVec 64}(h:hH n=true):n≠0#64:=by
 intro e;subst e;revert h;decide
theorem IM{c:Cf}(h:c.rt=true):hH c.s=true:=by unfold Cf.rt at h;rw[Bool.and_eq_true,Bool.and_eq_true]at h;exact h.1
theorem Jg{c:Cf}(h:c.rt=true):hH c.e=true:=by unfold Cf.rt at h;rw[Bool.and_eq_true,Bool.and_eq_true]at h;exact h.2.1
def Dj(a b:Int):Int:=IntKind.wrap .i64 ((BitVec.ofInt 64 a &&& BitVec.ofInt 64 b).toNat:Int)
theorem xt{P:Program}(t:TypeId)(a b:Int)(w:World):(binOp .and t (I a) (I b)).run P w=.ok (I (Dj a b)) w:=rfl
theorem Az(z:Int)(h:1<=z)(h2:z<=512):(Dj z (z-1)==0)=g9 z:=by
 obtain ⟨n,rfl⟩:=Int.eq_ofNat_of_zero_le (show 0<=z by omega)
 have key: ∀n:Fin 513,1<=n.1->(Dj (n.1:Int) ((n.1:Int)-1)==0)=g9 (n.1:Int):=by decide+kernel
 exact key ⟨n,om⟩ (by simp;omega)
theorem Dr{z:Int}(h: ¬z>=1):g9 z=false:=by
 unfold g9;rw[decide_eq_false_iff_not];intro hm;simp only[List.mem_cons,List.not_mem_nil,or_false]at hm;omega
theorem Di{z:Int}(h: ¬z<=512):g9 z=false:=by
 unfold g9;rw[decide_eq_false_iff_not];intro hm;simp only[List.mem_cons,List.not_mem_nil,or_false]at hm;omega
def p2(k:Nat):Int:=2^k
def pwr(z:Int):Nat->Bool
 |0=>false
 |k+1=>pwr z k||z==p2 k
theorem LN{z:Int}{k:Nat}(h:pwr z k=true):pwr z (k+1)=true:=by show (pwr z k||_)=true;rw[h];rfl
theorem IA{z:Int}{k:Nat}(h:pwr z k=false):pwr z (k+1)=(z==p2 k):=by show (pwr z k||_)=_;rw[h];rfl
theorem IH(z:Int):pwr z 10=g9 z:=by
 rw[Bool.eq_iff_iff];unfold g9;simp only[pwr,p2,decide_eq_true_eq,Bool.or_eq_true,beq_iff_eq,List.mem_cons,List.not_mem_nil,or_false];constructor
 ·rintro (((((((((((h|h)|h)|h)|h)|h)|h)|h)|h)|h)|h))<;>first|(cases h;done)|(subst h;decide)
 ·rintro (h|h|h|h|h|h|h|h|h|h)<;>subst h<;>decide
theorem Ep{k:Nat}(hk:k<=10):(p2 k<=512)↔k<10:=by
 have key: ∀k:Fin 11,(p2 k.1<=512)↔k.1<10:=by decide+kernel
 exact key ⟨k,om⟩
theorem K4(k:Nat):2*p2 k=p2 (k+1):=by unfold p2;rw[Int.pow_succ,Int.mul_comm]
theorem E8{k:Nat}(hk:k<10):inI (2*p2 k):=by
 have key: ∀k:Fin 10,-9223372036854775808<=2*p2 k.1/\2*p2 k.1<=9223372036854775807:=by decide+kernel
 exact key ⟨k,hk⟩
theorem EW(c:Cf)(hc_:c.Ok)(w:World)(hw:Gt w):CLS 16 [.agg c.cs.toArray].toArray w (λe w'=>e=.returned (.bool c.rt)/\Grow w w'):=by
 refine Hf func16 O hw<|λhGF=>Xp<|Bx 1 hGF O<|λb1=>Asg O<|aa<|Xp<|Asg O<|aa<|ah<|Xp<|Asg O<|aa<|ar<|bS (ι:={i:Nat // i<=10}) (λx=>[(0,.agg c.cs.toArray),(1,pnt b1),(3,.bool (pwr c.z x.1)),(4,I (p2 x.1))]) (λx=>[(1,b1,c.cs,50)]) (λx=>10-x.1) ⟨0,om⟩ hGF trv trv<|?_;rintro ⟨k,hk⟩;dsimp only;refine ah<|Xp<|Mv O<|Bnr (v:=.bool (decide (p2 k<=512))) O O (λ_=>mH _ _ _)<|aa<|?_;refine co O (λhc=> ?_) (λhc=> ?_)
 ·have hlt:k<10:=(Ep hk).1 (by simpa using hc)
  clear hc;refine aw<|ah<|ar<|Xq<|Mv O<|?_;rcases Bool.eq_false_or_eq_true (pwr c.z k)with hp|hp
  ·rw[hp]
   refine Mv O<|Sk<|Sk<|Sk<|Sk<|Pk O O O<|Asg O<|aa<|Xq<|Mv O<|Bnr (v:=I (p2 (k+1))) O O (λ_=>(bQ _ _ _ (E8 hlt)).trans (by rw[K4]))<|Asg O<|aa<|?_
   repeat (refine bg ?_)
   exact aV<|⟨rfl,⟨k+1,om⟩,_,by show 10-(k+1)<10-k;omega,rfl,⟨rfl,rfl,by show some (Value.bool true)=some (.bool (pwr c.z (k+1)));rw[LN hp],rfl,trivial⟩,trv⟩
  ·rw[hp]
   refine Mv O<|Fa 38 O underlying50 O sizeOf3<|aQ (v:=I c.z) O isAgg3 (λw' hw'=>by have:=(av (n:=1) O w' hw') 38 _ (Cf.at_z hc_);rwa [Nat.zero_add]at this) O O<|Mv O<|Bnr (v:=.bool (c.z==p2 k)) O O (λ_=>cq _ _ _)<|Pk O O O<|Asg O<|aa<|Xq<|Mv O<|Bnr (v:=I (p2 (k+1))) O O (λ_=>(bQ _ _ _ (E8 hlt)).trans (by rw[K4]))<|Asg O<|aa<|?_
   repeat (refine bg ?_)
   exact aV<|⟨rfl,⟨k+1,om⟩,_,by show 10-(k+1)<10-k;omega,rfl,⟨rfl,rfl,by show some (Value.bool (c.z==p2 k))=some (.bool (pwr c.z (k+1)));rw[IA hp],rfl,trivial⟩,trv⟩
 ·obtain rfl:k=10:=by have:=mt (Ep hk).2 (by simpa using hc);omega
  clear hc;refine bj<|Xp<|Fa 36 O underlying50 O sizeOf22<|aQ (v:=U64 c.s) O isAgg22 (λw' hw'=>by have:=(av (n:=1) O w' hw') 36 _ (Cf.at_s hc_);rwa [Nat.zero_add]at this) O O<|?_
  rcases Bool.eq_false_or_eq_true (decide (1#64<=c.s))with h1|h1
  ·refine Bnb true O O (λ_=>bO _ c.s 1#64) (h1)<|Mv O<|Fa 36 O underlying50 O sizeOf22<|aQ (v:=U64 c.s) O isAgg22 (λw' hw'=>by have:=(av (n:=1) O w' hw') 36 _ (Cf.at_s hc_);rwa [Nat.zero_add]at this) O O<|?_
   rcases Bool.eq_false_or_eq_true (decide (c.s<=65536#64))with h2|h2
   ·refine Bnb true O O (λ_=>fJ _ c.s 65536#64) (h2)<|Pk O O O<|Mv O<|Fa 37 O underlying50 O sizeOf22<|aQ (v:=U64 c.e) O isAgg22 (λw' hw'=>by have:=(av (n:=1) O w' hw') 37 _ (Cf.at_e hc_);rwa [Nat.zero_add]at this) O O<|?_
    rcases Bool.eq_false_or_eq_true (decide (1#64<=c.e))with h3|h3
    ·refine Bnb true O O (λ_=>bO _ c.e 1#64) (h3)<|Pk O O O<|Mv O<|Fa 37 O underlying50 O sizeOf22<|aQ (v:=U64 c.e) O isAgg22 (λw' hw'=>by have:=(av (n:=1) O w' hw') 37 _ (Cf.at_e hc_);rwa [Nat.zero_add]at this) O O<|?_
     rcases Bool.eq_false_or_eq_true (decide (c.e<=65536#64))with h4|h4
     ·refine Bnb true O O (λ_=>fJ _ c.e 65536#64) (h4)<|Pk O O O<|Mv O<|Mv O<|Pk O O O<|Asg O<|aa<|ao<|Rr<|?_
      exact au O O (λw' hw'=>⟨by unfold Cf.rt hH;rw[h1,h2,h3,h4,<-IH];rfl,ae hw'⟩)
     ·refine Bnb false O O (λ_=>fJ _ c.e 65536#64) (h4)<|Pk O O O<|Mv O<|Sk<|Pk O O O<|Asg O<|aa<|ao<|Rr<|?_
      exact au O O (λw' hw'=>⟨by unfold Cf.rt hH;rw[h1,h2,h3,h4];rfl,ae hw'⟩)
    ·refine Bnb false O O (λ_=>bO _ c.e 1#64) (h3)<|Pk O O O<|Mv O<|Sk<|Sk<|Sk<|Pk O O O<|Mv O<|Sk<|Pk O O O<|Asg O<|aa<|ao<|Rr<|?_
     exact au O O (λw' hw'=>⟨by unfold Cf.rt hH;rw[h1,h2,h3];rfl,ae hw'⟩)
   ·refine Bnb false O O (λ_=>fJ _ c.s 65536#64) (h2)<|Pk O O O<|Mv O<|Sk<|Sk<|Sk<|Pk O O O<|Mv O<|Sk<|Sk<|Sk<|Pk O O O<|Mv O<|Sk<|Pk O O O<|Asg O<|aa<|ao<|Rr<|?_
    exact au O O (λw' hw'=>⟨by unfold Cf.rt hH;rw[h1,h2];rfl,ae hw'⟩)
  ·refine Bnb false O O (λ_=>bO _ c.s 1#64) (h1)<|Mv O<|Sk<|Sk<|Sk<|Pk O O O<|Mv O<|Sk<|Sk<|Sk<|Pk O O O<|Mv O<|Sk<|Sk<|Sk<|Pk O O O<|Mv O<|Sk<|Pk O O O<|Asg O<|aa<|ao<|Rr<|?_
   exact au O O (λw' hw'=>⟨by unfold Cf.rt hH;rw[h1];rfl,ae hw'⟩)
theorem IP(c:Cf)(hc_:c.Ok)(n:BitVec 64)(w:World)(hw:Gt w):CLS 73 [.agg c.cs.toArray,U64 n].toArray w (λe w'=>e=.returned (U64 (c.pe n))/\Grow w w'):=by
 refine Hf func73 O hw<|λhGF=>Xp<|Bx 2 hGF O<|λb2=>Asg O<|aa<|ah<|Xp<|ay (cs:=c.cs) O isAgg50 sizeOf50 (Cf.len hc_) (λw' hw' j v hv=>by have:=(av (n:=2) O w' hw') _ v (Cf.all j v hv);rwa [Nat.zero_add]at this) O O<|?_
 rcases Bool.eq_false_or_eq_true (c.rt)with hr|hr
 ·refine Cbl true O ent16 (EW c hc_) (hr)<|bT O (λ_=>bM _) O O<|aa<|aH O<|aw<|Xd []<|Mv O<|Fa 36 O underlying50 O sizeOf22<|aQ (v:=U64 c.s) O isAgg22 (λw' hw'=>by have:=(av (n:=2) O w' hw') 36 _ (Cf.at_s hc_);rwa [Nat.zero_add]at this) O O<|Bnr (v:=U64 (n / c.s)) O O (λ_=>gJ _ _ _ (nQ (IM hr)))<|Fa 37 O underlying50 O sizeOf22<|aQ (v:=U64 c.e) O isAgg22 (λw' hw'=>by have:=(av (n:=2) O w' hw') 37 _ (Cf.at_e hc_);rwa [Nat.zero_add]at this) O O<|Bnr (v:=U64 (n / c.s / c.e)) O O (λ_=>gJ _ _ _ (nQ (Jg hr)))<|Asg O<|aa<|ao<|Rr<|?_
  exact au O O (λw' hw'=>⟨by rw[IT hr],ae hw'⟩)
 ·refine Cbl false O ent16 (EW c hc_) (hr)<|bT O (λ_=>bM _) O O<|aa<|aP O<|Xp<|Asg O<|aa<|ao<|Rr<|?_
  exact au O O (λw' hw'=>⟨by rw[IL hr];rfl,ae hw'⟩)
theorem Cn.at_cf{c:Cn}(h:c.cf.Ok)(j:Nat)(hj:j<39):c.cs[2+j]? =c.cf.cs[j]? :=by
 show (pnt c.bw::pnt c.bm::(c.cf.cs++_))[2+j]? =_;rw[Nat.add_comm,List.getElem?_cons_succ,List.getElem?_cons_succ,List.getElem?_append_left (by rw[Cf.len h];exact hj)]
theorem uK(c:Cn)(q:BitVec 64)(w:World)(hw:Gt w)(hch:ChAt w c):CLS 30 [pnt c.bc,U64 q].toArray w (λe w'=>e=.returned (U64 (c.cf.pe q))/\Grow w w'):=by
 refine Hf func30 O hw<|λhGF=>Xp<|Asg O<|aa<|Xp<|Mv O<|aW O O O<|Fa 2 O underlying61 O sizeOf50<|?_;refine bx (cs:=c.cf.cs) O isAgg50 sizeOf50 (Cf.len hch.cf) (λw' h j v hv=>by rw[Addr.add_mid];exact (hch.grow (ae h)).oc.cell _|>.trans ((Cn.at_cf hch.cf j (by have:=(List.getElem?_eq_some_iff.1 hv).1;rw[Cf.len hch.cf]at this;exact this)).trans hv)) O O ?_
 refine Mv O<|Ca O (IP c.cf hch.cf q)<|Asg O<|aa<|ao<|Rr<|?_;exact au O O (λw' hw'=>⟨rfl,ae hw'⟩)
end
section
open Go.RowKit
open Sh
def lfB(x:BitVec 64)(j:Nat):BitVec 8:=((mg x (BitVec.ofInt 64 ((j-j % 8:Nat):Int)))>>>(8*(j % 8))).setWidth 8
def LVB(x:BitVec 64)(n:Nat):By:=(List.range n).map (lfB x)
theorem io(x:BitVec 64)(n:Nat):(LVB x n).length=n:=by simp[LVB]
def LVC(x:BitVec 64)(n:Nat):List Value:=(LVB x n++List.replicate (768-n) 0#8).map U8
theorem Cp(x:BitVec 64)(n:Nat)(h:n<=768):(LVC x n).length=768:=by
 rw[LVC,List.length_map,List.length_append,io,List.length_replicate];omega
theorem D2(x:BitVec 64)(n m:Nat)(v:BitVec 8)(h:n<768)(hm:m=n)(hv:v=lfB x n):(LVC x n).set m (U8 v)=LVC x (n+1):=by
 subst hm;subst hv;rw[LVC,LVC,nH,List.set_append_right _ _ (by rw[io];exact Nat.le_refl _),io,Nat.sub_self,show 768-m=(768-(m+1))+1 from by omega,List.replicate_succ,List.set_cons_zero]
 unfold LVB;rw[List.range_succ];simp only[List.map_append,List.map_cons,List.map_nil,List.append_assoc,List.cons_append,List.nil_append]
theorem FN(x:BitVec 64)(i k b:Nat)(hb:b<8):lfB x (32*i+8*k+b)=((mg x (BitVec.ofInt 64 ((32*i+8*k:Nat):Int)))>>>(8*b)).setWidth 8:=by
 unfold lfB;rw[show (32*i+8*k+b) % 8=b from by omega,show 32*i+8*k+b-b=32*i+8*k from by omega]
theorem BX(x:BitVec 64):LVC x 768=(LVB x 768).map U8:=by
 rw[LVC,Nat.sub_self,List.replicate_zero,List.append_nil]
def jN(bs:By)(i:Nat)(r:Rt):By:=bs.take (32*i)++r++bs.drop (32*i+32)
theorem iC{bs:By}{i:Nat}{r:Rt}(hr:r.length=32)(hi:32*i+32<=bs.length):(jN bs i r).length=bs.length:=by
 rw[jN,List.length_append,List.length_append,List.length_take,List.length_drop,hr];omega
theorem pH{bs:By}{i k:Nat}{r:Rt}(hr:r.length=32)(hi:32*i+32<=bs.length)(hk:k=32*i):lay k (r.map U8) (bs.map U8)=(jN bs i r).map U8:=by
 subst hk;rw[gU _ _ _ (by rw[List.length_map,List.length_map,hr];exact hi),List.length_map,hr,jN,List.map_append,List.map_append,List.map_take,List.map_drop]
def LVS(x:BitVec 64)(c20 c22 c23:Rt):By:=jN (jN (jN (LVB x 768) 20 c20) 22 c22) 23 c23
theorem lN{x:BitVec 64}{c20 c22 c23:Rt}(h0:c20.length=32)(h2:c22.length=32)(h3:c23.length=32):(LVS x c20 c22 c23).length=768:=by
 have l0:=io x 768;have l1:(jN (LVB x 768) 20 c20).length=768:=(iC h0 (by rw[l0];decide)).trans l0
 have l2:(jN (jN (LVB x 768) 20 c20) 22 c22).length=768:=(iC h2 (by rw[l1];decide)).trans l1
 exact (iC h3 (by rw[l2];decide)).trans l2
def mkF(f:Nat)(o:Oper):Bool:=match o.op with
 | .call c=>match c.callee with
  | .value (.func g)=>Nat.beq g f
  |_=>false
 |_=>false
theorem qP(c:Cn)(q:BitVec 64)(fin:Rt)(hfl:fin.length=32)(n:Nat)(hz:c.cf.z=(n:Int))(hn:n<=512)(hnK:c.nK<=450000)(hnS:c.nS<=450000)(hnA:c.ats.length<=450000)(hmn: ∀m∈c.ms,m.ks.length=n)(w:World)(hw:Gt w)(hch:ChAt w c):CLS 33 [pnt c.bc,U64 q,.agg (fin.map U8).toArray].toArray w (λe w'=> ∃b d m1 m2,e=.returned (.slice (spt b) 24 24)/\MM c.own w w'/\ChAt w' d/\Ext w (2*(n+1)) c d/\(∀m∈d.ms,m.ks.length=n)/\cz d.ats d.ms (c.cf.pe q)=some m1/\cz d.ats d.ms (c.cf.pe q+1#64)=some m2/\OwnB w' b ((LVS (c.sd+q) (P2 (nR q) fin) (m1.rt n) (m2.rt n)).map U8) 27/\w.heap.size<=b/\¬d.own b/\∀x y,cz c.ats c.ms (c.cf.pe q)=some x->cz c.ats c.ms (c.cf.pe q+1#64)=some y->Grow w w'/\d=c):=by
 have hGF:BOk Gt (pl w):=gt_low.plain hw;obtain ⟨xx,hxx⟩: ∃x,c.sd+q=x:=⟨_,rfl⟩;obtain ⟨pq,hpq⟩: ∃x,c.cf.pe q=x:=⟨_,rfl⟩;refine Hqd func33 O hGF<|Xp<|Bx 5 hGF O<|λb5=>Asg O<|aa<|Xp<|gS (l:=24) (m:=24) (c:=(List.replicate (32*24) 0#8).map U8) 12 hGF O O (Nat.le_refl _) underlying86 tiR ⟨aC,aC,aC⟩ (pG _) O O<|?_;intro b12;rw[show (List.replicate (32*24) 0#8).map U8=LVC xx (32*0)from O];refine Asg O<|aa<|ah<|Xp<|Asg O<|aa<|ar<|bS (ι:={i:Nat // i<=24}) (λx=>[(0,pnt c.bc),(1,U64 q),(5,pnt b5),(7,.slice (spt b12) 24 24),(8,I (x.1:Int))]) (λx=>[(12,b12,LVC xx (32*x.1),27),(5,b5,fin.map U8,27)]) (λx=>24-x.1) ⟨0,Nat.zero_le _⟩ hGF trv trv<|?_;rintro ⟨i,hi⟩;dsimp only;refine ah<|Xp<|Mv O<|Bnr O O (λ_=>aI _ _ _)<|aa<|?_;refine co O (λhc=> ?_) (λhc=> ?_)
 ·have ilt:i<24:=(by simp at hc;omega);clear hc
  refine aw<|ah<|ar<|Xp<|Asg O<|aa<|ar<|bS (ι:={i:Nat // i<=4}) (λx=>[(0,pnt c.bc),(1,U64 q),(5,pnt b5),(7,.slice (spt b12) 24 24),(8,I (i:Int)),(9,I ((8*x.1:Nat):Int))]) (λx=>[(12,b12,LVC xx (32*i+8*x.1),27),(5,b5,fin.map U8,27)]) (λx=>4-x.1) ⟨0,Nat.zero_le _⟩ hGF trv trv<|?_;rintro ⟨k,hk⟩;dsimp only;refine ah<|Xp<|Mv O<|Bnr O O (λ_=>aI _ _ _)<|aa<|?_;refine co O (λhc=> ?_) (λhc=> ?_)
  ·have klt:k<4:=(by simp at hc;omega);clear hc
   refine aw<|ah<|ar<|Xp<|Mv O<|aW O O O<|Fa 41 O underlying61 O sizeOf22<|aQ (v:=U64 c.sd) O isAgg22 (λw' h=>((hch.grow (ae h)).oc.cell 41).trans (Cn.at41 hch.cf)) O O<|Mv O<|Bnr (v:=U64 xx) O O (λ_=>(aM _ _ _).trans (by rw[hxx]))<|Mv O<|Bnr (v:=I (32*(i:Int))) O O (λ_=>bQ _ _ _ aG)<|Mv O<|Bnr (v:=I ((32*i+8*k:Nat):Int)) O O (λ_=>(az _ _ _ aG).trans (by rw[show 32*(i:Int)+((8*k:Nat):Int)=((32*i+8*k:Nat):Int)from by omega]))<|bH O O (λ_=>dq underlying3 underlying22 _) O O<|Ca O (qj _ _)<|?_
   obtain ⟨y,hy⟩: ∃y,mg xx (BitVec.ofInt 64 ((32*i+8*k:Nat):Int))=y:=⟨_,rfl⟩;rw[hy];refine Asg O<|aa<|Xp<|Asg O<|aa<|ar<|bS (ι:={i:Nat // i<=8}) (λx=>[(0,pnt c.bc),(1,U64 q),(5,pnt b5),(7,.slice (spt b12) 24 24),(8,I (i:Int)),(9,I ((8*k:Nat):Int)),(10,U64 y),(11,I (x.1:Int))]) (λx=>[(12,b12,LVC xx (32*i+8*k+x.1),27),(5,b5,fin.map U8,27)]) (λx=>8-x.1) ⟨0,Nat.zero_le _⟩ hGF trv trv<|?_;rintro ⟨b,hb⟩;dsimp only;refine ah<|Xp<|Mv O<|Bnr O O (λ_=>aI _ _ _)<|aa<|?_;refine co O (λhc=> ?_) (λhc=> ?_)
   ·have blt:b<8:=(by simp at hc;omega);clear hc
    refine aw<|ah<|ar<|Xe []<|Mv O<|Mv O<|Mv O<|Mv O<|Bnr (v:=I ((8*k+b:Nat):Int)) O O (λ_=>(az _ _ _ aG).trans aE)<|Mv O<|Mv O<|Bnr (v:=I (8*(b:Int))) O O (λ_=>bQ _ _ _ aG)<|Bnr (v:=U64 (y>>>(8*b))) O O (λ_=>Id y b _ _)<|bH O O (λ_=>bZ underlying22 underlying5 _) O O<|iG (s:=32) i O O underlying86 sizeOf27 O ilt O O<|kW (8*k+b) O O underlying27 sizeOf5 O om O O<|cL 12 hGF O O O sizeOf5 O (by rw[Cp _ _ om];omega) O<|?_
    rw[D2 xx (32*i+8*k+b) _ _ om om (by rw[FN _ _ _ _ blt,hy])]
    refine aa<|Xq<|Mv O<|Bnr (v:=I (((b+1:Nat):Int))) O O (λ_=>(az _ _ _ aG).trans aE)<|Asg O<|aa<|?_
    repeat (refine bg ?_)
    exact aV<|⟨rfl,⟨b+1,blt⟩,_,by show 8-(b+1)<8-b;omega,rfl,trv,trv⟩
   ·obtain rfl:b=8:=(by simp at hc;omega);clear hc;rw[show 32*i+8*k+8=32*i+8*(k+1)from by omega]
    refine bj<|Xq<|Mv O<|Bnr (v:=I ((8*(k+1):Nat):Int)) O O (λ_=>(az _ _ _ aG).trans aE)<|Asg O<|aa<|?_
    repeat (refine bg ?_)
    exact aV<|⟨rfl,⟨k+1,klt⟩,_,by show 4-(k+1)<4-k;omega,rfl,trv,trv⟩
  ·obtain rfl:k=4:=(by simp at hc;omega);clear hc;rw[show 32*i+8*4=32*(i+1)from by omega]
   refine bj<|Xq<|Mv O<|Bnr (v:=I (((i+1:Nat):Int))) O O (λ_=>(az _ _ _ aG).trans aE)<|Asg O<|aa<|?_
   repeat (refine bg ?_)
   exact aV<|⟨rfl,⟨i+1,ilt⟩,_,by show 24-(i+1)<24-i;omega,rfl,trv,trv⟩
 ·obtain rfl:i=24:=(by simp at hc;omega);clear hc;rw[show 32*24=768 from O,BX]
  refine bj<|Xd []<|Mv O<|Mv O<|aW O O O<|Fa 1 O underlying61 O sizeOf47<|Fa 1 O underlying47 O sizeOf45<|aQ (v:=pnt c.bm) O isAgg45 (λw' h=>(hch.grow (ae h)).oc.cell 1) O O<|Mv O<|Cc O ent75 (λw' hw' hG=>mR q w' hG)<|?_;rw[show dZ (le8 q 8)=nR q from O];obtain ⟨ck0,hck⟩: ∃x,nR q=x:=⟨_,rfl⟩;have hckl:ck0.length=32:=by rw[<-hck];exact mM q
  rw[hck];refine aq 5 O O isAgg27 sizeOf27 (by rw[List.length_map];exact hfl) O O<|Cc O ent74 (λw' hw' hG=>j2 c.bm ck0 fin hckl hfl w' hG (hch.mkr.grow (ae hw')))<|?_
  obtain ⟨p20,hp20⟩: ∃x,P2 ck0 fin=x:=⟨_,rfl⟩;have hpl:p20.length=32:=by rw[<-hp20];exact cZ _ _
  rw[hp20];refine iG (s:=32) 20 O O underlying86 sizeOf27 O aC O O<|fM 12 hGF O O O sizeOf27 (by rw[List.length_map];exact hpl) (bp _) (by rw[List.length_map,List.length_map,hpl,io];decide) O<|?_
  rw[pH (i:=20) hpl (by rw[io];decide) O]
  obtain ⟨bs1,hbs1⟩: ∃x,jN (LVB xx 768) 20 p20=x:=⟨_,rfl⟩;have hbs1l:bs1.length=768:=by rw[<-hbs1,iC hpl (by rw[io];decide)];exact io _ _
  rw[hbs1];refine aa ?_;refine iJ gt_low (λw1 hC1 gw1=> ?_);have hG1:Grow w w1:=ae hC1;have z12:w.heap.size<=b12:=(hC1.own 12 _ _ _ O).2.elim id False.elim;have o12:=(hC1.own 12 _ _ _ O).1;have ch1:=hch.grow hG1;have n12: ¬c.own b12:=λx=>absurd (hch.lt _ x) (Nat.not_lt.2 z12);have hGF1:=gt_low.plain gw1;have hz0:=gt_low.size w hw;clear hC1;have mm1:MM c.own w w1:=aY hG1;refine gP (E:=EE [29]) (λX=>X=λw'=>w'.cell? ⟨c.bc,1,none⟩=some (pnt c.bm)) (mkF 29) (rkB [64]) [0,1,2,3,4,5,6,7,8,9,10,11,12] da O kr kr kr<|cm O O<|Mv O<|aa<|cm O O<|Mv O<|aa<|cm O O<|aW O O O<|aa<|cm O O<|Fa 1 O underlying61 O sizeOf47<|aa<|lz (X:=λw'=>w'.cell? ⟨c.bc,1,none⟩=some (pnt c.bm)) O (λw' h=>(ch1.grow (ae h)).oc.cell 1) (λ_=>rfl)<|bx (cs:=[pnt c.bm]) O isAgg47 sizeOf47 O (λw' h j v hv=>match j,hv with|0,hv=>by cases hv;exact h|j+1,hv=>by simp at hv) O O<|aa<|cm O O<|Mv O<|aa<|cm O O<|Mv O<|aa<|cm O O<|Mv O<|aa<|cm O O<|Cc O ent30 (λw' hw' hG=>by have h:=uK c q w' hG (ch1.grow (ae hw'));skip;exact h)<|?_
  rw[hpq];refine aa<|gi O<|?_;refine fg gt_low (M:=c.own) ch1.low O O ent29 O O hGF1 (Q:=λw1 w2 v=> ∃m d,v=.agg m.cs.toArray/\ChAt w2 d/\Ext w1 (n+1) c d/\cz d.ats d.ms pq=some m/\(∀m∈d.ms,m.ks.length=n)/\∀x,cz c.ats c.ms pq=some x->Grow w1 w2/\d=c) (λw1 h1 g1=>by have h:=mI c pq n (hz) hn om om om hmn w1 g1 (ch1.grow h1);skip;exact h.mono λe w2 ⟨m,d,he,hm,hc,hs,hg,hl⟩=>⟨_,he,hm,m,d,rfl,hc,hs,hg,hl⟩) (λw2a wa v g12a hm2 ga hq=> ?_)
  obtain ⟨ma,ca,rfl,cha,exa0,gca,hla,kna⟩:=hq;have hGFa:=gt_low.plain ga;have o12a:=hm2.own (o12.grow g12a) n12;have n12a: ¬ca.own b12:=λx=>(exa0.sub _ x).elim n12 (λh=>absurd (o12.grow g12a).lt (Nat.not_lt.2 h));have sza:w.heap.size<=w2a.heap.size:=Nat.le_trans mm1.size g12a.size;have exa:Ext w (n+1) c ca:=((Ext.refl w c).trans exa0 sza).le om;have mma:MM c.own w wa:=(mm1.trans (aY g12a)).trans hm2;have hkaa: ∀m∈ca.ms,∀k,Of m.ka k->k≠b12:=λm hm k hk e=>(exa0.key m hm).elim (λh1=>by have:=((hch.ks m h1).2.2 k hk).2;omega) (λh1=>by have:=h1 k hk;have h3:=(o12.grow g12a).lt;omega)
  have bma:ca.bm=c.bm:=exa.bm;have bca:ca.bc=c.bc:=exa.bc;have hmka:iN wa c.bm:=by have:=cha.mkr;rw[bma]at this;exact this
  obtain ⟨hoka,hrwa,_⟩:=cha.ks ma (iB _ _ gca);have hlna:=hla ma (iB _ _ gca);refine aa ?_;refine ⟨λ_ X hX _=>by subst hX;exact λw' h=>by have:=(cha.grow (ae h)).oc.cell 1;rw[bca]at this;rw[<-bma];exact this, ?_⟩
  refine cm O O<|Cc O ent46 (λw' hw' hG=>qq c.bm ma hoka om w' hG (hmka.grow (ae hw')) (hrwa.grow (ae hw')))<|?_;rw[hlna];obtain ⟨ra,hra⟩: ∃x,ma.rt n=x:=⟨_,rfl⟩;have hral:ra.length=32:=by rw[<-hra];exact Co.rt_len _ _
  rw[hra];refine aa<|cm O O<|iG (s:=32) 22 O O underlying86 sizeOf27 O aC O O<|aa<|gi O<|?_;refine fD gt_low (λw' h=>hGFa.g _ _ _ h) (λw' h=>o12a.grow (ae h)) om O O sizeOf27 (by rw[List.length_map];exact hral) (bp _) (by rw[List.length_map,List.length_map,hral,hbs1l];decide) O (λwza wya hCz gya mza oza=> ?_)
  have hGza:Grow wa wza:=ae hCz;have hGFya:=gt_low.plain gya;rw[pH (i:=22) hral (by rw[hbs1l];decide) O]at oza
  have chya:=(cha.grow hGza).mm mza (λk hk e=>n12a (e▸hk)) (λm hm k hk e=>hkaa m hm k hk e) (λe=>by have h1:=hch.mkr.lt;have h2:c.bm=b12:=bma.symm.trans e;omega)
  have mmya:MM c.own w wya:=(mma.trans (aY hGza)).trans' mza (λk hk hlt=>om);obtain ⟨bs2,hbs2⟩: ∃x,jN bs1 22 ra=x:=⟨_,rfl⟩;have hbs2l:bs2.length=768:=by rw[<-hbs2,iC hral (by rw[hbs1l];decide)];exact hbs1l
  rw[hbs2]at oza;refine aa ?_;refine ⟨λh=>(by cases h), ?_⟩
  refine ik<|gP (E:=EE [29]) (λX=>X=λw'=>w'.cell? ⟨c.bc,1,none⟩=some (pnt c.bm)) (mkF 29) (rkB [76]) [0,1,2,3,4,5,6,7,8,9,10,11,12,13] da O kr kr kr<|cm O O<|Mv O<|aa<|cm O O<|Mv O<|aa<|cm O O<|aW O O O<|aa<|cm O O<|Fa 1 O underlying61 O sizeOf47<|aa<|lz (X:=λw'=>w'.cell? ⟨c.bc,1,none⟩=some (pnt c.bm)) O (λw' h=>(by have:=(chya.grow (ae h)).oc.cell 1;rw[bca]at this;rw[<-bma];exact this)) (λ_=>rfl)<|bx (cs:=[pnt c.bm]) O isAgg47 sizeOf47 O (λw' h j v hv=>match j,hv with|0,hv=>by cases hv;exact h|j+1,hv=>by simp at hv) O O<|aa<|cm O O<|Mv O<|aa<|cm O O<|Mv O<|aa<|cm O O<|Mv O<|aa<|cm O O<|Cc O ent30 (λw' hw' hG=>by have h:=uK ca q w' hG (chya.grow (ae hw'));rw[bca]at h;exact h)<|?_
  rw[exa.cf,hpq];refine aa<|cm O O<|Bnr (v:=U64 (pq+1#64)) O O (λ_=>aM _ _ _)<|aa<|gi O<|?_;refine fg gt_low (M:=ca.own) chya.low O O ent29 O O hGFya (Q:=λw1 w2 v=> ∃m d,v=.agg m.cs.toArray/\ChAt w2 d/\Ext w1 (n+1) ca d/\cz d.ats d.ms (pq+1#64)=some m/\(∀m∈d.ms,m.ks.length=n)/\∀x,cz ca.ats ca.ms (pq+1#64)=some x->Grow w1 w2/\d=ca) (λw1 h1 g1=>by have h:=mI ca (pq+1#64) n (by rw[exa.cf];exact hz) hn (by have:=exa.nK;have:=exa.nS;have:=exa.nA;omega) (by have:=exa.nK;have:=exa.nS;have:=exa.nA;omega) (by have:=exa.nK;have:=exa.nS;have:=exa.nA;omega) hla w1 g1 (chya.grow h1);rw[bca]at h;exact h.mono λe w2 ⟨m,d,he,hm,hc,hs,hg,hl⟩=>⟨_,he,hm,m,d,rfl,hc,hs,hg,hl⟩) (λw2b wb v g12b hm2 gb hq=> ?_)
  obtain ⟨mb,cb,rfl,chb,exb0,gcb,hlb,knb⟩:=hq;have hGFb:=gt_low.plain gb;have o12b:=hm2.own (oza.grow g12b) n12a;have n12b: ¬cb.own b12:=λx=>(exb0.sub _ x).elim n12a (λh=>absurd (oza.grow g12b).lt (Nat.not_lt.2 h));have szb:w.heap.size<=w2b.heap.size:=Nat.le_trans mmya.size g12b.size;have exb:Ext w (2*(n+1)) c cb:=(exa.trans exb0 szb).le om;have mmb:MM c.own w wb:=(mmya.trans (aY g12b)).trans' hm2 (λk hk hlt=>(exa.sub k hk).elim id (λh=>absurd hlt (Nat.not_lt.2 h)));have hkab: ∀m∈cb.ms,∀k,Of m.ka k->k≠b12:=λm hm k hk e=>(exb0.key m hm).elim (λh1=>hkaa m h1 k hk e) (λh1=>by have:=h1 k hk;have h3:=(oza.grow g12b).lt;omega)
  have bmb:cb.bm=c.bm:=exb.bm;have bcb:cb.bc=c.bc:=exb.bc;have hmkb:iN wb c.bm:=by have:=chb.mkr;rw[bmb]at this;exact this
  obtain ⟨hokb,hrwb,_⟩:=chb.ks mb (iB _ _ gcb);have hlnb:=hlb mb (iB _ _ gcb);refine aa ?_;refine ⟨λ_ X hX _=>by subst hX;exact λw' h=>by have:=(chb.grow (ae h)).oc.cell 1;rw[bcb]at this;rw[<-bmb];exact this, ?_⟩
  refine cm O O<|Cc O ent46 (λw' hw' hG=>qq c.bm mb hokb om w' hG (hmkb.grow (ae hw')) (hrwb.grow (ae hw')))<|?_;rw[hlnb];obtain ⟨rb,hrb⟩: ∃x,mb.rt n=x:=⟨_,rfl⟩;have hrbl:rb.length=32:=by rw[<-hrb];exact Co.rt_len _ _
  rw[hrb];refine aa<|cm O O<|iG (s:=32) 23 O O underlying86 sizeOf27 O aC O O<|aa<|gi O<|?_;refine fD gt_low (λw' h=>hGFb.g _ _ _ h) (λw' h=>o12b.grow (ae h)) om O O sizeOf27 (by rw[List.length_map];exact hrbl) (bp _) (by rw[List.length_map,List.length_map,hrbl,hbs2l];decide) O (λwzb wyb hCz gyb mzb ozb=> ?_)
  have hGzb:Grow wb wzb:=ae hCz;have hGFyb:=gt_low.plain gyb;rw[pH (i:=23) hrbl (by rw[hbs2l];decide) O]at ozb
  have chyb:=(chb.grow hGzb).mm mzb (λk hk e=>n12b (e▸hk)) (λm hm k hk e=>hkab m hm k hk e) (λe=>by have h1:=hch.mkr.lt;have h2:c.bm=b12:=bmb.symm.trans e;omega)
  have mmyb:MM c.own w wyb:=(mmb.trans (aY hGzb)).trans' mzb (λk hk hlt=>om);refine aa ?_;refine ⟨λh=>(by cases h), ?_⟩
  refine ik<|Xp<|Mv O<|Asg O<|aa<|ao<|Rr<|?_;refine au O O (λw' hw'=>⟨b12,cb,ma,mb,rfl,mmyb.trans (aY (ae hw')),chyb.grow (ae hw'),exb,hlb, ?_, ?_, ?_,z12,n12b, ?_⟩)
  ·exact exb0.old _ _ gca
  ·exact gcb
  ·have:=ozb.grow (ae hw');rw[<-hbs2,<-hbs1]at this;rw[hra,hrb,hxx];unfold LVS;exact this
  ·intro x y hx hy
   obtain ⟨ga1,ea⟩:=kna x hx;obtain ⟨gb1,eb⟩:=knb y (by rw[ea];exact hy)
   have q1:Grow w wya:=mza.grow0 (hG1.trans (g12a.trans (ga1.trans hGza))) (λk hk=>om);have q2:Grow w wyb:=mzb.grow0 (q1.trans (g12b.trans (gb1.trans hGzb))) (λk hk=>om);exact ⟨q2.trans (ae hw'),eb.trans ea⟩
theorem xv(c:Cn)(q:BitVec 64)(fin:Rt)(hfl:fin.length=32)(n:Nat)(m1 m2:Co)(h1:cz c.ats c.ms (c.cf.pe q)=some m1)(h2:cz c.ats c.ms (c.cf.pe q+1#64)=some m2)(hz:c.cf.z=(n:Int))(hn:n<=512)(hnK:c.nK<=450000)(hnS:c.nS<=450000)(hnA:c.ats.length<=450000)(hmn: ∀m∈c.ms,m.ks.length=n)(w:World)(hw:Gt w)(hch:ChAt w c):CLS 33 [pnt c.bc,U64 q,.agg (fin.map U8).toArray].toArray w (λe w'=> ∃b,e=.returned (.slice (spt b) 24 24)/\Grow w w'/\w.heap.size<=b/\OwnB w' b ((LVS (c.sd+q) (P2 (nR q) fin) (m1.rt n) (m2.rt n)).map U8) 27):=
 (qP c q fin hfl n hz hn hnK hnS hnA hmn w hw hch).mono λe w' ⟨b,d,x1,x2,he,_,_,_,_,k1,k2,ho,hz',_,hk⟩=>by
  obtain ⟨g,rfl⟩:=hk m1 m2 h1 h2;rw[h1]at k1;rw[h2]at k2
  cases k1
  cases k2
  exact ⟨b,he,g,hz',ho⟩
end
section
open Go.RowKit
open Sh
theorem zC(w:World):(zeroValue 30).run prog w=.ok (.agg (Hd.cs ⟨0#64,0#64,Z0,Z0,Z0⟩).toArray) w:=(zeroValue30 w).trans aE
theorem bldQ(s p:BitVec 64)(w:World):(Instr.build 30 #[(0,U64 s),(1,U64 p)]).run prog w=.ok (.agg (Hd.cs ⟨s,p,Z0,Z0,Z0⟩).toArray) w:=cU (c:=Hd.cs ⟨0#64,0#64,Z0,Z0,Z0⟩) zC underlying30 (ps:= #[(0,1),(1,1),(2,32),(34,32),(66,32)]) (λw=>by simp[sizeOf22,sizeOf28]) [(0,U64 s),(1,U64 p)] O w
theorem AE(w:World):(Instr.build 30 #[]).run prog w=.ok (.agg (Hd.cs ⟨0#64,0#64,Z0,Z0,Z0⟩).toArray) w:=cU (c:=Hd.cs ⟨0#64,0#64,Z0,Z0,Z0⟩) zC underlying30 (ps:= #[(0,1),(1,1),(2,32),(34,32),(66,32)]) (λw=>by simp[sizeOf22,sizeOf28]) [] O w
theorem uv(w:World):(Instr.build 27 #[]).run prog w=.ok (.agg (Z0.map U8).toArray) w:=by
 simp[Instr.build,run_underlying underlying27,sizeOf5,Value.cells,Instr.fill];rfl
def Hd.fin(h:Hd):Rt:=if h.s=0#64 then Z0 else h.rt
theorem Kl{h:Hd}(q:(h.s==0#64)=true):h.fin=Z0:=by unfold Hd.fin;rw[if_pos (beq_iff_eq.1 q)]
theorem Ju{h:Hd}(q:(h.s==0#64)=false):h.fin=h.rt:=by unfold Hd.fin;rw[if_neg (beq_eq_false_iff_ne.1 q)]
theorem Hd.fin_len{h:Hd}(k:h.Ok):h.fin.length=32:=by
 unfold Hd.fin;split
 ·rfl
 ·exact Hd.rt_len k
def Z31:By:=List.replicate 31 0#8
def STV(sd q:BitVec 64)(fin r1 r2:Rt):Rt:=tre P2 Z0 5 (dh (LVS (sd+q) (P2 (nR q) fin) r1 r2) 24)
def HDV(sd q:BitVec 64)(fin r1 r2:Rt):Hd:=⟨q,mg sd q % 1000#64,q.setWidth 8::Z31,STV sd q fin r1 r2,Z31++[(mg sd q).setWidth 8]⟩
theorem BM(s p:BitVec 64)(x:BitVec 8)(a:Rt)(ha:a.length=32):(Hd.cs ⟨s,p,a,Z0,Z0⟩).set 97 (U8 x)=Hd.cs ⟨s,p,a,Z0,Z31++[x]⟩:=by
 show U64 s::U64 p::((a.map U8++(Z0.map U8++Z0.map U8)).set 95 (U8 x))=U64 s::U64 p::(a.map U8++(Z0.map U8++(Z31++[x]).map U8));rw[List.set_append_right _ _ (by rw[List.length_map,ha];decide),List.length_map,ha]
 rfl
theorem rC{pre mid post x:List Value}{k:Nat}(hk:pre.length=k)(h:x.length=mid.length):lay k x (pre++(mid++post))=pre++(x++post):=by
 subst hk;rw[gU _ _ _ (by simp only[List.length_append];omega),List.take_left,List.append_assoc,h,<-List.append_assoc pre mid post,<-List.length_append,List.drop_left]
theorem GJ(s p:BitVec 64)(a b c t:Rt)(ha:a.length=32)(hb:b.length=32)(ht:t.length=32):lay 34 (t.map U8) (Hd.cs ⟨s,p,a,b,c⟩)=Hd.cs ⟨s,p,a,t,c⟩:=by
 have h:=rC (pre:=U64 s::U64 p::a.map U8) (mid:=b.map U8) (post:=c.map U8) (x:=t.map U8) (k:=34) (by simp[ha]) (by simp[hb,ht])
 exact h
theorem s6(c:Cn)(h:Hd)(hk:h.Ok)(w:World)(hw:Gt w)(hch:ChAt w c):CLS 66 [pnt c.bc,.agg h.cs.toArray].toArray w (λe w'=>e=.returned (.agg (h.fin.map U8).toArray)/\Grow w w'):=by
 refine Hf func66 O hw<|λhGF=>Xp<|Bx 3 hGF O<|λb3=>Al 4 hGF zv27<|λb4=>aa<|ah<|Xp<|Fa 0 O underlying30 O sizeOf22<|aU 3 O O (show h.cs[0]? =some (U64 h.s)from O) isAgg22 O O<|?_;rcases Bool.eq_false_or_eq_true (h.s==0#64)with hq|hq
 ·refine Bnb true O O (λ_=>bC _ h.s 0#64) (hq)<|aa<|aP O<|Xp<|ci (ps:=[]) (vs:=[]) (v:=.agg (Z0.map U8).toArray) O (λw=>uv w) O O<|ai 4 hGF O O O sizeOf27 (by rw[List.length_map];rfl) O (bp _) O<|aa<|ao<|Rr<|?_
  exact aF 4 O O O isAgg27 sizeOf27 (by rw[List.length_map];rfl) (λw' hw'=>⟨by rw[Kl hq],ae hw'⟩)
 ·refine Bnb false O O (λ_=>bC _ h.s 0#64) (hq)<|aa<|aH O<|aw<|Xd []<|Mv O<|aW O O O<|Fa 1 O underlying61 O sizeOf47<|bx (cs:=[pnt c.bm]) O isAgg47 sizeOf47 O (λw' h' j v hv=>match j,hv with|0,hv=>by cases hv;exact (hch.grow (ae h')).oc.cell 1|j+1,hv=>by simp at hv) O O<|aq 3 O O isAgg30 sizeOf30 (Hd.len hk) O O<|Cc O ent34 (λw' hw' hG=>qt c.bm h hk w' hG (hch.mkr.grow (ae hw')))<|ai 4 hGF O O O sizeOf27 (by rw[List.length_map];exact Hd.rt_len hk) O (bp _) O<|aa<|ao<|Rr<|?_
  exact aF 4 O O O isAgg27 sizeOf27 (by rw[List.length_map];exact Hd.rt_len hk) (λw' hw'=>⟨by rw[Ju hq],ae hw'⟩)
theorem Hd.one(h:Hd):h.cs.all (·.oneCell')=true:=by
 simp only[Hd.cs,List.all_cons,List.all_append,bp,Bool.and_true];rfl
theorem qm(c:Cn)(q:BitVec 64)(fh:Hd)(hfk:fh.Ok)(n:Nat)(hz:c.cf.z=(n:Int))(hn:n<=512)(hnK:c.nK<=450000)(hnS:c.nS<=450000)(hnA:c.ats.length<=450000)(hmn: ∀m∈c.ms,m.ks.length=n)(w:World)(hw:Gt w)(hch:ChAt w c):CLS 28 [pnt c.bc,U64 q,.agg fh.cs.toArray].toArray w (λe w'=> ∃d m1 m2,e=.returned (.agg (HDV c.sd q fh.fin (m1.rt n) (m2.rt n)).cs.toArray)/\MM c.own w w'/\ChAt w' d/\Ext w (2*(n+1)) c d/\(∀m∈d.ms,m.ks.length=n)/\cz d.ats d.ms (c.cf.pe q)=some m1/\cz d.ats d.ms (c.cf.pe q+1#64)=some m2/\∀x y,cz c.ats c.ms (c.cf.pe q)=some x->cz c.ats c.ms (c.cf.pe q+1#64)=some y->Grow w w'/\d=c):=by
 have hGF:BOk Gt (pl w):=gt_low.plain hw;obtain ⟨mx,hmx⟩: ∃x,mg c.sd q=x:=⟨_,rfl⟩;refine Hqd func28 O hGF<|Xp<|Bx 5 hGF O<|λb5=>Al 6 hGF zC<|λb6=>aa<|Xp<|Mv O<|Mv O<|aW O O O<|Fa 41 O underlying61 O sizeOf22<|aQ (v:=U64 c.sd) O isAgg22 (λw' h=>((hch.grow (ae h)).oc.cell 41).trans (Cn.at41 hch.cf)) O O<|Mv O<|Ca O (qj _ _)<|?_;rw[hmx];refine Bnr (v:=U64 (mx % 1000#64)) O O (λ_=>fP _ _ _ aC)<|ci (ps:=[(0,.tmp 8),(1,.tmp 15)]) (vs:=[U64 q,U64 (mx % 1000#64)]) (v:=.agg (Hd.cs ⟨q,mx % 1000#64,Z0,Z0,Z0⟩).toArray) O (λw=>bldQ _ _ w) O O<|Al 7 hGF zC<|λb7=>ai 7 hGF O O O sizeOf30 O O O O<|aa<|Xp<|Mv O<|bH O O (λ_=>bZ underlying22 underlying5 _) O O<|Mv O<|aW O O O<|Fa 41 O underlying61 O sizeOf22<|aQ (v:=U64 c.sd) O isAgg22 (λw' h=>((hch.grow (ae h)).oc.cell 41).trans (Cn.at41 hch.cf)) O O<|Mv O<|Ca O (qj _ _)<|?_;rw[hmx];refine bH O O (λ_=>bZ underlying22 underlying5 _) O O<|Fa 2 O underlying30 O sizeOf28<|kW 0 O O underlying28 sizeOf5 O aC O O<|cL 7 hGF O O O sizeOf5 O (by rw[Hd.len ⟨rfl,rfl,rfl⟩];decide) O<|?_
 rw[show (Hd.cs ⟨q,mx % 1000#64,Z0,Z0,Z0⟩).set (2+0) (U8 (q.setWidth 8))=Hd.cs ⟨q,mx % 1000#64,q.setWidth 8::Z31,Z0,Z0⟩from O];refine Fa 66 O underlying30 O sizeOf28<|kW 31 O O underlying28 sizeOf5 O aC O O<|cL 7 hGF O O O sizeOf5 O (by rw[Hd.len ⟨rfl,rfl,rfl⟩];decide) O<|?_
 rw[show (Hd.cs ⟨q,mx % 1000#64,q.setWidth 8::Z31,Z0,Z0⟩).set (66+31) (U8 (mx.setWidth 8))=Hd.cs ⟨q,mx % 1000#64,q.setWidth 8::Z31,Z0,Z31++[mx.setWidth 8]⟩from BM _ _ _ _ O];refine aa ?_;refine iJ gt_low (λw1 hC1 gw1=> ?_);have hG1:Grow w w1:=ae hC1;have z6:w.heap.size<=b6:=(hC1.own 6 _ _ _ O).2.elim id False.elim;have z7:w.heap.size<=b7:=(hC1.own 7 _ _ _ O).2.elim id False.elim;have o6:=(hC1.own 6 _ _ _ O).1;have o7:=(hC1.own 7 _ _ _ O).1;have o5:=(hC1.own 5 _ _ _ O).1;have hne:b6≠b7:=λe=>by subst e;exact absurd (hC1.inj 6 7 _ _ _ _ _ O O) aC
 have ch1:=hch.grow hG1;have n6: ¬c.own b6:=λx=>absurd (hch.lt _ x) (Nat.not_lt.2 z6);have n7: ¬c.own b7:=λx=>absurd (hch.lt _ x) (Nat.not_lt.2 z7);have hGF1:=gt_low.plain gw1;have hz0:=gt_low.size w hw;clear hC1;have mm1:MM c.own w w1:=aY hG1;refine gP (E:=EE [33]) (λX=>X=λw'=>w'.cell? ⟨c.bc,1,none⟩=some (pnt c.bm)) (mkF 33) (rkB [33]) [0,1,2,3,4,5,6,7,8,9,10,11,12] da O kr kr kr<|cm O O<|Mv O<|aa<|cm O O<|aW O O O<|aa<|cm O O<|Fa 1 O underlying61 O sizeOf47<|aa<|lz (X:=λw'=>w'.cell? ⟨c.bc,1,none⟩=some (pnt c.bm)) O (λw' h=>(ch1.grow (ae h)).oc.cell 1) (λ_=>rfl)<|bx (cs:=[pnt c.bm]) O isAgg47 sizeOf47 O (λw' h j v hv=>match j,hv with|0,hv=>by cases hv;exact h|j+1,hv=>by simp at hv) O O<|aa<|cm O O<|Mv O<|aa<|cm O O<|Mv O<|aa<|cm O O<|Mv O<|aa<|cm O O<|bx (cs:=fh.cs) O isAgg30 sizeOf30 (Hd.len hfk) (λw' h j v hv=>by have:=(o5.grow (ae h)).range j v hv;rwa [Addr.add_mid]) O O<|aa<|cm O O<|Cc O ent66 (λw' hw' hG=>s6 c fh hfk w' hG (ch1.grow (ae hw')))<|aa<|gi O<|?_
 refine fg gt_low (M:=c.own) ch1.low O O ent33 O O hGF1 (Q:=λw1 w2 v=> ∃b d m1 m2,v=.slice (spt b) 24 24/\ChAt w2 d/\Ext w1 (2*(n+1)) c d/\(∀m∈d.ms,m.ks.length=n)/\cz d.ats d.ms (c.cf.pe q)=some m1/\cz d.ats d.ms (c.cf.pe q+1#64)=some m2/\OwnB w2 b ((LVS (c.sd+q) (P2 (nR q) fh.fin) (m1.rt n) (m2.rt n)).map U8) 27/\w1.heap.size<=b/\¬d.own b/\∀x y,cz c.ats c.ms (c.cf.pe q)=some x->cz c.ats c.ms (c.cf.pe q+1#64)=some y->Grow w1 w2/\d=c) (λw1 h1 g1=>(qP c q fh.fin (Hd.fin_len hfk) n hz hn om om om hmn w1 g1 (ch1.grow h1)).mono λe w2 ⟨b,d,m1,m2,he,hm,hr⟩=>⟨_,he,hm,b,d,m1,m2,rfl,hr⟩) (λw2a wa v g12 hm2 ga hq=> ?_);obtain ⟨bl,ca,m1,m2,rfl,cha,exa0,hla,gca1,gca2,ol,zl,nl,kn⟩:=hq;have hGFa:=gt_low.plain ga;have o6a:=hm2.own (o6.grow g12) n6;have o7a:=hm2.own (o7.grow g12) n7;have l6:=(o6.grow g12).lt;have l7:=(o7.grow g12).lt;have n6a: ¬ca.own b6:=λx=>(exa0.sub _ x).elim n6 (λh=>absurd l6 (Nat.not_lt.2 h));have n7a: ¬ca.own b7:=λx=>(exa0.sub _ x).elim n7 (λh=>absurd l7 (Nat.not_lt.2 h));have sza:w.heap.size<=w2a.heap.size:=Nat.le_trans mm1.size g12.size;have exa:Ext w (2*(n+1)) c ca:=((Ext.refl w c).trans exa0 sza).le om;have mma:MM c.own w wa:=(mm1.trans (aY g12)).trans hm2;have hka: ∀m∈ca.ms,∀k,Of m.ka k->k≠b6/\k≠b7:=λm hm k hk=>(exa0.key m hm).elim (λh1=>by have:=((hch.ks m h1).2.2 k hk).2;omega) (λh1=>by have:=h1 k hk;omega)
 have bma:ca.bm=c.bm:=exa.bm;have bca:ca.bc=c.bc:=exa.bc;have hmka:iN wa c.bm:=by have:=cha.mkr;rw[bma]at this;exact this
 obtain ⟨bs,hbs⟩: ∃x,LVS (c.sd+q) (P2 (nR q) fh.fin) (m1.rt n) (m2.rt n)=x:=⟨_,rfl⟩;have hbl:bs.length=32*24:=by rw[<-hbs];exact lN (cZ _ _) (Co.rt_len _ _) (Co.rt_len _ _)
 rw[hbs]at ol;refine aa ?_;refine ⟨λ_ X hX _=>by subst hX;exact λw' h=>by have:=(cha.grow (ae h)).oc.cell 1;rw[bca]at this;rw[<-bma];exact this, ?_⟩
 refine cm O O<|Cc O ent65 (λw' hw' hG=>dE c.bm 5 aC (dh bs 24) (ed hbl) 24 (fN _ _) aC (spt bl) 24 (Nat.le_refl _) w' hG (hmka.grow (ae hw')) (ss hbl (BytesAt.range (ol.grow (ae hw')).range)))<|?_;obtain ⟨th,hth⟩: ∃x,tre P2 Z0 5 (dh bs 24)=x:=⟨_,rfl⟩;have htl:th.length=32:=by rw[<-hth];exact ct (ed hbl) 5
 rw[hth];refine aa<|cm O O<|Fa 34 O underlying30 O sizeOf28<|aa<|gi O<|?_;refine fD gt_low (λw' h=>hGFa.g _ _ _ h) (λw' h=>o7a.grow (ae h)) om O O sizeOf28 (by rw[List.length_map];exact htl) (bp _) (by rw[List.length_map,htl,Hd.len ⟨rfl,rfl,rfl⟩];decide) O (λwz wx hCz gx mz oz=> ?_)
 have hGz:Grow wa wz:=ae hCz;have hGFx:=gt_low.plain gx;rw[GJ _ _ _ _ _ _ O O htl]at oz;obtain ⟨hh,hhd⟩: ∃x:Hd,(⟨q,mx % 1000#64,q.setWidth 8::Z31,th,Z31++[mx.setWidth 8]⟩:Hd)=x:=⟨_,rfl⟩;have hhok:hh.Ok:=by rw[<-hhd];exact ⟨rfl,htl,rfl⟩
 have o7x:OwnB wx b7 hh.cs 30:=by rw[<-hhd];exact oz
 have o6x:=mz.own (o6a.grow hGz) hne;have chx:=(cha.grow hGz).mm mz (λk hk e=>n7a (e▸hk)) (λm hm k hk e=>(hka m hm k hk).2 e) (λe=>by have h1:=hch.mkr.lt;have h2:c.bm=b7:=bma.symm.trans e;omega)
 have mmx:MM c.own w wx:=(mma.trans (aY hGz)).trans' mz (λk hk hlt=>om);refine aa ?_;refine ⟨λh=>(by cases h), ?_⟩
 refine ik<|Xp<|bx (cs:=hh.cs) O isAgg30 sizeOf30 (Hd.len hhok) (λw' h j v hv=>by have:=(o7x.grow (ae h)).range j v hv;rwa [Addr.add_mid]) O O<|?_
 refine fD gt_low (λw' h=>hGFx.g _ _ _ h) (λw' h=>o6x.grow (ae h)) om O O sizeOf30 (Hd.len hhok) (Hd.one _) (by rw[Hd.len hhok];decide) O (λwu wv hCu gv mv ov=> ?_)
 have hGu:Grow wx wu:=ae hCu;have hGFv:=gt_low.plain gv;rw[dg _ _ (by rw[Hd.len hhok];rfl)]at ov
 have chv:=(chx.grow hGu).mm mv (λk hk e=>n6a (e▸hk)) (λm hm k hk e=>(hka m hm k hk).1 e) (λe=>by have h1:=hch.mkr.lt;have h2:c.bm=b6:=bma.symm.trans e;omega)
 have mmv:MM c.own w wv:=(mmx.trans (aY hGu)).trans' mv (λk hk hlt=>om);refine aa<|ao<|Rr<|?_;refine dU O O isAgg30 sizeOf30 (Hd.len hhok) (λw' h=>(ov.grow (ae h)).range) (λw' h=>⟨ca,m1,m2, ?_,mmv.trans (aY (ae h)),chv.grow (ae h),exa,hla,gca1,gca2,λx y hx hy=> ?_⟩);rw[show hh=HDV c.sd q fh.fin (m1.rt n) (m2.rt n)from by rw[<-hhd,<-hth,<-hbs,<-hmx];rfl]
 obtain ⟨g1,e1⟩:=kn x y hx hy;have q1:Grow w wx:=mz.grow0 (hG1.trans (g12.trans (g1.trans hGz))) (λk hk=>om);have q2:Grow w wv:=mv.grow0 (q1.trans hGu) (λk hk=>om);exact ⟨q2.trans (ae h),e1⟩
end
section
open Go.RowKit
open Sh
theorem Ho(op:BinOp)(x y:Operand)(xs ys:Array Value)(w:World):(eqGuard op 27 x y (.agg xs) (.agg ys)).run prog w=.ok () w:=run_eqGuard_agg w op 27 x y xs ys kr
theorem G2(xs ys:L8)(h:xs.length=32)(h':ys.length=32)(w:World):(binOp .eql 27 (.agg (xs.map U8).toArray) (.agg (ys.map U8).toArray)).run prog w=.ok (.bool (decide (xs=ys))) w:=Cq underlying27 underlying5 sizeOf5 isAgg5 xs ys h h' w
theorem z0(x:BitVec 64)(i:Nat):(x>>>i &&& 1#64==1#64)=x.toNat.testBit i:=by
 rw[BitVec.testBit_toNat];have h:(x>>>i).getLsbD 0=x.getLsbD i:=aB;rw[<-h,BitVec.and_one_eq_setWidth_ofBool_getLsbD]
 cases (x>>>i).getLsbD 0<;>decide
theorem p6{i:Nat}(l:List Rt)(k:Nat)(v:Rt)(h:v.length=32):(fld P2 i k v l).length=32:=wo P2 (Q:=λx=>x.length=32) cZ l k v h
def vfy(leaf:Rt)(b:List Rt)(x:BitVec 64)(root:Rt):Bool:=decide (fld P2 x.toNat 0 leaf b=root) && (decide (64<=b.length)||x>>>b.length==0#64)
end
section
open Go.RowKit
open Sh
theorem mo{i:Nat}: ∀(d:Nat) (l:List Rt),AllR l->AllR (brF P2 Z0 d l i)
 |0,_,_=>λr hr=>by simp[brF]at hr
 |d+1,l,h=>by
  rw[brF]
  cases i.testBit d
  ·simp only[cond_false]
   intro r hr;rcases List.mem_append.1 hr with hr|hr
   ·exact mo d _ (h.take _) r hr
   ·rw[List.mem_singleton.1 hr];exact ct (h.drop _) d
  ·simp only[cond_true]
   intro r hr;rcases List.mem_append.1 hr with hr|hr
   ·exact mo d _ (h.drop _) r hr
   ·rw[List.mem_singleton.1 hr];exact ct (h.take _) d
theorem rX{e:Nat}{x:Rt}(hx:x.length=32)(t:L8):lay (0+32*e) (x.map U8) ((List.replicate (32*(e+1)) 0#8++t).map U8)=(List.replicate (32*e) 0#8++(x++t)).map U8:=by
 rw[gU _ _ _ (by simp;omega)]
 simp only[<-List.map_take,<-List.map_drop,<-List.map_append,List.length_map];congr 1;rw[List.take_append_of_le_length (by simp;omega),List.take_replicate,Nat.min_eq_left om,Nat.zero_add,List.append_assoc,hx,List.drop_append_of_le_length (by simp;omega),List.drop_replicate,show 32*(e+1)-(32*e+32)=0 from by omega]
 rfl
theorem all_cons{x:Rt}{l:List Rt}(hx:x.length=32)(hl:AllR l):AllR (x::l):=λr hr=>(List.mem_cons.1 hr).elim (λh=>h▸hx) (hl r)
theorem kJ(l:List Rt)(n:Nat):l.take (min l.length n)=l.take n:=by
 rcases Nat.le_total l.length n with h|h
 ·rw[Nat.min_eq_left h,List.take_of_length_le (Nat.le_refl _),List.take_of_length_le h]
 ·rw[Nat.min_eq_right h]
theorem ku(l:List Rt)(n:Nat):l.drop (min l.length n)=l.drop n:=by
 rcases Nat.le_total l.length n with h|h
 ·rw[Nat.min_eq_left h,List.drop_of_length_le (Nat.le_refl _),List.drop_of_length_le h]
 ·rw[Nat.min_eq_right h]
theorem wR{w:World}{B:Bs}{L:Hl}{n b D:Nat}{U:List Rt}(hU:AllR U)(hp:Hp B L w)(hl:lkB L n=some (b,(List.replicate (32*0) 0#8++U.flatten).map U8,27))(hd:U.length+0=D):SlW 27 32 w (spt b) D U.length (U.flatten.map U8):=by
 have h1:=cR U hU;refine .inr ⟨b,_,rfl,(hp.own n _ _ _ hl).1, ?_,om, ?_, ?_⟩
 ·rw[List.length_map,List.length_append,List.length_replicate,h1];omega
 ·rw[List.length_map,h1];omega
 ·rw[Nat.mul_zero,List.replicate_zero,List.nil_append,List.take_length]
structure BrV(w:World)(D:Nat)(l0:List Rt)(x:Nat) where
 (d:Nat) (lc U:List Rt) (a:Option Addr) (cap:Nat)
 h:brF P2 Z0 D l0 x=brF P2 Z0 d lc x++U
 hd:U.length+d=D
 hl:AllR lc
 hu:AllR U
 hn:lc.length<=1000000
 hc:lc.length<=cap
 hr:RtsAt w a lc
theorem u3(bm D:Nat)(hD:D<=31)(l:List Rt)(hl:AllR l)(hln:l.length<=1000000)(a:Option Addr)(cap:Nat)(hc:l.length<=cap)(x0:BitVec 64)(w:World)(hw:Gt w)(ho:iN w bm)(hr:RtsAt w a l):CLS 32 [.agg [pnt bm].toArray,.slice a l.length cap,I (D:Int),U64 x0].toArray w (λe w'=> ∃v,e=.returned v/\Grow w w'/\FrL w w' v (brF P2 Z0 D (l.take (2^D)) x0.toNat)):=by
 have hpD:=Nat.two_pow_pos D;refine Hf func32 O hw<|λhGF=>Xp<|Bx 4 hGF O<|λb4=>Asg O<|aa<|Xp<|Mv O<|uQ (z:=(D:Int)) O O (by split<;>omega) O O<|j4 (z:=(D:Int)) O O (by split<;>omega) O O<|Asg O<|aa<|ah<|Xp<|Mv O<|Bnb true O O (λ_=>aI _ _ _) (by simp;omega)<|Mv O<|Mv O<|bB O (λ_=>aO underlying86 _ _ _ _) O O<|Mv O<|Bnr (v:=I (((2^D:Nat):Int))) O O (λ_=>mZ _ D om _)<|?_
 rcases Nat.lt_or_ge (2^D) l.length with hD2|hD2
 ·have hlt:(l.take (2^D)).length=2^D:=by rw[List.length_take];omega
  refine Bnb true O O (λ_=>df _ _ _) (by rw[decide_eq_true_eq];omega)<|Pk O O O<|aa<|aP O<|Xq<|Mv O<|Mv O<|Bnr (v:=I (((2^D:Nat):Int))) O O (λ_=>mZ _ D om _)<|eB (l:=0) (h':=2^D) O underlying86 sizeOf27 O O ⟨Nat.zero_le _,om⟩ O O<|?_
  rw[qr,Nat.sub_zero,Nat.sub_zero];refine Asg O<|aa<|Xp<|Mv O<|gS (l:=D) (m:=D) (c:=(List.replicate (32*D) 0#8).map U8) 29 hGF O O (Nat.le_refl _) underlying86 tiR ⟨om,om,om⟩ (pG D) O O<|λb29=>Asg O<|aa<|ah<|Xp<|Mv O<|Bnr (v:=I (((D:Int)-1))) O O (λ_=>bu _ _ _ aG)<|Asg O<|aa<|ar<|bS (ι:=BrV w D (l.take (2^D)) x0.toNat) (λy=>[(1,.slice y.a y.lc.length y.cap),(3,U64 x0),(4,pnt b4),(9,.slice (spt b29) D D),(10,I ((y.d:Int)-1))]) (λy=>[(4,b4,[pnt bm],47),(29,b29,((List.replicate (32*y.d) 0#8++y.U.flatten).map U8),27)]) (λy=>y.d) ⟨D,l.take (2^D),[],a,cap,by rw[List.append_nil],aB,hl.take _,(λ_ h=>by simp at h),by rw[List.length_take];omega,by rw[List.length_take];omega,hr.take _⟩ hGF ⟨by show _=some (Value.slice a (l.take (2^D)).length cap);rw[hlt];rfl,rfl,rfl,rfl,rfl,trivial⟩ ⟨rfl,by show _=some (b29,(List.replicate (32*D) 0#8++[].flatten).map U8,27);rw[List.flatten_nil,List.append_nil];rfl,trivial⟩<|?_
  rintro ⟨d,lc,U,ac,cp,hbr,hdU,hlc,hUa,hnc,hcc,hrc⟩;dsimp only;refine ah<|Xp<|Mv O<|?_;rcases Nat.eq_zero_or_pos d with hd0|hd0
  ·subst hd0
   refine Bnb false O O (λ_=>cW _ _ _) (by rw[decide_eq_false_iff_not];omega)<|aa<|aH O<|bj<|Xp<|Mv O<|Asg O<|aa<|ao<|Rr<|?_
   exact au O O (λw' hw'=>⟨_,rfl,ae hw',by rw[show brF P2 Z0 D (l.take (2^D)) x0.toNat=U from hbr];exact ⟨some ⟨b29,0,none⟩,D,by rw[show U.length=D from hdU],wR (n:=29) hUa hw' O hdU,λad e=>by cases e;exact (hw'.own 29 _ _ _ O).2.elim id False.elim⟩⟩)
  ·obtain ⟨e,rfl⟩: ∃e,d=e+1:=⟨d-1,om⟩
   rw[show ((e+1:Nat):Int)-1=(e:Int)from by omega]
   have hpe:=Nat.two_pow_pos e;refine Bnb true O O (λ_=>cW _ _ _) (by rw[decide_eq_true_eq];omega)<|aa<|aP O<|aw<|ah<|ar<|Xp<|Mv O<|bB O (λ_=>aO underlying86 _ _ _ _) O O<|Asg O<|aa<|ah<|Xp<|Mv O<|Bnb true O O (λ_=>aI _ _ _) (by simp;omega)<|aa<|aP O<|Xq<|Mv O<|Mv O<|Bnr (v:=I (((2^e:Nat):Int))) O O (λ_=>mZ _ e om _)<|j4 (z:=(((min lc.length (2^e)):Nat):Int)) O O (by split<;>omega) O O<|Asg O<|aa<|Xp<|Mv O<|Mv O<|Bnr O O (λ_=>cF _ _ _ om)<|Bnr O O (λ_=>el _ _ _)<|?_
   cases hbit:x0.toNat.testBit e
   ·refine Bnb false O O (λ_=>bC _ _ _) (by rw[Int.toNat_natCast,z0];exact hbit)<|aa<|aH O<|Xd []<|Mv O<|Mv O<|aq 4 O O isAgg47 sizeOf47 O O O<|Mv O<|Mv O<|eB (l:=(min lc.length (2^e))) (h':=lc.length) O underlying86 sizeOf27 O O ⟨om,om⟩ O O<|?_
    rw[show (if cp=(min lc.length (2^e))then ac else ac.map (·.add ((min lc.length (2^e))*32)))=lY ac cp (min lc.length (2^e))from O]
    refine Mv O<|Cc O ent65 (λw' hw' hG=>dE bm e om (lc.drop (min lc.length (2^e))) (hlc.drop _) _ (by rw[List.length_drop]) om (lY ac cp (min lc.length (2^e))) (cp-(min lc.length (2^e))) om w' hG (ho.of_same ((ae hw').block _ ho.lt)) ((hrc.grow (ae hw')).drop om _))<|iG (s:=32) e O O underlying86 sizeOf27 O om O O<|gl 29 ((List.replicate (32*e) 0#8++(tre P2 Z0 e (lc.drop (min lc.length (2^e)))++U.flatten)).map U8) hGF O O O sizeOf27 (by rw[List.length_map];exact ct (hlc.drop _) e) (bp _) (by simp[ct (hlc.drop _) e];omega) (rX (ct (hlc.drop _) e) _) O<|aa<|Xq<|Mv O<|Mv O<|eB (l:=0) (h':=(min lc.length (2^e))) O underlying86 sizeOf27 O O ⟨Nat.zero_le _,om⟩ O O<|?_
    rw[qr,Nat.sub_zero,Nat.sub_zero];refine Asg O<|aa<|Xq<|Mv O<|Bnr (v:=I (((e:Int)-1))) O O (λ_=>bu _ _ _ aG)<|Asg O<|aa<|?_
    repeat (refine bg ?_)
    exact aV<|⟨rfl,⟨e,(lc.take (min lc.length (2^e))),tre P2 Z0 e (lc.drop (min lc.length (2^e)))::U,ac,cp,by rw[hbr,brF,hbit,cond_false,kJ,ku,List.append_assoc];rfl,by simp;omega,hlc.take _,all_cons (ct (hlc.drop _) e) hUa,by rw[List.length_take];omega,by rw[List.length_take];omega,hrc.take _⟩,_,by show e<e+1;omega,rfl,⟨by show _=some (Value.slice ac (lc.take (min lc.length (2^e))).length cp);rw[show (lc.take (min lc.length (2^e))).length=(min lc.length (2^e))from by rw[List.length_take];omega];rfl,rfl,rfl,rfl,rfl,trivial⟩,trv⟩
   ·refine Bnb true O O (λ_=>bC _ _ _) (by rw[Int.toNat_natCast,z0];exact hbit)<|aa<|aP O<|Xd []<|Mv O<|Mv O<|aq 4 O O isAgg47 sizeOf47 O O O<|Mv O<|Mv O<|eB (l:=0) (h':=(min lc.length (2^e))) O underlying86 sizeOf27 O O ⟨Nat.zero_le _,om⟩ O O<|?_
    rw[qr,Nat.sub_zero,Nat.sub_zero];refine Mv O<|Cc O ent65 (λw' hw' hG=>dE bm e om (lc.take (min lc.length (2^e))) (hlc.take _) _ (by rw[List.length_take];omega) om ac cp om w' hG (ho.of_same ((ae hw').block _ ho.lt)) ((hrc.grow (ae hw')).take _))<|iG (s:=32) e O O underlying86 sizeOf27 O om O O<|gl 29 ((List.replicate (32*e) 0#8++(tre P2 Z0 e (lc.take (min lc.length (2^e)))++U.flatten)).map U8) hGF O O O sizeOf27 (by rw[List.length_map];exact ct (hlc.take _) e) (bp _) (by simp[ct (hlc.take _) e];omega) (rX (ct (hlc.take _) e) _) O<|aa<|Xq<|Mv O<|Mv O<|eB (l:=(min lc.length (2^e))) (h':=lc.length) O underlying86 sizeOf27 O O ⟨om,om⟩ O O<|?_
    rw[show (if cp=(min lc.length (2^e))then ac else ac.map (·.add ((min lc.length (2^e))*32)))=lY ac cp (min lc.length (2^e))from O]
    refine Asg O<|aa<|Xq<|Mv O<|Bnr (v:=I (((e:Int)-1))) O O (λ_=>bu _ _ _ aG)<|Asg O<|aa<|?_
    repeat (refine bg ?_)
    exact aV<|⟨rfl,⟨e,(lc.drop (min lc.length (2^e))),tre P2 Z0 e (lc.take (min lc.length (2^e)))::U,lY ac cp (min lc.length (2^e)),cp-(min lc.length (2^e)),by rw[hbr,brF,hbit,cond_true,kJ,ku,List.append_assoc];rfl,by simp;omega,hlc.drop _,all_cons (ct (hlc.take _) e) hUa,by rw[List.length_drop];omega,by rw[List.length_drop];omega,hrc.drop hcc _⟩,_,by show e<e+1;omega,rfl,⟨by show _=some (Value.slice (lY ac cp (min lc.length (2^e))) (lc.drop (min lc.length (2^e))).length (cp-(min lc.length (2^e))));rw[List.length_drop];rfl,rfl,rfl,rfl,rfl,trivial⟩,trv⟩
 ·have hlt:(l.take (2^D)).length=l.length:=by rw[List.length_take];omega
  refine Bnb false O O (λ_=>df _ _ _) (by rw[decide_eq_false_iff_not];omega)<|Pk O O O<|aa<|aH O<|aw<|Xp<|Mv O<|gS (l:=D) (m:=D) (c:=(List.replicate (32*D) 0#8).map U8) 29 hGF O O (Nat.le_refl _) underlying86 tiR ⟨om,om,om⟩ (pG D) O O<|λb29=>Asg O<|aa<|ah<|Xp<|Mv O<|Bnr (v:=I (((D:Int)-1))) O O (λ_=>bu _ _ _ aG)<|Asg O<|aa<|ar<|bS (ι:=BrV w D (l.take (2^D)) x0.toNat) (λy=>[(1,.slice y.a y.lc.length y.cap),(3,U64 x0),(4,pnt b4),(9,.slice (spt b29) D D),(10,I ((y.d:Int)-1))]) (λy=>[(4,b4,[pnt bm],47),(29,b29,((List.replicate (32*y.d) 0#8++y.U.flatten).map U8),27)]) (λy=>y.d) ⟨D,l.take (2^D),[],a,cap,by rw[List.append_nil],aB,hl.take _,(λ_ h=>by simp at h),by rw[List.length_take];omega,by rw[List.length_take];omega,hr.take _⟩ hGF ⟨by show _=some (Value.slice a (l.take (2^D)).length cap);rw[hlt];rfl,rfl,rfl,rfl,rfl,trivial⟩ ⟨rfl,by show _=some (b29,(List.replicate (32*D) 0#8++[].flatten).map U8,27);rw[List.flatten_nil,List.append_nil];rfl,trivial⟩<|?_
  rintro ⟨d,lc,U,ac,cp,hbr,hdU,hlc,hUa,hnc,hcc,hrc⟩;dsimp only;refine ah<|Xp<|Mv O<|?_;rcases Nat.eq_zero_or_pos d with hd0|hd0
  ·subst hd0
   refine Bnb false O O (λ_=>cW _ _ _) (by rw[decide_eq_false_iff_not];omega)<|aa<|aH O<|bj<|Xp<|Mv O<|Asg O<|aa<|ao<|Rr<|?_
   exact au O O (λw' hw'=>⟨_,rfl,ae hw',by rw[show brF P2 Z0 D (l.take (2^D)) x0.toNat=U from hbr];exact ⟨some ⟨b29,0,none⟩,D,by rw[show U.length=D from hdU],wR (n:=29) hUa hw' O hdU,λad e=>by cases e;exact (hw'.own 29 _ _ _ O).2.elim id False.elim⟩⟩)
  ·obtain ⟨e,rfl⟩: ∃e,d=e+1:=⟨d-1,om⟩
   rw[show ((e+1:Nat):Int)-1=(e:Int)from by omega]
   have hpe:=Nat.two_pow_pos e;refine Bnb true O O (λ_=>cW _ _ _) (by rw[decide_eq_true_eq];omega)<|aa<|aP O<|aw<|ah<|ar<|Xp<|Mv O<|bB O (λ_=>aO underlying86 _ _ _ _) O O<|Asg O<|aa<|ah<|Xp<|Mv O<|Bnb true O O (λ_=>aI _ _ _) (by simp;omega)<|aa<|aP O<|Xq<|Mv O<|Mv O<|Bnr (v:=I (((2^e:Nat):Int))) O O (λ_=>mZ _ e om _)<|j4 (z:=(((min lc.length (2^e)):Nat):Int)) O O (by split<;>omega) O O<|Asg O<|aa<|Xp<|Mv O<|Mv O<|Bnr O O (λ_=>cF _ _ _ om)<|Bnr O O (λ_=>el _ _ _)<|?_
   cases hbit:x0.toNat.testBit e
   ·refine Bnb false O O (λ_=>bC _ _ _) (by rw[Int.toNat_natCast,z0];exact hbit)<|aa<|aH O<|Xd []<|Mv O<|Mv O<|aq 4 O O isAgg47 sizeOf47 O O O<|Mv O<|Mv O<|eB (l:=(min lc.length (2^e))) (h':=lc.length) O underlying86 sizeOf27 O O ⟨om,om⟩ O O<|?_
    rw[show (if cp=(min lc.length (2^e))then ac else ac.map (·.add ((min lc.length (2^e))*32)))=lY ac cp (min lc.length (2^e))from O]
    refine Mv O<|Cc O ent65 (λw' hw' hG=>dE bm e om (lc.drop (min lc.length (2^e))) (hlc.drop _) _ (by rw[List.length_drop]) om (lY ac cp (min lc.length (2^e))) (cp-(min lc.length (2^e))) om w' hG (ho.of_same ((ae hw').block _ ho.lt)) ((hrc.grow (ae hw')).drop om _))<|iG (s:=32) e O O underlying86 sizeOf27 O om O O<|gl 29 ((List.replicate (32*e) 0#8++(tre P2 Z0 e (lc.drop (min lc.length (2^e)))++U.flatten)).map U8) hGF O O O sizeOf27 (by rw[List.length_map];exact ct (hlc.drop _) e) (bp _) (by simp[ct (hlc.drop _) e];omega) (rX (ct (hlc.drop _) e) _) O<|aa<|Xq<|Mv O<|Mv O<|eB (l:=0) (h':=(min lc.length (2^e))) O underlying86 sizeOf27 O O ⟨Nat.zero_le _,om⟩ O O<|?_
    rw[qr,Nat.sub_zero,Nat.sub_zero];refine Asg O<|aa<|Xq<|Mv O<|Bnr (v:=I (((e:Int)-1))) O O (λ_=>bu _ _ _ aG)<|Asg O<|aa<|?_
    repeat (refine bg ?_)
    exact aV<|⟨rfl,⟨e,(lc.take (min lc.length (2^e))),tre P2 Z0 e (lc.drop (min lc.length (2^e)))::U,ac,cp,by rw[hbr,brF,hbit,cond_false,kJ,ku,List.append_assoc];rfl,by simp;omega,hlc.take _,all_cons (ct (hlc.drop _) e) hUa,by rw[List.length_take];omega,by rw[List.length_take];omega,hrc.take _⟩,_,by show e<e+1;omega,rfl,⟨by show _=some (Value.slice ac (lc.take (min lc.length (2^e))).length cp);rw[show (lc.take (min lc.length (2^e))).length=(min lc.length (2^e))from by rw[List.length_take];omega];rfl,rfl,rfl,rfl,rfl,trivial⟩,trv⟩
   ·refine Bnb true O O (λ_=>bC _ _ _) (by rw[Int.toNat_natCast,z0];exact hbit)<|aa<|aP O<|Xd []<|Mv O<|Mv O<|aq 4 O O isAgg47 sizeOf47 O O O<|Mv O<|Mv O<|eB (l:=0) (h':=(min lc.length (2^e))) O underlying86 sizeOf27 O O ⟨Nat.zero_le _,om⟩ O O<|?_
    rw[qr,Nat.sub_zero,Nat.sub_zero];refine Mv O<|Cc O ent65 (λw' hw' hG=>dE bm e om (lc.take (min lc.length (2^e))) (hlc.take _) _ (by rw[List.length_take];omega) om ac cp om w' hG (ho.of_same ((ae hw').block _ ho.lt)) ((hrc.grow (ae hw')).take _))<|iG (s:=32) e O O underlying86 sizeOf27 O om O O<|gl 29 ((List.replicate (32*e) 0#8++(tre P2 Z0 e (lc.take (min lc.length (2^e)))++U.flatten)).map U8) hGF O O O sizeOf27 (by rw[List.length_map];exact ct (hlc.take _) e) (bp _) (by simp[ct (hlc.take _) e];omega) (rX (ct (hlc.take _) e) _) O<|aa<|Xq<|Mv O<|Mv O<|eB (l:=(min lc.length (2^e))) (h':=lc.length) O underlying86 sizeOf27 O O ⟨om,om⟩ O O<|?_
    rw[show (if cp=(min lc.length (2^e))then ac else ac.map (·.add ((min lc.length (2^e))*32)))=lY ac cp (min lc.length (2^e))from O]
    refine Asg O<|aa<|Xq<|Mv O<|Bnr (v:=I (((e:Int)-1))) O O (λ_=>bu _ _ _ aG)<|Asg O<|aa<|?_
    repeat (refine bg ?_)
    exact aV<|⟨rfl,⟨e,(lc.drop (min lc.length (2^e))),tre P2 Z0 e (lc.take (min lc.length (2^e)))::U,lY ac cp (min lc.length (2^e)),cp-(min lc.length (2^e)),by rw[hbr,brF,hbit,cond_true,kJ,ku,List.append_assoc];rfl,by simp;omega,hlc.drop _,all_cons (ct (hlc.take _) e) hUa,by rw[List.length_drop];omega,by rw[List.length_drop];omega,hrc.drop hcc _⟩,_,by show e<e+1;omega,rfl,⟨by show _=some (Value.slice (lY ac cp (min lc.length (2^e))) (lc.drop (min lc.length (2^e))).length (cp-(min lc.length (2^e))));rw[List.length_drop];rfl,rfl,rfl,rfl,rfl,trivial⟩,trv⟩
end
section
open Go.RowKit
open Sh
def Zs(n:Nat):By:=List.replicate n 0#8
theorem Cx(w:World):(zeroValue 36).run prog w=.ok (.agg ((Zs 160).map U8).toArray) w:=(zeroValue36 w).trans aE
def FVr(l:List Rt)(i:Nat):List Value:=((l.take i).flatten++List.replicate (160-32*i) 0#8).map U8
theorem rP{l:List Rt}(hl:AllR l)(h5:l.length=5){i:Nat}(hi:i<=5):(FVr l i).length=160:=by
 rw[FVr,List.length_map,List.length_append,cR _ (hl.take i),List.length_take,List.length_replicate];omega
theorem Hs{l:List Rt}(hl:AllR l)(h5:l.length=5){i:Nat}(hi:i<5){x:Rt}(hx:l[i]? =some x):lay (i*32) (x.map U8) (FVr l i)=FVr l (i+1):=by
 have h1:((l.take i).flatten.map U8).length=i*32:=by rw[List.length_map,cR _ (hl.take i),List.length_take];omega
 have h2:x.length=32:=hl x (List.mem_of_getElem? hx);have e:List.replicate (160-32*i) 0#8=List.replicate 32 0#8++List.replicate (160-32*(i+1)) 0#8:=by rw[List.replicate_append_replicate];congr 1;omega
 rw[FVr,e,List.map_append,List.map_append,rC h1 (by rw[List.length_map,List.length_map,h2,List.length_replicate]),FVr,List.take_add_one,hx]
 simp only[Option.toList_some,List.flatten_append,List.flatten_cons,List.flatten_nil,List.append_nil,List.map_append,List.append_assoc]
theorem CL{l:List Rt}(h5:l.length=5):FVr l 5=l.flatten.map U8:=by
 rw[FVr,List.take_of_length_le om];simp
theorem ue(l:List Rt)(hl:AllR l)(h5:l.length=5)(a:Option Addr)(cap:Nat)(w:World)(hw:Gt w)(hr:RtsAt w a l):CLS 31 [.slice a l.length cap].toArray w (λe w'=>e=.returned (.agg (l.flatten.map U8).toArray)/\Grow w w'):=by
 refine Hf func31 O hw<|λhGF=>Xp<|Al 2 hGF Cx<|λb2=>aa<|Xp<|Al 3 hGF Cx<|?_;intro b3;have hz0:(Zs 160).map U8=FVr l 0:=rfl;refine aa<|ah<|Xp<|Asg O<|aa<|ar<|bS (ι:={i:Nat // i<=5}) (λx=>[(0,.slice a l.length cap),(2,pnt b2),(3,pnt b3),(4,I (x.1:Int))]) (λx=>[(3,b3,FVr l x.1,36),(2,b2,(Zs 160).map U8,36)]) (λx=>5-x.1) ⟨0,Nat.zero_le _⟩ hGF trv trv<|?_;rintro ⟨i,hi⟩;dsimp only;refine ah<|Xp<|Mv O<|?_;rcases Nat.lt_or_ge i 5 with hlt|hge
 ·obtain ⟨x,hx⟩: ∃x,l[i]? =some x:=⟨_,List.getElem?_eq_getElem om⟩
  have hxl:x.length=32:=hl x (List.mem_of_getElem? hx);obtain ⟨ad,had,hcell⟩:=hr i x hx;refine Bnb true O O (λ_=>aI _ _ _) (by simp;omega)<|Mv O<|Mv O<|Mv O<|bB O (λ_=>aO underlying86 _ _ _ _) O O<|Bnb true O O (λ_=>aI _ _ _) (by simp;omega)<|Pk O O O<|aa<|aP O<|aw<|ah<|ar<|Xq<|Mv O<|Mv O<|Mv O<|d7 (ad:=ad) i 32 (by rw[<-had];rfl) O underlying86 sizeOf27 O om O O<|bx (cs:=x.map U8) O isAgg27 sizeOf27 (by rw[List.length_map];exact hxl) (λw' h j v hv=>((ae h).cell (block_lt_of_cell (hcell j v hv))).trans (hcell j v hv)) O O<|q8 i (i*32) O O underlying36 sizeOf28 O om (Nat.zero_add _) O O<|gl 3 (FVr l (i+1)) hGF O O O sizeOf28 (by rw[List.length_map];exact hxl) (bp _) (by rw[rP hl h5 om,List.length_map,hxl];omega) (Hs hl h5 hlt hx) O<|aa<|Xq<|Mv O<|Bnr (v:=I (((i+1:Nat):Int))) O O (λ_=>(az _ _ _ aG).trans aE)<|Asg O<|aa<|?_
  repeat (refine bg ?_)
  exact aV<|⟨rfl,⟨i+1,hlt⟩,_,by show 5-(i+1)<5-i;omega,rfl,trv,trv⟩
 ·obtain rfl:i=5:=om
  refine Bnb false O O (λ_=>aI _ _ _) aB<|Mv O<|Sk<|Sk<|Sk<|Sk<|Pk O O O<|aa<|aH O<|bj<|Xp<|aq 3 O O isAgg36 sizeOf36 (rP hl h5 (Nat.le_refl 5)) O O<|ai 2 hGF O O O sizeOf36 (rP hl h5 (Nat.le_refl 5)) O (bp _) O<|aa<|ao<|Rr<|?_;exact aF 2 O O O isAgg36 sizeOf36 (rP hl h5 (Nat.le_refl 5)) (λw' hw'=>⟨by rw[CL h5],ae hw'⟩)
theorem ec{place:Nat->Option (Nat×Nat)}{i:Nat}{v:Value}{vs pre old post:List Value}(hp:place i=some (pre.length,old.length))(hv:v.cells=vs.toArray)(hs:vs.length=old.length)(rest:List (Nat×Value)):Instr.fill place (pre++(old++post)).toArray ((i,v)::rest)=Instr.fill place ((pre++vs)++post).toArray rest:=by
 rw[lM hp hv hs (by simp;omega)]
 congr 2;rw[List.take_left' O,hs,<-List.append_assoc pre,List.drop_left' aB]
def Hdz:Hd:=⟨0#64,0#64,Z0,Z0,Z0⟩
theorem iM:Hdz.Ok:=⟨rfl,rfl,rfl⟩
theorem vG:Hdz.fin=Z0:=if_pos O
theorem DF(sd q:BitVec 64){fin r1 r2:Rt}(h1:r1.length=32)(h2:r2.length=32):(STV sd q fin r1 r2).length=32:=by
 have h:(LVS (sd+q) (P2 (nR q) fin) r1 r2).length=32*24:=lN (cZ _ _) h1 h2;unfold STV;exact ct (ed h) 5
theorem qZ(sd q:BitVec 64){fin r1 r2:Rt}(h1:r1.length=32)(h2:r2.length=32):(HDV sd q fin r1 r2).Ok:=by
 have h:=DF sd q (fin:=fin) h1 h2;unfold HDV;generalize STV sd q fin r1 r2=t at h;exact ⟨rfl,h,rfl⟩
theorem HH(w:World):(zeroValue 38).run prog w=.ok (.agg ([]++(Hdz.cs++(Co0.cs++((Zs 160).map U8++[])))).toArray) w:=(zeroValue38 w).trans aE
theorem Iy(b:Bo)(k:b.Ok)(w:World):(Instr.build 38 #[(0,.agg b.hd.cs.toArray),(1,.agg b.nw.cs.toArray),(2,.agg (b.br.map U8).toArray)]).run prog w=.ok (.agg b.cs.toArray) w:=
 cU (c:=[]++(Hdz.cs++(Co0.cs++((Zs 160).map U8++[])))) (ps:= #[(0,98),(98,49),(147,160)]) HH underlying38 (λw=>by simp[sizeOf30,sizeOf35,sizeOf36]) [(0,.agg b.hd.cs.toArray),(1,.agg b.nw.cs.toArray),(2,.agg (b.br.map U8).toArray)] (by
  rw[ec (pre:=[]) (old:=Hdz.cs) (vs:=b.hd.cs) O O (by rw[Hd.len k.hd];rfl),ec (pre:=[]++b.hd.cs) (old:=Co0.cs) (vs:=b.nw.cs) (by rw[List.nil_append,Hd.len k.hd];rfl) O (by rw[Co.len k.nw];rfl),
   ec (pre:=[]++b.hd.cs++b.nw.cs) (old:=(Zs 160).map U8) (vs:=b.br.map U8) (by rw[List.nil_append,List.length_append,Hd.len k.hd,Co.len k.nw];rfl) O (by rw[List.length_map,k.br];rfl)]
  simp[Instr.fill,Bo.cs]) w
theorem Bo.one(b:Bo):b.cs.all (·.oneCell')=true:=by
 rw[Bo.cs,List.all_append,List.all_append,Hd.one,Co.one,bp];rfl
def BOV(sd q:BitVec 64)(m1 m2:Co)(n:Nat):Bo:=⟨HDV sd q Z0 (m1.rt n) (m2.rt n),m1,(brF P2 Z0 5 ((dh (LVS (sd+q) (P2 (nR q) Z0) (m1.rt n) (m2.rt n)) 24).take (2^5)) (22#64).toNat).flatten⟩
theorem zvRt(w:World):(zeroValue 28).run prog w=.ok (.agg (Z0.map U8).toArray) w:=(zeroValue28 w).trans aE
theorem yr(c:Cn)(q:BitVec 64)(n:Nat)(hz:c.cf.z=(n:Int))(hn:n<=512)(hnK:c.nK<=400000)(hnS:c.nS<=400000)(hnA:c.ats.length<=400000)(hmn: ∀m∈c.ms,m.ks.length=n)(w:World)(hw:Gt w)(hch:ChAt w c):CLS 11 [pnt c.bc,U64 q].toArray w (λe w'=> ∃d m1 m2,e=.returned (.agg ((HDV c.sd q Z0 (m1.rt n) (m2.rt n)).rt.map U8).toArray)/\MM c.own w w'/\ChAt w' d/\Ext w (2*(n+1)) c d/\(∀m∈d.ms,m.ks.length=n)/\cz d.ats d.ms (c.cf.pe q)=some m1/\cz d.ats d.ms (c.cf.pe q+1#64)=some m2/\∀x y,cz c.ats c.ms (c.cf.pe q)=some x->cz c.ats c.ms (c.cf.pe q+1#64)=some y->Grow w w'/\d=c):=by
 refine Hf func11 O hw<|λhGF=>Xp<|Al 4 hGF zvRt<|λb4=>aa<|?_;obtain ⟨fz,hfz⟩: ∃x:Hd,x=Hdz:=⟨_,rfl⟩;refine iJ gt_low (λw1 hC1 gw1=> ?_);have hG1:Grow w w1:=ae hC1;have z4:w.heap.size<=b4:=(hC1.own 4 _ _ _ O).2.elim id False.elim;have o4:=(hC1.own 4 _ _ _ O).1;have ch1:=hch.grow hG1;have n4: ¬c.own b4:=λx=>absurd (hch.lt _ x) (Nat.not_lt.2 z4);have hGF1:=gt_low.plain gw1;have hz0:=gt_low.size w hw;clear hC1;have mm1:MM c.own w w1:=aY hG1;refine gP (E:=EE [28]) (λX=>X=λw'=>w'.cell? ⟨c.bc,1,none⟩=some (pnt c.bm)) (mkF 28) (rkB [8]) [0,1,2,3,4,5,6,7,8,9] da O kr kr kr<|cm O O<|Mv O<|aa<|cm O O<|aW O O O<|aa<|cm O O<|Fa 1 O underlying61 O sizeOf47<|aa<|lz (X:=λw'=>w'.cell? ⟨c.bc,1,none⟩=some (pnt c.bm)) O (λw' h=>(ch1.grow (ae h)).oc.cell 1) (λ_=>rfl)<|bx (cs:=[pnt c.bm]) O isAgg47 sizeOf47 O (λw' h j v hv=>match j,hv with|0,hv=>by cases hv;exact h|j+1,hv=>by simp at hv) O O<|aa<|cm O O<|Mv O<|aa<|cm O O<|Mv O<|aa<|cm O O<|ci (ps:=[]) (vs:=[]) (v:=.agg fz.cs.toArray) O (λw=>by rw[hfz];exact AE w) O O<|aa<|gi O<|?_
 have T1: ∀w1,Gt w1->ChAt w1 c->CLS 28 [pnt c.bc,U64 q,.agg fz.cs.toArray].toArray w1 (λe w2=> ∃v,e=.returned v/\MM c.own w1 w2/\∃d m1 m2,v=.agg (HDV c.sd q fz.fin (m1.rt n) (m2.rt n)).cs.toArray/\ChAt w2 d/\Ext w1 (2*(n+1)) c d/\(∀m∈d.ms,m.ks.length=n)/\cz d.ats d.ms (c.cf.pe q)=some m1/\cz d.ats d.ms (c.cf.pe q+1#64)=some m2/\∀x y,cz c.ats c.ms (c.cf.pe q)=some x->cz c.ats c.ms (c.cf.pe q+1#64)=some y->Grow w1 w2/\d=c):=λw1 g1 h1=>(qm c q fz (by rw[hfz];exact iM) n hz hn om om om hmn w1 g1 h1).mono λe w2 ⟨d,m1,m2,he,hm,hr⟩=>⟨_,he,hm,d,m1,m2,rfl,hr⟩
 obtain ⟨QQ,hQQ⟩: ∃Q:World->World->Value->Prop,Q=λw1 w2 v=> ∃d m1 m2,v=.agg (HDV c.sd q fz.fin (m1.rt n) (m2.rt n)).cs.toArray/\ChAt w2 d/\Ext w1 (2*(n+1)) c d/\(∀m∈d.ms,m.ks.length=n)/\cz d.ats d.ms (c.cf.pe q)=some m1/\cz d.ats d.ms (c.cf.pe q+1#64)=some m2/\∀x y,cz c.ats c.ms (c.cf.pe q)=some x->cz c.ats c.ms (c.cf.pe q+1#64)=some y->Grow w1 w2/\d=c:=⟨_,rfl⟩;have T3: ∀w',Grow w1 w'->Gt w'->CLS 28 [pnt c.bc,U64 q,.agg fz.cs.toArray].toArray w' (λe w2=> ∃v,e=.returned v/\MM c.own w' w2/\QQ w' w2 v):=λw' h g=>by rw[hQQ];exact T1 w' g (ch1.grow h)
 refine fg gt_low (M:=c.own) ch1.low O O ent28 O O hGF1 (Q:=QQ) T3 (λw2a wa v g12 hm2 ga hq=> ?_);rw[hQQ]at hq;obtain ⟨ca,m1,m2,rfl,cha,exa0,hla,k1,k2,kn⟩:=hq;have hGFa:=gt_low.plain ga;rw[show fz.fin=Z0 from by rw[hfz];exact vG]
 obtain ⟨hh,hhd⟩: ∃x,HDV c.sd q Z0 (m1.rt n) (m2.rt n)=x:=⟨_,rfl⟩;have hhok:hh.Ok:=by rw[<-hhd];exact qZ _ _ (Co.rt_len _ _) (Co.rt_len _ _)
 rw[hhd];have o4a:=hm2.own (o4.grow g12) n4;have l4:=(o4.grow g12).lt;have n4a: ¬ca.own b4:=λx=>(exa0.sub _ x).elim n4 (λh=>absurd l4 (Nat.not_lt.2 h));have sza:w.heap.size<=w2a.heap.size:=Nat.le_trans mm1.size g12.size;have exa:Ext w (2*(n+1)) c ca:=((Ext.refl w c).trans exa0 sza).le om;have mma:MM c.own w wa:=(mm1.trans (aY g12)).trans hm2;have hka: ∀m∈ca.ms,∀k,Of m.ka k->k≠b4:=λm hm k hk=>(exa0.key m hm).elim (λh1=>by have:=((hch.ks m h1).2.2 k hk).2;omega) (λh1=>by have:=h1 k hk;omega)
 have bma:ca.bm=c.bm:=exa.bm;have bca:ca.bc=c.bc:=exa.bc;have hmka:iN wa c.bm:=by have:=cha.mkr;rw[bma]at this;exact this
 refine aa ?_;refine ⟨λ_ X hX _=>by subst hX;exact λw' h=>by have:=(cha.grow (ae h)).oc.cell 1;rw[bca]at this;rw[<-bma];exact this, ?_⟩
 refine cm O O<|Cc O ent34 (λw' hw' hG=>qt c.bm hh hhok w' hG (hmka.grow (ae hw')))<|aa<|gi O<|?_;refine fD gt_low (λw' h=>hGFa.g _ _ _ h) (λw' h=>o4a.grow (ae h)) om O O sizeOf28 (by rw[List.length_map];exact Hd.rt_len hhok) (bp _) (by rw[List.length_map,Hd.rt_len hhok];decide) O (λwz wx hCz gx mz oz=> ?_)
 have hGz:Grow wa wz:=ae hCz;have hGFx:=gt_low.plain gx;rw[dg _ _ (by rw[List.length_map,Hd.rt_len hhok];rfl)]at oz
 have chx:=(cha.grow hGz).mm mz (λk hk e=>n4a (e▸hk)) (λm hm k hk e=>hka m hm k hk e) (λe=>by have h1:=hch.mkr.lt;have h2:c.bm=b4:=bma.symm.trans e;omega)
 have mmx:MM c.own w wx:=(mma.trans (aY hGz)).trans' mz (λk hk hlt=>om);refine aa ?_;refine ⟨λh=>(by cases h), ?_⟩
 refine ik<|ao<|Rr<|?_;refine dU O O isAgg28 sizeOf28 (by rw[List.length_map];exact Hd.rt_len hhok) (λw' h=>(oz.grow (ae h)).range) (λw' h=>⟨ca,m1,m2,by rw[<-hhd],mmx.trans (aY (ae h)),chx.grow (ae h),exa,hla,k1,k2,λx y hx hy=> ?_⟩)
 obtain ⟨g1,e1⟩:=kn x y hx hy;have q1:Grow w wx:=mz.grow0 (hG1.trans (g12.trans (g1.trans hGz))) (λk hk=>om);exact ⟨q1.trans (ae h),e1⟩
theorem yc(c:Cn)(q:BitVec 64)(n:Nat)(m1 m2:Co)(h1:cz c.ats c.ms (c.cf.pe q)=some m1)(h2:cz c.ats c.ms (c.cf.pe q+1#64)=some m2)(hz:c.cf.z=(n:Int))(hn:n<=512)(hnK:c.nK<=400000)(hnS:c.nS<=400000)(hnA:c.ats.length<=400000)(hmn: ∀m∈c.ms,m.ks.length=n)(w:World)(hw:Gt w)(hch:ChAt w c):CLS 11 [pnt c.bc,U64 q].toArray w (λe w'=>e=.returned (.agg ((HDV c.sd q Z0 (m1.rt n) (m2.rt n)).rt.map U8).toArray)/\Grow w w'):=
 (yr c q n hz hn hnK hnS hnA hmn w hw hch).mono λe w' ⟨d,x1,x2,he,_,_,_,_,k1,k2,hk⟩=>by
  obtain ⟨g,rfl⟩:=hk m1 m2 h1 h2;rw[h1]at k1;rw[h2]at k2
  cases k1
  cases k2
  exact ⟨he,g⟩
theorem xQ(c:Cn)(q:BitVec 64)(n:Nat)(hz:c.cf.z=(n:Int))(hn:n<=512)(hnK:c.nK<=400000)(hnS:c.nS<=400000)(hnA:c.ats.length<=400000)(hmn: ∀m∈c.ms,m.ks.length=n)(w:World)(hw:Gt w)(hch:ChAt w c):CLS 10 [pnt c.bc,U64 q].toArray w (λe w'=> ∃d m1 m2,e=.returned (.agg (BOV c.sd q m1 m2 n).cs.toArray)/\MM c.own w w'/\ChAt w' d/\Ext w (2*(n+1)) c d/\(∀m∈d.ms,m.ks.length=n)/\cz d.ats d.ms (c.cf.pe q)=some m1/\cz d.ats d.ms (c.cf.pe q+1#64)=some m2/\∀x y,cz c.ats c.ms (c.cf.pe q)=some x->cz c.ats c.ms (c.cf.pe q+1#64)=some y->Grow w w'/\d=c):=by
 refine Hf func10 O hw<|λhGF=>Xp<|Al 4 hGF HH<|λb4=>aa<|?_;obtain ⟨fz,hfz⟩: ∃x:Hd,x=Hdz:=⟨_,rfl⟩;refine iJ gt_low (λw1 hC1 gw1=> ?_);have hG1:Grow w w1:=ae hC1;have z4:w.heap.size<=b4:=(hC1.own 4 _ _ _ O).2.elim id False.elim;have o4:=(hC1.own 4 _ _ _ O).1;have ch1:=hch.grow hG1;have n4: ¬c.own b4:=λx=>absurd (hch.lt _ x) (Nat.not_lt.2 z4);have hGF1:=gt_low.plain gw1;have hz0:=gt_low.size w hw;clear hC1;have mm1:MM c.own w w1:=aY hG1;refine am (E:=EE [28])<|Mv O<|Mv O<|ci (ps:=[]) (vs:=[]) (v:=.agg fz.cs.toArray) O (λw=>by rw[hfz];exact AE w) O O<|?_
 have T1: ∀w1,Gt w1->ChAt w1 c->CLS 28 [pnt c.bc,U64 q,.agg fz.cs.toArray].toArray w1 (λe w2=> ∃v,e=.returned v/\MM c.own w1 w2/\∃d m1 m2,v=.agg (HDV c.sd q fz.fin (m1.rt n) (m2.rt n)).cs.toArray/\ChAt w2 d/\Ext w1 (2*(n+1)) c d/\(∀m∈d.ms,m.ks.length=n)/\cz d.ats d.ms (c.cf.pe q)=some m1/\cz d.ats d.ms (c.cf.pe q+1#64)=some m2/\∀x y,cz c.ats c.ms (c.cf.pe q)=some x->cz c.ats c.ms (c.cf.pe q+1#64)=some y->Grow w1 w2/\d=c):=λw1 g1 h1=>(qm c q fz (by rw[hfz];exact iM) n hz hn om om om hmn w1 g1 h1).mono λe w2 ⟨d,m1,m2,he,hm,hr⟩=>⟨_,he,hm,d,m1,m2,rfl,hr⟩
 obtain ⟨QQ,hQQ⟩: ∃Q:World->World->Value->Prop,Q=λw1 w2 v=> ∃d m1 m2,v=.agg (HDV c.sd q fz.fin (m1.rt n) (m2.rt n)).cs.toArray/\ChAt w2 d/\Ext w1 (2*(n+1)) c d/\(∀m∈d.ms,m.ks.length=n)/\cz d.ats d.ms (c.cf.pe q)=some m1/\cz d.ats d.ms (c.cf.pe q+1#64)=some m2/\∀x y,cz c.ats c.ms (c.cf.pe q)=some x->cz c.ats c.ms (c.cf.pe q+1#64)=some y->Grow w1 w2/\d=c:=⟨_,rfl⟩;have T3: ∀w',Grow w1 w'->Gt w'->CLS 28 [pnt c.bc,U64 q,.agg fz.cs.toArray].toArray w' (λe w2=> ∃v,e=.returned v/\MM c.own w' w2/\QQ w' w2 v):=λw' h g=>by rw[hQQ];exact T1 w' g (ch1.grow h)
 refine fg gt_low (M:=c.own) ch1.low O O ent28 O O hGF1 (Q:=QQ) T3 (λw2a wa v g12 hm2 ga hq=> ?_);rw[hQQ]at hq;obtain ⟨ca,m1,m2,rfl,cha,exa0,hla,k1,k2,kn⟩:=hq;have hGFa:=gt_low.plain ga;rw[show fz.fin=Z0 from by rw[hfz];exact vG]
 obtain ⟨hh,hhd⟩: ∃x,HDV c.sd q Z0 (m1.rt n) (m2.rt n)=x:=⟨_,rfl⟩;have hhok:hh.Ok:=by rw[<-hhd];exact qZ _ _ (Co.rt_len _ _) (Co.rt_len _ _)
 rw[hhd];have o4a:=hm2.own (o4.grow g12) n4;have l4:=(o4.grow g12).lt;have n4a: ¬ca.own b4:=λx=>(exa0.sub _ x).elim n4 (λh=>absurd l4 (Nat.not_lt.2 h));have sza:w.heap.size<=w2a.heap.size:=Nat.le_trans mm1.size g12.size;have exa:Ext w (2*(n+1)) c ca:=((Ext.refl w c).trans exa0 sza).le om;have mma:MM c.own w wa:=(mm1.trans (aY g12)).trans hm2;have hka: ∀m∈ca.ms,∀k,Of m.ka k->k≠b4:=λm hm k hk=>(exa0.key m hm).elim (λh1=>by have:=((hch.ks m h1).2.2 k hk).2;omega) (λh1=>by have:=h1 k hk;omega)
 have bma:ca.bm=c.bm:=exa.bm;have bca:ca.bc=c.bc:=exa.bc;have hmka:iN wa c.bm:=by have:=cha.mkr;rw[bma]at this;exact this
 refine Al 5 hGFa zC<|λb5=>ai 5 hGFa O O O sizeOf30 (Hd.len hhok) O (Hd.one _) O<|aa<|?_;obtain ⟨hok1,hrw1,_⟩:=cha.ks m1 (iB _ _ k1);obtain ⟨bs,hbs⟩: ∃x,LVS (c.sd+q) (P2 (nR q) Z0) (m1.rt n) (m2.rt n)=x:=⟨_,rfl⟩;have hbl:bs.length=32*24:=by rw[<-hbs];exact lN (cZ _ _) (Co.rt_len _ _) (Co.rt_len _ _)
 have q1:=exa.nK;have q2:=exa.nS;have q3:=exa.nA;have hper: ∀w',Gt w'->ChAt w' ca->CLS 30 [pnt c.bc,U64 q].toArray w' (λe w''=>e=.returned (U64 (c.cf.pe q))/\Grow w' w''):=λw' gw hc=>by have h:=uK ca q w' gw hc;rw[bca,exa.cf]at h;exact h
 have hcmm: ∀w',Gt w'->ChAt w' ca->CLS 29 [pnt c.bc,U64 (c.cf.pe q)].toArray w' (λe w''=>e=.returned (.agg m1.cs.toArray)/\Grow w' w''):=λw' gw hc=>by have h:=xn ca (c.cf.pe q) n m1 k1 (by rw[exa.cf];exact hz) hn om om om hla w' gw hc;rw[bca]at h;exact h
 have hlea: ∀w',Gt w'->ChAt w' ca->CLS 33 [pnt c.bc,U64 q,.agg (Z0.map U8).toArray].toArray w' (λe w''=> ∃b,e=.returned (.slice (spt b) 24 24)/\Grow w' w''/\w'.heap.size<=b/\OwnB w'' b (bs.map U8) 27):=λw' gw hc=>by have h:=xv ca q Z0 O n m1 m2 (by rw[exa.cf];exact k1) (by rw[exa.cf];exact k2) (by rw[exa.cf];exact hz) hn om om om hla w' gw hc;rw[bca,exa.sd,hbs]at h;exact h
 have hbk: ∀bl w',Gt w'->iN w' c.bm->RtsAt w' (spt bl) (dh bs 24)->CLS 32 [.agg [pnt c.bm].toArray,.slice (spt bl) 24 24,I 5,U64 22#64].toArray w' (λe w''=> ∃v,e=.returned v/\Grow w' w''/\FrL w' w'' v (brF P2 Z0 5 ((dh bs 24).take (2^5)) (22#64).toNat)):=λbl w' gw hm hr=>by have h:=u3 c.bm 5 aC (dh bs 24) (ed hbl) (by rw[fN];decide) (spt bl) 24 (by rw[fN];exact Nat.le_refl _) 22#64 w' gw hm hr;rw[fN]at h;exact h
 obtain ⟨br,hbr⟩: ∃x,brF P2 Z0 5 ((dh bs 24).take (2^5)) (22#64).toNat=x:=⟨_,rfl⟩;have br5:br.length=5:=by rw[<-hbr];exact kL _ _ _ _ _
 have bra:AllR br:=by rw[<-hbr];exact mo 5 _ ((ed hbl).take _)
 rw[hbr]at hbk;have bok:(⟨hh,m1,br.flatten⟩:Bo).Ok:=⟨hhok,hok1,by show br.flatten.length=160;rw[cR _ bra,br5]⟩
 refine Xd [33,2000033,32,2000032]<|aq 5 O O isAgg30 sizeOf30 (Hd.len hhok) O O<|Mv O<|Mv O<|Mv O<|Cc O ent30 (λw' hw' hG=>hper w' hG (cha.grow (ae hw')))<|Cc O ent29 (λw' hw' hG=>hcmm w' hG (cha.grow (ae hw')))<|Mv O<|aW O O O<|Fa 1 O underlying61 O sizeOf47<|bx (cs:=[pnt c.bm]) O isAgg47 sizeOf47 O (λw' h' j v hv=>match j,hv with|0,hv=>by cases hv;exact (by have:=(cha.grow (ae h')).oc.cell 1;rw[bca]at this;rw[<-bma];exact this)|j+1,hv=>by simp at hv) O O<|Mv O<|Mv O<|ci (ps:=[]) (vs:=[]) (v:=.agg (Z0.map U8).toArray) O (λw=>uv w) O O<|?_
 refine fk O O ent33 O O (λw' hw'=>(hlea w' (hGFa.g _ _ _ hw') (cha.grow (ae hw'))).mono λe w'' h=> ?_);obtain ⟨bl,rfl,hg,hbn,hob⟩:=h;refine ⟨_,_,rfl,aT hGFa,hw'.news aL hg [(23,bl,bs.map U8,27)] ?_ dd,ej aL O, ?_⟩
 ·exact λn' b' c' t' hl=>(bv hl).elim (λ⟨_,e⟩=>by cases e;exact ⟨hbn,hob⟩) (λ⟨_,hl⟩=>by cases hl)
 clear hw' hg hbn hob;refine fk O O ent32 O O (λw' hw'=>(hbk bl w' (hGFa.g _ _ _ hw') (hmka.grow (ae hw')) (ss hbl (BytesAt.range (av (n:=23) O w' hw')))).mono λe w'' h=> ?_);obtain ⟨_,rfl,hg,a9,c9,rfl,hs9,hn9⟩:=h;obtain ⟨b9,cs9,rfl,hob,hl9,hc9,_,ht9⟩:=hs9.resolve_left (λh=>by have h3:=h.2.2.1;omega)
 have hbn:=hn9 _ O;rw[List.length_map,cR _ bra]at ht9;refine ⟨_,_,rfl,aT hGFa,hw'.news aL hg [(24,b9,cs9,27)] ?_ dd,ej aL O, ?_⟩
 ·exact λn' b' c' t' hl=>(bv hl).elim (λ⟨_,e⟩=>by cases e;exact ⟨hbn,hob⟩) (λ⟨_,hl⟩=>by cases hl)
 clear hw' hg hbn hob;refine Cc O ent31 (λw' hw' hG=>ue br bra br5 _ c9 w' hG (ip (n:=24) bra O ht9 w' hw'))<|ci (ps:=[(0,.tmp 10),(1,.tmp 15),(2,.tmp 25)]) (vs:=[.agg hh.cs.toArray,.agg m1.cs.toArray,.agg (br.flatten.map U8).toArray]) (v:=.agg (Bo.cs ⟨hh,m1,br.flatten⟩).toArray) O (λw=>Iy ⟨hh,m1,br.flatten⟩ bok w) O O<|?_;refine fD gt_low (λw' h=>hGFa.g _ _ _ h) (λw' h=>o4a.grow (ae h)) om O O sizeOf38 (Bo.len bok) (Bo.one _) (by rw[Bo.len bok];decide) O (λwz wx hCz gx mz oz=> ?_)
 have hGz:Grow wa wz:=ae hCz;have hGFx:=gt_low.plain gx;rw[dg _ _ (by rw[Bo.len bok];rfl)]at oz
 have chx:=(cha.grow hGz).mm mz (λk hk e=>n4a (e▸hk)) (λm hm k hk e=>hka m hm k hk e) (λe=>by have h1:=hch.mkr.lt;have h2:c.bm=b4:=bma.symm.trans e;omega)
 have mmx:MM c.own w wx:=(mma.trans (aY hGz)).trans' mz (λk hk hlt=>om);refine aa<|ao<|Rr<|?_;refine dU O O isAgg38 sizeOf38 (Bo.len bok) (λw' h=>(oz.grow (ae h)).range) (λw' h=>⟨ca,m1,m2,by unfold BOV;rw[hhd,hbs,hbr],mmx.trans (aY (ae h)),chx.grow (ae h),exa,hla,k1,k2,λx y hx hy=> ?_⟩)
 obtain ⟨g1,e1⟩:=kn x y hx hy;have q1:Grow w wx:=mz.grow0 (hG1.trans (g12.trans (g1.trans hGz))) (λk hk=>om);exact ⟨q1.trans (ae h),e1⟩
end
section
open Go.RowKit
open Sh
def gB(sd:BitVec 64)(k i:Nat):BitVec 8:=(mg sd (BitVec.ofInt 64 ((i+k:Nat):Int))).setWidth 8
def gL(sd:BitVec 64)(k m n:Nat):By:=(List.range n).map (gB sd k)++List.replicate (m-n) 0#8
theorem j3(sd:BitVec 64)(k m n:Nat)(h:n<=m):(gL sd k m n).length=m:=by rw[gL,List.length_append,List.length_map,List.length_range,List.length_replicate];omega
theorem yU(sd:BitVec 64)(k m n:Nat)(h:n<m)(v:BitVec 8)(hv:v=gB sd k n):(gL sd k m n).set n v=gL sd k m (n+1):=by
 subst hv;rw[gL,gL,List.set_append_right _ _ aB,List.length_map,List.length_range,Nat.sub_self,show m-n=(m-(n+1))+1 from by omega,List.replicate_succ,List.set_cons_zero,List.range_succ]
 simp only[List.map_append,List.map_cons,List.map_nil,List.append_assoc,List.cons_append,List.nil_append]
def cfP(sd:BitVec 64)(a b:Nat)(s e:BitVec 64)(z:Int):Cf:=⟨gL sd 0 32 a,gL sd 99 4 b,s,e,z⟩
theorem kU(sd:BitVec 64)(a b:Nat)(s e:BitVec 64)(z:Int)(ha:a<=32)(hb:b<=4):(cfP sd a b s e z).Ok:=⟨j3 _ _ _ _ ha,j3 _ _ _ _ hb⟩
def cN(bc bw bm:Nat)(cf:Cf)(sd:BitVec 64):Cn:=⟨bc,bw,bm,cf,sd,none,0,[],none,0,[],none,0,0,[],none,0,0,[],.slice none 0 0,.slice none 0 0⟩
theorem DD(bc bw bm:Nat)(sd:BitVec 64)(a:Nat)(s e:BitVec 64)(z:Int)(h:a<32)(j:Nat)(hj:j=2+a)(v:BitVec 8)(hv:v=gB sd 0 a):(cN bc bw bm (cfP sd a 0 s e z) sd).cs.set j (U8 v)=(cN bc bw bm (cfP sd (a+1) 0 s e z) sd).cs:=by
 subst hj;rw[Nat.add_comm];show _::_::(((gL sd 0 32 a).map U8++_)++_).set a (U8 v)=_::_::(((gL sd 0 32 (a+1)).map U8++_)++_);rw[List.set_append_left _ _ (by rw[List.length_append,List.length_map,j3 _ _ _ _ (Nat.le_of_lt h)];omega),List.set_append_left _ _ (by rw[List.length_map,j3 _ _ _ _ (Nat.le_of_lt h)];exact h),nH,yU sd 0 32 a h v hv]
 rfl
theorem B8(bc bw bm:Nat)(sd:BitVec 64)(b:Nat)(s e:BitVec 64)(z:Int)(h:b<4)(j:Nat)(hj:j=34+b)(v:BitVec 8)(hv:v=gB sd 99 b):(cN bc bw bm (cfP sd 32 b s e z) sd).cs.set j (U8 v)=(cN bc bw bm (cfP sd 32 (b+1) s e z) sd).cs:=by
 subst hj;rw[show 34+b=(32+b)+1+1 from by omega]
 show _::_::(((gL sd 0 32 32).map U8++((gL sd 99 4 b).map U8++_))++_).set (32+b) (U8 v)=_::_::(((gL sd 0 32 32).map U8++((gL sd 99 4 (b+1)).map U8++_))++_);have h1:((gL sd 0 32 32).map U8).length=32:=by rw[List.length_map];exact j3 _ _ _ _ (Nat.le_refl _)
 rw[List.set_append_left _ _ (by simp only[List.length_append,List.length_map,j3 _ _ _ _ (Nat.le_refl 32),j3 sd 99 4 b (Nat.le_of_lt h)];omega),List.set_append_right _ _ (by rw[h1];omega),h1,Nat.add_sub_cancel_left,List.set_append_left _ _ (by rw[List.length_map,j3 _ _ _ _ (Nat.le_of_lt h)];exact h),nH,yU sd 99 4 b h v hv]
 rfl
theorem zvWD(w:World):(zeroValue 115).run prog w=.ok (.agg [.pointer none,.slice none 0 0,.slice none 0 0,.slice none 0 0,.slice none 0 0].toArray) w:=(zeroValue115 w).trans aE
theorem Ji(v:Option Addr)(w:World):(Instr.build 115 #[(0,.pointer v)]).run prog w=.ok (.agg [.pointer v,.slice none 0 0,.slice none 0 0,.slice none 0 0,.slice none 0 0].toArray) w:=
 cU zvWD underlying115 (ps:= #[(0,1),(1,1),(2,1),(3,1),(4,1)]) (λw=>by simp[sizeOf111,sizeOf112,sizeOf113,sizeOf31,sizeOf45]) [(0,.pointer v)] O w
def Cf0:Cf:=⟨List.replicate 32 0#8,List.replicate 4 0#8,0#64,0#64,0⟩
theorem zvCf(w:World):(zeroValue 50).run prog w=.ok (.agg Cf0.cs.toArray) w:=(zeroValue50 w).trans aE
theorem Kv(sd s e:BitVec 64)(z:Int)(w:World):(Instr.build 50 #[(2,U64 s),(3,U64 e),(4,I z)]).run prog w=.ok (.agg (cfP sd 0 0 s e z).cs.toArray) w:=
 cU zvCf underlying50 (ps:= #[(0,32),(32,4),(36,1),(37,1),(38,1)]) (λw=>by simp[sizeOf22,sizeOf28,sizeOf3,sizeOf48]) [(2,U64 s),(3,U64 e),(4,I z)] O w
def CN0(bw bm:Option Addr)(sd:BitVec 64):List Value:=.pointer bw:: .pointer bm::(Cf0.cs++[U64 sd,.slice none 0 0,.slice none 0 0])
theorem zvCN(w:World):(zeroValue 61).run prog w=.ok (.agg ([]++([Value.pointer none]++([Value.pointer none]++(Cf0.cs++([U64 0#64]++[Value.slice none 0 0,Value.slice none 0 0]))))).toArray) w:=(zeroValue61 w).trans aE
theorem K3(bw bm:Option Addr)(sd:BitVec 64)(w:World):(Instr.build 61 #[(0,.pointer bw),(1,.agg [Value.pointer bm].toArray),(3,U64 sd)]).run prog w=.ok (.agg (CN0 bw bm sd).toArray) w:=
 cU (c:=[]++([Value.pointer none]++([Value.pointer none]++(Cf0.cs++([U64 0#64]++[Value.slice none 0 0,Value.slice none 0 0]))))) (ps:= #[(0,1),(1,1),(2,39),(41,1),(42,1),(43,1)]) zvCN underlying61 (λw=>by simp[sizeOf22,sizeOf44,sizeOf47,sizeOf50,sizeOf58,sizeOf59]) [(0,.pointer bw),(1,.agg [Value.pointer bm].toArray),(3,U64 sd)] (by
  rw[ec (pre:=[]) (old:=[Value.pointer none]) (vs:=[Value.pointer bw]) O O O,ec (pre:=[]++[Value.pointer bw]) (old:=[Value.pointer none]) (vs:=[Value.pointer bm]) O O O,<-List.append_assoc ([]++[Value.pointer bw]++[Value.pointer bm]) Cf0.cs,
   ec (pre:=[]++[Value.pointer bw]++[Value.pointer bm]++Cf0.cs) (old:=[U64 0#64]) (vs:=[U64 sd]) (by simp only[List.length_append,List.length_cons,List.length_nil,Cf.len (c:=Cf0) ⟨rfl,rfl⟩];rfl) O O]
  simp[Instr.fill,CN0]) w
theorem DY(bw bm:Option Addr)(sd:BitVec 64):(CN0 bw bm sd).length=44:=by simp[CN0,Cf.len (c:=Cf0) ⟨rfl,rfl⟩]
theorem Cf.one(c:Cf):c.cs.all (·.oneCell')=true:=by
 simp only[Cf.cs,List.all_append,List.all_cons,List.all_nil,bp,Bool.and_true,Bool.true_and];rfl
theorem CJ(bc bw bm:Nat)(sd:BitVec 64)(x:Cf)(hx:x.Ok):lay 2 x.cs (CN0 (spt bw) (spt bm) sd)=(cN bc bw bm x sd).cs:=by
 have h:=rC (pre:=[pnt bw,pnt bm]) (mid:=Cf0.cs) (post:=[U64 sd,.slice none 0 0,.slice none 0 0]) (x:=x.cs) (k:=2) O ((Cf.len hx).trans (Cf.len (c:=Cf0) ⟨rfl,rfl⟩).symm);exact h
theorem zy{w0 w:World}{L:Hl}{bc bw bm:Nat}{cf:Cf}{sd:BitVec 64}(hw:Gt w0)(h:Hp (pl w0) L w)(h1:lkB L 21=some (bc,(cN bc bw bm cf sd).cs,61))(h2:lkB L 16=some (bw,[pnt bm,.slice none 0 0,.slice none 0 0,.slice none 0 0,.slice none 0 0],115))(h3:lkB L 13=some (bm,MK.map U32,158))(hc:cf.Ok):ChAt w (cN bc bw bm cf sd)/\w0.heap.size<=bc/\w0.heap.size<=bw:=by
 have o1:=h.own _ _ _ _ h1;have o2:=h.own _ _ _ _ h2;have o3:=h.own _ _ _ _ h3;have z1:w0.heap.size<=bc:=o1.2.elim id False.elim;have z2:w0.heap.size<=bw:=o2.2.elim id False.elim;have n1:bc≠bw:=λe=>by subst e;exact absurd (h.inj _ _ _ _ _ _ _ h1 h2) aC
 have n2:bm≠bc:=λe=>by subst e;exact absurd (h.inj _ _ _ _ _ _ _ h1 h3) aC
 have n3:bm≠bw:=λe=>by subst e;exact absurd (h.inj _ _ _ _ _ _ _ h2 h3) aC
 have hz:=gt_low.size w0 hw;have no: ∀k,¬Of none k:=λk ⟨_,e,_⟩=>by cases e
 have own: ∀k,(cN bc bw bm cf sd).own k->k=bc\/k=bw:=λk hk=>by
  rcases hk with h|h|h|h|h|h
  ·exact .inl h
  ·exact .inr h
  ·exact (no _ h).elim
  ·exact (no _ h).elim
  ·exact (no _ h).elim
  ·exact (no _ h).elim
 exact ⟨⟨o1.1,o2.1,.inl ⟨rfl,rfl,rfl⟩,.inl ⟨rfl,rfl,rfl,rfl⟩,.inl ⟨rfl,rfl,rfl,rfl⟩,.inl ⟨rfl,rfl,rfl,rfl⟩,λ_ hm=>(by cases hm),o3.1,hc,n1,λ_ hk=>(no _ hk).elim,λ_ hk=>(no _ hk).elim,λ_ hk=>(no _ hk).elim,λ_ hk=>(no _ hk).elim,
  λhk=>(own _ hk).elim n2 n3,λk hk=>(by rcases own k hk with rfl|rfl<;>omega),⟨rfl,rfl⟩,rfl,λ_ hm=>(by cases hm)⟩,z1,z2⟩
theorem uo(sd s e:BitVec 64)(z:Int)(w:World)(hw:Gt w):CLS 26 [U64 sd,I z,U64 s,U64 e].toArray w (λe' w'=> ∃bc bw bm,e'=.returned (pnt bc)/\Grow w w'/\ChAt w' (cN bc bw bm (cfP sd 32 4 s e z) sd)/\w.heap.size<=bc/\w.heap.size<=bw):=by
 refine Hf func26 O hw<|λhGF=>am (E:=EE [63])<|Asg O<|aa<|am (E:=EE [63])<|?_;refine cw O O ent63 O O (λw1 hC=>(xw w1 (hGF.g _ _ _ hC)).mono λe1 w2 h=> ?_);obtain ⟨bm,rfl,hg,hbm,hob⟩:=h;refine ⟨_,_,rfl,aT hGF,hC.news aL hg [(13,bm,MK.map U32,158)] ?_ dd, ?_⟩
 ·exact λn' b' c' t' hl=>(bv hl).elim (λ⟨_,e⟩=>by cases e;exact ⟨hbm,hob⟩) (λ⟨_,hl⟩=>by cases hl)
 clear hC hg hbm hob;refine Asg O<|aa<|am (E:=EE [63])<|Mv O<|ci (ps:=[(0,.tmp 14)]) (vs:=[pnt bm]) O (λw=>Ji (spt bm) w) O O<|Bx 16 hGF O<|λb16=>Mv O<|ci (ps:=[(0,.tmp 17)]) (vs:=[pnt bm]) O (λw=>bldH (spt bm) w) O O<|Mv O<|ci (ps:=[(0,.tmp 16),(1,.tmp 18),(3,.tmp 19)]) (vs:=[pnt b16,.agg [Value.pointer (spt bm)].toArray,U64 sd]) O (λw=>K3 (spt b16) (spt bm) sd w) O O<|Bx 21 hGF O<|λb21=>Asg O<|aa<|am (E:=EE [63])<|Mv O<|Mv O<|Mv O<|Mv O<|ci (ps:=[(2,.tmp 23),(3,.tmp 24),(4,.tmp 25)]) (vs:=[U64 s,U64 e,I z]) O (λw=>Kv sd _ _ _ w) O O<|aW O O O<|Fa 2 O underlying61 O sizeOf50<|gl 21 (cN b21 b16 bm (cfP sd 0 0 s e z) sd).cs hGF O O O sizeOf50 (Cf.len (kU sd 0 0 s e z aC aC)) (Cf.one _) (by rw[Cf.len (kU sd 0 0 s e z aC aC),DY];decide) (CJ b21 b16 bm sd _ (kU sd 0 0 s e z aC aC)) O<|aa<|ah<|am (E:=EE [63])<|Asg O<|aa<|ar<|bS (ι:={i:Nat // i<=32}) (λx=>[(0,U64 sd),(10,pnt b21),(11,I (x.1:Int))]) (λx=>[(21,b21,(cN b21 b16 bm (cfP sd x.1 0 s e z) sd).cs,61),(16,b16,[pnt bm,.slice none 0 0,.slice none 0 0,.slice none 0 0,.slice none 0 0],115),(13,bm,MK.map U32,158)]) (λx=>32-x.1) ⟨0,Nat.zero_le _⟩ hGF trv trv<|?_
 rintro ⟨i,hi⟩;dsimp only;refine ah<|am (E:=EE [63])<|Mv O<|Bnr O O (λ_=>aI _ _ _)<|aa<|?_;refine co O (λhc=> ?_) (λhc=> ?_)
 ·have hlt:i<32:=(by simp at hc;omega);clear hc
  refine aw<|ah<|ar<|Xe [63]<|Mv O<|Mv O<|Mv O<|Mv O<|bH O O (λ_=>dq underlying3 underlying22 _) O O<|Ca O (qj _ _)<|bH O O (λ_=>bZ underlying22 underlying5 _) O O<|aW O O O<|Fa 2 O underlying61 O sizeOf50<|Fa 2 O underlying50 O sizeOf28<|kW i O O underlying28 sizeOf5 O om O O<|cL 21 hGF O O O sizeOf5 O (by rw[Cn.len (kU sd i 0 s e z om om)];omega) O<|?_
  rw[DD b21 b16 bm sd i s e z om _ om _ aE];refine aa<|cj (E:=EE [63])<|Mv O<|Bnr (v:=I (((i+1:Nat):Int))) O O (λ_=>(az _ _ _ aG).trans aE)<|Asg O<|aa<|?_
  repeat (refine bg ?_)
  exact aV<|⟨rfl,⟨i+1,hlt⟩,_,by show 32-(i+1)<32-i;omega,rfl,trv,trv⟩
 ·obtain rfl:i=32:=(by simp at hc;omega);clear hc
  refine bj<|ah<|am (E:=EE [63])<|Asg O<|aa<|ar<|bS (ι:={i:Nat // i<=4}) (λx=>[(0,U64 sd),(10,pnt b21),(12,I (x.1:Int))]) (λx=>[(21,b21,(cN b21 b16 bm (cfP sd 32 x.1 s e z) sd).cs,61),(16,b16,[pnt bm,.slice none 0 0,.slice none 0 0,.slice none 0 0,.slice none 0 0],115),(13,bm,MK.map U32,158)]) (λx=>4-x.1) ⟨0,Nat.zero_le _⟩ hGF trv trv<|?_;rintro ⟨i,hi⟩;dsimp only;refine ah<|am (E:=EE [63])<|Mv O<|Bnr O O (λ_=>aI _ _ _)<|aa<|?_;refine co O (λhc=> ?_) (λhc=> ?_)
  ·have hlt:i<4:=(by simp at hc;omega);clear hc
   refine aw<|ah<|ar<|Xe [63]<|Mv O<|Mv O<|Mv O<|Mv O<|Bnr (v:=I ((i+99:Nat):Int)) O O (λ_=>(az _ _ _ aG).trans aE)<|bH O O (λ_=>dq underlying3 underlying22 _) O O<|Ca O (qj _ _)<|bH O O (λ_=>bZ underlying22 underlying5 _) O O<|aW O O O<|Fa 2 O underlying61 O sizeOf50<|Fa 34 O underlying50 O sizeOf48<|kW i O O underlying48 sizeOf5 O om O O<|cL 21 hGF O O O sizeOf5 O (by rw[Cn.len (kU sd 32 i s e z om om)];omega) O<|?_
   rw[B8 b21 b16 bm sd i s e z om _ om _ aE];refine aa<|cj (E:=EE [63])<|Mv O<|Bnr (v:=I (((i+1:Nat):Int))) O O (λ_=>(az _ _ _ aG).trans aE)<|Asg O<|aa<|?_
   repeat (refine bg ?_)
   exact aV<|⟨rfl,⟨i+1,hlt⟩,_,by show 4-(i+1)<4-i;omega,rfl,trv,trv⟩
  ·obtain rfl:i=4:=(by simp at hc;omega);clear hc
   refine bj<|am (E:=EE [63])<|Mv O<|Asg O<|aa<|ao<|Rr<|?_;refine au O O (λw' hw'=>⟨b21,b16,bm,rfl,ae hw',zy (cf:=cfP sd 32 4 s e z) hw hw' O O O (kU sd 32 4 s e z aC aC)⟩)
end
section
open Go.RowKit
open Sh
structure St where
 (f o:Hd) (nw nx:Co) (ba:Option Addr) (bn bc:Nat) (pv cu:BitVec 64)
structure St.Ok(s:St):Prop where
 f:s.f.Ok
 o:s.o.Ok
 nw:s.nw.Ok
 nx:s.nx.Ok
def St.cs(s:St):List Value:=s.f.cs++(s.o.cs++(s.nw.cs++(s.nx.cs++[.slice s.ba s.bn s.bc,U64 s.pv,U64 s.cu])))
theorem St.len{s:St}(k:s.Ok):s.cs.length=297:=by simp[St.cs,Hd.len k.f,Hd.len k.o,Co.len k.nw,Co.len k.nx]
def St0:St:=⟨Hdz,Hdz,Co0,Co0,none,0,0,0#64,0#64⟩
theorem ki:Co0.Ok:=⟨λr h=>(by simp[Co0]at h),rfl,Nat.le_refl _⟩
theorem HT:St0.Ok:=⟨iM,iM,ki,ki⟩
end
section
open Go.RowKit
open Sh
theorem Ls(op:BinOp)(x y:Operand)(xs ys:Array Value)(w:World):(eqGuard op 28 x y (.agg xs) (.agg ys)).run prog w=.ok () w:=run_eqGuard_agg w op 28 x y xs ys kr
theorem Bo.at_hd{b:Bo}(j:Nat)(v:Value)(h:b.hd.cs[j]? =some v):b.cs[0+j]? =some v:=by
 rw[Nat.zero_add,Bo.cs,List.getElem?_append_left (List.getElem?_eq_some_iff.1 h).1];exact h
theorem Bo.at_nw{b:Bo}(k:b.Ok)(j:Nat)(v:Value)(h:b.nw.cs[j]? =some v):b.cs[98+j]? =some v:=by
 rw[Bo.cs,List.getElem?_append_right (by rw[Hd.len k.hd];omega),Hd.len k.hd,Nat.add_sub_cancel_left,List.getElem?_append_left (List.getElem?_eq_some_iff.1 h).1];exact h
def lE(tr:Rt)(b:Bo):Int:=bif decide (b.hd.rt=tr)then (bif vfy (b.nw.rt b.nw.ks.length) (dh b.br 5) 22#64 b.hd.b then 0 else 231)else 230
theorem z8{tr:Rt}{b:Bo}(h:decide (b.hd.rt=tr)=false):lE tr b=230:=by unfold lE;rw[h];rfl
theorem zT{tr:Rt}{b:Bo}{v:Bool}(h:decide (b.hd.rt=tr)=true)(h2:vfy (b.nw.rt b.nw.ks.length) (dh b.br 5) 22#64 b.hd.b=v):lE tr b=bif v then 0 else 231:=by unfold lE;rw[h,h2];rfl
theorem wO{tr:Rt}{b:Bo}(h:decide (b.hd.rt=tr)=true)(h2:vfy (b.nw.rt b.nw.ks.length) (dh b.br 5) 22#64 b.hd.b=true):lE tr b=0:=zT h h2
theorem DO{tr:Rt}{b:Bo}(h:decide (b.hd.rt=tr)=true)(h2:vfy (b.nw.rt b.nw.ks.length) (dh b.br 5) 22#64 b.hd.b=false):lE tr b=231:=zT h h2
end
section
set_option exponentiation.threshold 2000
open Go.RowKit
def W(n:Nat):LW:=(List.range 6).map λi=>BitVec.ofNat 64 (n / 2^(64*i))
theorem Fo(n:Nat):(W n).length=6:=by simp[W]
theorem Hb(n i:Nat)(h:i<6):(W n).getD i 0=BitVec.ofNat 64 (n / 2^(64*i)):=by
 rw[W,List.getD_eq_getElem?_getD,List.getElem?_map,List.getElem?_range h];rfl
theorem LP(n:Nat): ∀i,i<=6->V (W n) i=n % 2^(64*i)
 |0,_=>by rw[V,Nat.mul_zero,Nat.pow_zero,Nat.mod_one]
 |i+1,h=>by
  rw[V,LP n i om,Hb n i om,BitVec.toNat_ofNat,Nat.mul_add,Nat.pow_add,Nat.mod_mul,Nat.mul_one,Nat.mul_comm (2^(64*i))]
theorem V_W{n:Nat}(h:n<R6):V (W n) 6=n:=by
 rw[LP n 6 (Nat.le_refl _),<-gX,Nat.mod_eq_of_lt h]
theorem W_of{l:LW}{n:Nat}(h:l.length=6)(e:V l 6=n):l=W n:=by
 subst e;exact wE 6 h (Fo _) (V_W (iE l)).symm
def RI:Nat:=3231460744492646417066832100176244795738767926513225105051837195607029917124509527734802654356338138714468589979680
theorem Lv:R6*RI % PP=1:=by decide+kernel
def w(n:Nat):LW:=W (n % PP)
theorem yx(n:Nat):(w n).length=6:=Fo _
theorem w_V(n:Nat):V (w n) 6=n % PP:=V_W (Nat.lt_trans (Nat.mod_lt _ kY) vP)
theorem EC(n:Nat):w (n % PP)=w n:=by unfold w;rw[Nat.mod_mod]
theorem GF{l:LW}{n:Nat}(h:l.length=6)(e:V l 6=n % PP):l=w n:=W_of h e
def mm(a b:Nat):Nat:=a*b*RI % PP
def ma(a b:Nat):Nat:=(a+b) % PP
def ms(a b:Nat):Nat:=(a % PP+PP-b % PP) % PP
theorem uA(a b:Nat):RM (w a) (w b)=w (mm a b):=by
 have hl:V (w a) 6<PP:=by rw[w_V];exact Nat.mod_lt _ kY
 obtain ⟨h1,h2⟩:=F9 (w a) (w b) hl;rw[w_V,w_V]at h2;refine GF (cx _ _) ?_;generalize V (RM (w a) (w b)) 6=v at h1 h2;rw[mm,Nat.mod_mod];have h3:v=v*(R6*RI) % PP:=by rw[Nat.mul_mod,Lv,Nat.mul_one,Nat.mod_mod,Nat.mod_eq_of_lt h1]
 rw[h3,<-Nat.mul_assoc,Nat.mul_mod,h2,<-Nat.mul_mod a b,<-Nat.mul_mod]
theorem Gq:PP=V PL 5+1873798617647539866*2^(64*5):=by
 rw[<-gV,V];rfl
theorem uX(a b:Nat):gQ (w a) (w b)=w (ma a b):=by
 refine GF (iL _ _) ?_;have e1:=nP (w a) (w b);have hc:=uP (w a) (w b) 6;have ha:=Nat.mod_lt a kY;have hb:=Nat.mod_lt b kY;have hp:=ni.1;rw[w_V,w_V]at e1;have hs0:V (AS (w a) (w b) 6).1 6=a % PP+b % PP:=by
  have:(AS (w a) (w b) 6).2.toNat=0:=by
   rcases Nat.eq_zero_or_pos (AS (w a) (w b) 6).2.toNat with h|h
   ·exact h
   ·have h1:(AS (w a) (w b) 6).2.toNat=1:=om
    rw[h1]at e1;omega
  rw[this]at e1;omega
 have e2:=ns (AS (w a) (w b) 6).1 PL;have hd:=iE (SS (AS (w a) (w b) 6).1 PL 6).1;have hw:=pM (AS (w a) (w b) 6).1 PL 6;rw[hs0,gV]at e2;have hm:ma a b % PP=(a % PP+b % PP) % PP:=by rw[ma,Nat.mod_mod,Nat.add_mod]
 rw[hm];unfold gQ;split
 ·rename_i h
  have h0:(SS (AS (w a) (w b) 6).1 PL 6).2.toNat=0:=by rw[h.2];rfl
  rw[h0,Nat.zero_mul,Nat.add_zero]at e2;rw[<-e2,Nat.add_mod_right,Nat.mod_eq_of_lt om]
 ·rename_i h
  have hlt:a % PP+b % PP<PP:=by
   by_cases h1:1873798617647539866#64<=(AS (w a) (w b) 6).1.getD 5 0
   ·have h2:(SS (AS (w a) (w b) 6).1 PL 6).2.toNat=1:=by
     rcases Nat.eq_zero_or_pos (SS (AS (w a) (w b) 6).1 PL 6).2.toNat with h0|h0
     ·exact absurd ⟨h1,BitVec.eq_of_toNat_eq h0⟩ h
     ·omega
    rw[h2]at e2;omega
   ·have h2:((AS (w a) (w b) 6).1.getD 5 0).toNat<1873798617647539866:=by
     have:=BitVec.not_le.1 h1;exact BitVec.lt_def.1 this
    have h3:=qW (AS (w a) (w b) 6).1 5;have h4:V (AS (w a) (w b) 6).1 6=V (AS (w a) (w b) 6).1 5+((AS (w a) (w b) 6).1.getD 5 0).toNat*2^(64*5):=rfl;have h5:=Gq;rw[hs0]at h4;have h6:(((AS (w a) (w b) 6).1.getD 5 0).toNat+1)*2^(64*5)<=1873798617647539866*2^(64*5):=Nat.mul_le_mul_right _ om;rw[Nat.add_mul]at h6;generalize 2^(64*5)=K at*;omega
  rw[hs0,Nat.mod_eq_of_lt hlt]
theorem yP(a b:Nat):kX (w a) (w b)=w (ms a b):=by
 refine GF (jw _ _) ?_;have ha:=Nat.mod_lt a kY;have hb:=Nat.mod_lt b kY;have hp:=ni.1;have e2:=ns (w a) (w b);have hd:=iE (SS (w a) (w b) 6).1;have hw:=pM (w a) (w b) 6;rw[w_V,w_V]at e2;rw[ms,Nat.mod_mod];unfold kX;split
 ·rename_i h
  rw[h]at e2;have e3:V (SS (w a) (w b) 6).1 6+b % PP=a % PP+1*R6:=e2;have e4:=nP (SS (w a) (w b) 6).1 PL;have hc:=uP (SS (w a) (w b) 6).1 PL 6;have hd2:=iE (AS (SS (w a) (w b) 6).1 PL 6).1;rw[gV]at e4;have h1:(AS (SS (w a) (w b) 6).1 PL 6).2.toNat=1:=by
   rcases Nat.eq_zero_or_pos (AS (SS (w a) (w b) 6).1 PL 6).2.toNat with h0|h0
   ·rw[h0]at e4;omega
   ·omega
  rw[h1]at e4;rw[Nat.mod_eq_of_lt om];omega
 ·rename_i h
  have h0:(SS (w a) (w b) 6).2.toNat=0:=by
   rcases Nat.eq_zero_or_pos (SS (w a) (w b) 6).2.toNat with h0|h0
   ·exact h0
   ·exact absurd (BitVec.eq_of_toNat_eq (by rw[show (SS (w a) (w b) 6).2.toNat=1 from by omega];rfl)) h
  rw[h0]at e2;rw[show a % PP+PP-b % PP=V (SS (w a) (w b) 6).1 6+PP from by omega,Nat.add_mod_right,Nat.mod_eq_of_lt om]
theorem kS:w 0=List.replicate 6 0#64:=by decide+kernel
theorem FY{a:Nat}:w a=List.replicate 6 0#64↔a % PP=0:=by
 rw[<-kS];constructor
 ·intro h
  have h1:=w_V a;rw[h,w_V]at h1;rw[<-h1];rfl
 ·intro h
  rw[<-EC a,h]
def e(a:Nat):LW:=w a++List.replicate 6 0#64
theorem sP(a:Nat):(e a).length=12:=by rw[e,List.length_append,yx];rfl
theorem gj(a:Nat):(e a).take 6=w a:=List.take_left' (yx a)
theorem jk(a:Nat):(e a).drop 6=List.replicate 6 0#64:=List.drop_left' (yx a)
theorem qf(a b:Nat):EMU (e a) (e b)=e (mm a b):=by
 rw[EMU,if_pos ⟨jk a,jk b⟩,gj,gj,uA];rfl
theorem Jk:gQ (List.replicate 6 0#64) (List.replicate 6 0#64)=List.replicate 6 0#64:=by rw[<-kS,uX];rfl
theorem I8:kX (List.replicate 6 0#64) (List.replicate 6 0#64)=List.replicate 6 0#64:=by rw[<-kS,yP,<-EC];exact congrArg w (by decide+kernel)
theorem K5(a b:Nat):EAD (e a) (e b)=e (ma a b):=by
 rw[EAD,gj,gj,jk,jk,uX,Jk];rfl
theorem s7(a b:Nat):ESB (e a) (e b)=e (ms a b):=by
 rw[ESB,gj,gj,jk,jk,yP,I8];rfl
theorem rF(a:Nat):EZ (e a)=decide (a % PP=0):=by
 rw[EZ,gj,jk,decide_eq_true (rfl:(List.replicate 6 0#64:LW)=List.replicate 6 (0#64)),Bool.and_true];exact decide_eq_decide.2 FY
def P3(x y z:Nat):LW:=e x++(e y++e z)
theorem BC(x y z:Nat):(P3 x y z).take 12=e x:=List.take_left' (sP x)
theorem zQ(x y z:Nat):((P3 x y z).drop 12).take 12=e y:=by rw[P3,List.drop_left' (sP x)];exact List.take_left' (sP y)
theorem lA(x y z:Nat):(P3 x y z).drop 24=e z:=by
 rw[P3,<-List.append_assoc];exact List.drop_left' (by rw[List.length_append,sP,sP])
def sq{α:Type}(n:Nat)(k:Nat->α):α:=match n with
 |0=>k 0
 |m+1=>k (m+1)
theorem sL{α:Type}(n:Nat)(k:Nat->α):sq n k=k n:=by cases n<;>rfl
def dbl{α:Type}(x y z:Nat)(k:Nat->Nat->Nat->α):α:=
 sq (mm x x) λa=>sq (mm y y) λb=>sq (mm x b) λs1=>sq (ma s1 s1) λs2=>sq (ma s2 s2) λs=>sq (ma (ma a a) a) λm=>
 sq (ms (ms (mm m m) s) s) λx3=>sq (mm b b) λc1=>sq (ma c1 c1) λc2=>sq (ma c2 c2) λc4=>sq (ma c4 c4) λc=>sq (mm y z) λt=>
 sq (ms (mm m (ms s x3)) c) λy3=>sq (ma t t) λz3=>k x3 y3 z3
theorem Kg(x y z:Nat):CDB (P3 x y z)=dbl x y z P3:=by
 simp only[CDB,BC,zQ,lA,qf,K5,s7,dbl,sL];simp only[P3]
def dbz{α:Type}(x y z:Nat)(k:Nat->Nat->Nat->α):α:=bif decide (z % PP=0)then k 0 0 0 else bif decide (y % PP=0)then k 0 0 0 else dbl x y z k
theorem AT:Z36=P3 0 0 0:=by
 rw[P3,e,kS];rfl
theorem Lj(x y z:Nat):CDL (P3 x y z)=dbz x y z P3:=by
 unfold CDL dbz;rw[lA,zQ,rF,rF];by_cases h1:z % PP=0
 ·rw[decide_eq_true h1,if_pos O,cond_true];exact AT
 ·rw[decide_eq_false h1,if_neg aC,cond_false]
  by_cases h2:y % PP=0
  ·rw[decide_eq_true h2,if_pos O,cond_true];exact AT
  ·rw[decide_eq_false h2,if_neg aC,cond_false];exact Kg x y z
def hN(x z gx gz:Nat):Nat:=ms (mm gx (mm z z)) (mm x (mm gz gz))
def xp{α:Type}(x y z gx gy gz:Nat)(k:Nat->Nat->Nat->α):α:=
 sq (mm gz gz) λqz=>sq (mm z z) λpz=>sq (mm x qz) λu=>sq (mm (mm y qz) gz) λs=>sq (ms (mm gx pz) u) λh=>sq (ms (mm (mm gy pz) z) s) λr=>
 sq (mm h h) λh2=>sq (mm h2 h) λh3=>sq (mm u h2) λv=>sq (ms (ms (ms (mm r r) h3) v) v) λx3=>sq (ms (mm r (ms v x3)) (mm s h3)) λy3=>sq (mm (mm z gz) h) λz3=>k x3 y3 z3
def add{α:Type}(x y z gx gy gz:Nat)(d:α)(k:Nat->Nat->Nat->α):α:=
 bif decide (z % PP=0)then k gx gy gz else bif decide (gz % PP=0)then k x y z else bif decide (hN x z gx gz % PP=0)then d else xp x y z gx gy gz k
theorem Jf(x y z gx gy gz:Nat):CAG (P3 x y z) (P3 gx gy gz)=xp x y z gx gy gz P3:=by
 have hh:ADh (P3 x y z) (P3 gx gy gz)=e (ms (mm gx (mm z z)) (mm x (mm gz gz))):=by
  simp only[ADh,BC,lA,qf,s7]
 have hr:ADr (P3 x y z) (P3 gx gy gz)=e (ms (mm (mm gy (mm z z)) z) (mm (mm y (mm gz gz)) gz)):=by
  simp only[ADr,zQ,lA,qf,s7]
 simp only[CAG,hh,hr,BC,zQ,lA,qf,s7,xp,sL];simp only[P3]
theorem JN(x y z gx gy gz:Nat):CAD (P3 x y z) (P3 gx gy gz)=add x y z gx gy gz (CAD (P3 x y z) (P3 gx gy gz)) P3:=by
 have hh:ADh (P3 x y z) (P3 gx gy gz)=e (hN x z gx gz):=by
  simp only[ADh,BC,lA,qf,s7,hN]
 unfold add;by_cases h1:z % PP=0
 ·rw[decide_eq_true h1,cond_true,CAD,lA,rF,decide_eq_true h1,if_pos O]
 ·rw[decide_eq_false h1,cond_false]
  by_cases h2:gz % PP=0
  ·rw[decide_eq_true h2,cond_true,CAD,lA,lA,rF,rF,decide_eq_false h1,decide_eq_true h2,if_neg aC,if_pos O]
  ·rw[decide_eq_false h2,cond_false]
   by_cases h3:hN x z gx gz % PP=0
   ·rw[decide_eq_true h3,cond_true]
   ·rw[decide_eq_false h3,cond_false,CAD,lA,lA,rF,rF,hh,rF,decide_eq_false h1,decide_eq_false h2,decide_eq_false h3,if_neg aC,if_neg aC,if_neg aC]
    exact Jf x y z gx gy gz
def sU(g:LW)(l:List Bool)(p:LW):LW:=l.foldl (λp b=>bif b then CAD (CDL p) g else CDL p) p
def iK(bs:L8)(n:Nat):List Bool:=(List.range n).map λi=>decide (fQ bs i=1#8)
theorem sG(g:LW)(bs:L8): ∀n,CMU g bs n=sU g (iK bs n) Z36
 |0=>rfl
 |n+1=>by
  rw[CMU,sG g bs n,sU,sU,iK,iK,List.range_succ,List.map_append,List.foldl_append];by_cases h:fQ bs n=1#8
  ·rw[if_pos h]
   simp only[List.map_cons,List.map_nil,List.foldl_cons,List.foldl_nil,h,decide_true,cond_true]
  ·rw[if_neg h]
   simp only[List.map_cons,List.map_nil,List.foldl_cons,List.foldl_nil,h,decide_false,cond_false]
def AV(x y z:Nat):Nat×Nat×Nat:=dbz x y z λa b c=>(a,b,c)
theorem EO{α:Type}(x y z:Nat)(k:Nat->Nat->Nat->α):dbz x y z k=k (AV x y z).1 (AV x y z).2.1 (AV x y z).2.2:=by
 unfold AV dbz
 cases decide (z % PP=0)
 ·cases decide (y % PP=0)
  ·simp only[cond_false,dbl,sL]
  ·simp only[cond_false,cond_true]
 ·simp only[cond_true]
def tc(x y z gx gy gz:Nat):Nat×Nat×Nat:=xp x y z gx gy gz λa b c=>(a,b,c)
theorem yv{α:Type}(x y z gx gy gz:Nat)(k:Nat->Nat->Nat->α):xp x y z gx gy gz k=k (tc x y z gx gy gz).1 (tc x y z gx gy gz).2.1 (tc x y z gx gy gz).2.2:=by
 simp only[tc,xp,sL]
def Hz(x y z gx gy gz:Nat):Option (Nat×Nat×Nat):=add x y z gx gy gz none λa b c=>some (a,b,c)
theorem Eg{α:Type}(x y z gx gy gz:Nat)(d:α)(k:Nat->Nat->Nat->α):add x y z gx gy gz d k=match Hz x y z gx gy gz with|none=>d|some (a,b,c)=>k a b c:=by
 rw[Hz,add,add,yv,yv];generalize tc x y z gx gy gz=t;generalize decide (z % PP=0)=b1;generalize decide (gz % PP=0)=b2;generalize decide (hN x z gx gz % PP=0)=b3
 cases b1<;>cases b2<;>cases b3<;>rfl
def xa(gx gy gz:Nat):List Bool->Nat->Nat->Nat->Option (Nat×Nat×Nat)
 |[],x,y,z=>some (x,y,z)
 |b::l,x,y,z=>dbz x y z λx y z=>bif b then add x y z gx gy gz none (xa gx gy gz l)else xa gx gy gz l x y z
theorem uq{gx gy gz X Y Z:Nat}: ∀(l:List Bool) (x y z:Nat),xa gx gy gz l x y z=some (X,Y,Z)->sU (P3 gx gy gz) l (P3 x y z)=P3 X Y Z
 |[],x,y,z,h=>by
  rw[xa,Option.some.injEq,Prod.mk.injEq,Prod.mk.injEq]at h;obtain ⟨rfl,rfl,rfl⟩:=h;rfl
 |b::l,x,y,z,h=>by
  rw[xa,EO]at h;rw[sU,List.foldl_cons,Lj,EO];generalize AV x y z=t at h⊢;obtain ⟨a,b',c⟩:=t;dsimp only at h⊢
  cases b
  ·rw[cond_false]at h⊢
   exact uq l a b' c h
  ·rw[cond_true]at h⊢
   rw[Eg]at h;rw[JN,Eg]
   cases ha:Hz a b' c gx gy gz with
   |none=>rw[ha]at h;cases h
   |some t=>
    obtain ⟨a2,b2,c2⟩:=t;rw[ha]at h;exact uq l a2 b2 c2 h
def pwN(a:Nat):List Bool->Nat->Nat
 |[],r=>r
 |b::l,r=>sq (mm r r) λt=>bif b then sq (mm t a) (pwN a l)else pwN a l t
def j8(a:LW)(l:List Bool)(r:LW):LW:=l.foldl (λr b=>bif b then RM (RM r r) a else RM r r) r
theorem yu(bs:L8)(n:Nat):iK bs (n+1)=iK bs n++[decide (fQ bs n=1#8)]:=by
 rw[iK,iK,List.range_succ,List.map_append];rfl
theorem yn(a r:LW)(l:List Bool)(b:Bool):j8 a (l++[b]) r=bif b then RM (RM (j8 a l r) (j8 a l r)) a else RM (j8 a l r) (j8 a l r):=by
 rw[j8,j8,List.foldl_append,List.foldl_cons,List.foldl_nil]
theorem vJ(a:LW)(bs:L8): ∀n,RP a bs n=j8 a (iK bs n) ONE
 |0=>by rw[RP,iK,j8,List.range_zero,List.map_nil,List.foldl_nil]
 |n+1=>by
  rw[yu,yn,<-vJ a bs n];by_cases h:fQ bs n=1#8
  ·rw[HB _ _ _ h,decide_eq_true h,cond_true]
  ·rw[Ie _ _ _ h,decide_eq_false h,cond_false]
theorem Bg(a:Nat): ∀(l:List Bool) (r:Nat),j8 (w a) l (w r)=w (pwN a l r)
 |[],r=>rfl
 |b::l,r=>by
  rw[pwN,j8,List.foldl_cons,uA];simp only[sL]
  cases b
  ·exact Bg a l (mm r r)
  ·rw[cond_true,cond_true,uA]
   exact Bg a l _
def ON:Nat:=3380320199399472671518931668520476396067793891014375699959770179129436917079669831430077592723774664465579537268733
theorem Mn:ONE=w ON:=by decide+kernel
theorem E1_e:E1_=e ON:=by decide+kernel
theorem Hx:pL (List.replicate 6 0#64)=w 0:=by
 rw[kS];exact if_pos O
theorem Ky(t:Nat):mm 0 t=0:=by rw[mm,Nat.zero_mul,Nat.zero_mul,Nat.zero_mod]
def IVb:List Bool:=iK EX2 384
def ivN(z:Nat):Nat:=mm z (pwN (ma (mm z z) 0) IVb ON)
theorem LL(z:Nat):EIV (e z)=e (ivN z):=by
 have h1:ENM (e z)=w (ma (mm z z) 0):=by
  rw[ENM,gj,jk,<-kS,uA,uA,uX,Ky]
 rw[EIV,h1,gj,jk,vJ,Mn,Bg,uA,Hx,uA,Ky,kS];rfl
theorem Mi{x y z:Nat}(h:z % PP≠ON):CXY (P3 x y z)=(e (mm x (mm (ivN z) (ivN z))),e (mm (mm y (mm (ivN z) (ivN z))) (ivN z))):=by
 have hne: ¬(P3 x y z).drop 24=E1_:=by
  rw[lA,E1_e];intro h1;have h2:w z=w ON:=by rw[<-gj,h1,gj]
  have h3:=w_V z;rw[h2,w_V]at h3;exact h (h3.symm.trans (by decide+kernel))
 rw[CXY,if_neg hne,BC,zQ,lA,LL];simp only[qf]
def G0x:Nat:=2771334866125919199105806127325991204049638301394587550983394276622338185155646768704112188431188468948617777056790
def G0y:Nat:=1806233535529883172442092828064561001318757138177058380995827434860385074092408792531060859215838632649768391090801
theorem IE:G1W=P3 G0x G0y ON:=by decide+kernel
theorem Ee{X Y Z i X' Y':Nat}{k:L8}(h0:Z % PP≠0)(h1:Z % PP≠ON)(hi:ivN Z=i)(hX:mm X (mm i i)=X')(hY:mm (mm Y (mm i i)) i=Y')
 (hk:(if RLG (W Y')then OR0 (OR0 (NBr (W X')) 128#8) 32#8 else OR0 (NBr (W X')) 128#8)=k):EN1 (P3 X Y Z)=k:=by
 have e1:W X'=w X':=by rw[<-hX,mm,w,Nat.mod_mod]
 have e2:W Y'=w Y':=by rw[<-hY,mm,w,Nat.mod_mod]
 rw[EN1,lA,rF,decide_eq_false h0,if_neg aC,Mi h1,hi,hX,hY];show (if ELG (e Y')=true then OR0 (OR0 (NBr ((e X').take 6)) 128#8) 32#8 else OR0 (NBr ((e X').take 6)) 128#8)=k
 rw[ELG,jk,if_pos O,gj,gj,<-e1,<-e2];exact hk
theorem Es{s:LW}{a b:BitVec 8}{X Y Z:Nat}(hs:BYs s 48=List.replicate 46 0#8++[a,b])(h:xa G0x G0y ON (iK [a,b] 16) 0 0 0=some (X,Y,Z)):KYW s=EN1 (P3 X Y Z):=by
 have hz: ∀j,j<46->(BYs s 48).getD j 0#8=0#8:=λj hj=>by
  rw[hs,List.getD_eq_getElem?_getD,List.getElem?_append_left (by simpa using hj),List.getElem?_replicate,if_pos hj];rfl
 have hd:(BYs s 48).drop 46=[a,b]:=by rw[hs];exact List.drop_left' aB
 have h1:=pg G1W (BYs s 48) 46 hz 16;rw[hd,sG G1W [a,b] 16,IE,AT,uq _ _ _ _ h]at h1;rw[KYW,IE];exact congrArg EN1 h1
def KL0:L8:=[0xa1#8,0x67#8,0xb1#8,0x01#8,0x32#8,0x1d#8,0x99#8,0x94#8,0x89#8,0x32#8,0x78#8,0x54#8,0xe3#8,0xb9#8,0x5f#8,0x5a#8,0x54#8,0x0f#8,0xd9#8,0x77#8,0xce#8,0x06#8,0xbb#8,0xbf#8,0x67#8,0x18#8,0x20#8,0xc7#8,0x80#8,0x06#8,0x5a#8,0x53#8,0x58#8,0xd8#8,0xd2#8,0xb1#8,0x0d#8,0xd0#8,0xf6#8,0xc3#8,0xfa#8,0x4d#8,0x2b#8,0x18#8,0xb0#8,0x62#8,0x58#8,0xb2#8]
theorem sec0:SEC (1#64) 0=W 1612:=by decide+kernel
theorem JY:KYW (SEC (1#64) 0)=KL0:=by
 rw[sec0,Es (a:=6#8) (b:=76#8) (X:=655589676653484948040920015120831252356235396654626527082981944911392929818613635185585018595878265998286675291240) (Y:=2933804021569719547103842246864496236935474049298154132764943142887715061653456483618309393901695614917475032664404) (Z:=3854335105082668051065221472620704663033838068089724376948035255180205324420570845953188782171678758430080617325978) (by decide+kernel) kr]
 exact Ee (i:=2266259875127196107177844241773669906370996428507324864708913705111159099479546516749200193516967189638236818980993) (X':=847674067022795613479356511777749391124622757721699476152368776320505687023946490544567588944133454768488779718657) (Y':=1144592973839935856236401633867237997048955123859491899730883163263760635521399924483692534056343714539613842175302) (by decide+kernel) (by decide+kernel) kr kr kr kr
theorem kys0:KYW (SMW (1#64) 1)=KL0:=by
 rw[show SMW (1#64) 1=SEC (1#64) 0 from by decide+kernel]
 exact JY
def KL1:L8:=[0x93#8,0x01#8,0xe3#8,0xba#8,0x9d#8,0x78#8,0x8f#8,0x48#8,0x71#8,0x7b#8,0x9e#8,0x6c#8,0x5a#8,0x6b#8,0xfa#8,0x41#8,0x1a#8,0xc6#8,0x40#8,0x2c#8,0x1b#8,0xd2#8,0x95#8,0xcd#8,0xe1#8,0xf9#8,0xb1#8,0x5e#8,0xd2#8,0x27#8,0xfb#8,0x07#8,0x31#8,0x97#8,0x2c#8,0xdd#8,0xaf#8,0xad#8,0x88#8,0xad#8,0x67#8,0x57#8,0xe1#8,0x9a#8,0x1d#8,0xcd#8,0x1e#8,0x7e#8]
theorem sec1:SEC (2#64) 0=W 2577:=by decide+kernel
theorem Kx:KYW (SEC (2#64) 0)=KL1:=by
 rw[sec1,Es (a:=10#8) (b:=17#8) (X:=582150794641962343850049901524271391885045419027490613870910852287479367849036849871813601836970715309287157901901) (Y:=700889790021858414718368846840706129261997786322207474787529127662450011305057863902731397314452987379751248364670) (Z:=1501912720959353826520747633181334298017509268639713301026867316806171724869615072493023934973947788478993051172014) (by decide+kernel) kr]
 exact Ee (i:=3873066197556336009908593422536272580628714494719754784942040223595608598793466412984992289932959743680480286821280) (X':=833452958939155856911912820457383184203185393926749879142615012775271738303894098329401498816955688736700400967157) (Y':=1108891535229740878151606887910372450674854551992997675887672841271734178036698654794059406533231948466365190859095) (by decide+kernel) (by decide+kernel) kr kr kr kr
theorem kys1:KYW (SMW (2#64) 1)=KL1:=by
 rw[show SMW (2#64) 1=SEC (2#64) 0 from by decide+kernel]
 exact Kx
end
namespace Sh
abbrev tN:BitVec 32->Nat:=BitVec.toNat
abbrev M32:Nat:=4294967296
def tn(x a b:Nat):Nat:=Nat.lor (Nat.mod (Nat.shiftLeft x a) M32) (Nat.shiftRight x b)
def s1N(x:Nat):Nat:=Nat.xor (Nat.xor (tn x 26 6) (tn x 21 11)) (tn x 7 25)
def s0N(x:Nat):Nat:=Nat.xor (Nat.xor (tn x 30 2) (tn x 19 13)) (tn x 10 22)
def l0N(x:Nat):Nat:=Nat.xor (Nat.xor (tn x 25 7) (tn x 14 18)) (Nat.shiftRight x 3)
def l1N(x:Nat):Nat:=Nat.xor (Nat.xor (tn x 15 17) (tn x 13 19)) (Nat.shiftRight x 10)
def aN(a b:Nat):Nat:=Nat.mod (Nat.add a b) M32
def w4N(bl:List Nat)(i:Nat):Nat:=Nat.lor (Nat.lor (Nat.lor (Nat.mod (Nat.shiftLeft (Nat.mod (bl.getD (4*i) 0) M32) 24) M32) (Nat.mod (Nat.shiftLeft (Nat.mod (bl.getD (4*i+1) 0) M32) 16) M32)) (Nat.mod (Nat.shiftLeft (Nat.mod (bl.getD (4*i+2) 0) M32) 8) M32)) (Nat.mod (bl.getD (4*i+3) 0) M32)
def W1N(bl:List Nat):Nat->List Nat
 |0=>List.replicate 64 0
 |k+1=>(W1N bl k).set k (w4N bl k)
def w5N(ws:List Nat)(i:Nat):Nat:=aN (aN (aN (l1N (ws.getD (i-2) 0)) (ws.getD (i-7) 0)) (l0N (ws.getD (i-15) 0))) (ws.getD (i-16) 0)
def W2N(bl:List Nat):Nat->List Nat
 |0=>W1N bl 16
 |k+1=>(W2N bl k).set (16+k) (w5N (W2N bl k) (16+k))
structure VN where
 (a b c d e f g h:Nat)
def ttN(v:VN)(k w:Nat):Nat:=aN (aN (aN (aN v.h (s1N v.e)) (Nat.xor (Nat.land v.e v.f) (Nat.land (Nat.sub 4294967295 v.e) v.g))) k) w
def CT(v:VN)(k w:Nat):VN:=⟨aN (ttN v k w) (aN (s0N v.a) (Nat.xor (Nat.xor (Nat.land v.a v.b) (Nat.land v.a v.c)) (Nat.land v.b v.c))),v.a,v.b,v.c,aN v.d (ttN v k w),v.e,v.f,v.g⟩
def vg(v:VN)(ks ws:List Nat):Nat->VN
 |0=>v
 |k+1=>CT (vg v ks ws k) (ks.getD k 0) (ws.getD k 0)
def vN(s:List Nat):VN:=⟨s.getD 0 0,s.getD 1 0,s.getD 2 0,s.getD 3 0,s.getD 4 0,s.getD 5 0,s.getD 6 0,s.getD 7 0⟩
def yT(ks s bl:List Nat):List Nat:=
 let v:=vg (vN s) ks (W2N bl 48) 64
 [aN (s.getD 0 0) v.a,aN (s.getD 1 0) v.b,aN (s.getD 2 0) v.c,aN (s.getD 3 0) v.d,aN (s.getD 4 0) v.e,aN (s.getD 5 0) v.f,aN (s.getD 6 0) v.g,aN (s.getD 7 0) v.h]
def DV(ks s:List Nat):List (List Nat)->List Nat
 |[]=>s
 |b::l=>DV ks (yT ks s b) l
def V8.n(v:V8):VN:=⟨tN v.a,tN v.b,tN v.c,tN v.d,tN v.e,tN v.f,tN v.g,tN v.h⟩
theorem n5(x y:BitVec 32):tN (x+y)=aN (tN x) (tN y):=BitVec.toNat_add x y
theorem kP(x:BitVec 32)(k:Int)(a b:Nat)(ha:(BitVec.ofInt 64 k &&& 31#64).toNat=a)(hb:(32#64-(BitVec.ofInt 64 k &&& 31#64)).toNat=b):tN (kM x k)=tn (tN x) a b:=by
 subst ha hb;show BitVec.toNat (kM x k)=_;rw[kM,BitVec.toNat_or,BitVec.toNat_shiftLeft,BitVec.toNat_ushiftRight];rfl
theorem jY(x y:BitVec 32):tN (x^^^y)=Nat.xor (tN x) (tN y):=BitVec.toNat_xor x y
theorem tI(x y:BitVec 32):tN (x &&& y)=Nat.land (tN x) (tN y):=BitVec.toNat_and x y
theorem Ik(x:BitVec 32):tN (~~~x)=Nat.sub 4294967295 (tN x):=BitVec.toNat_not
theorem s1_e(x:BitVec 32):tN (pu x)=s1N (tN x):=by rw[pu,jY,jY,kP x (-6) 26 6 aC aC,kP x (-11) 21 11 aC aC,kP x (-25) 7 25 aC aC];rfl
theorem s0_e(x:BitVec 32):tN (sE x)=s0N (tN x):=by rw[sE,jY,jY,kP x (-2) 30 2 aC aC,kP x (-13) 19 13 aC aC,kP x (-22) 10 22 aC aC];rfl
theorem EB(x:BitVec 32)(n:Nat):tN (x>>>n)=Nat.shiftRight (tN x) n:=BitVec.toNat_ushiftRight x n
theorem l0_e(x:BitVec 32):tN (yj x)=l0N (tN x):=by rw[yj,jY,jY,kP x (-7) 25 7 aC aC,kP x (-18) 14 18 aC aC,EB];rfl
theorem l1_e(x:BitVec 32):tN (yq x)=l1N (tN x):=by rw[yq,jY,jY,kP x (-17) 15 17 aC aC,kP x (-19) 13 19 aC aC,EB];rfl
theorem nr{n:Nat}(l:List (BitVec n))(i:Nat):(l.map BitVec.toNat).getD i 0=(l.getD i 0).toNat:=by
 rw[List.getD_eq_getElem?_getD,List.getD_eq_getElem?_getD,List.getElem?_map]
 cases l[i]? with
 |none=>rfl
 |some x=>rfl
theorem w4_e(bl:L8)(i:Nat):tN (w4 bl i)=w4N (bl.map BitVec.toNat) i:=by
 have s: ∀(x:BitVec 8) (k:Nat),BitVec.toNat (x.setWidth 32<<<k)=Nat.mod (Nat.shiftLeft (Nat.mod x.toNat M32) k) M32:=λx k=>by
  rw[BitVec.toNat_shiftLeft,BitVec.toNat_setWidth];rfl
 show BitVec.toNat (w4 bl i)=_;rw[w4,w4N,BitVec.toNat_or,BitVec.toNat_or,BitVec.toNat_or,s,s,s,BitVec.toNat_setWidth,nr,nr,nr,nr];rfl
theorem KL(bl:L8): ∀k,(W1 bl k).map tN=W1N (bl.map BitVec.toNat) k
 |0=>by rw[W1,W1N,List.map_replicate];rfl
 |k+1=>by rw[W1,W1N,List.map_set,KL bl k,w4_e]
theorem w5_e(ws:Lz3)(i:Nat):tN (w5 ws i)=w5N (ws.map tN) i:=by
 rw[w5,w5N,n5,n5,n5,l1_e,l0_e,nr,nr,nr,nr]
theorem Ih(bl:L8): ∀k,(W2 bl k).map tN=W2N (bl.map BitVec.toNat) k
 |0=>KL bl 16
 |k+1=>by rw[W2,W2N,List.map_set,Ih bl k,w5_e,Ih bl k]
theorem Jo(v:V8)(k w:BitVec 32):(rnd v k w).n=CT v.n (tN k) (tN w):=by
 have t:tN (v.h+pu v.e+(v.e &&& v.f^^^ ~~~v.e &&& v.g)+k+w)=ttN v.n (tN k) (tN w):=by
  rw[n5,n5,n5,n5,s1_e,jY,tI,tI,Ik];rfl
 have e1:tN (rnd v k w).a=(CT v.n (tN k) (tN w)).a:=by
  show tN ((v.h+pu v.e+(v.e &&& v.f^^^ ~~~v.e &&& v.g)+k+w)+(sE v.a+(v.a &&& v.b^^^v.a &&& v.c^^^v.b &&& v.c)))=_;rw[n5,t,n5,s0_e,jY,jY,tI,tI,tI];rfl
 have e2:tN (rnd v k w).e=(CT v.n (tN k) (tN w)).e:=by
  show tN (v.d+(v.h+pu v.e+(v.e &&& v.f^^^ ~~~v.e &&& v.g)+k+w))=_;rw[n5,t];rfl
 show VN.mk (tN (rnd v k w).a) _ _ _ (tN (rnd v k w).e) _ _ _=_;rw[e1,e2];rfl
theorem Aq(v:V8)(ws:Lz3): ∀k,(mw v ws k).n=vg v.n (KW.map tN) (ws.map tN) k
 |0=>rfl
 |k+1=>by rw[mw,vg,Jo,Aq v ws k,nr,nr]
theorem vN_e(st:Lz3):(v8 st).n=vN (st.map tN):=by
 simp only[vN,nr];rfl
theorem Gn(st:Lz3)(bl:L8):(comp st bl).map tN=yT (KW.map tN) (st.map tN) (bl.map BitVec.toNat):=by
 have h:=Aq (v8 st) (W2 bl 48) 64;rw[vN_e,Ih]at h;rw[yT,<-h];simp only[comp,FC,List.map_cons,List.map_nil,nr,n5];rfl
theorem BF(st:Lz3)(b:L8)(l:List L8): ∀k,jU st (b::l) (k+1)=jU (comp st b) l k
 |0=>rfl
 |k+1=>by rw[jU,BF st b l k];rfl
theorem E4: ∀(l:List L8) (st:Lz3),(jU st l l.length).map tN=DV (KW.map tN) (st.map tN) (l.map (·.map BitVec.toNat))
 |[],_=>rfl
 |b::l,st=>by
  rw[List.length_cons,BF,E4 l,Gn];rfl
theorem HE(l:Lz3):(l.map tN).map (BitVec.ofNat 32)=l:=by
 rw[List.map_map];exact (List.map_congr_left λx _=>BitVec.ofNat_toNat 32 x|>.trans (BitVec.setWidth_eq x)).trans (List.map_id l)
theorem Ko(bs r:L8)(h:DG ((DV (KW.map tN) (IV.map tN) ((jK bs).map (·.map BitVec.toNat))).map (BitVec.ofNat 32)) 8=r):SHA bs=r:=by
 rw[SHA,<-HE (jU IV (jK bs) (jK bs).length),E4];exact h
end Sh
section
open Go.RowKit
open Sh
def H(n:Nat):Rt:=(List.range 32).map λi=>BitVec.ofNat 8 (n>>>(8*(31-i)))
def kH(b:L8):L8:=Sh.DG ((Sh.DV (KW.map Sh.tN) (Sh.IV.map Sh.tN) ((Sh.jK b).map (·.map BitVec.toNat))).map (BitVec.ofNat 32)) 8
theorem eE(x y:Rt):P2 x y=kH (x++y):=Sh.Ko _ _ O
theorem tor1(a:Rt):Tor [a]=a:=by
 rw[Tor,show dep [a].length=0 from (by decide+kernel:dep 1=0)]
 rfl
theorem B4(a b:Rt):Tor [a,b]=P2 a b:=by
 rw[Tor,show dep [a,b].length=1 from (by decide+kernel:dep 2=1)]
 rfl
theorem tor5(a b c d e:Rt):Tor [a,b,c,d,e]=P2 (P2 (P2 a b) (P2 c d)) (P2 (P2 e Z0) (P2 Z0 Z0)):=by
 rw[Tor,show dep [a,b,c,d,e].length=3 from (by decide+kernel:dep 5=3)]
 rfl
theorem EJ{m:Co}{k:By}(h1:m.ks=[k])(h2:m.sum=k):m.rt 1=P2 (BR8 k) (BR8 k):=by
 rw[Co.rt,h1,h2,B4];show P2 (Tor [BR8 k]) _=_;rw[tor1]
def xq0:Nat:=0xa167b101321d999489327854e3b95f5a540fd977ce06bbbf671820c780065a53
def xq1:Nat:=0x58d8d2b10dd0f6c3fa4d2b18b06258b200000000000000000000000000000000
def xq2:Nat:=0xc27e44d4ecf0269e97c3230600219048c9c6b777ced61b76f096831b3b8a50d3
theorem xp0:P2 (H xq0) (H xq1)=(H xq2):=by
 rw[eE];decide+kernel
def xq3:Nat:=0xb007028df7fdd69ec025fe3bc653e7637f8f6d4f57d3901096866434c6a2e4d6
theorem xp1:P2 (H xq2) (H xq2)=(H xq3):=by
 rw[eE];decide+kernel
theorem chs0:chs KL0=[(H xq0),(H xq1)]:=by decide+kernel
theorem rtK0{m:Co}(h1:m.ks=[KL0])(h2:m.sum=KL0):m.rt 1=(H xq3):=by
 rw[EJ h1 h2,BR8,chs0,B4,xp0,xp1]
def xq4:Nat:=0x9301e3ba9d788f48717b9e6c5a6bfa411ac6402c1bd295cde1f9b15ed227fb07
def xq5:Nat:=0x31972cddafad88ad6757e19a1dcd1e7e00000000000000000000000000000000
def xq6:Nat:=0xb569d7d6f52fea0b7ee3b2bae5fe5afbd931293b609f98b3cffea245f514255b
theorem xp2:P2 (H xq4) (H xq5)=(H xq6):=by
 rw[eE];decide+kernel
def xq7:Nat:=0xac5a4e6a7bede20f93708a23bbbaf7f4a47a42160acdf0615c0b4ab37e03a3d1
theorem xp3:P2 (H xq6) (H xq6)=(H xq7):=by
 rw[eE];decide+kernel
theorem chs1:chs KL1=[(H xq4),(H xq5)]:=by decide+kernel
theorem rtK1{m:Co}(h1:m.ks=[KL1])(h2:m.sum=KL1):m.rt 1=(H xq7):=by
 rw[EJ h1 h2,BR8,chs1,B4,xp2,xp3]
def xq8:Nat:=0x500000000000000000000000000000000000000000000000000000000000000
def xq9:Nat:=0x0
def CO:Nat:=0xc8b9e6acb00f5b32f776f5466510630a94829c965d35074e9d1620162e8b51df
theorem xp4:P2 (H xq8) (H xq9)=(H CO):=by
 rw[eE];decide+kernel
def Ki:Nat:=0xa29291b9e37a3c520595cc24a31638e82069baf37f89bc8c034e79a63cee02d0
def Jn:Nat:=0xcdb44bab59b17901ab6bab9ec6a7d145929d275dd0cb0df852088cfe3001ead7
def Kt:Nat:=0x9f9740e436317ae91ae7d5aa30e2e28e80ca3b24d6e452b5908f6cf469c82043
theorem xp5:P2 (H Ki) (H Jn)=(H Kt):=by
 rw[eE];decide+kernel
def I3:Nat:=0xd88f895163c3c3558a8a61788a1612598ca497911f6bfd30479390fba48b911
def Ke:Nat:=0x9ecbea7250916506afe55304d8c236e45a5c5c3da63b8a73064281cf433ec8ce
def Lu:Nat:=0xad4676011e30f754f804b89cbaa3f195aab8b99467709ac570b6b2e88cd34e35
theorem xp6:P2 (H I3) (H Ke)=(H Lu):=by
 rw[eE];decide+kernel
def K0:Nat:=0x618e06b2f391e36f22855aeb9f8a4c15a2a2408150bdac9665fc16724ab65353
theorem xp7:P2 (H Kt) (H Lu)=(H K0):=by
 rw[eE];decide+kernel
def KZ:Nat:=0x4369f151965bdd855c7f52314670100f6f57287a2c61fefb12a843607abf1e3e
def LU:Nat:=0xd31b2e3141f467dbfc18f9fa61bf34b9bdba40cfdf2d1e9caf03b0f3f7d9d1
def Lq:Nat:=0x195bb9893e3cf9de795079fc3a2088d6c9180ffdee64d61ee56d4b06e7875cab
theorem xp8:P2 (H KZ) (H LU)=(H Lq):=by
 rw[eE];decide+kernel
def IQ:Nat:=0xdbdbb87a9f0d5dd442cf5c4c063b6419af47331a52b923c6d16c7293c3dac72b
def Lc:Nat:=0xa39b47b0e8d38d4f79a58efad9ed7029bfbe4b179f6acf496f7e7c7cf684e388
def I7:Nat:=0x7521869b6dbc4d72cca8699c052c28a0d4b729fdd1fd5377d0a5867b12a60254
theorem xp9:P2 (H IQ) (H Lc)=(H I7):=by
 rw[eE];decide+kernel
def KN:Nat:=0x62f1fe63130b0a82ebb802551257a41ccc8aaa49ca918ac6490fe6ffd390a117
theorem xp10:P2 (H Lq) (H I7)=(H KN):=by
 rw[eE];decide+kernel
def Lr:Nat:=0x35cdc1482b526c6e0ff8eb9e0c3afdb5acef5f6b60fba5b62e740e735850287f
theorem xp11:P2 (H K0) (H KN)=(H Lr):=by
 rw[eE];decide+kernel
def Iv:Nat:=0x398f04d7c7f4060bcf7a98ee888acb3c0ad9820dbd0c3efb9a9667d626bda3c1
def Ks:Nat:=0x35e29d58b0ffd73a6c3e0ae406979e068ddff9949e3674bff50cdbdcf6f6576d
def Jh:Nat:=0xad4718a3fdd0e5343b8a2566a9319c1e802f9e642b8f144f04ee66b93b755f60
theorem xp12:P2 (H Iv) (H Ks)=(H Jh):=by
 rw[eE];decide+kernel
def J7:Nat:=0x7c927c0354976f7124ff90e4557bdc24de7fd289982d7bba86671cf5e0ef9866
def Jw:Nat:=0x7424248feb4f63be48a8d8015cc87d1ed363652f9e89a2688be126f609e2f2a2
def KY:Nat:=0xbd24ff811a6373617e6f90ae748ea6884f2ac3b065f352a03617d2dc8e19c60d
theorem xp13:P2 (H J7) (H Jw)=(H KY):=by
 rw[eE];decide+kernel
def JO:Nat:=0xb5b86e53867edd1ac621e5cdce1f710fa21eca9c98988c9e42e31d462e3ccba4
theorem xp14:P2 (H Jh) (H KY)=(H JO):=by
 rw[eE];decide+kernel
def J2:Nat:=0x72cc2aae70052685e36b01b978f912a84e77db993eb3d8c875b332bdbc70dde5
def J9:Nat:=0x5639f0701ff4f5c7f12d2d986f631268910e0b67167d7507a072d26f8c5fa37a
def IS:Nat:=0x3b145b2241026dbb9ada58bb60ccfbad772aa5f27480e12e4f03d49fd8da5edf
theorem xp15:P2 (H J2) (H J9)=(H IS):=by
 rw[eE];decide+kernel
def LX:Nat:=0x43d67697b6ed544ee0d9f6da0547ef2fc6416214ecd8fbbfa5f010b2d6b0c378
def IJ:Nat:=0x682969833010b77874d9cd7b3c6c937da746459f967f5343923eb70144e19387
def K9:Nat:=0xee34c5b33fefde6c7cb23e835223683c62b28c3b87e0f3c484195b8949218a1f
theorem xp16:P2 (H LX) (H IJ)=(H K9):=by
 rw[eE];decide+kernel
def Mr:Nat:=0xb9da62f794647eb75bfb74ac44fe0ebe487de880f9cde1580ada2bf520fd06f1
theorem xp17:P2 (H IS) (H K9)=(H Mr):=by
 rw[eE];decide+kernel
def Kk:Nat:=0x9cff8398f6e148043a119206d2033ba67ba6910be504da86505019024e7bb5a9
theorem xp18:P2 (H JO) (H Mr)=(H Kk):=by
 rw[eE];decide+kernel
def Jy:Nat:=0x70cf4b04faa02232747d4a9a8a57349bb240a62f2608c02bf328ca8ea1679c89
theorem xp19:P2 (H Lr) (H Kk)=(H Jy):=by
 rw[eE];decide+kernel
def IC:Nat:=0xddea017cd29ccf71043ac8ea60689be7f4dc7032101198cc146c6c46096ee3ab
def Lt:Nat:=0xe515874a9772d1ceccf5715a67154a930ea2de97253072c5731f21a1f30e1159
def Mq:Nat:=0x9b28cc19475695343b30f35578b271735a4239e1d66d3bad9dbe31840ac75e67
theorem xp20:P2 (H IC) (H Lt)=(H Mq):=by
 rw[eE];decide+kernel
def Iu:Nat:=0x8b6d6f2232a60333ba3235f1940dbe5abdb6a675a3ebdfa9ab3c1a346cdcedf2
def In:Nat:=0x57512380fb7d08dda7cb5b2dd27706c2ca90661ef07eaa0d449d22c82ea5230f
def Jr:Nat:=0xa489a98bc6fda9893577f5825edb84952aa67ab2ce6fe378a64ad2c69df63fdb
theorem xp21:P2 (H Iu) (H In)=(H Jr):=by
 rw[eE];decide+kernel
def IG:Nat:=0xceb8fb4e737030f1b5007898098d051d3d5f236add9963355097889d2569c3c6
theorem xp22:P2 (H Mq) (H Jr)=(H IG):=by
 rw[eE];decide+kernel
def Mh:Nat:=0x59de7b5f9fa4646d95ef44778a5d59de1aa1ac856e1a84d28db2305640858cc4
def J8:Nat:=0x2a1b0040d258218c360a1a52e7b16ed8661b0928b3804ee6f0062b2c6d358429
theorem xp23:P2 (H CO) (H Mh)=(H J8):=by
 rw[eE];decide+kernel
def Ld:Nat:=0x37f328e4d0e80de9ea85c7c59c034e056a25909ba6d562b55e892904532d865b
theorem xp24:P2 (H xq3) (H xq7)=(H Ld):=by
 rw[eE];decide+kernel
def KM:Nat:=0x45f9579cb2555170b4f24715afdc2afa665d06d557d8b63bac3e21349034673e
theorem xp25:P2 (H J8) (H Ld)=(H KM):=by
 rw[eE];decide+kernel
def Iw:Nat:=0x3474b9f6184edaf6bc4f7c58b21a461ea1a6410fe4b1ba090a1d54b2ab498750
theorem xp26:P2 (H IG) (H KM)=(H Iw):=by
 rw[eE];decide+kernel
def CM:Nat:=0xf5a5fd42d16a20302798ef6ed309979b43003d2320d9f0e8ea9831a92759fb4b
theorem Ln:P2 (H xq9) (H xq9)=(H CM):=by
 rw[eE];decide+kernel
def GE:Nat:=0xdb56114e00fdd4c1f85c892bf35ac9a89289aaecb1ebd0a96cde606a748b5d71
theorem xp28:P2 (H CM) (H CM)=(H GE):=by
 rw[eE];decide+kernel
def L9:Nat:=0xc78009fdf07fc56a11f122370658a353aaa542ed63e44c4bc15ff4cd105ab33c
theorem xp29:P2 (H GE) (H GE)=(H L9):=by
 rw[eE];decide+kernel
def KR:Nat:=0x58f6a6356434376852f58061d03214e9218a41690665ec95ae752d242e9887e4
theorem xp30:P2 (H Iw) (H L9)=(H KR):=by
 rw[eE];decide+kernel
def GW:Nat:=0x14327e749d97af712c1f6e813d49b6bc4c3335b45add1b1fe716131536c26737
theorem xp31:P2 (H Jy) (H KR)=(H GW):=by
 rw[eE];decide+kernel
def Mf:Nat:=0x9102000000000000000000000000000000000000000000000000000000000000
def LJ:Nat:=0x6501de4bce7b273a4aa6baff2142b6e87d16721dec0927cdcf87ec56669f4158
theorem xp32:P2 (H xq8) (H Mf)=(H LJ):=by
 rw[eE];decide+kernel
def J4:Nat:=0x56eba529d966f1dd00d4d129013dfd8de115a8f0cae404a5c1280e2f00774f8d
theorem xp33:P2 (H xq8) (H GW)=(H J4):=by
 rw[eE];decide+kernel
def LZ:Nat:=0xfd2e434abcd9d4166fd6c0fd8bf70b4c6a037ed6dfd548074d8923ed321a06b8
theorem xp34:P2 (H LJ) (H J4)=(H LZ):=by
 rw[eE];decide+kernel
def I4:Nat:=0xd1
def LR:Nat:=0xdc34f98c6b7d29d2885f6349b351a8e0d4489b11a21369285c492319bdc4ff9b
theorem xp35:P2 (H I4) (H xq9)=(H LR):=by
 rw[eE];decide+kernel
def K8:Nat:=0x1b00c57a11f636c480d2eb0d477e994062fbea2dd2802c853720cc346cad9438
theorem xp36:P2 (H LR) (H CM)=(H K8):=by
 rw[eE];decide+kernel
def H8:Nat:=0x8f30bfb62b3e13a1450e5a7fd0053056beec34400f62799bb33c1a3f71a8e1e8
theorem xp37:P2 (H LZ) (H K8)=(H H8):=by
 rw[eE];decide+kernel
theorem H_0:Z0=H xq9:=by decide+kernel
theorem k_24{α:Type}(p:α->α->α)(z a0 a1 a2 a3 a4 a5 a6 a7 a8 a9 a10 a11 a12 a13 a14 a15 a16 a17 a18 a19 a20 a21 a22 a23:α):tre p z 5 [a0,a1,a2,a3,a4,a5,a6,a7,a8,a9,a10,a11,a12,a13,a14,a15,a16,a17,a18,a19,a20,a21,a22,a23]=p (p (p (p (p (a0) (a1)) (p (a2) (a3))) (p (p (a4) (a5)) (p (a6) (a7)))) (p (p (p (a8) (a9)) (p (a10) (a11))) (p (p (a12) (a13)) (p (a14) (a15))))) (p (p (p (p (a16) (a17)) (p (a18) (a19))) (p (p (a20) (a21)) (p (a22) (a23)))) (p (p (p (z) (z)) (p (z) (z))) (p (p (z) (z)) (p (z) (z))))):=rfl
theorem Mj:nR 5#64=(H xq8):=by decide+kernel
theorem JU:dh (LVS 6#64 (H CO) (H xq3) (H xq7)) 24=[(H Ki),(H Jn),(H I3),(H Ke),(H KZ),(H LU),(H IQ),(H Lc),(H Iv),(H Ks),(H J7),(H Jw),(H J2),(H J9),(H LX),(H IJ),(H IC),(H Lt),(H Iu),(H In),(H CO),(H Mh),(H xq3),(H xq7)]:=by decide+kernel
theorem Iz:STV 1#64 5#64 Z0 (H xq3) (H xq7)=(H GW):=by
 rw[STV,show (1#64+5#64:BitVec 64)=6#64 from O,Mj,H_0,xp4,JU,k_24];simp only[xp5,xp6,xp7,xp8,xp9,xp10,xp11,xp12,xp13,xp14,xp15,xp16,xp17,xp18,xp19,xp20,xp21,xp22,xp23,xp24,xp25,xp26,Ln,xp28,xp29,xp30,xp31]
theorem hdK:(HDV 1#64 5#64 Z0 (H xq3) (H xq7)).rt=(H H8):=by
 show Tor [nR 5#64,nR (mg 1#64 5#64 % 1000#64),(5#64).setWidth 8::Z31,STV 1#64 5#64 Z0 (H xq3) (H xq7),Z31++[(mg 1#64 5#64).setWidth 8]]=_;rw[Iz,Mj,show nR (mg 1#64 5#64 % 1000#64)=(H Mf)from (by decide+kernel),show ((5#64).setWidth 8::Z31:Rt)=(H xq8)from (by decide+kernel),show (Z31++[(mg 1#64 5#64).setWidth 8]:Rt)=(H I4)from (by decide+kernel),tor5,H_0]
 simp only[Ln,xp32,xp33,xp34,xp35,xp36,xp37]
theorem Hj: ¬(H H8)=Z0:=by decide+kernel
end
end Go.Proofs.YtfakhlafilbjkaaGreatDoor
