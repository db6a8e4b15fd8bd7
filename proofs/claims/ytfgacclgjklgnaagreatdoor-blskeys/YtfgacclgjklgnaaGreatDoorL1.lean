/- L1 -/
import Derived.Test.YtfgacclgjklgnaaGreatDoorL0
import Derived.Test.YtfgacclgjklgnaaGreatDoorQ1
import Derived.Test.YtfgacclgjklgnaaGreatDoorM1
set_option maxRecDepth 100000
set_option maxHeartbeats 1000000
namespace Go.Proofs.YtfgacclgjklgnaaGreatDoor
open Go.Proofs.Tryz
open Go.RowKit
attribute [local simp] a5 be aE aB aP aY aM aJ aH PLl cB cz N1l cD cC cE ba bj
theorem Mm:fe 0=List.replicate 6 (0:BitVec 64):=iZ
theorem Lu(x y:Zp):CT (fe x) (fe y)=fe (x+y):=by
 unfold CT;split
 ·rename_i h;exact vr h.2
 ·rename_i h
  refine zw ?_;by_cases h1:1873798617647539866#64<=(AS (fe x) (fe y) 6).1.getD 5 0
  ·exact H3 (JG (qA _ _ _) (λh0=>h ⟨h1,h0⟩))
  ·exact Lc _ h1
theorem J4(x y:Zp):ES (fe x) (fe y)=fe (x-y):=by
 unfold ES;split
 ·rename_i h;exact Bb h
 ·rename_i h;exact vG (tE (qA _ _ _) h)
theorem K8(x:Zp):HP (fe x)=fe (-x):=by
 unfold HP;rw[<-Mm];split
 ·rename_i h
  rw[xD.1 h];exact congrArg fe (by grind)
 ·rename_i h;exact Gg (λe=>h (by rw[e]))
def BTn(bs:L8):Nat->Nat
 |0=>0
 |i+1=>2*BTn bs i+(dB bs i).toNat
theorem DQ(bs:L8)(k j:Nat)(hj:j<8):(dB bs (8*k+j)).toNat=(bs.getD k 0).toNat / 2^(7-j) % 2:=by
 rw[dB,show (8*k+j) / 8=k by omega,show (8*k+j) % 8=j by omega,BitVec.toNat_and,BitVec.toNat_ushiftRight,show (1#8).toNat=1 from O,Nat.and_one_is_mod,Nat.shiftRight_eq_div_pow]
theorem Jl{B b q r X:Nat}(hr:r=2*q)(hX:X=B+b / r):2*X+b / q % 2=2*B+b / q:=by
 have e:b / r=b / q / 2:=by rw[hr,Nat.mul_comm,Nat.div_div_eq_div_mul]
 rw[hX,e];omega
theorem vF(bs:L8)(k:Nat): ∀j,j<=8->BTn bs (8*k+j)=BTn bs (8*k)*2^j+(bs.getD k 0).toNat / 2^(8-j)
 |0,_=>by
  have h:=(bs.getD k 0).isLt;rw[Nat.add_zero,Nat.pow_zero,Nat.mul_one,Nat.div_eq_of_lt h,Nat.add_zero]
 |j+1,h=>by
  have ih:=vF bs k j om;rw[<-Nat.add_assoc,BTn,DQ bs k j om,show 8-(j+1)=7-j by omega,Jl (r:=2^(8-j)) (by rw[show 8-j=7-j+1 by omega,Nat.pow_succ,Nat.mul_comm]) ih,Nat.pow_succ,Nat.mul_left_comm,Nat.mul_comm 2 (2^j)]
theorem gq(bs:L8): ∀k,BTn bs (8*k)=BN bs k
 |0=>rfl
 |k+1=>by
  rw[Nat.mul_add,vF bs k 8 (Nat.le_refl _),gq bs k,BN,Nat.sub_self,Nat.pow_zero,Nat.div_one,Nat.mul_comm]
theorem m3(bs:L8)(i:Nat):dB bs i=1#8/\(dB bs i).toNat=1\/¬dB bs i=1#8/\(dB bs i).toNat=0:=by
 by_cases h:dB bs i=1#8
 ·exact .inl ⟨h,by rw[h];rfl⟩
 ·refine .inr ⟨h, ?_⟩
  have e:(dB bs i).toNat<=1:=by
   rw[dB,BitVec.toNat_and,show (1#8).toNat=1 from O,Nat.and_one_is_mod];omega
  have:(dB bs i).toNat≠1:=λe1=>h (BitVec.eq_of_toNat_eq (by rw[e1];rfl))
  omega
theorem IY(x:Zp)(bs:L8): ∀i,RP (fe x) bs i=fe (x^BTn bs i)
 |0=>by rw[RP,BTn,p0,Qp]
 |i+1=>by
  have ih:=IY x bs i;rcases m3 bs i with ⟨h,e⟩|⟨h,e⟩
  ·rw[RE _ _ _ h,ih,zP,zP,BTn,e,Nat.two_mul,ps,oV]
  ·rw[Qa _ _ _ h,ih,zP,BTn,e,Nat.two_mul,Nat.add_zero,oV]
theorem Qj(x:Zp)(bs:L8):RP (fe x) bs (8*bs.length)=fe (x^BN bs bs.length):=by rw[IY,gq]
theorem LI:BN EX2 48=PP-2:=by
 rw[EX2,rn _ (by rw[cY,aB]) 48 O]
 decide+kernel
theorem JS:BN EX1 48=hf:=by
 rw[EX1,rn _ (by rw[cY,aB]) 48 O]
 decide+kernel
theorem KG:BN EX4 48=rg:=by
 rw[EX4,rn _ (by rw[cY,aE]) 48 O]
 decide+kernel
theorem Ss(x:Zp):RP (fe x) EX2 384=fe (x^(PP-2)):=by rw[IY,show 384=8*48 from O,gq,LI]
theorem Db(x:Zp):decide ((SS (FRs EX1 48) (RM (fe x) N1) 6).2=1)=decide (hf<x.val):=by
 apply decide_eq_decide.2;have e:=mv EX1 (by rw[tF];exact Nat.le_refl _)
 rw[tF,JS]at e;rw[OE];rcases lW (FRs EX1 48) (nm x)with ⟨h,h'⟩|⟨h,_,h'⟩
 ·rw[e,vM]at h'
  exact ⟨λe'=>(by rw[h]at e';exact absurd e' dc),λ_=>om⟩
 ·rw[e,vM]at h'
  exact ⟨λ_=>h',λ_=>h⟩
theorem IF(x y:Zp):PUR 167 [EV x,EV y] (EV (x*y)):=by
 have h:=nW (fe x) (fe y) sm sm;rw[zP]at h;exact h
theorem V7(x y:Zp):PUR 169 [EV x,EV y] (EV (x+y)):=by
 have h:=xJ (fe x) (fe y) sm sm;rw[Lu]at h;exact h
theorem Xb(x y:Zp):PUR 168 [EV x,EV y] (EV (x-y)):=by
 have h:=yl (fe x) (fe y) sm sm;rw[J4]at h;exact h
theorem Eu(x:Zp):PUR 161 [EV x] (EV (-x)):=by
 have h:=C7 (fe x) sm;rw[K8]at h;exact h
theorem WU(x:Zp):PUR 175 [EV x] (EV (x^(PP-2))):=by
 have h:=B7 (fe x) sm;rw[Ss]at h;exact h
theorem kE(x:Zp):PUR 114 [EV x] (.bool (decide (x=0))):=by
 have h:=kf (fe x) sm;rw[<-Mm,gt]at h;exact h
theorem uG(x:Zp):PUR 115 [EV x] (.bool (decide (hf<x.val))):=by
 have h:=wK (fe x) sm;rw[Db]at h;exact h
theorem Vt(x:Zp):PUR 154 [NV (nm x)] (EV x):=by
 have h:=v9 (nm x) sm;rw[Da]at h;exact h
theorem W7:18446744073709551616<PP:=by decide+kernel
theorem mK(n:BitVec 64):PUR 116 [U64 n] (EV (zp n.toNat)):=by
 have h:=vv n;have hn:=n.isLt;have hp:=W7;rw[IX _ (by rw[tP];omega),tP]at h
 exact h
theorem WH(x:Zp)(e:Option Addr)(cap:Nat)(bs:L8)(hlen:bs.length<=4096)(w:World)(hw:Gt w)(hby:BytesAt w e bs):
 CLS 210 [EV x,.slice e bs.length cap].toArray w (λr w'=>r=.returned (EV (x^BN bs bs.length))/\Grow w w'):=by
 have h:=pW (fe x) sm e cap bs hlen w hw hby;rw[Qj]at h;exact h
theorem ent182:ai prog 182:=λ_ _=>kr
theorem M5(op:BinOp)(x y:Operand)(xs ys:Array Value)(w:World):(eqGuard op 39 x y (.agg xs) (.agg ys)).run prog w=.ok () w:=eqgF op x y xs ys w
theorem Ol(xs ys:L6)(h:xs.length=6)(h':ys.length=6)(w:World):(binOp .neq 39 (aI xs) (aI ys)).run prog w=.ok (.bool (!decide (xs=ys))) w:=LM underlying39 O dc kr isAgg37 sizeOf37 underlying37 underlying24 sizeOf24 isAgg24 xs ys h h' w
theorem Kl(x:Zp)(b:Nat)(t:TypeId)(bs:L8)(h48:bs.length=48)(w:World)(hw:Gt w)(ho:OwnB w b (bs.map U8) t):
 CLS 210 [EV x,.slice (spt b) 48 48].toArray w (λr w'=>r=.returned (EV (x^BN bs 48))/\Grow w w'):=by
 have h:=WH x (spt b) 48 bs om w hw (BytesAt.range ho.range);rw[h48]at h;exact h
theorem zE(x:Zp)(b:Nat)(t:TypeId)(w:World)(hw:Gt w)(ho:OwnB w b (EX4.map U8) t):
 CLS 210 [EV x,.slice (spt b) 48 48].toArray w (λr w'=>r=.returned (EV (SQr x))/\Grow w w'):=by
 have h:=Kl x b t EX4 LW w hw ho;rw[KG]at h;exact h
theorem Ta(x:Zp):PUR 182 [EV x] (.tuple #[EV (SQ x),.bool (decide (SQr x*SQr x=x))]):=by
 intro w hw;refine Hf func182 O hw<|λhGF=>Xp<|Bx 1 hGF O<|λb1=>Al 2 hGF zv39<|λb2=>Asg O<|aa<|pH (EE [176,2000176,2999999]) dU kr kr<|a7 (m:=4) [0] kr<|La 1 O O dh<|aa<|fX (m:=3) [1,3] kr kr dc<|?_;intro i hi;simp only[List.mem_cons,List.not_mem_nil,or_false]at hi;rcases hi with rfl|rfl
 ·refine bM O O ent176 O O (λw' hw'=>(qx w' (hGF.g _ _ _ hw')).mono λe w'' h=> ?_)
  obtain ⟨bm,rfl,hg,hb,hob⟩:=h;refine ⟨_,_,rfl,ay hGF,hw'.news ap hg [(6,bm,EX4.map U8,29)] ?_ bR,bN ap O, ?_⟩
  ·intro n' b' c' t' hl
   rcases aK hl with ⟨_,e⟩|⟨_,hl⟩
   ·cases e;exact ⟨hb,hob⟩
   ·cases hl
  clear hw' hg hb hob;refine aa<|a7 (m:=2) [2] kr<|Cc O ent210 (λw' hw' hG=>zE x bm _ w' hG (hw'.own 6 _ _ _ O).1)<|aa<|a7 (m:=0) [3,4] kr<|bX 4 hGF zv39 O O O<|λb4=>Sa 4 hGF O O O dh<|aa<|dC kr<|aQ<|ah<|Xd []<|La 4 O O dh<|La 4 O O dh<|Ca O (IF _ _)<|La 1 O O dh<|de O O (λ_=>M5 _ _ _ _ _ _) (λw=>Ol _ _ sm sm w) O O<|aa<|?_;refine bE O (λhc=> ?_) (λhc=> ?_)
  ·have hs: ¬SQr x*SQr x=x:=by rw[gt]at hc;simpa using hc
   refine Xp<|eJ zv39 underlying39 (mf sizeOf37) O O<|Sa 2 hGF O O O dh<|Asg O<|aa<|ak<|Rr<|?_;exact aG 2 O O O O isAgg39 sizeOf39 sm (λw hw=>⟨by rw[SQ,if_neg hs,decide_eq_false hs,<-iZ]<;>rfl,ac hw⟩)
  ·have hs:SQr x*SQr x=x:=by rw[gt]at hc;simpa using hc
   clear hc;refine aq<|ah<|Xp<|La 4 O O dh<|Ca O (uG _)<|aa<|?_;refine bE O (λhc=> ?_) (λhc=> ?_)
   ·simp only[decide_eq_true_eq]at hc
    refine Xq<|La 4 O O dh<|Ca O (Eu _)<|Sa 4 hGF O O O dh<|aa<|Xp<|La 4 O O dh<|Sa 2 hGF O O O dh<|Asg O<|aa<|ak<|Rr<|?_;exact aG 2 O O O O isAgg39 sizeOf39 sm (λw hw=>⟨by rw[SQ,if_pos hs,SQn,if_pos hc,decide_eq_true hs]<;>rfl,ac hw⟩)
   ·simp only[decide_eq_false_iff_not]at hc
    refine aq<|Xp<|La 4 O O dh<|Sa 2 hGF O O O dh<|Asg O<|aa<|ak<|Rr<|?_;exact aG 2 O O O O isAgg39 sizeOf39 sm (λw hw=>⟨by rw[SQ,if_pos hs,SQn,if_neg hc,decide_eq_true hs]<;>rfl,ac hw⟩)
 ·refine bX 4 hGF zv39 O O O<|λb4=>aa<|a7 (m:=0) [1,2,4] kr<|?_
  refine bM O O ent176 O O (λw' hw'=>(qx w' (hGF.g _ _ _ hw')).mono λe w'' h=> ?_);obtain ⟨bm,rfl,hg,hb,hob⟩:=h;refine ⟨_,_,rfl,ay hGF,hw'.news ap hg [(6,bm,EX4.map U8,29)] ?_ bR,bN ap O, ?_⟩
  ·intro n' b' c' t' hl
   rcases aK hl with ⟨_,e⟩|⟨_,hl⟩
   ·cases e;exact ⟨hb,hob⟩
   ·cases hl
  clear hw' hg hb hob;refine Cc O ent210 (λw' hw' hG=>zE x bm _ w' hG (hw'.own 6 _ _ _ O).1)<|Sa 4 hGF O O O dh<|aa<|dC kr<|aQ<|ah<|Xd []<|La 4 O O dh<|La 4 O O dh<|Ca O (IF _ _)<|La 1 O O dh<|de O O (λ_=>M5 _ _ _ _ _ _) (λw=>Ol _ _ sm sm w) O O<|aa<|?_;refine bE O (λhc=> ?_) (λhc=> ?_)
  ·have hs: ¬SQr x*SQr x=x:=by rw[gt]at hc;simpa using hc
   refine Xp<|eJ zv39 underlying39 (mf sizeOf37) O O<|Sa 2 hGF O O O dh<|Asg O<|aa<|ak<|Rr<|?_;exact aG 2 O O O O isAgg39 sizeOf39 sm (λw hw=>⟨by rw[SQ,if_neg hs,decide_eq_false hs,<-iZ]<;>rfl,ac hw⟩)
  ·have hs:SQr x*SQr x=x:=by rw[gt]at hc;simpa using hc
   clear hc;refine aq<|ah<|Xp<|La 4 O O dh<|Ca O (uG _)<|aa<|?_;refine bE O (λhc=> ?_) (λhc=> ?_)
   ·simp only[decide_eq_true_eq]at hc
    refine Xq<|La 4 O O dh<|Ca O (Eu _)<|Sa 4 hGF O O O dh<|aa<|Xp<|La 4 O O dh<|Sa 2 hGF O O O dh<|Asg O<|aa<|ak<|Rr<|?_;exact aG 2 O O O O isAgg39 sizeOf39 sm (λw hw=>⟨by rw[SQ,if_pos hs,SQn,if_pos hc,decide_eq_true hs]<;>rfl,ac hw⟩)
   ·simp only[decide_eq_false_iff_not]at hc
    refine aq<|Xp<|La 4 O O dh<|Sa 2 hGF O O O dh<|Asg O<|aa<|ak<|Rr<|?_;exact aG 2 O O O O isAgg39 sizeOf39 sm (λw hw=>⟨by rw[SQ,if_pos hs,SQn,if_neg hc,decide_eq_true hs]<;>rfl,ac hw⟩)
theorem ut{a:Zp}(h:a≠0):(-a).val=PP-a.val:=by
 have h0:a.val≠0:=λe=>h (Fin.ext e);have hl:=a.isLt;have e:zp (PP-a.val)+a=0:=by
  have:zp (PP-a.val)+zp a.val=0:=by rw[<-fQ,show PP-a.val+a.val=PP by omega,m9]
  rw[Aw]at this;exact this
 have e2: -a=zp (PP-a.val):=by grind
 rw[e2,eU,Nat.mod_eq_of_lt om]
theorem Ci{a:Zp}(h: ¬a=0):(decide (hf<a.val) !=decide (hf<(-a).val))=true:=by
 have hl:=a.isLt;have hp:=ma;rw[ut h];by_cases h1:hf<a.val
 ·rw[decide_eq_true h1,decide_eq_false om];rfl
 ·rw[decide_eq_false h1,decide_eq_true om];rfl
theorem uu{a:Zp}(h:a≠0):a^hf*a^hf=1:=by
 rw[<-oV,show hf+hf=PP-1 by have:=ma;omega,fermat h]
theorem BV{a:Zp}(h:a≠0):a^hf=1\/a^hf= -1:=by
 have e:=uu h;have:(a^hf-1)*(a^hf+1)=0:=by grind
 rcases kX this with h|h
 ·left;grind
 ·right;grind
theorem uS: ¬(1:Zp)= -1:=λh=>by
 have h2:(1:Zp)+1=0:=(congrArg (λz=>z+(1:Zp)) h).trans (by grind)
 have h3:=congrArg Fin.val h2;rw[Fin.val_add,show (1:Zp).val=1 % PP from O,Nat.mod_eq_of_lt pr_p.1,Nat.mod_eq_of_lt (by have:=nV;omega)]at h3
 cases h3
theorem Ah(a:Zp):SQr a*SQr a=a^hf*a:=by rw[SQr,<-oV,<-Nat.two_mul,Xg,ps]
theorem iJ{a:Zp}(h:SQr a*SQr a=a):SQ a*SQ a=a:=by
 rw[SQ,if_pos h,SQn];split
 ·grind
 ·exact h
theorem jk{a:Zp}(h:SQr a*SQr a=a): ¬hf<(SQ a).val:=by
 rw[SQ,if_pos h,SQn];split
 ·rename_i h1
  have h0:SQr a≠0:=λe=>by rw[e]at h1;exact absurd h1 (Nat.not_lt_zero _)
  rw[ut h0];have:=ma;omega
 ·rename_i h1;exact h1
theorem xA(a:Zp):SQr (a*a)*SQr (a*a)=a*a:=by
 rw[Ah];by_cases h:a=0
 ·rw[h];grind
 ·rw[LX,uu h];grind
theorem Vq{x y:Zp}(h:x*x=y*y):x=y\/x= -y:=by
 have:(x-y)*(x+y)=0:=by grind
 rcases kX this with h|h
 ·left;grind
 ·right;grind
theorem Uj(a:Zp):SQ (a*a)=a\/SQ (a*a)= -a:=Vq (iJ (xA a))
theorem KL(a:Zp)(n:Nat):(-a)^(2*n+1)= -(a^(2*n+1)):=by
 rw[ps,ps,G8,G8,show (-a)^2=a^2 by grind];grind
theorem xi(a:Zp):(-a)^hf= -(a^hf):=by
 obtain ⟨n,hn⟩: ∃n,hf=2*n+1:=⟨hf / 2,by have:=Pz;omega⟩
 rw[hn];exact KL a n
theorem qz:zp 2≠0:=λh=>by
 have:=congrArg Fin.val h;rw[eU,Nat.mod_eq_of_lt (by have:=nV;omega)]at this
 cases this
theorem Hc:zp 4=zp 2*zp 2/\zp 2=1+1:=⟨i4 2 2,fQ 1 1⟩
abbrev W2:=Zp×Zp
def ad2(x y:W2):W2:=(x.1+y.1,x.2+y.2)
def ng2(x:W2):W2:=(-x.1,-x.2)
def sb2(x y:W2):W2:=(x.1-y.1,x.2-y.2)
def ml2(x y:W2):W2:=(x.1*y.1-x.2*y.2,x.1*y.2+x.2*y.1)
def cj2(x:W2):W2:=(x.1,-x.2)
def sc2(x:W2)(c:Zp):W2:=(x.1*c,x.2*c)
def xi2(x:W2):W2:=(x.1-x.2,x.1+x.2)
def nm2(x:W2):Zp:=x.1*x.1+x.2*x.2
def iv2(x:W2):W2:=(x.1*nm2 x^(PP-2),-x.2*nm2 x^(PP-2))
def on2:W2:=(1,0)
def ze2:W2:=(0,0)
theorem bz{x y:W2}(h1:x.1=y.1)(h2:x.2=y.2):x=y:=Prod.ext h1 h2
def R2:Rg W2 where
 zero:=ze2
 one:=on2
 add:=ad2
 mul:=ml2
 neg:=ng2
 add_assoc:=λa b c=>bz (by simp only[ad2];grind) (by simp only[ad2];grind)
 add_comm:=λa b=>bz (by simp only[ad2];grind) (by simp only[ad2];grind)
 add_zero:=λa=>bz (by simp only[ad2,ze2];grind) (by simp only[ad2,ze2];grind)
 add_neg:=λa=>bz (by simp only[ad2,ng2,ze2];grind) (by simp only[ad2,ng2,ze2];grind)
 mul_assoc:=λa b c=>bz (by simp only[ml2];grind) (by simp only[ml2];grind)
 mul_comm:=λa b=>bz (by simp only[ml2];grind) (by simp only[ml2];grind)
 mul_one:=λa=>bz (by simp only[ml2,on2];grind) (by simp only[ml2,on2];grind)
 mul_add:=λa b c=>bz (by simp only[ml2,ad2];grind) (by simp only[ml2,ad2];grind)
theorem k9(x y:W2):sb2 x y=ad2 x (ng2 y):=bz (by simp only[sb2,ad2,ng2];grind) (by simp only[sb2,ad2,ng2];grind)
theorem Dp(x:W2):xi2 x=ml2 x (1,1):=bz (by simp only[xi2,ml2];grind) (by simp only[xi2,ml2];grind)
theorem gC(x y:W2):nm2 (ml2 x y)=nm2 x*nm2 y:=by simp only[nm2,ml2];grind
theorem QL(x:W2):ml2 x (cj2 x)=(nm2 x,0):=bz (by simp only[ml2,cj2,nm2];grind) (by simp only[ml2,cj2];grind)
theorem fN(x y:W2):cj2 (ml2 x y)=ml2 (cj2 x) (cj2 y):=bz (by simp only[ml2,cj2];grind) (by simp only[ml2,cj2];grind)
theorem Kc(x y:W2):cj2 (ad2 x y)=ad2 (cj2 x) (cj2 y):=bz (by simp only[ad2,cj2]) (by simp only[ad2,cj2];grind)
theorem uU{a:Zp}(h:a≠0):(a*a)^hf=1:=by rw[LX,uu h]
theorem CL{a:Zp}(h:0= -a):a=0:=by grind
theorem rW(a:Zp):a*1=a:=by grind
theorem Ay(a:Zp): -(-a)=a:=by grind
theorem gG(a:Zp):a*0=0:=by grind
theorem CX{a b:Zp}(h:a*a+b*b=0):b=0:=by
 by_cases hb:b=0
 ·exact hb
 ·exfalso
  have e:a*a= -(b*b):=by grind
  have e2:(a*a)^hf= -1:=by rw[e,xi,uU hb]
  by_cases ha:a=0
  ·obtain ⟨n,hn⟩:=OC
   rw[ha,gG,hn,NS]at e2;exact kd (CL e2)
  ·rw[uU ha]at e2
   exact uS e2
theorem qI{x:W2}(h:nm2 x=0):x=ze2:=by
 have h1:=CX h;have h2:=CX (a:=x.2) (b:=x.1) (by rw[<-h];simp only[nm2];grind)
 exact bz h2 h1
theorem UT:(0:Zp)+0=0:=sm
theorem Pg:nm2 ze2=0:=by simp only[nm2,ze2];rw[gG,UT]
theorem PI{x:W2}(h:x≠ze2):nm2 x≠0:=λe=>h (qI e)
theorem cQ{x:W2}(h:x≠ze2):ml2 x (iv2 x)=on2:=by
 have hz:=nR (PI h);have e:nm2 x=x.1*x.1+x.2*x.2:=rfl;have k: ∀j:Zp,nm2 x*j=1->ml2 x (x.1*j,-x.2*j)=on2:=λj hj=>by
  rw[e]at hj;refine bz ?_ ?_
  ·simp only[ml2,on2];grind
  ·simp only[ml2,on2];grind
 exact k _ hz
theorem fS{x y:W2}(h:ml2 x y=ze2):x=ze2\/y=ze2:=by
 have e:=gC x y;rw[h,Pg]at e;rcases kX e.symm with h|h
 ·exact .inl (qI h)
 ·exact .inr (qI h)
def pw2(x:W2)(n:Nat):W2:=R2.pw x n
theorem ov(x:W2)(n:Nat):pw2 x (n+1)=ml2 (pw2 x n) x:=rfl
theorem tV(x:W2)(m n:Nat):pw2 x (m+n)=ml2 (pw2 x m) (pw2 x n):=R2.pw_add x m n
theorem zT(x:W2)(m n:Nat):pw2 x (m*n)=pw2 (pw2 x m) n:=R2.pw_mul x m n
theorem Lj(x y:W2)(n:Nat):pw2 (ml2 x y) n=ml2 (pw2 x n) (pw2 y n):=R2.mul_pw x y n
theorem rG(a:Zp):0*a=0:=by grind
theorem Kn:(0:Zp)+0=0:=sm
theorem nF(a b:Zp):ml2 (a,0) (b,0)=(a*b,0):=bz (by simp only[ml2];grind) (by simp only[ml2];rw[gG,rG,Kn])
theorem SO(a b:Zp):ml2 (a,0) (0,b)=(0,a*b):=bz (by simp only[ml2];rw[gG,rG];simp) (by simp only[ml2];grind)
theorem tS(a b:Zp):ml2 (0,a) (0,b)=(-(a*b),0):=bz (by simp only[ml2];grind) (by simp only[ml2];rw[gG,rG,Kn])
theorem oJ:(1:Zp)*1=1:=rW 1
theorem z_nn(a:Zp): -a* -a=a*a:=by grind
theorem xz(a:Zp): ∀n,pw2 (a,0) n=(a^n,0)
 |0=>bz (p0 a).symm O
 |n+1=>by rw[ov,xz a n,nF,ps]
theorem Yb:pw2 (0,1) PP=(0,-1):=by
 have h1:pw2 (0,1) 1=(0,1):=R2.pw_one _;have h2:pw2 (0,1) 2=(-1,0):=by rw[ov,h1,tS,oJ]
 have h3:pw2 (0,1) 3=(0,-1):=by rw[ov,h2,SO,rW]
 have h4:pw2 (0,1) 4=on2:=by rw[ov,h3,tS,rW,Ay];rfl
 obtain ⟨k,hk⟩: ∃k,PP=4*k+3:=⟨PP / 4,by have:=uD;omega⟩
 have e:pw2 (0,1) PP=pw2 (0,1) (4*k+3):=congrArg (λn=>pw2 (0,1) n) hk;have h5:pw2 on2 k=on2:=R2.one_pw k;rw[e,tV,zT,h4,h3,h5];exact R2.one_mul _
theorem Gi(a:Zp):a^PP=a:=by
 by_cases h:a=0
 ·rw[h];exact NS PQ
 ·have e:a^PP=a^(PP-1+1):=congrArg (λn=>a^n) (show PQ+1=PQ+1-1+1 from O)
  rw[e,ps,fermat h];grind
theorem yz: ∀n,R2.nat n=(zp n,0)
 |0=>rfl
 |n+1=>by
  show ad2 (R2.nat n) on2=_;rw[yz n];exact bz (by simp only[ad2,on2];rw[fQ,Wi]) Kn
theorem Ey(x:W2):pw2 x PP=cj2 x:=by
 have e:x=ad2 (x.1,0) (ml2 (x.2,0) (0,1)):=bz (by simp only[ad2,ml2];grind) (by simp only[ad2,ml2];grind)
 have hf:=R2.frob pr_p ((yz PP).trans (by rw[m9];rfl)) (x.1,0) (ml2 (x.2,0) (0,1))
 have h2:pw2 x PP=ad2 (pw2 (x.1,0) PP) (pw2 (ml2 (x.2,0) (0,1)) PP):=(congrArg (λy=>pw2 y PP) e).trans hf;rw[h2,Lj,xz,xz,Yb,Gi,Gi];exact bz (by simp only[ad2,ml2,cj2];grind) (by simp only[ad2,ml2,cj2];grind)
theorem TA{x y:W2}(h:ml2 x x=ml2 y y):x=y\/x=ng2 y:=by
 have hk:ml2 (sb2 x y) (ad2 x y)=ze2:=by
  have h1:=congrArg Prod.fst h;have h2:=congrArg Prod.snd h;simp only[ml2]at h1 h2;refine bz ?_ ?_
  ·simp only[ml2,sb2,ad2,ze2];grind
  ·simp only[ml2,sb2,ad2,ze2];grind
 rcases fS hk with h|h
 ·left
  have h1:=congrArg Prod.fst h;have h2:=congrArg Prod.snd h;simp only[sb2,ze2]at h1 h2;exact bz (by grind) (by grind)
 ·right
  have h1:=congrArg Prod.fst h;have h2:=congrArg Prod.snd h;simp only[ad2,ze2]at h1 h2;exact bz (by simp only[ng2];grind) (by simp only[ng2];grind)
def LG2(x:W2):Bool:=if x.2=0 then decide (hf<x.1.val)else decide (hf<x.2.val)
theorem rZ{a:Zp}(h:a≠0):decide (hf<(-a).val)= !decide (hf<a.val):=by
 have:=Ci h
 cases h1:decide (hf<a.val)<;>cases h2:decide (hf<(-a).val)<;>rw[h1,h2]at this<;>first|rfl|cases this
theorem lH{a:Zp}: -a=0↔a=0:=⟨λh=>by grind,λh=>by rw[h];grind⟩
theorem po{x:W2}(h:x≠ze2):LG2 (ng2 x)= !LG2 x:=by
 unfold LG2 ng2;by_cases h2:x.2=0
 ·rw[if_pos (lH.2 h2),if_pos h2]
  exact rZ λe=>h (bz e h2)
 ·rw[if_neg (λe=>h2 (lH.1 e)),if_neg h2]
  exact rZ h2
theorem uV:LG2 ze2=false:=by decide+kernel
theorem EN:ng2 ze2=ze2:=bz (by simp only[ng2,ze2];grind) (by simp only[ng2,ze2];grind)
theorem Hs(x:W2):ml2 (ng2 x) (ng2 x)=ml2 x x:=bz (by simp only[ml2,ng2];grind) (by simp only[ml2,ng2];grind)
theorem Dl{x y:W2}(h:ml2 x x=ml2 y y)(hx:LG2 x=false)(hy:LG2 y=false):x=y:=by
 rcases TA h with e|e
 ·exact e
 ·by_cases h0:y=ze2
  ·rw[e,h0,EN]
  ·rw[e,po h0,hy]at hx;cases hx
def IsQ(a:Zp):Prop:=SQr a*SQr a=a
theorem rD{a s:Zp}(h:s*s=a):IsQ a:=by rw[<-h];exact xA s
theorem ib(a:Zp):IsQ a↔a=0\/a^hf=1:=by
 unfold IsQ;rw[Ah];constructor
 ·intro h
  by_cases h0:a=0
  ·exact .inl h0
  ·right
   have:(a^hf-1)*a=0:=by grind
   rcases kX this with h|h
   ·grind
   ·exact absurd h h0
 ·rintro (h|h)
  ·rw[h];grind
  ·rw[h];grind
theorem tU(a:Zp):IsQ a\/IsQ (-a):=by
 by_cases h:a=0
 ·exact .inl ((ib a).2 (.inl h))
 ·rcases BV h with h1|h1
  ·exact .inl ((ib a).2 (.inr h1))
  ·right
   refine (ib (-a)).2 (.inr ?_);rw[xi,h1];grind
theorem k5{a b c:Zp}(h:a*b= -(c*c))(hc:c≠0):(IsQ a/\¬IsQ b)\/(¬IsQ a/\IsQ b):=by
 have ha:a≠0:=λe=>hc (CX (a:=0) (b:=c) (by rw[e]at h;grind))
 have hb:b≠0:=λe=>hc (CX (a:=0) (b:=c) (by rw[e]at h;grind))
 have e:a^hf*b^hf= -1:=by rw[<-LX,h,xi,uU hc]
 rcases BV ha with h1|h1
 ·left
  refine ⟨(ib a).2 (.inr h1),λk=> ?_⟩;rcases (ib b).1 k with k|k
  ·exact hb k
  ·rw[h1,k]at e;exact uS (by grind)
 ·right
  refine ⟨λk=> ?_,(ib b).2 (.inr (by rw[h1]at e;grind))⟩
  rcases (ib a).1 k with k|k
  ·exact ha k
  ·rw[h1]at k;exact uS k.symm
theorem oo(a:Zp):IsQ (a*a):=rD O
theorem eT{x s:W2}(h:ml2 s s=x):IsQ (nm2 x):=by rw[<-h,gC];exact oo _
theorem mW{x:W2}{n s t h2:Zp}(hn:n*n=nm2 x)(h2e:(1+1)*h2=1)(hs:s*s=(x.1+n)*h2\/s*s=(x.1-n)*h2)(ht:s*t=1):ml2 (s,x.2*h2*t) (s,x.2*h2*t)=x:=by
 have e:nm2 x=x.1*x.1+x.2*x.2:=rfl;rw[e]at hn;have key:s*s-x.2*h2*t*(x.2*h2*t)=x.1:=by
  have e1:x.2*h2*t*(x.2*h2*t)=(x.2*x.2)*(h2*h2)*(t*t):=by grind
  have e2:x.2*x.2=n*n-x.1*x.1:=by grind
  rcases hs with hs|hs
  ·have e3:(n*n-x.1*x.1)*(h2*h2)=s*s*((n-x.1)*h2):=by grind
   have e4:s*s*((n-x.1)*h2)*(t*t)=(n-x.1)*h2:=by
    have:s*s*(t*t)=1:=by grind
    grind
   rw[e1,e2,e3,e4,hs];grind
  ·have e3:(n*n-x.1*x.1)*(h2*h2)=s*s*(-(n+x.1)*h2):=by grind
   have e4:s*s*(-(n+x.1)*h2)*(t*t)= -(n+x.1)*h2:=by
    have:s*s*(t*t)=1:=by grind
    grind
   rw[e1,e2,e3,e4,hs];grind
 refine bz key ?_;simp only[ml2];have e5:s*(x.2*h2*t)+x.2*h2*t*s=x.2*((1+1)*h2)*(s*t):=by grind
 rw[e5,h2e,ht];grind
theorem Ap: ∃j:Zp,(1+1)*j=1:=⟨zp 2^(PP-2),by have h:=nR qz;rw[show (1+1:Zp)=zp 2 from Hc.2.symm];exact h⟩
theorem AW{x:W2}{n j:Zp}(hn:n*n=nm2 x):((x.1+n)*j)*((x.1-n)*j)= -(x.2*j*(x.2*j)):=by
 have hn':n*n=x.1*x.1+x.2*x.2:=hn;grind
theorem AT{x:W2}{j:Zp}(hj:(1+1)*j=1)(h2:x.2≠0):x.2*j≠0:=λe=>by
 rcases kX e with e|e
 ·exact h2 e
 ·rw[e]at hj;exact kd (hj.symm.trans (gG _))
theorem AQ{a b c:Zp}(h:a*b= -(c*c))(hc:c≠0):a≠0/\b≠0:=
 ⟨λe=>hc (CX (a:=0) (b:=c) (by rw[e]at h;grind)),λe=>hc (CX (a:=0) (b:=c) (by rw[e]at h;grind))⟩
theorem F8{a:Zp}(h:IsQ a)(h0:a≠0):SQr a≠0:=λe=>h0 (by
 have h':SQr a*SQr a=a:=h;rw[e,gG]at h';exact h'.symm)
theorem jz(x:W2):(∃s,ml2 s s=x)↔IsQ (nm2 x):=by
 refine ⟨λ⟨s,h⟩=>eT h,λh=> ?_⟩;by_cases h2:x.2=0
 ·rcases tU x.1 with hq|hq
  ·exact ⟨(SQr x.1,0),by rw[nF,show SQr x.1*SQr x.1=x.1 from hq];exact bz O h2.symm⟩
  ·exact ⟨(0,SQr (-x.1)),by rw[tS,show SQr (-x.1)*SQr (-x.1)= -x.1 from hq,Ay];exact bz O h2.symm⟩
 ·obtain ⟨j,hj⟩:=Ap
  have hp:=AW (x:=x) (j:=j) (n:=SQr (nm2 x)) h;have hb:=AT hj h2;have hne:=AQ hp hb;rcases k5 hp hb with ⟨hq,_⟩|⟨_,hq⟩
  ·exact ⟨_,mW h hj (.inl hq) (nR (F8 hq hne.1))⟩
  ·exact ⟨_,mW h hj (.inr hq) (nR (F8 hq hne.2))⟩
theorem xI{x y:W2}(h:x.1=y.1):decide (x.2=y.2)=decide (x=y):=decide_eq_decide.2 ⟨λh'=>bz h h',λh'=>by rw[h']⟩
theorem yH{x y:W2}(h: ¬x.1=y.1):false=decide (x=y):=(decide_eq_false λh'=>h (by rw[h'])).symm
def SG2(x:W2):Int:=if x.1.val % 2=1 then 1 else if x.1=0 then (if x.2.val % 2=1 then 1 else 0)else 0
def fe2(x:W2):L6:=fe x.1++fe x.2
theorem aZ(x:W2):(fe2 x).length=12:=by rw[fe2,List.length_append,a5,a5]
def SP2(x:W2)(i:Nat):L6:=FM (λj=>if j<i then fe2 (pw2 x j)else fe2 ze2) 16
theorem a9(x:W2)(i:Nat):(SP2 x i).length=192:=bd _ _
theorem FA{a:Zp}(h: ¬hf<a.val):LG2 (a,0)=false:=by
 show (if (0:Zp)=0 then decide (hf<a.val)else decide (hf<(0:Zp).val))=false
 rw[if_pos O];exact decide_eq_false h
theorem WE{a:Zp}(h: ¬hf<a.val):LG2 (0,a)=false:=by
 show (if a=0 then decide (hf<(0:Zp).val)else decide (hf<a.val))=false
 split
 ·exact decide_eq_false (Nat.not_lt_zero _)
 ·exact decide_eq_false h
def RO(c:Zp):W2:=if SQr c*SQr c=c then (SQ c,0)else (0,SQ (-c))
theorem pt{c:Zp}(h: ¬SQr c*SQr c=c):SQr (-c)*SQr (-c)= -c:=(tU c).resolve_left h
theorem Bv(c:Zp):ml2 (RO c) (RO c)=(c,0):=by
 unfold RO;split
 ·rename_i h
  rw[nF,iJ h]
 ·rename_i h
  rw[tS,iJ (pt h),Ay]
theorem pX(c:Zp):LG2 (RO c)=false:=by
 unfold RO;split
 ·rename_i h
  exact FA (jk h)
 ·rename_i h
  exact WE (jk (pt h))
theorem rb_a{s t j a b n:Zp}(ht:t*t=s+s)(hj:t*j=1)(hs:s=a+n)(hn:n*n=a*a+b*b):s*j*(s*j)-b*j*(b*j)=a:=by
 have e:(s+s)*(j*j)=1:=by
  rw[<-ht];have:t*t*(j*j)=(t*j)*(t*j):=by grind
  rw[this,hj,oJ]
 have e2:s*s-b*b=(s+s)*a:=by
  subst hs;grind
 have e3:s*j*(s*j)-b*j*(b*j)=(s*s-b*b)*(j*j):=by grind
 have e4:(s+s)*a*(j*j)=(s+s)*(j*j)*a:=by grind
 rw[e3,e2,e4,e];grind
theorem rb_b{s t j b:Zp}(ht:t*t=s+s)(hj:t*j=1):s*j*(b*j)+b*j*(s*j)=b:=by
 have e:(s+s)*(j*j)=1:=by
  rw[<-ht];have:t*t*(j*j)=(t*j)*(t*j):=by grind
  rw[this,hj,oJ]
 have e3:s*j*(b*j)+b*j*(s*j)=(s+s)*(j*j)*b:=by grind
 rw[e3,e];grind
theorem rb_c{s t j a b n:Zp}(ht:t*t= -(s+s))(hj:t*j=1)(hs:s=a+n)(hn:n*n=a*a+b*b):b*j*(b*j)- -s*j*(-s*j)=a:=by
 have e: -(s+s)*(j*j)=1:=by
  rw[<-ht];have:t*t*(j*j)=(t*j)*(t*j):=by grind
  rw[this,hj,oJ]
 have e2:b*b-s*s= -(s+s)*a:=by
  subst hs;grind
 have e3:b*j*(b*j)- -s*j*(-s*j)=(b*b-s*s)*(j*j):=by grind
 have e4: -(s+s)*a*(j*j)= -(s+s)*(j*j)*a:=by grind
 rw[e3,e2,e4,e];grind
theorem rb_d{s t j b:Zp}(ht:t*t= -(s+s))(hj:t*j=1):b*j*(-s*j)+ -s*j*(b*j)=b:=by
 have e: -(s+s)*(j*j)=1:=by
  rw[<-ht];have:t*t*(j*j)=(t*j)*(t*j):=by grind
  rw[this,hj,oJ]
 have e3:b*j*(-s*j)+ -s*j*(b*j)= -(s+s)*(j*j)*b:=by grind
 rw[e3,e];grind
theorem Qd{s:Zp}(h:s≠0):s+s≠0:=λe=>by
 obtain ⟨j,hj⟩:=Ap;have:s=(s+s)*j:=by
  have e1:(s+s)*j=s*((1+1)*j):=by grind
  rw[e1,hj,rW]
 rw[e,rG]at this;exact h this
theorem O3{a b n:Zp}(hn:n*n=a*a+b*b)(hb:b≠0):a+n≠0:=λe=>by
 have:b*b=(a+n)*(n-a):=by grind
 rw[e,rG]at this;exact hb ((kX this).elim id id)
theorem A0{a t:Zp}(h:t*t=a)(ha:a≠0):t≠0:=λe=>ha (by rw[<-h,e,gG])
def RBs(x:W2)(n:Zp):Zp:=x.1+n+(x.1+n)
def RB(x:W2)(n:Zp):W2:=
 if SQr (RBs x n)*SQr (RBs x n)=RBs x n then ((x.1+n)*SQ (RBs x n)^(PP-2),x.2*SQ (RBs x n)^(PP-2))
 else (x.2*SQ (-RBs x n)^(PP-2),-(x.1+n)*SQ (-RBs x n)^(PP-2))
theorem UL{x:W2}{n:Zp}(hn:n*n=nm2 x)(h2:x.2≠0):ml2 (RB x n) (RB x n)=x:=by
 have hd:RBs x n≠0:=Qd (O3 hn h2);have hm: -RBs x n≠0:=λe=>hd (lH.1 e);unfold RB;split
 ·rename_i h
  have e:=iJ h;have hj:=nR (A0 e hd);generalize SQ (RBs x n)^(PP-2)=j at*;generalize SQ (RBs x n)=t at*;exact bz (rb_a e hj O hn) (rb_b e hj)
 ·rename_i h
  have e:=iJ (pt h);have hj:=nR (A0 e hm);generalize SQ (-RBs x n)^(PP-2)=j at*;generalize SQ (-RBs x n)=t at*;exact bz (rb_c e hj O hn) (rb_d e hj)
def RF(x:W2)(n h:Zp):W2:=
 if SQr ((x.1+n)*h)*SQr ((x.1+n)*h)=(x.1+n)*h then (SQ ((x.1+n)*h),x.2*h*SQ ((x.1+n)*h)^(PP-2))
 else (SQ ((x.1-n)*h),x.2*h*SQ ((x.1-n)*h)^(PP-2))
theorem vz{x:W2}{n h:Zp}(hn:n*n=nm2 x)(hh:(1+1)*h=1)(h2:x.2≠0):ml2 (RF x n h) (RF x n h)=x:=by
 have hs:=AW (j:=h) hn;have hc:=AT hh h2;have hne:=AQ hs hc;have hq:=k5 hs hc;unfold RF;split
 ·rename_i q
  have e:=iJ q;exact mW hn hh (.inl e) (nR (A0 e hne.1))
 ·rename_i q
  have q2:IsQ ((x.1-n)*h):=by
   rcases hq with ⟨a,_⟩|⟨_,b⟩
   ·exact absurd a q
   ·exact b
  have e:=iJ q2;exact mW hn hh (.inr e) (nR (A0 e hne.2))
def NL(x:W2):W2:=if LG2 x=true then ng2 x else x
theorem BF(x:W2):ml2 (NL x) (NL x)=ml2 x x:=by
 unfold NL;split
 ·exact Hs x
 ·rfl
theorem mS(x:W2):LG2 (NL x)=false:=by
 unfold NL;split
 ·rename_i h
  have hx:x≠ze2:=λe=>by rw[e,uV]at h;cases h
  rw[po hx,h];rfl
 ·rename_i h
  exact Bool.eq_false_iff.2 h
theorem jt{x r q:W2}(hr:ml2 r r=x)(hl:LG2 r=false)(hq:ml2 q q=x)(hl':LG2 q=false):q=r:=Dl (hq.trans hr.symm) hl' hl
theorem td{x r:W2}(hr:ml2 r r=x)(hl:LG2 r=false)(h:x.2=0):RO x.1=r:=jt hr hl ((Bv x.1).trans (bz O h.symm)) (pX _)
theorem BW{x r:W2}(hr:ml2 r r=x)(hl:LG2 r=false)(h:x.2≠0):NL (RB x (SQ (nm2 x)))=r:=jt hr hl ((BF _).trans (UL (iJ (eT hr)) h)) (mS _)
theorem o9{x r:W2}{j:Zp}(hr:ml2 r r=x)(hl:LG2 r=false)(hj:(1+1)*j=1)(h:x.2≠0):NL (RF x (SQ (nm2 x)) j)=r:=jt hr hl ((BF _).trans (vz (iJ (eT hr)) hj h)) (mS _)
theorem NU{x:W2}(h: ¬IsQ (nm2 x)):x.2≠0:=λe=>h ((jz x).1 ⟨RO x.1,(Bv x.1).trans (bz O e.symm)⟩)
theorem gN:(1+1)*zp 2^(PP-2)=(1:Zp):=by
 have h:=nR qz;rw[show (1+1:Zp)=zp 2 from Hc.2.symm];exact h
theorem re: ∀k,cel (List.replicate k 0)=List.replicate (6*k) 0#64
 |0=>rfl
 |k+1=>by rw[List.replicate_succ,jH,re k,iZ,List.replicate_append_replicate];congr 1;omega
theorem i1{t k:Nat}(h: ∀w,(zeroValue t).run prog w=.ok (aI (List.replicate (6*k) 0#64)) w): ∀w,(zeroValue t).run prog w=.ok (.agg (clv (List.replicate k 0)).toArray) w:=λw=>by rw[clv,re];exact h w
def szL:List (Nat×Nat):=[(25,1),(27,1),(37,1),(39,1),(41,2),(43,6),(52,1),(54,3),(92,2),(94,6),(142,2),(182,9),(231,6),(233,12),(262,6),(264,12),(288,6),(293,16),(307,12),(321,4),(322,16)]
def fsL:List (Nat×List (Nat×Nat)):=[(27,[(0,1)]),(39,[(0,1)]),(41,[(0,1),(1,1)]),(43,[(0,2),(2,2),(4,2)]),(52,[(0,1)]),(54,[(0,1),(1,1),(2,1)]),(92,[(0,1),(1,1)]),(94,[(0,2),(2,2),(4,2)]),(182,[(0,3),(3,6)]),(231,[(0,2),(2,2),(4,2)]),(233,[(0,6),(6,6)]),(262,[(0,2),(2,2),(4,2)]),(264,[(0,1),(1,1),(2,2),(4,2),(6,2),(8,2),(10,2)]),(321,[(0,2),(2,2)])]
abbrev iK(t k:Nat):Prop:=(∀w,(isAgg t).run prog w=.ok true w)/\(∀w,(sizeOf t).run prog w=.ok (6*k) w)/\∀w,(zeroValue t).run prog w=.ok (.agg (clv (List.replicate k 0)).toArray) w
theorem sz25:iK 25 1:=⟨isAgg25,sizeOf25,i1 λw=>(zeroValue25 w).trans rr⟩
theorem sz27:iK 27 1:=⟨isAgg27,sizeOf27,i1 λw=>(zeroValue27 w).trans rr⟩
theorem sz37:iK 37 1:=⟨isAgg37,sizeOf37,i1 λw=>(zeroValue37 w).trans rr⟩
theorem sz39:iK 39 1:=⟨isAgg39,sizeOf39,i1 λw=>(zeroValue39 w).trans rr⟩
theorem sz41:iK 41 2:=⟨isAgg41,sizeOf41,i1 λw=>(zeroValue41 w).trans rr⟩
theorem sz43:iK 43 6:=⟨isAgg43,sizeOf43,i1 λw=>(zeroValue43 w).trans rr⟩
theorem sz52:iK 52 1:=⟨isAgg52,sizeOf52,i1 λw=>(zeroValue52 w).trans rr⟩
theorem sz54:iK 54 3:=⟨isAgg54,sizeOf54,i1 λw=>(zeroValue54 w).trans rr⟩
theorem sz92:iK 92 2:=⟨isAgg92,sizeOf92,i1 λw=>(zeroValue92 w).trans rr⟩
theorem sz94:iK 94 6:=⟨isAgg94,sizeOf94,i1 λw=>(zeroValue94 w).trans rr⟩
theorem Xx:iK 142 2:=⟨isAgg142,sizeOf142,i1 λw=>(zeroValue142 w).trans rr⟩
theorem Wb:iK 182 9:=⟨isAgg182,sizeOf182,i1 λw=>(zeroValue182 w).trans rr⟩
theorem Xu:iK 231 6:=⟨isAgg231,sizeOf231,i1 λw=>(zeroValue231 w).trans rr⟩
theorem Ui:iK 233 12:=⟨isAgg233,sizeOf233,i1 λw=>(zeroValue233 w).trans rr⟩
theorem Wt:iK 262 6:=⟨isAgg262,sizeOf262,i1 λw=>(zeroValue262 w).trans rr⟩
theorem Wz:iK 264 12:=⟨isAgg264,sizeOf264,i1 λw=>(zeroValue264 w).trans rr⟩
theorem Yp:iK 288 6:=⟨isAgg288,sizeOf288,i1 λw=>(zeroValue288 w).trans rr⟩
theorem Xf:iK 293 16:=⟨isAgg293,sizeOf293,i1 λw=>(zeroValue293 w).trans rr⟩
theorem YH:iK 307 12:=⟨isAgg307,sizeOf307,i1 λw=>(zeroValue307 w).trans rr⟩
theorem Zq:iK 321 4:=⟨isAgg321,sizeOf321,i1 λw=>(zeroValue321 w).trans rr⟩
theorem Yj:iK 322 16:=⟨isAgg322,sizeOf322,i1 λw=>(zeroValue322 w).trans rr⟩
theorem szOk(t k:Nat)(h:oN szL t=some k):iK t k:=by
 have h:=kU h;simp only[szL,List.mem_cons,List.not_mem_nil,or_false,Prod.mk.injEq]at h;rcases h with ⟨rfl,rfl⟩|⟨rfl,rfl⟩|⟨rfl,rfl⟩|⟨rfl,rfl⟩|⟨rfl,rfl⟩|⟨rfl,rfl⟩|⟨rfl,rfl⟩|⟨rfl,rfl⟩|⟨rfl,rfl⟩|⟨rfl,rfl⟩|⟨rfl,rfl⟩|⟨rfl,rfl⟩|⟨rfl,rfl⟩|⟨rfl,rfl⟩|⟨rfl,rfl⟩|⟨rfl,rfl⟩|⟨rfl,rfl⟩|⟨rfl,rfl⟩|⟨rfl,rfl⟩|⟨rfl,rfl⟩|⟨rfl,rfl⟩
 ·exact sz25
 ·exact sz27
 ·exact sz37
 ·exact sz39
 ·exact sz41
 ·exact sz43
 ·exact sz52
 ·exact sz54
 ·exact sz92
 ·exact sz94
 ·exact Xx
 ·exact Wb
 ·exact Xu
 ·exact Ui
 ·exact Wt
 ·exact Wz
 ·exact Yp
 ·exact Xf
 ·exact YH
 ·exact Zq
 ·exact Yj
abbrev mh(t:Nat)(l:List (Nat×Nat)):Prop:= ∃fields,prog.underlying t=some (.struct fields)/\(∀w,(Array.mapM (λf=>Prod.mk f.offset<$>sizeOf f.type) fields:Sem _).run prog w=.ok (l.map (λp=>(6*p.1,6*p.2))).toArray w)/\∀(i:Nat) (p:Nat×Nat),l[i]? =some p->∃(fd:Field) (m:Nat),fields[i]? =some fd/\fd.offset=6*p.1/\m≠0/\∀w,(sizeOf fd.type).run prog w=.ok m w
theorem fs27:mh 27 [(0,1)]:=by
 refine ⟨_,underlying27,λw=>by simp[sizeOf25],λi p h=> ?_⟩
 match i,h with
 |0,h=>cases h;exact ⟨_,6,rfl,rfl,dc,sizeOf25⟩
 |n+1,h=>simp at h
theorem fs39:mh 39 [(0,1)]:=by
 refine ⟨_,underlying39,λw=>by simp[sizeOf37],λi p h=> ?_⟩
 match i,h with
 |0,h=>cases h;exact ⟨_,6,rfl,rfl,dc,sizeOf37⟩
 |n+1,h=>simp at h
theorem fs41:mh 41 [(0,1),(1,1)]:=by
 refine ⟨_,underlying41,λw=>by simp[sizeOf39],λi p h=> ?_⟩
 match i,h with
 |0,h=>cases h;exact ⟨_,6,rfl,rfl,dc,sizeOf39⟩
 |1,h=>cases h;exact ⟨_,6,rfl,rfl,dc,sizeOf39⟩
 |n+2,h=>simp at h
theorem fs43:mh 43 [(0,2),(2,2),(4,2)]:=by
 refine ⟨_,underlying43,λw=>by simp[sizeOf41],λi p h=> ?_⟩
 match i,h with
 |0,h=>cases h;exact ⟨_,12,rfl,rfl,dc,sizeOf41⟩
 |1,h=>cases h;exact ⟨_,12,rfl,rfl,dc,sizeOf41⟩
 |2,h=>cases h;exact ⟨_,12,rfl,rfl,dc,sizeOf41⟩
 |n+3,h=>simp at h
theorem fs52:mh 52 [(0,1)]:=by
 refine ⟨_,underlying52,λw=>by simp[sizeOf25],λi p h=> ?_⟩
 match i,h with
 |0,h=>cases h;exact ⟨_,6,rfl,rfl,dc,sizeOf25⟩
 |n+1,h=>simp at h
theorem fs54:mh 54 [(0,1),(1,1),(2,1)]:=by
 refine ⟨_,underlying54,λw=>by simp[sizeOf52],λi p h=> ?_⟩
 match i,h with
 |0,h=>cases h;exact ⟨_,6,rfl,rfl,dc,sizeOf52⟩
 |1,h=>cases h;exact ⟨_,6,rfl,rfl,dc,sizeOf52⟩
 |2,h=>cases h;exact ⟨_,6,rfl,rfl,dc,sizeOf52⟩
 |n+3,h=>simp at h
theorem fs92:mh 92 [(0,1),(1,1)]:=by
 refine ⟨_,underlying92,λw=>by simp[sizeOf52],λi p h=> ?_⟩
 match i,h with
 |0,h=>cases h;exact ⟨_,6,rfl,rfl,dc,sizeOf52⟩
 |1,h=>cases h;exact ⟨_,6,rfl,rfl,dc,sizeOf52⟩
 |n+2,h=>simp at h
theorem fs94:mh 94 [(0,2),(2,2),(4,2)]:=by
 refine ⟨_,underlying94,λw=>by simp[sizeOf92],λi p h=> ?_⟩
 match i,h with
 |0,h=>cases h;exact ⟨_,12,rfl,rfl,dc,sizeOf92⟩
 |1,h=>cases h;exact ⟨_,12,rfl,rfl,dc,sizeOf92⟩
 |2,h=>cases h;exact ⟨_,12,rfl,rfl,dc,sizeOf92⟩
 |n+3,h=>simp at h
theorem UF:mh 182 [(0,3),(3,6)]:=by
 refine ⟨_,underlying182,λw=>by simp[sizeOf54,sizeOf94],λi p h=> ?_⟩
 match i,h with
 |0,h=>cases h;exact ⟨_,18,rfl,rfl,dc,sizeOf54⟩
 |1,h=>cases h;exact ⟨_,36,rfl,rfl,dc,sizeOf94⟩
 |n+2,h=>simp at h
theorem Wn:mh 231 [(0,2),(2,2),(4,2)]:=by
 refine ⟨_,underlying231,λw=>by simp[sizeOf92],λi p h=> ?_⟩
 match i,h with
 |0,h=>cases h;exact ⟨_,12,rfl,rfl,dc,sizeOf92⟩
 |1,h=>cases h;exact ⟨_,12,rfl,rfl,dc,sizeOf92⟩
 |2,h=>cases h;exact ⟨_,12,rfl,rfl,dc,sizeOf92⟩
 |n+3,h=>simp at h
theorem XH:mh 233 [(0,6),(6,6)]:=by
 refine ⟨_,underlying233,λw=>by simp[sizeOf231],λi p h=> ?_⟩
 match i,h with
 |0,h=>cases h;exact ⟨_,36,rfl,rfl,dc,sizeOf231⟩
 |1,h=>cases h;exact ⟨_,36,rfl,rfl,dc,sizeOf231⟩
 |n+2,h=>simp at h
theorem Wv:mh 262 [(0,2),(2,2),(4,2)]:=by
 refine ⟨_,underlying262,λw=>by simp[sizeOf92],λi p h=> ?_⟩
 match i,h with
 |0,h=>cases h;exact ⟨_,12,rfl,rfl,dc,sizeOf92⟩
 |1,h=>cases h;exact ⟨_,12,rfl,rfl,dc,sizeOf92⟩
 |2,h=>cases h;exact ⟨_,12,rfl,rfl,dc,sizeOf92⟩
 |n+3,h=>simp at h
theorem Vx:mh 264 [(0,1),(1,1),(2,2),(4,2),(6,2),(8,2),(10,2)]:=by
 refine ⟨_,underlying264,λw=>by simp[sizeOf52,sizeOf92],λi p h=> ?_⟩
 match i,h with
 |0,h=>cases h;exact ⟨_,6,rfl,rfl,dc,sizeOf52⟩
 |1,h=>cases h;exact ⟨_,6,rfl,rfl,dc,sizeOf52⟩
 |2,h=>cases h;exact ⟨_,12,rfl,rfl,dc,sizeOf92⟩
 |3,h=>cases h;exact ⟨_,12,rfl,rfl,dc,sizeOf92⟩
 |4,h=>cases h;exact ⟨_,12,rfl,rfl,dc,sizeOf92⟩
 |5,h=>cases h;exact ⟨_,12,rfl,rfl,dc,sizeOf92⟩
 |6,h=>cases h;exact ⟨_,12,rfl,rfl,dc,sizeOf92⟩
 |n+7,h=>simp at h
theorem Xt:mh 321 [(0,2),(2,2)]:=by
 refine ⟨_,underlying321,λw=>by simp[sizeOf92],λi p h=> ?_⟩
 match i,h with
 |0,h=>cases h;exact ⟨_,12,rfl,rfl,dc,sizeOf92⟩
 |1,h=>cases h;exact ⟨_,12,rfl,rfl,dc,sizeOf92⟩
 |n+2,h=>simp at h
theorem fsOk(t:Nat)(l:List (Nat×Nat))(h:oN fsL t=some l):mh t l:=by
 have h:=kU h;simp only[fsL,List.mem_cons,List.not_mem_nil,or_false,Prod.mk.injEq]at h;rcases h with ⟨rfl,rfl⟩|⟨rfl,rfl⟩|⟨rfl,rfl⟩|⟨rfl,rfl⟩|⟨rfl,rfl⟩|⟨rfl,rfl⟩|⟨rfl,rfl⟩|⟨rfl,rfl⟩|⟨rfl,rfl⟩|⟨rfl,rfl⟩|⟨rfl,rfl⟩|⟨rfl,rfl⟩|⟨rfl,rfl⟩|⟨rfl,rfl⟩
 ·exact fs27
 ·exact fs39
 ·exact fs41
 ·exact fs43
 ·exact fs52
 ·exact fs54
 ·exact fs92
 ·exact fs94
 ·exact UF
 ·exact Wn
 ·exact XH
 ·exact Wv
 ·exact Vx
 ·exact Xt
abbrev mp(t k:Nat):Prop:=(∀(op:BinOp) (x y:Operand) (xs ys:Array Value) (w:World),(eqGuard op t x y (.agg xs) (.agg ys)).run prog w=.ok () w)/\∃d0,d0<=100/\EqF prog t (6*k) d0
theorem Xr:mp 25 1:=⟨λop x y xs ys w=>run_eqGuard_agg w op 25 x y xs ys kr,2,dc,(cJ underlying25 underlying24 sizeOf24 isAgg24)⟩
theorem Xs:mp 27 1:=⟨λop x y xs ys w=>run_eqGuard_agg w op 27 x y xs ys kr,3,dc,(cV underlying27 O dc kr isAgg25 sizeOf25 (cJ underlying25 underlying24 sizeOf24 isAgg24))⟩
theorem Zd:mp 37 1:=⟨λop x y xs ys w=>run_eqGuard_agg w op 37 x y xs ys kr,2,dc,(cJ underlying37 underlying24 sizeOf24 isAgg24)⟩
theorem Uv:mp 39 1:=⟨λop x y xs ys w=>run_eqGuard_agg w op 39 x y xs ys kr,3,dc,(cV underlying39 O dc kr isAgg37 sizeOf37 (cJ underlying37 underlying24 sizeOf24 isAgg24))⟩
theorem Wy:mp 41 2:=⟨λop x y xs ys w=>run_eqGuard_agg w op 41 x y xs ys kr,4,dc,(gD (m:=6) (n:=6) underlying41 O O dc dc kr isAgg39 sizeOf39 (cV underlying39 O dc kr isAgg37 sizeOf37 (cJ underlying37 underlying24 sizeOf24 isAgg24)) isAgg39 sizeOf39 (cV underlying39 O dc kr isAgg37 sizeOf37 (cJ underlying37 underlying24 sizeOf24 isAgg24)))⟩
theorem Yf:mp 52 1:=⟨λop x y xs ys w=>run_eqGuard_agg w op 52 x y xs ys kr,3,dc,(cV underlying52 O dc kr isAgg25 sizeOf25 (cJ underlying25 underlying24 sizeOf24 isAgg24))⟩
theorem WJ:mp 92 2:=⟨λop x y xs ys w=>run_eqGuard_agg w op 92 x y xs ys kr,4,dc,(gD (m:=6) (n:=6) underlying92 O O dc dc kr isAgg52 sizeOf52 (cV underlying52 O dc kr isAgg25 sizeOf25 (cJ underlying25 underlying24 sizeOf24 isAgg24)) isAgg52 sizeOf52 (cV underlying52 O dc kr isAgg25 sizeOf25 (cJ underlying25 underlying24 sizeOf24 isAgg24)))⟩
theorem TU:mp 142 2:=⟨λop x y xs ys w=>run_eqGuard_agg w op 142 x y xs ys kr,2,dc,(cJ underlying142 underlying24 sizeOf24 isAgg24)⟩
theorem TY:mp 288 6:=⟨λop x y xs ys w=>run_eqGuard_agg w op 288 x y xs ys kr,5,dc,(nh (k:=3) (n:=12) dc underlying288 isAgg92 sizeOf92 (gD (m:=6) (n:=6) underlying92 O O dc dc kr isAgg52 sizeOf52 (cV underlying52 O dc kr isAgg25 sizeOf25 (cJ underlying25 underlying24 sizeOf24 isAgg24)) isAgg52 sizeOf52 (cV underlying52 O dc kr isAgg25 sizeOf25 (cJ underlying25 underlying24 sizeOf24 isAgg24))))⟩
theorem OH:mp 293 16:=⟨λop x y xs ys w=>run_eqGuard_agg w op 293 x y xs ys kr,4,dc,(nh (k:=16) (n:=6) dc underlying293 isAgg52 sizeOf52 (cV underlying52 O dc kr isAgg25 sizeOf25 (cJ underlying25 underlying24 sizeOf24 isAgg24)))⟩
theorem RC:mp 307 12:=⟨λop x y xs ys w=>run_eqGuard_agg w op 307 x y xs ys kr,5,dc,(nh (k:=6) (n:=12) dc underlying307 isAgg92 sizeOf92 (gD (m:=6) (n:=6) underlying92 O O dc dc kr isAgg52 sizeOf52 (cV underlying52 O dc kr isAgg25 sizeOf25 (cJ underlying25 underlying24 sizeOf24 isAgg24)) isAgg52 sizeOf52 (cV underlying52 O dc kr isAgg25 sizeOf25 (cJ underlying25 underlying24 sizeOf24 isAgg24))))⟩
theorem P9:mp 321 4:=⟨λop x y xs ys w=>run_eqGuard_agg w op 321 x y xs ys kr,5,dc,(gD (m:=12) (n:=12) underlying321 O O dc dc kr isAgg92 sizeOf92 (gD (m:=6) (n:=6) underlying92 O O dc dc kr isAgg52 sizeOf52 (cV underlying52 O dc kr isAgg25 sizeOf25 (cJ underlying25 underlying24 sizeOf24 isAgg24)) isAgg52 sizeOf52 (cV underlying52 O dc kr isAgg25 sizeOf25 (cJ underlying25 underlying24 sizeOf24 isAgg24))) isAgg92 sizeOf92 (gD (m:=6) (n:=6) underlying92 O O dc dc kr isAgg52 sizeOf52 (cV underlying52 O dc kr isAgg25 sizeOf25 (cJ underlying25 underlying24 sizeOf24 isAgg24)) isAgg52 sizeOf52 (cV underlying52 O dc kr isAgg25 sizeOf25 (cJ underlying25 underlying24 sizeOf24 isAgg24))))⟩
theorem TJ:mp 322 16:=⟨λop x y xs ys w=>run_eqGuard_agg w op 322 x y xs ys kr,6,dc,(nh (k:=4) (n:=24) dc underlying322 isAgg321 sizeOf321 (gD (m:=12) (n:=12) underlying321 O O dc dc kr isAgg92 sizeOf92 (gD (m:=6) (n:=6) underlying92 O O dc dc kr isAgg52 sizeOf52 (cV underlying52 O dc kr isAgg25 sizeOf25 (cJ underlying25 underlying24 sizeOf24 isAgg24)) isAgg52 sizeOf52 (cV underlying52 O dc kr isAgg25 sizeOf25 (cJ underlying25 underlying24 sizeOf24 isAgg24))) isAgg92 sizeOf92 (gD (m:=6) (n:=6) underlying92 O O dc dc kr isAgg52 sizeOf52 (cV underlying52 O dc kr isAgg25 sizeOf25 (cJ underlying25 underlying24 sizeOf24 isAgg24)) isAgg52 sizeOf52 (cV underlying52 O dc kr isAgg25 sizeOf25 (cJ underlying25 underlying24 sizeOf24 isAgg24)))))⟩
def eqL:List (Nat×Nat):=[(25,1),(27,1),(37,1),(39,1),(41,2),(52,1),(92,2),(142,2),(288,6),(293,16),(307,12),(321,4),(322,16)]
theorem eqOk(t k:Nat)(h:(oN eqL t).isSome=true)(hk:oN szL t=some k):mp t k:=by
 obtain ⟨q,hq⟩:=Option.isSome_iff_exists.1 h;have h:=kU hq;simp only[eqL,List.mem_cons,List.not_mem_nil,or_false,Prod.mk.injEq]at h;rcases h with ⟨rfl,rfl⟩|⟨rfl,rfl⟩|⟨rfl,rfl⟩|⟨rfl,rfl⟩|⟨rfl,rfl⟩|⟨rfl,rfl⟩|⟨rfl,rfl⟩|⟨rfl,rfl⟩|⟨rfl,rfl⟩|⟨rfl,rfl⟩|⟨rfl,rfl⟩|⟨rfl,rfl⟩|⟨rfl,rfl⟩
 ·cases hk;exact Xr
 ·cases hk;exact Xs
 ·cases hk;exact Zd
 ·cases hk;exact Uv
 ·cases hk;exact Wy
 ·cases hk;exact Yf
 ·cases hk;exact WJ
 ·cases hk;exact TU
 ·cases hk;exact TY
 ·cases hk;exact OH
 ·cases hk;exact RC
 ·cases hk;exact P9
 ·cases hk;exact TJ
def arL:List (Nat×Nat):=[(288,2),(293,1),(307,2),(322,4)]
theorem arOk(t m:Nat)(h:oN arL t=some m): ∃n e,prog.underlying t=some (.array n e)/\∀w,(sizeOf e).run prog w=.ok (6*m) w:=by
 have h:=kU h;simp only[arL,List.mem_cons,List.not_mem_nil,or_false,Prod.mk.injEq]at h;rcases h with ⟨rfl,rfl⟩|⟨rfl,rfl⟩|⟨rfl,rfl⟩|⟨rfl,rfl⟩
 ·exact ⟨_,92,underlying288,sizeOf92⟩
 ·exact ⟨_,52,underlying293,sizeOf52⟩
 ·exact ⟨_,92,underlying307,sizeOf92⟩
 ·exact ⟨_,321,underlying322,sizeOf321⟩
theorem boOk(t:Nat)(h:[4].any (Nat.beq t)=true):prog.underlying t=some .bool:=by
 simp only[List.any_cons,List.any_nil,Bool.or_false]at h;rw[Nat.eq_of_beq_eq_true h];exact underlying4
def TB:Tb prog Gt:=⟨oN szL,oN fsL,[],szOk,fsOk,(λ_ h=>by cases h),λt=>(oN eqL t).isSome,eqOk,oN arL,arOk,λt=>[4].any (Nat.beq t),boOk⟩
theorem R4{P:Program}{G:Cls}(T:Tb P G){f:Nat}{c:List S0->Option S1}(h:Snd P G f c): ∀e∈(f,c)::T.ct,Snd P G e.1 e.2:=λe he=>by
 rcases List.mem_cons.1 he with rfl|he
 ·exact h
 ·exact T.hct e he
def Tb.add{P:Program}{G:Cls}(T:Tb P G){f:Nat}{c:List S0->Option S1}(h:Snd P G f c):Tb P G:={T with ct:=(f,c)::T.ct,hct:=R4 T h}
theorem gtS(w:World)(h:Gt w):BOk Gt (pl w):=gt_low.plain h
section
attribute [local simp] aZ a9 bd
theorem ent239:ai prog 239:=λ_ _=>kr
theorem ent253:ai prog 253:=λ_ _=>kr
theorem ent197:ai prog 197:=λ_ _=>kr
theorem ent232:ai prog 232:=λ_ _=>kr
theorem ent203:ai prog 203:=λ_ _=>kr
theorem ent224:ai prog 224:=λ_ _=>kr
theorem ent198:ai prog 198:=λ_ _=>kr
theorem ent150:ai prog 150:=λ_ _=>kr
theorem ent149:ai prog 149:=λ_ _=>kr
theorem ent199:ai prog 199:=λ_ _=>kr
theorem ent278:ai prog 278:=λ_ _=>kr
theorem ent148:ai prog 148:=λ_ _=>kr
theorem ent200:ai prog 200:=λ_ _=>kr
theorem ent255:ai prog 255:=λ_ _=>kr
theorem ent256:ai prog 256:=λ_ _=>kr
theorem ent272:ai prog 272:=λ_ _=>kr
theorem ent97:ai prog 97:=λ_ _=>kr
theorem ent61:ai prog 61:=λ_ _=>kr
theorem ent68:ai prog 68:=λ_ _=>kr
theorem ent117:ai prog 117:=λ_ _=>kr
theorem ent106:ai prog 106:=λ_ _=>kr
theorem ent123:ai prog 123:=λ_ _=>kr
theorem ent105:ai prog 105:=λ_ _=>kr
theorem ent174:ai prog 174:=λ_ _=>kr
theorem ent59:ai prog 59:=λ_ _=>kr
abbrev EV2(x:W2):Value:=aI (fe x.1++fe x.2)
theorem zf52(w:World):(zeroValue 52).run prog w=.ok (aI (fe 0)) w:=by rw[iZ];exact (zeroValue52 w).trans rr
theorem zv92(w:World):(zeroValue 92).run prog w=.ok (aI (fe 0++fe 0)) w:=by rw[iZ];exact (zeroValue92 w).trans rr
theorem fx:Two prog 92 ⟨ "C0",52,0,false, "", "",0⟩ ⟨ "C1",52,6,false, "", "",48⟩ 6 6 (fe 0) (fe 0):=⟨underlying92,rfl,rfl,sizeOf52,sizeOf52,zv92,a5 0,a5 0⟩
theorem zv41(w:World):(zeroValue 41).run prog w=.ok (aI (fe 0++fe 0)) w:=by rw[iZ];exact (zeroValue41 w).trans rr
theorem NX:Two prog 41 ⟨ "A",39,0,false, "", "",0⟩ ⟨ "B",39,6,false, "", "",48⟩ 6 6 (fe 0) (fe 0):=⟨underlying41,rfl,rfl,sizeOf39,sizeOf39,zv41,a5 0,a5 0⟩
theorem e2{a b c d:Zp}(h1:a=c)(h2:b=d):Ending.returned (aI (fe a++fe b))=.returned (aI (fe c++fe d)):=by rw[h1,h2]
theorem rb{a b:Bool}(h:a=b):Ending.returned (.bool a)=.returned (.bool b):=by rw[h]
def q3:Sh (Zp×Zp×Zp):=q1.two (q1.two q1 1) 1
theorem pE{f:FuncId}{fn:Func}{c:Code}(T:Tb prog Gt)(hf:prog.funcs[f]? =some fn)(a:List S0)(v:S1)(vc:S1×CB)(p:Pa)(h:xF T fn c a p=some vc)(hc:Ok vc.2)(e:vc.1=v)(hb:fn.body=some c:=by rfl)(hn:Nat.ble a.length fn.ntmps=true:=by rfl):PUR f (a.map (dn rid)) (dn1 rid v):=by rw[<-e];exact Qc (v:=vc.1) (cs:=vc.2) T dU gtS hf hb h hc hn rid
theorem el2{a b c d:Zp}(h1:a=c)(h2:b=d):(Sum.inl (Sum.inl [a,b]):S1)=.inl (.inl [c,d]):=by rw[h1,h2]
theorem eb{a b:Bool}(h:a=b):(Sum.inl (.inr (.inl a)):S1)=.inl (.inr (.inl b)):=by rw[h]
theorem ei{a b:Int}(h:a=b):(Sum.inl (.inr (.inr (.inl (I a)))):S1)=.inl (.inr (.inr (.inl (I b)))):=by rw[h]
theorem cZ{f:Nat}{g:Zp->Zp->Zp}(en:ai prog f)(h: ∀a b,PUR f [EV a,EV b] (EV (g a b))):Snd prog Gt f (c2 q1.ag q1.ag q1.rd g):=f9 q1.ag q1.ag q1.rd en h
def TO1:Tb prog Gt:=TB.add (cZ (g:=λx y=>x*y) ent137 ij)
theorem sA{f:Nat}{g:BitVec 64->Zp}(en:ai prog f)(h: ∀a,PUR f [U64 a] (EV (g a))):Snd prog Gt f (c1 agU q1.rd g):=ga agU q1.rd en h
def TO2:Tb prog Gt:=TO1.add (sA (g:=λn=>zp n.toNat) ent140 dV)
theorem pU{f:Nat}{g:Zp->Zp->Bool}(en:ai prog f)(h: ∀a b,PUR f [EV a,EV b] (.bool (g a b))):Snd prog Gt f (c2 q1.ag q1.ag rdB g):=f9 q1.ag q1.ag rdB en h
def TO3:Tb prog Gt:=TO2.add (pU (g:=λx y=>decide (x=y)) ent209 oh)
theorem jG{f:Nat}{g:Zp->Bool}(en:ai prog f)(h: ∀a,PUR f [EV a] (.bool (g a))):Snd prog Gt f (c1 q1.ag rdB g):=ga q1.ag rdB en h
def TO4:Tb prog Gt:=TO3.add (jG (g:=λx=>decide (x=0)) ent63 tW)
def TO5:Tb prog Gt:=TO4.add (cZ (g:=λx y=>x+y) ent201 sn)
def TO6:Tb prog Gt:=TO5.add (cZ (g:=λx y=>x-y) ent191 nI)
theorem ft{f:Nat}{g:Zp->Zp}(en:ai prog f)(h: ∀a,PUR f [EV a] (EV (g a))):Snd prog Gt f (c1 q1.ag q1.rd g):=ga q1.ag q1.rd en h
def TO7:Tb prog Gt:=TO6.add (ft (g:=λx=> -x) ent173 dQ)
def TO8:Tb prog Gt:=TO7.add (ft (g:=λx=>x*x) ent136 jR)
theorem qa{f:Nat}{g:Zp}(en:ai prog f)(h:PUR f [U64 1#64] (EV g)):Snd prog Gt f (c1 (agL 1) q1.rd (λ_=>g)):=ga (agL 1) q1.rd en (λ_=>h)
def TO9:Tb prog Gt:=TO8.add (qa (g:=1) ent140 sB)
def TO10:Tb prog Gt:=TO9.add (ft (g:=λx=>x^(PP-2)) ent135 CA)
def TO11:Tb prog Gt:=TO10.add (jG (g:=λx=>decide (x.val % 2=1)) ent289 Cn)
def TO12:Tb prog Gt:=TO11.add (jG (g:=λx=>decide (hf<x.val)) ent89 gK)
theorem oF{f:Nat}{g:Zp->Zp}{k:Zp->Bool}(en:ai prog f)(h: ∀a,PUR f [EV a] (.tuple #[EV (g a),.bool (k a)])):Snd prog Gt f (c1 q1.ag q1.rdB (λa=>((g a),(k a)))):=ga q1.ag q1.rdB en h
def TO13:Tb prog Gt:=TO12.add (oF (g:=SQ) (k:=λx=>decide (SQr x*SQr x=x)) ent172 mm)
def TO14:Tb prog Gt:=TO13.add (cZ (g:=λx y=>x*y) ent167 IF)
def TO15:Tb prog Gt:=TO14.add (cZ (g:=λx y=>x+y) ent169 V7)
def TO16:Tb prog Gt:=TO15.add (cZ (g:=λx y=>x-y) ent168 Xb)
def TO17:Tb prog Gt:=TO16.add (ft (g:=λx=> -x) ent161 Eu)
def TO18:Tb prog Gt:=TO17.add (ft (g:=λx=>x^(PP-2)) ent175 WU)
def TO19:Tb prog Gt:=TO18.add (jG (g:=λx=>decide (x=0)) ent114 kE)
def TO21:Tb prog Gt:=TO19.add (jG (g:=λx=>decide (hf<x.val)) ent115 uG)
def TO22:Tb prog Gt:=TO21.add (sA (g:=λn=>zp n.toNat) ent116 mK)
def TO23:Tb prog Gt:=TO22.add (oF (g:=SQ) (k:=λx=>decide (SQr x*SQr x=x)) ent182 Ta)
theorem sk  :PUR 239 [] (EV2 on2):=pE TO23 func239 [] (.inl (.inl [on2.1,on2.2])) (.inl (.inl [1,0]),[]) [] kr aD O
theorem v7{f:Nat}{g:W2}(en:ai prog f)(h:PUR f [] (EV2 g)):Snd prog Gt f (c0 q2.rd g):=vS q2.rd en h
def TO24:Tb prog Gt:=TO23.add (v7 (g:=on2) ent239 sk)
theorem tO(x y:W2):PUR 253 [EV2 x,EV2 y] (.bool (decide (x=y))):=by
 by_cases h:x.1=y.1
 ·exact pE TO24 func253 [.inl [x.1,x.2],.inl [y.1,y.2]] (.inl (.inr (.inl (decide (x=y))))) (.inl (.inr (.inl (decide (x.2=y.2)))),[(decide (x.1=y.1),true)]) [some true] kr (ao (decide_eq_true h) aD) (eb (xI h))
 ·exact pE TO24 func253 [.inl [x.1,x.2],.inl [y.1,y.2]] (.inl (.inr (.inl (decide (x=y))))) (.inl (.inr (.inl false)),[(decide (x.1=y.1),false)]) [some false] kr (ao (decide_eq_false h) aD) (eb (yH h))
theorem p8{f:Nat}{g:W2->W2->Bool}(en:ai prog f)(h: ∀a b,PUR f [EV2 a,EV2 b] (.bool (g a b))):Snd prog Gt f (c2 q2.ag q2.ag rdB g):=f9 q2.ag q2.ag rdB en h
def TO25:Tb prog Gt:=TO24.add (p8 (g:=λx y=>decide (x=y)) ent253 tO)
theorem wJ(x:W2):PUR 197 [EV2 x] (.bool (decide (x=ze2))):=by
 by_cases h:x.1=0
 ·exact pE TO25 func197 [.inl [x.1,x.2]] (.inl (.inr (.inl (decide (x=ze2))))) (.inl (.inr (.inl (decide (x.2=0)))),[(decide (x.1=0),true)]) [some true] kr (ao (decide_eq_true h) aD) (eb (xI (y:=ze2) h))
 ·exact pE TO25 func197 [.inl [x.1,x.2]] (.inl (.inr (.inl (decide (x=ze2))))) (.inl (.inr (.inl false)),[(decide (x.1=0),false)]) [some false] kr (ao (decide_eq_false h) aD) (eb (yH (y:=ze2) h))
theorem ls{f:Nat}{g:W2->Bool}(en:ai prog f)(h: ∀a,PUR f [EV2 a] (.bool (g a))):Snd prog Gt f (c1 q2.ag rdB g):=ga q2.ag rdB en h
def TO26:Tb prog Gt:=TO25.add (ls (g:=λx=>decide (x=ze2)) ent197 wJ)
theorem eQ(x y:W2):PUR 232 [EV2 x,EV2 y] (EV2 (ad2 x y)):=pE TO26 func232 [.inl [x.1,x.2],.inl [y.1,y.2]] (.inl (.inl [(ad2 x y).1,(ad2 x y).2])) (.inl (.inl [x.1+y.1,x.2+y.2]),[]) [] kr aD O
theorem cL{f:Nat}{g:W2->W2->W2}(en:ai prog f)(h: ∀a b,PUR f [EV2 a,EV2 b] (EV2 (g a b))):Snd prog Gt f (c2 q2.ag q2.ag q2.rd g):=f9 q2.ag q2.ag q2.rd en h
def TO27:Tb prog Gt:=TO26.add (cL (g:=ad2) ent232 eQ)
theorem kO(x y:W2):PUR 203 [EV2 x,EV2 y] (EV2 (sb2 x y)):=pE TO27 func203 [.inl [x.1,x.2],.inl [y.1,y.2]] (.inl (.inl [(sb2 x y).1,(sb2 x y).2])) (.inl (.inl [x.1-y.1,x.2-y.2]),[]) [] kr aD O
def TO28:Tb prog Gt:=TO27.add (cL (g:=sb2) ent203 kO)
theorem DR(x:W2):PUR 224 [EV2 x] (EV2 (ng2 x)):=pE TO28 func224 [.inl [x.1,x.2]] (.inl (.inl [(ng2 x).1,(ng2 x).2])) (.inl (.inl [-x.1,-x.2]),[]) [] kr aD O
theorem eH{f:Nat}{g:W2->W2}(en:ai prog f)(h: ∀a,PUR f [EV2 a] (EV2 (g a))):Snd prog Gt f (c1 q2.ag q2.rd g):=ga q2.ag q2.rd en h
def TO29:Tb prog Gt:=TO28.add (eH (g:=ng2) ent224 DR)
theorem nv(x:W2):PUR 198 [EV2 x] (EV2 (cj2 x)):=pE TO29 func198 [.inl [x.1,x.2]] (.inl (.inl [(cj2 x).1,(cj2 x).2])) (.inl (.inl [x.1,-x.2]),[]) [] kr aD O
def TO30:Tb prog Gt:=TO29.add (eH (g:=cj2) ent198 nv)
theorem dv(x y:W2):PUR 150 [EV2 x,EV2 y] (EV2 (ml2 x y)):=pE TO30 func150 [.inl [x.1,x.2],.inl [y.1,y.2]] (.inl (.inl [(ml2 x y).1,(ml2 x y).2])) (let t0:=(x.1+x.2)*(y.1+y.2);let t1:=(x.1*y.1)-(x.2*y.2);let t2:=t0-(x.1*y.1);let t3:=t2-(x.2*y.2);(.inl (.inl [t1,t3]),[])) [] kr aD (el2 (by first|(simp only[ml2];done)|(simp only[ml2];grind)) (by first|(simp only[ml2];done)|(simp only[ml2];grind)))
def TO31:Tb prog Gt:=TO30.add (cL (g:=ml2) ent150 dv)
theorem iI(x:W2):PUR 149 [EV2 x] (EV2 (ml2 x x)):=pE TO31 func149 [.inl [x.1,x.2]] (.inl (.inl [(ml2 x x).1,(ml2 x x).2])) (let t0:=(x.1+x.2)*(x.1-x.2);let t1:=(x.1*x.2)+(x.1*x.2);(.inl (.inl [t0,t1]),[])) [] kr aD (el2 (by first|(simp only[ml2];done)|(simp only[ml2];grind)) (by first|(simp only[ml2];done)|(simp only[ml2];grind)))
def TO32:Tb prog Gt:=TO31.add (eH (g:=λx=>ml2 x x) ent149 iI)
theorem J5(x:W2)(c:Zp):PUR 199 [EV2 x,EV c] (EV2 (sc2 x c)):=pE TO32 func199 [.inl [x.1,x.2],.inl [c]] (.inl (.inl [(sc2 x c).1,(sc2 x c).2])) (.inl (.inl [x.1*c,x.2*c]),[]) [] kr aD O
theorem kq{f:Nat}{g:W2->Zp->W2}(en:ai prog f)(h: ∀a b,PUR f [EV2 a,EV b] (EV2 (g a b))):Snd prog Gt f (c2 q2.ag q1.ag q2.rd g):=f9 q2.ag q1.ag q2.rd en h
def TO33:Tb prog Gt:=TO32.add (kq (g:=sc2) ent199 J5)
theorem CN(x:W2):PUR 278 [EV2 x] (EV2 (xi2 x)):=pE TO33 func278 [.inl [x.1,x.2]] (.inl (.inl [(xi2 x).1,(xi2 x).2])) (.inl (.inl [x.1-x.2,x.1+x.2]),[]) [] kr aD O
def TO34:Tb prog Gt:=TO33.add (eH (g:=xi2) ent278 CN)
theorem Pw(x:W2):PUR 200 [EV2 x] (EV (nm2 x)):=pE TO34 func200 [.inl [x.1,x.2]] (.inl (.inl [nm2 x])) (let t0:=(x.1*x.1)+(x.2*x.2);(.inl (.inl [t0]),[])) [] kr aD O
theorem qh{f:Nat}{g:W2->Zp}(en:ai prog f)(h: ∀a,PUR f [EV2 a] (EV (g a))):Snd prog Gt f (c1 q2.ag q1.rd g):=ga q2.ag q1.rd en h
def TO35:Tb prog Gt:=TO34.add (qh (g:=nm2) ent200 Pw)
theorem Et(x:W2):PUR 148 [EV2 x] (EV2 (iv2 x)):=pE TO35 func148 [.inl [x.1,x.2]] (.inl (.inl [(iv2 x).1,(iv2 x).2])) (let t0:=cj2 x;let t1:=(nm2 x)^(PP-2);let t2:=sc2 (t0.1,t0.2) t1;(.inl (.inl [t2.1,t2.2]),[])) [] kr aD O
def TO36:Tb prog Gt:=TO35.add (eH (g:=iv2) ent148 Et)
end
section
attribute [local simp] aZ a9 bd
theorem Gn{x:W2}(h:x.2=0):decide (hf<x.1.val)=LG2 x:=by rw[LG2,if_pos h]
theorem H6{x:W2}(h: ¬x.2=0):decide (hf<x.2.val)=LG2 x:=by rw[LG2,if_neg h]
theorem Wu{x:W2}(h:hf<x.2.val):true=LG2 x:=by
 have h0: ¬x.2=0:=λe=>by rw[e]at h;exact Nat.not_lt_zero _ h
 rw[<-H6 h0,decide_eq_true h]
theorem WG{x:W2}(h: ¬hf<x.2.val)(h0: ¬x.2=0):false=LG2 x:=by rw[<-H6 h0,decide_eq_false h]
theorem Yi{x:W2}(h:x.1.val % 2=1):1=SG2 x:=by rw[SG2,if_pos h]
theorem Uq{x:W2}(h: ¬x.1.val % 2=1)(h0:x.1=0)(h2:x.2.val % 2=1):1=SG2 x:=by rw[SG2,if_neg h,if_pos h0,if_pos h2]
theorem YC{x:W2}(h: ¬x.1.val % 2=1)(h0:x.1=0)(h2: ¬x.2.val % 2=1):0=SG2 x:=by rw[SG2,if_neg h,if_pos h0,if_neg h2]
theorem XJ{x:W2}(h: ¬x.1.val % 2=1)(h0: ¬x.1=0):0=SG2 x:=by rw[SG2,if_neg h,if_neg h0]
theorem Lq:PUR 116 [U64 1#64] (EV 1):=mK 1#64
theorem Jn:PUR 116 [U64 2#64] (EV (zp 2)):=mK 2#64
def TO37:Tb prog Gt:=TO36.add (qa (g:=1) ent116 Lq)
theorem y7{f:Nat}{g:Zp}(en:ai prog f)(h:PUR f [U64 2#64] (EV g)):Snd prog Gt f (c1 (agL 2) q1.rd (λ_=>g)):=ga (agL 2) q1.rd en (λ_=>h)
def TO38:Tb prog Gt:=TO37.add (y7 (g:=zp 2) ent116 Jn)
theorem pJ(x:W2):PUR 97 [EV2 x] (.bool (LG2 x)):=by
 by_cases h:hf<x.2.val
 ·exact pE TO38 func97 [.inl [x.1,x.2]] (.inl (.inr (.inl (LG2 x)))) (.inl (.inr (.inl true)),[(decide (hf<x.2.val),true)]) [some true] kr (ao (decide_eq_true h) aD) (eb (Wu h))
 ·by_cases h0:x.2=0
  ·exact pE TO38 func97 [.inl [x.1,x.2]] (.inl (.inr (.inl (LG2 x)))) (.inl (.inr (.inl (decide (hf<x.1.val)))),[(decide (hf<x.2.val),false),(decide (x.2=0),true)]) [some false,some true] kr (ao (decide_eq_false h) (ao (decide_eq_true h0) aD)) (eb (Gn h0))
  ·exact pE TO38 func97 [.inl [x.1,x.2]] (.inl (.inr (.inl (LG2 x)))) (.inl (.inr (.inl false)),[(decide (hf<x.2.val),false),(decide (x.2=0),false)]) [some false,some false] kr (ao (decide_eq_false h) (ao (decide_eq_false h0) aD)) (eb (WG h h0))
def TO39:Tb prog Gt:=TO38.add (ls (g:=LG2) ent97 pJ)
theorem u0(x:W2):PUR 272 [EV2 x] (I (SG2 x)):=by
 by_cases h:x.1.val % 2=1
 ·exact pE TO39 func272 [.inl [x.1,x.2]] (.inl (.inr (.inr (.inl (I (SG2 x)))))) (.inl (.inr (.inr (.inl (I 1)))),[(decide (x.1.val % 2=1),true)]) [some true] kr (ao (decide_eq_true h) aD) (ei (Yi h))
 ·by_cases h0:x.1=0
  ·by_cases h2:x.2.val % 2=1
   ·exact pE TO39 func272 [.inl [x.1,x.2]] (.inl (.inr (.inr (.inl (I (SG2 x)))))) (.inl (.inr (.inr (.inl (I 1)))),[(decide (x.1.val % 2=1),false),(decide (x.1=0),true),(decide (x.2.val % 2=1),true)]) [some false,some true,some true] kr (ao (decide_eq_false h) (ao (decide_eq_true h0) (ao (decide_eq_true h2) aD))) (ei (Uq h h0 h2))
   ·exact pE TO39 func272 [.inl [x.1,x.2]] (.inl (.inr (.inr (.inl (I (SG2 x)))))) (.inl (.inr (.inr (.inl (I 0)))),[(decide (x.1.val % 2=1),false),(decide (x.1=0),true),(decide (x.2.val % 2=1),false)]) [some false,some true,some false] kr (ao (decide_eq_false h) (ao (decide_eq_true h0) (ao (decide_eq_false h2) aD))) (ei (YC h h0 h2))
  ·exact pE TO39 func272 [.inl [x.1,x.2]] (.inl (.inr (.inr (.inl (I (SG2 x)))))) (.inl (.inr (.inr (.inl (I 0)))),[(decide (x.1.val % 2=1),false),(decide (x.1=0),false)]) [some false,some false] kr (ao (decide_eq_false h) (ao (decide_eq_false h0) aD)) (ei (XJ h h0))
theorem CG{f:Nat}{g:W2->Value}(en:ai prog f)(h: ∀a,PUR f [EV2 a] ((g a))):Snd prog Gt f (c1 q2.ag rdV g):=ga q2.ag rdV en h
def TO40:Tb prog Gt:=TO39.add (CG (g:=λx=>I (SG2 x)) ent272 u0)
theorem Vu  :PUR 61 [] (EV2 on2):=pE TO40 func61 [] (.inl (.inl [on2.1,on2.2])) (.inl (.inl [1,0]),[]) [] kr aD O
def TO42:Tb prog Gt:=TO40.add (v7 (g:=on2) ent61 Vu)
theorem kK(x:W2):PUR 68 [EV2 x] (.bool (decide (x=ze2))):=by
 by_cases h:x.1=0
 ·exact pE TO42 func68 [.inl [x.1,x.2]] (.inl (.inr (.inl (decide (x=ze2))))) (.inl (.inr (.inl (decide (x.2=0)))),[(decide (x.1=0),true)]) [some true] kr (ao (decide_eq_true h) aD) (eb (xI (y:=ze2) h))
 ·exact pE TO42 func68 [.inl [x.1,x.2]] (.inl (.inr (.inl (decide (x=ze2))))) (.inl (.inr (.inl false)),[(decide (x.1=0),false)]) [some false] kr (ao (decide_eq_false h) aD) (eb (yH (y:=ze2) h))
def TO43:Tb prog Gt:=TO42.add (ls (g:=λx=>decide (x=ze2)) ent68 kK)
theorem mz(x y:W2):PUR 117 [EV2 x,EV2 y] (EV2 (ad2 x y)):=pE TO43 func117 [.inl [x.1,x.2],.inl [y.1,y.2]] (.inl (.inl [(ad2 x y).1,(ad2 x y).2])) (.inl (.inl [x.1+y.1,x.2+y.2]),[]) [] kr aD O
def TO44:Tb prog Gt:=TO43.add (cL (g:=ad2) ent117 mz)
theorem NK(x y:W2):PUR 106 [EV2 x,EV2 y] (EV2 (sb2 x y)):=pE TO44 func106 [.inl [x.1,x.2],.inl [y.1,y.2]] (.inl (.inl [(sb2 x y).1,(sb2 x y).2])) (.inl (.inl [x.1-y.1,x.2-y.2]),[]) [] kr aD O
def TO45:Tb prog Gt:=TO44.add (cL (g:=sb2) ent106 NK)
theorem H4(x:W2):PUR 123 [EV2 x] (EV2 (ng2 x)):=pE TO45 func123 [.inl [x.1,x.2]] (.inl (.inl [(ng2 x).1,(ng2 x).2])) (.inl (.inl [-x.1,-x.2]),[]) [] kr aD O
def TO46:Tb prog Gt:=TO45.add (eH (g:=ng2) ent123 H4)
theorem gL(x y:W2):PUR 105 [EV2 x,EV2 y] (EV2 (ml2 x y)):=by
 by_cases h:x.2=0
 ·by_cases h2:y.2=0
  ·exact pE TO46 func105 [.inl [x.1,x.2],.inl [y.1,y.2]] (.inl (.inl [(ml2 x y).1,(ml2 x y).2])) (.inl (.inl [x.1*y.1,0]),[(decide (x.2=0),true),(decide (y.2=0),true)]) [some true,some true] kr (ao (decide_eq_true h) (ao (decide_eq_true h2) aD)) (el2 (by simp only[ml2];rw[h];grind) (by simp only[ml2];rw[h,h2,gG,rG,Kn]))
  ·exact pE TO46 func105 [.inl [x.1,x.2],.inl [y.1,y.2]] (.inl (.inl [(ml2 x y).1,(ml2 x y).2])) (let t0:=(x.1*y.1)-(x.2*y.2);let t1:=(x.1+x.2)*(y.1+y.2);let t2:=t1-(x.1*y.1);let t3:=t2-(x.2*y.2);(.inl (.inl [t0,t3]),[(decide (x.2=0),true),(decide (y.2=0),false)])) [some true,some false] kr (ao (decide_eq_true h) (ao (decide_eq_false h2) aD)) (el2 (by first|(simp only[ml2];done)|(simp only[ml2];grind)) (by first|(simp only[ml2];done)|(simp only[ml2];grind)))
 ·exact pE TO46 func105 [.inl [x.1,x.2],.inl [y.1,y.2]] (.inl (.inl [(ml2 x y).1,(ml2 x y).2])) (let t0:=(x.1*y.1)-(x.2*y.2);let t1:=(x.1+x.2)*(y.1+y.2);let t2:=t1-(x.1*y.1);let t3:=t2-(x.2*y.2);(.inl (.inl [t0,t3]),[(decide (x.2=0),false)])) [some false] kr (ao (decide_eq_false h) aD) (el2 (by first|(simp only[ml2];done)|(simp only[ml2];grind)) (by first|(simp only[ml2];done)|(simp only[ml2];grind)))
def TO47:Tb prog Gt:=TO46.add (cL (g:=ml2) ent105 gL)
theorem QE(x:W2):PUR 174 [EV2 x] (EV (nm2 x)):=pE TO47 func174 [.inl [x.1,x.2]] (.inl (.inl [nm2 x])) (let t0:=(x.1*x.1)+(x.2*x.2);(.inl (.inl [t0]),[])) [] kr aD O
def TO48:Tb prog Gt:=TO47.add (qh (g:=nm2) ent174 QE)
theorem mV(x:W2):PUR 59 [EV2 x] (.bool (LG2 x)):=by
 by_cases h:x.2=0
 ·exact pE TO48 func59 [.inl [x.1,x.2]] (.inl (.inr (.inl (LG2 x)))) (.inl (.inr (.inl (decide (hf<x.1.val)))),[(decide (x.2=0),true)]) [some true] kr (ao (decide_eq_true h) aD) (eb (Gn h))
 ·exact pE TO48 func59 [.inl [x.1,x.2]] (.inl (.inr (.inl (LG2 x)))) (.inl (.inr (.inl (decide (hf<x.2.val)))),[(decide (x.2=0),false)]) [some false] kr (ao (decide_eq_false h) aD) (eb (H6 h))
def TO50:Tb prog Gt:=TO48.add (ls (g:=LG2) ent59 mV)
theorem uH(c:Zp):PUR 255 [EV c] (EV2 (RO c)):=by
 by_cases h:SQr c*SQr c=c
 ·exact pE TO50 func255 [.inl [c]] (.inl (.inl [(RO c).1,(RO c).2])) (.inl (.inl [SQ c,0]),[(decide (SQr c*SQr c=c),true)]) [some true] kr (ao (decide_eq_true h) aD) (by rw[show RO c=(SQ c,0)from if_pos h]<;>exact rfl)
 ·exact pE TO50 func255 [.inl [c]] (.inl (.inl [(RO c).1,(RO c).2])) (.inl (.inl [0,SQ (-c)]),[(decide (SQr c*SQr c=c),false)]) [some false] kr (ao (decide_eq_false h) aD) (by rw[show RO c=(0,SQ (-c))from if_neg h]<;>exact rfl)
theorem y6{f:Nat}{g:Zp->W2}(en:ai prog f)(h: ∀a,PUR f [EV a] (EV2 (g a))):Snd prog Gt f (c1 q1.ag q2.rd g):=ga q1.ag q2.rd en h
def TO51:Tb prog Gt:=TO50.add (y6 (g:=RO) ent255 uH)
theorem IQ(x:W2)(n:Zp):PUR 256 [EV2 x,EV n] (EV2 (RB x n)):=by
 by_cases h:SQr (RBs x n)*SQr (RBs x n)=RBs x n
 ·exact pE TO51 func256 [.inl [x.1,x.2],.inl [n]] (.inl (.inl [(RB x n).1,(RB x n).2])) (let t0:=(x.1+n)+(x.1+n);let t1:=(SQ t0)^(PP-2);let t2:=(x.1+n)*t1;(.inl (.inl [t2,x.2*t1]),[(decide (SQr t0*SQr t0=t0),true)])) [some true] kr (ao (decide_eq_true h) aD) (by rw[show RB x n=_ from if_pos h]<;>exact rfl)
 ·exact pE TO51 func256 [.inl [x.1,x.2],.inl [n]] (.inl (.inl [(RB x n).1,(RB x n).2])) (let t0:=(x.1+n)+(x.1+n);let t1:=(SQ (-t0))^(PP-2);let t2:=(-(x.1+n))*t1;(.inl (.inl [x.2*t1,t2]),[(decide (SQr t0*SQr t0=t0),false)])) [some false] kr (ao (decide_eq_false h) aD) (by rw[show RB x n=_ from if_neg h]<;>exact rfl)
def TO52:Tb prog Gt:=TO51.add (kq (g:=RB) ent256 IQ)
theorem Ua{α:Type}(f:W2->α)(x:W2):f (x.1,x.2)=f x:=rfl
theorem o5(x r:W2)(hr:ml2 r r=x)(hl:LG2 r=false):PUR 223 [EV2 x] (.tuple #[EV2 r,.bool true]):=by
 by_cases h:x.2=0
 ·exact pE TO52 func223 [.inl [x.1,x.2]] (.inr [.inl [r.1,r.2],.inr (.inl true)]) (let t0:=RO x.1;(.inr [.inl [t0.1,t0.2],.inr (.inl true)],[(decide (x.2=0),true)])) [some true] kr (ao (decide_eq_true h) aD) (by rw[<-td hr hl h]<;>exact rfl)
 ·by_cases hc:LG2 (RB x (SQ (nm2 x)))=true
  ·exact pE TO52 func223 [.inl [x.1,x.2]] (.inr [.inl [r.1,r.2],.inr (.inl true)]) (let t0:=RB x (SQ (nm2 x));let t1:=ng2 (t0.1,t0.2);(.inr [.inl [t1.1,t1.2],.inr (.inl true)],[(decide (x.2=0),false),(decide (SQr (nm2 x)*SQr (nm2 x)=(nm2 x)),true),(LG2 (t0.1,t0.2),true)])) [some false,some true,some true] kr (ao (decide_eq_false h) (ao (decide_eq_true (eT hr)) (ao ((Ua LG2 (RB x (SQ (nm2 x)))).trans hc) aD))) (by rw[<-BW hr hl h,NL,if_pos hc,<-Ua ng2 (RB x (SQ (nm2 x)))]<;>exact rfl)
  ·exact pE TO52 func223 [.inl [x.1,x.2]] (.inr [.inl [r.1,r.2],.inr (.inl true)]) (let t0:=RB x (SQ (nm2 x));(.inr [.inl [t0.1,t0.2],.inr (.inl true)],[(decide (x.2=0),false),(decide (SQr (nm2 x)*SQr (nm2 x)=(nm2 x)),true),(LG2 (t0.1,t0.2),false)])) [some false,some true,some false] kr (ao (decide_eq_false h) (ao (decide_eq_true (eT hr)) (ao ((Ua LG2 (RB x (SQ (nm2 x)))).trans (Bool.eq_false_iff.2 hc)) aD))) (by rw[<-BW hr hl h,NL,if_neg hc]<;>exact rfl)
theorem s8(x:W2)(hq: ¬IsQ (nm2 x)):PUR 223 [EV2 x] (.tuple #[EV2 ze2,.bool false]):=by
 exact pE TO52 func223 [.inl [x.1,x.2]] (.inr [.inl [ze2.1,ze2.2],.inr (.inl false)]) (.inr [.inl [0,0],.inr (.inl false)],[(decide (x.2=0),false),(decide (SQr (nm2 x)*SQr (nm2 x)=(nm2 x)),false)]) [some false,some false] kr (ao (decide_eq_false (NU hq)) (ao (decide_eq_false hq) aD)) O
theorem Yt{x:W2}(h:LG2 x=true):ng2 x=NL x:=by rw[NL,if_pos h]
theorem Ul{x:W2}(h: ¬LG2 x=true):x=NL x:=by rw[NL,if_neg h]
theorem nf2{y x:W2}(h:y=x):(!decide ([y.1,y.2]=[x.1,x.2]))=false:=by rw[h,decide_eq_true O];rfl
theorem ub(x r:W2)(hr:ml2 r r=x)(hl:LG2 r=false):PUR 122 [EV2 x] (.tuple #[EV2 r,.bool true]):=by
 by_cases h:x.2=0
 ·by_cases q:SQr x.1*SQr x.1=x.1
  ·have e:r=(SQ x.1,0):=(td hr hl h).symm.trans (if_pos q)
   exact pE TO52 func122 [.inl [x.1,x.2]] (.inr [.inl [r.1,r.2],.inr (.inl true)]) (let t0:=ml2 (SQ x.1,0) (SQ x.1,0);(.inr [.inl [SQ x.1,0],.inr (.inl true)],[(decide (x.2=0),true),(decide (SQr x.1*SQr x.1=x.1),true),(!decide ([t0.1,t0.2]=[x.1,x.2]),false),(LG2 (SQ x.1,0),false)])) [some true,some true,some false,some false] kr (ao (decide_eq_true h) (ao (decide_eq_true q) (ao (nf2 (y:=ml2 (SQ x.1,0) (SQ x.1,0)) (x:=x) (e▸hr)) (ao (e▸hl) aD)))) (by rw[e]<;>exact rfl)
  ·have e:r=(0,SQ (-x.1)):=(td hr hl h).symm.trans (if_neg q)
   exact pE TO52 func122 [.inl [x.1,x.2]] (.inr [.inl [r.1,r.2],.inr (.inl true)]) (let t0:=ml2 (0,SQ (-x.1)) (0,SQ (-x.1));(.inr [.inl [0,SQ (-x.1)],.inr (.inl true)],[(decide (x.2=0),true),(decide (SQr x.1*SQr x.1=x.1),false),(!decide ([t0.1,t0.2]=[x.1,x.2]),false),(LG2 (0,SQ (-x.1)),false)])) [some true,some false,none,some false,some false] kr (ao (decide_eq_true h) (ao (decide_eq_false q) (ao (nf2 (y:=ml2 (0,SQ (-x.1)) (0,SQ (-x.1))) (x:=x) (e▸hr)) (ao (e▸hl) aD)))) (by rw[e]<;>exact rfl)
 ·by_cases q:SQr ((x.1+(SQ (nm2 x)))*(zp 2^(PP-2)))*SQr ((x.1+(SQ (nm2 x)))*(zp 2^(PP-2)))=(x.1+(SQ (nm2 x)))*(zp 2^(PP-2))
  ·by_cases hc:LG2 (SQ ((x.1+(SQ (nm2 x)))*(zp 2^(PP-2))),x.2*(zp 2^(PP-2))*SQ ((x.1+(SQ (nm2 x)))*(zp 2^(PP-2)))^(PP-2))=true
   ·have e1:RF x (SQ (nm2 x)) (zp 2^(PP-2))=(SQ ((x.1+(SQ (nm2 x)))*(zp 2^(PP-2))),x.2*(zp 2^(PP-2))*SQ ((x.1+(SQ (nm2 x)))*(zp 2^(PP-2)))^(PP-2)):=if_pos q
    have e:NL (SQ ((x.1+(SQ (nm2 x)))*(zp 2^(PP-2))),x.2*(zp 2^(PP-2))*SQ ((x.1+(SQ (nm2 x)))*(zp 2^(PP-2)))^(PP-2))=r:=e1▸o9 hr hl gN h;have e0:ml2 (SQ ((x.1+(SQ (nm2 x)))*(zp 2^(PP-2))),x.2*(zp 2^(PP-2))*SQ ((x.1+(SQ (nm2 x)))*(zp 2^(PP-2)))^(PP-2)) (SQ ((x.1+(SQ (nm2 x)))*(zp 2^(PP-2))),x.2*(zp 2^(PP-2))*SQ ((x.1+(SQ (nm2 x)))*(zp 2^(PP-2)))^(PP-2))=x:=e1▸vz (iJ (eT hr)) gN h;exact pE TO52 func122 [.inl [x.1,x.2]] (.inr [.inl [r.1,r.2],.inr (.inl true)]) (let t0:=(zp 2)^(PP-2);let t1:=x.1+(SQ (nm2 x));let t2:=(SQ (t1*t0))^(PP-2);let t3:=(x.2*t0)*t2;let t4:=ml2 (SQ (t1*t0),t3) (SQ (t1*t0),t3);let t5:=ng2 (SQ (t1*t0),t3);(.inr [.inl [t5.1,t5.2],.inr (.inl true)],[(decide (x.2=0),false),(decide (SQr (nm2 x)*SQr (nm2 x)=(nm2 x)),true),(decide (SQr (t1*t0)*SQr (t1*t0)=(t1*t0)),true),(!decide ([t4.1,t4.2]=[x.1,x.2]),false),(LG2 (SQ (t1*t0),t3),true)])) [some false,some true,some true,some false,some true] kr (ao (decide_eq_false h) (ao (decide_eq_true (eT hr)) (ao (decide_eq_true q) (ao (nf2 (y:=ml2 (SQ ((x.1+(SQ (nm2 x)))*(zp 2^(PP-2))),x.2*(zp 2^(PP-2))*SQ ((x.1+(SQ (nm2 x)))*(zp 2^(PP-2)))^(PP-2)) (SQ ((x.1+(SQ (nm2 x)))*(zp 2^(PP-2))),x.2*(zp 2^(PP-2))*SQ ((x.1+(SQ (nm2 x)))*(zp 2^(PP-2)))^(PP-2))) (x:=x) e0) (ao (hc) aD))))) (by rw[<-e,<-Yt hc]<;>exact rfl)
   ·have e1:RF x (SQ (nm2 x)) (zp 2^(PP-2))=(SQ ((x.1+(SQ (nm2 x)))*(zp 2^(PP-2))),x.2*(zp 2^(PP-2))*SQ ((x.1+(SQ (nm2 x)))*(zp 2^(PP-2)))^(PP-2)):=if_pos q
    have e:NL (SQ ((x.1+(SQ (nm2 x)))*(zp 2^(PP-2))),x.2*(zp 2^(PP-2))*SQ ((x.1+(SQ (nm2 x)))*(zp 2^(PP-2)))^(PP-2))=r:=e1▸o9 hr hl gN h;have e0:ml2 (SQ ((x.1+(SQ (nm2 x)))*(zp 2^(PP-2))),x.2*(zp 2^(PP-2))*SQ ((x.1+(SQ (nm2 x)))*(zp 2^(PP-2)))^(PP-2)) (SQ ((x.1+(SQ (nm2 x)))*(zp 2^(PP-2))),x.2*(zp 2^(PP-2))*SQ ((x.1+(SQ (nm2 x)))*(zp 2^(PP-2)))^(PP-2))=x:=e1▸vz (iJ (eT hr)) gN h;exact pE TO52 func122 [.inl [x.1,x.2]] (.inr [.inl [r.1,r.2],.inr (.inl true)]) (let t0:=(zp 2)^(PP-2);let t1:=x.1+(SQ (nm2 x));let t2:=(SQ (t1*t0))^(PP-2);let t3:=(x.2*t0)*t2;let t4:=ml2 (SQ (t1*t0),t3) (SQ (t1*t0),t3);(.inr [.inl [SQ (t1*t0),t3],.inr (.inl true)],[(decide (x.2=0),false),(decide (SQr (nm2 x)*SQr (nm2 x)=(nm2 x)),true),(decide (SQr (t1*t0)*SQr (t1*t0)=(t1*t0)),true),(!decide ([t4.1,t4.2]=[x.1,x.2]),false),(LG2 (SQ (t1*t0),t3),false)])) [some false,some true,some true,some false,some false] kr (ao (decide_eq_false h) (ao (decide_eq_true (eT hr)) (ao (decide_eq_true q) (ao (nf2 (y:=ml2 (SQ ((x.1+(SQ (nm2 x)))*(zp 2^(PP-2))),x.2*(zp 2^(PP-2))*SQ ((x.1+(SQ (nm2 x)))*(zp 2^(PP-2)))^(PP-2)) (SQ ((x.1+(SQ (nm2 x)))*(zp 2^(PP-2))),x.2*(zp 2^(PP-2))*SQ ((x.1+(SQ (nm2 x)))*(zp 2^(PP-2)))^(PP-2))) (x:=x) e0) (ao (Bool.eq_false_iff.2 hc) aD))))) (by rw[<-e,<-Ul hc]<;>exact rfl)
  ·by_cases hc:LG2 (SQ ((x.1-(SQ (nm2 x)))*(zp 2^(PP-2))),x.2*(zp 2^(PP-2))*SQ ((x.1-(SQ (nm2 x)))*(zp 2^(PP-2)))^(PP-2))=true
   ·have e1:RF x (SQ (nm2 x)) (zp 2^(PP-2))=(SQ ((x.1-(SQ (nm2 x)))*(zp 2^(PP-2))),x.2*(zp 2^(PP-2))*SQ ((x.1-(SQ (nm2 x)))*(zp 2^(PP-2)))^(PP-2)):=if_neg q
    have e:NL (SQ ((x.1-(SQ (nm2 x)))*(zp 2^(PP-2))),x.2*(zp 2^(PP-2))*SQ ((x.1-(SQ (nm2 x)))*(zp 2^(PP-2)))^(PP-2))=r:=e1▸o9 hr hl gN h;have e0:ml2 (SQ ((x.1-(SQ (nm2 x)))*(zp 2^(PP-2))),x.2*(zp 2^(PP-2))*SQ ((x.1-(SQ (nm2 x)))*(zp 2^(PP-2)))^(PP-2)) (SQ ((x.1-(SQ (nm2 x)))*(zp 2^(PP-2))),x.2*(zp 2^(PP-2))*SQ ((x.1-(SQ (nm2 x)))*(zp 2^(PP-2)))^(PP-2))=x:=e1▸vz (iJ (eT hr)) gN h;exact pE TO52 func122 [.inl [x.1,x.2]] (.inr [.inl [r.1,r.2],.inr (.inl true)]) (let t0:=(zp 2)^(PP-2);let t1:=x.1+(SQ (nm2 x));let t2:=x.1-(SQ (nm2 x));let t3:=(SQ (t2*t0))^(PP-2);let t4:=(x.2*t0)*t3;let t5:=ml2 (SQ (t2*t0),t4) (SQ (t2*t0),t4);let t6:=ng2 (SQ (t2*t0),t4);(.inr [.inl [t6.1,t6.2],.inr (.inl true)],[(decide (x.2=0),false),(decide (SQr (nm2 x)*SQr (nm2 x)=(nm2 x)),true),(decide (SQr (t1*t0)*SQr (t1*t0)=(t1*t0)),false),(!decide ([t5.1,t5.2]=[x.1,x.2]),false),(LG2 (SQ (t2*t0),t4),true)])) [some false,some true,some false,none,some false,some true] kr (ao (decide_eq_false h) (ao (decide_eq_true (eT hr)) (ao (decide_eq_false q) (ao (nf2 (y:=ml2 (SQ ((x.1-(SQ (nm2 x)))*(zp 2^(PP-2))),x.2*(zp 2^(PP-2))*SQ ((x.1-(SQ (nm2 x)))*(zp 2^(PP-2)))^(PP-2)) (SQ ((x.1-(SQ (nm2 x)))*(zp 2^(PP-2))),x.2*(zp 2^(PP-2))*SQ ((x.1-(SQ (nm2 x)))*(zp 2^(PP-2)))^(PP-2))) (x:=x) e0) (ao (hc) aD))))) (by rw[<-e,<-Yt hc]<;>exact rfl)
   ·have e1:RF x (SQ (nm2 x)) (zp 2^(PP-2))=(SQ ((x.1-(SQ (nm2 x)))*(zp 2^(PP-2))),x.2*(zp 2^(PP-2))*SQ ((x.1-(SQ (nm2 x)))*(zp 2^(PP-2)))^(PP-2)):=if_neg q
    have e:NL (SQ ((x.1-(SQ (nm2 x)))*(zp 2^(PP-2))),x.2*(zp 2^(PP-2))*SQ ((x.1-(SQ (nm2 x)))*(zp 2^(PP-2)))^(PP-2))=r:=e1▸o9 hr hl gN h;have e0:ml2 (SQ ((x.1-(SQ (nm2 x)))*(zp 2^(PP-2))),x.2*(zp 2^(PP-2))*SQ ((x.1-(SQ (nm2 x)))*(zp 2^(PP-2)))^(PP-2)) (SQ ((x.1-(SQ (nm2 x)))*(zp 2^(PP-2))),x.2*(zp 2^(PP-2))*SQ ((x.1-(SQ (nm2 x)))*(zp 2^(PP-2)))^(PP-2))=x:=e1▸vz (iJ (eT hr)) gN h;exact pE TO52 func122 [.inl [x.1,x.2]] (.inr [.inl [r.1,r.2],.inr (.inl true)]) (let t0:=(zp 2)^(PP-2);let t1:=x.1+(SQ (nm2 x));let t2:=x.1-(SQ (nm2 x));let t3:=(SQ (t2*t0))^(PP-2);let t4:=(x.2*t0)*t3;let t5:=ml2 (SQ (t2*t0),t4) (SQ (t2*t0),t4);(.inr [.inl [SQ (t2*t0),t4],.inr (.inl true)],[(decide (x.2=0),false),(decide (SQr (nm2 x)*SQr (nm2 x)=(nm2 x)),true),(decide (SQr (t1*t0)*SQr (t1*t0)=(t1*t0)),false),(!decide ([t5.1,t5.2]=[x.1,x.2]),false),(LG2 (SQ (t2*t0),t4),false)])) [some false,some true,some false,none,some false,some false] kr (ao (decide_eq_false h) (ao (decide_eq_true (eT hr)) (ao (decide_eq_false q) (ao (nf2 (y:=ml2 (SQ ((x.1-(SQ (nm2 x)))*(zp 2^(PP-2))),x.2*(zp 2^(PP-2))*SQ ((x.1-(SQ (nm2 x)))*(zp 2^(PP-2)))^(PP-2)) (SQ ((x.1-(SQ (nm2 x)))*(zp 2^(PP-2))),x.2*(zp 2^(PP-2))*SQ ((x.1-(SQ (nm2 x)))*(zp 2^(PP-2)))^(PP-2))) (x:=x) e0) (ao (Bool.eq_false_iff.2 hc) aD))))) (by rw[<-e,<-Ul hc]<;>exact rfl)
theorem Le(x:W2)(hq: ¬IsQ (nm2 x)):PUR 122 [EV2 x] (.tuple #[EV2 ze2,.bool false]):=by
 exact pE TO52 func122 [.inl [x.1,x.2]] (.inr [.inl [ze2.1,ze2.2],.inr (.inl false)]) (.inr [.inl [0,0],.inr (.inl false)],[(decide (x.2=0),false),(decide (SQr (nm2 x)*SQr (nm2 x)=(nm2 x)),false)]) [some false,some false] kr (ao (decide_eq_false (NU hq)) (ao (decide_eq_false hq) aD)) O
end
def XI:W2:=(1,1)
abbrev W6:=W2×W2×W2
def K6:Rg W6:=Rg.cub R2 XI
def VV:W6:=(ze2,on2,ze2)
abbrev W12:=W6×W6
def K12:Rg W12:=Rg.quad K6 VV
theorem fd2:Fd R2:=λa h=>⟨iv2 a,cQ h⟩
theorem Bh(a:Nat): ∀n:Nat,zp a^n=zp (a^n)
 |0=>p0 _
 |n+1=>by rw[ps,Bh a n,Nat.pow_succ,i4]
theorem Ff(a n f:Nat)(h:n<2^f):zp a^n=zp (pm a PP f n):=by rw[Bw _ _ _ _ h,xl,Bh]
theorem IE{k n:Nat}(hk:R6=2^k)(h:n<PP):n<2^k:=hk▸Nat.lt_trans h BQ
def th:Nat:=(PP-1) / 3
def sx:Nat:=(PP-1) / 6
theorem Ei:3*th=PP-1:=by decide+kernel
theorem sx_val:6*sx+1=PP:=by decide+kernel
theorem AH{n:Nat}(h:zp n=1)(hn:n<PP):n=1:=by
 have:=congrArg Fin.val h;rw[eU,Nat.mod_eq_of_lt hn,show (1:Zp).val=1 % PP from O,Nat.mod_eq_of_lt pr_p.1]at this;exact this
theorem NT:pm 2 PP (64*6) th≠1/\pm 2 PP (64*6) th<PP:=by decide+kernel
theorem Ov:pm 2 PP (64*6) hf≠1/\pm 2 PP (64*6) hf<PP:=by decide+kernel
theorem S8:zp 2^th≠1:=λh=>by
 rw[Ff 2 th (64*6) (IE fk (by have:=Ei;have:=nV;omega))]at h
 exact NT.1 (AH h NT.2)
theorem F6:zp 2^hf≠1:=λh=>by
 rw[Ff 2 hf (64*6) (IE fk (by have:=ma;have:=nV;omega))]at h
 exact Ov.1 (AH h Ov.2)
theorem IM:nm2 XI=zp 2:=by
 simp only[nm2,XI];rw[oJ];exact Hc.2.symm
theorem Bz(s:W2):R2.mul s (R2.mul s s)≠XI:=λh=>by
 have e:nm2 s*(nm2 s*nm2 s)=zp 2:=by rw[<-gC,<-gC,<-IM];exact congrArg nm2 h
 have e3:nm2 s^3=zp 2:=by rw[<-e];grind
 have hn:nm2 s≠0:=λh0=>qz (by rw[<-e,h0,gG,gG])
 exact S8 (by rw[<-e3,<-G8,Ei,fermat hn])
theorem Oz(s:W2):R2.mul s s≠XI:=λh=>by
 have e:IsQ (zp 2):=by rw[<-IM];exact eT h
 rcases (ib _).1 e with h|h
 ·exact qz h
 ·exact F6 h
theorem fd6:Fd K6:=Qz fd2 Bz
theorem Vk:cnm R2 XI VV=XI:=by decide+kernel
theorem D5(s:W6):K6.mul s s≠VV:=λh=>by
 have e:=Lb R2 XI s s;rw[show Ic R2 XI s s=VV from h,Vk]at e;exact Oz _ e.symm
theorem fd12:Fd K12:=Ka fd6 D5
theorem Rg.inv_one{α:Type}(R:Rg α){x y y':α}(h:R.mul x y=R.one)(h':R.mul x y'=R.one):y=y':=by
 have e:R.mul (R.mul x y) y'=R.mul (R.mul x y') y:=by rw[R.mul_assoc,R.mul_assoc,R.mul_comm y]
 rw[h,h',R.one_mul,R.one_mul]at e;exact e.symm
theorem Ld:K12.nat PP=K12.zero:=by
 have e2:R2.nat PP=R2.zero:=(yz PP).trans (by rw[m9];rfl)
 have e6:K6.nat PP=K6.zero:=(Jq (R:=R2) (z:=XI) PP).trans (by rw[e2];rfl)
 exact (Il (R:=K6) (z:=VV) PP).trans (by rw[e6];rfl)
theorem jj(x y:W12):K12.pw (K12.add x y) PP=K12.add (K12.pw x PP) (K12.pw y PP):=K12.frob pr_p Ld x y
def em(c:W2):W12:=((c,ze2,ze2),(ze2,ze2,ze2))
def wk(k:Nat):W12:=K12.pw ((ze2,ze2,ze2),(on2,ze2,ze2)) k
theorem eh(a b:W2):K12.mul (em a) (em b)=em (ml2 a b):=Prod.ext (Prod.ext (zx R2 [a,b,XI] 0x4456758451151145145115845115115845244511511511514451151158511 0x567) (Prod.ext (zx R2 [a,b,XI] 0x4445615175851144514451151158511524511584511511585144511511511 0x1) (zx R2 [a,b,XI] 0x444561511517445144511511511524451151158511514511584511511 0x1))) (Prod.ext (zx R2 [a,b,XI] 0x445615845115114517584511511 0x1) (Prod.ext (zx R2 [a,b,XI] 0x444561511585114451151758511 0x1) (zx R2 [a,b,XI] 0x44456151151144511511517 0x1)))
theorem wp(c:W2): ∀n,K12.pw (em c) n=em (pw2 c n)
 |0=>rfl
 |n+1=>by
  rw[Rg.pw,wp c n,eh,ov]
theorem wk0:wk 0=((on2,ze2,ze2),(ze2,ze2,ze2)):=by decide+kernel
theorem wk1:wk 1=((ze2,ze2,ze2),(on2,ze2,ze2)):=by decide+kernel
theorem wk2:wk 2=((ze2,on2,ze2),(ze2,ze2,ze2)):=by decide+kernel
theorem wk3:wk 3=((ze2,ze2,ze2),(ze2,on2,ze2)):=by decide+kernel
theorem wk4:wk 4=((ze2,ze2,on2),(ze2,ze2,ze2)):=by decide+kernel
theorem wk5:wk 5=((ze2,ze2,ze2),(ze2,ze2,on2)):=by decide+kernel
theorem wk6:wk 6=em XI:=by decide+kernel
theorem sI(c0 c1 c2 c3 c4 c5:W2):K12.add (K12.add (K12.add (K12.add (K12.add (K12.mul (em c0) (wk 0)) (K12.mul (em c1) (wk 1))) (K12.mul (em c2) (wk 2))) (K12.mul (em c3) (wk 3))) (K12.mul (em c4) (wk 4))) (K12.mul (em c5) (wk 5))=((c0,c2,c4),(c1,c3,c5)):=by
 rw[wk0,wk1,wk2,wk3,wk4,wk5];exact Prod.ext (Prod.ext (zx R2 [c0,c1,c2,c3,c4,c5,XI] 0x44444445625c451151145145115c45115115c4524451151151151445115115c511445715c451151145145125c45115115c4524451151151251445115125c511445815c451151245145115c45115115c4524451151151151445115115c511445915c451151145145115c45115125c4524451151251151445125115c511445a15c451251145145115c45115115c4524451151151151445115115c511445b15c451151145145115c45125115c4524451251151151445115115c512 0x6) (Prod.ext (zx R2 [c0,c1,c2,c3,c4,c5,XI] 0x444444445615125c5114451445115115c5115245115c45115115c51445115115114445715115c5114451445115125c5115245125c45115115c51445115115124445825115c5114451445115115c5115245115c45115115c51445115115114445915115c5114451445125115c5115245115c45115125c51445115125114445a15115c5124451445115115c5115245115c45115115c51445115115114445b15115c5114451445115115c5125245115c45125115c5144512511511 0x8) (zx R2 [c0,c1,c2,c3,c4,c5,XI] 0x4444444456151151244514451151151152445115115c5115145115c451151144457151151144514451151151252445115125c5115145125c451151144458151251144514451151151152445115115c5115145115c451151144459151151144514451151251152445125115c5115145115c45115124445a251151144514451151151152445115115c5115145115c45115114445b151151144514451251151152445115115c5125145115c4512511 0xa))) (Prod.ext (zx R2 [c0,c1,c2,c3,c4,c5,XI] 0x44444445615c451151145125c4511511445725c451151145115c4511511445815c451151145115c4511512445915c451151245115c4511511445a15c451151145115c4512511445b15c451251145115c4511511 0x7) (Prod.ext (zx R2 [c0,c1,c2,c3,c4,c5,XI] 0x444444445615115c511445115125c5114445715125c511445115115c5114445815115c511445125115c5114445925115c511445115115c5114445a15115c511445115115c5124445b15115c512445115115c511 0x9) (zx R2 [c0,c1,c2,c3,c4,c5,XI] 0x44444444561511511445115115124445715115124451151151144458151151144511512511444591512511445115115114445a1511511445125115114445b251151144511511511 0xb)))
def GA:W2:=pw2 XI sx
theorem Oy:K12.pw (wk 1) PP=K12.mul (em GA) (wk 1):=by
 have e:K12.pw (wk 1) PP=K12.pw (wk 1) (6*sx+1):=congrArg (λn=>K12.pw (wk 1) n) sx_val.symm;have e1:wk 1=((ze2,ze2,ze2),(on2,ze2,ze2)):=wk1;have e6:K12.pw (wk 1) 6=em XI:=by rw[e1];exact wk6
 rw[e,K12.pw_add,K12.pw_mul,e6,wp,K12.pw_one];rfl
theorem YD(k:Nat):K12.pw (wk k) PP=K12.mul (em (pw2 GA k)) (wk k):=by
 have e1:wk 1=((ze2,ze2,ze2),(on2,ze2,ze2)):=wk1;have e:wk k=K12.pw (wk 1) k:=by rw[e1];rfl
 rw[e,<-K12.pw_mul,Nat.mul_comm,K12.pw_mul,Oy,K12.mul_pw,wp]
theorem lh(c:W2)(k:Nat):K12.pw (K12.mul (em c) (wk k)) PP=K12.mul (em (ml2 (cj2 c) (pw2 GA k))) (wk k):=by
 rw[K12.mul_pw,wp,Ey,YD,<-K12.mul_assoc,eh]
def bU(x:W12):W12:=((ml2 (cj2 x.1.1) (pw2 GA 0),ml2 (cj2 x.1.2.1) (pw2 GA 2),ml2 (cj2 x.1.2.2) (pw2 GA 4)),(ml2 (cj2 x.2.1) (pw2 GA 1),ml2 (cj2 x.2.2.1) (pw2 GA 3),ml2 (cj2 x.2.2.2) (pw2 GA 5)))
theorem fo(x:W12):K12.pw x PP=bU x:=by
 have h:=sI x.1.1 x.2.1 x.1.2.1 x.2.2.1 x.1.2.2 x.2.2.2;have e:K12.pw x PP=K12.pw ((x.1.1,x.1.2.1,x.1.2.2),(x.2.1,x.2.2.1,x.2.2.2)) PP:=rfl;rw[e,<-h,jj,jj,jj,jj,jj,lh,lh,lh,lh,lh,lh,sI];rfl
def tq(f:Nat->W2):W12:=((f 0,f 2,f 4),(f 1,f 3,f 5))
theorem txi{ρ:Nat->W2}{p:Po}{a:W2}(k:Nat)(ha:R2.d ρ p=a)(hk:ρ k=XI):R2.d ρ (kl p (pv k))=xi2 a:=by rw[R2.d_mul,ha,R2.d_var,hk];exact (Dp a).symm
theorem tsb{ρ:Nat->W2}{p q:Po}{a b:W2}(ha:R2.d ρ p=a)(hb:R2.d ρ q=b):R2.d ρ (gU p (lQ q))=sb2 a b:=by rw[R2.d_add,R2.d_neg,ha,hb,k9];rfl
section
variable {α:Type} [DecidableEq α] (C:Ec α)
def Ec.jm(J:α×α×α):List Bool->α×α×α->α×α×α
 |[],A=>A
 |b::r,A=>Ec.jm J r (if b then C.jaF (C.jdF A) J else C.jdF A)
def lT:List Bool->Nat->Nat
 |[],n=>n
 |b::r,n=>lT r (2*n+(if b then 1 else 0))
theorem Ec.jr_m{J:α×α×α}{P:Pt α}(hP:C.onP P)(h:C.jr J P): ∀(l:List Bool) (A:α×α×α) (n:Nat),C.jr A (C.times P n)->C.jr (C.jm J l A) (C.times P (lT l n))
 |[],_,_,hA=>hA
 |b::r,A,n,hA=>by
  have hd:=C.jr_d (C.times_on hP n) hA;rw[<-C.times_add hP,<-Nat.two_mul]at hd
  cases b with
  |false=>exact Ec.jr_m hP h r _ _ hd
  |true=>
   have ha:=C.jr_a (C.times_on hP (2*n)) hP hd h;exact Ec.jr_m hP h r _ (2*n+1) ha
end
def RZp:Rg Zp where
 zero:=0
 one:=1
 add:=λa b=>a+b
 mul:=λa b=>a*b
 neg:=λa=> -a
 add_assoc:=λa b c=>by grind
 add_comm:=λa b=>by grind
 add_zero:=λa=>by grind
 add_neg:=λa=>by grind
 mul_assoc:=λa b c=>by grind
 mul_comm:=λa b=>by grind
 mul_one:=λa=>by grind
 mul_add:=λa b c=>by grind
def E1:Ec Zp where
 R:=RZp
 iv:=λa=>a^(PP-2)
 b:=zp 4
 hi:=λ_ h=>nR h
 h2:=by decide+kernel
 h3:=by decide+kernel
 hb:=by decide+kernel
def E1w:Ec W2 where
 R:=R2
 iv:=iv2
 b:=(zp 4,0)
 hi:=λ_ h=>cQ h
 h2:=by decide+kernel
 h3:=by decide+kernel
 hb:=by decide+kernel
def E2w:Ec W2 where
 R:=R2
 iv:=iv2
 b:=(zp 4,zp 4)
 hi:=λ_ h=>cQ h
 h2:=by decide+kernel
 h3:=by decide+kernel
 hb:=by decide+kernel
def G1x:Nat:=0x17f1d3a73197d7942695638c4fa9ac0fc3688c4f9774b905a14e3a3f171bac586c55e83ff97a1aeffb3af00adb22c6bb
def G1y:Nat:=0x8b3f481e3aaa0f1a09e30ed741d8ae4fcf5e095d5d00af600db18cb2c04b3edd03cc744a2888ae40caa232946c5e7e1
def G1p:Zp×Zp:=(zp G1x,zp G1y)
theorem u3:E1.on G1p:=by
 unfold Ec.on;decide+kernel
def ORD:Nat:=0x73eda753299d7d483339d80809a1d80553bda402fffe5bfeffffffff00000001
def ef:Nat->Nat->List Bool->List Bool
 |0,_,l=>l
 |f+1,n,l=>ef f (n / 2) ((n % 2==1)::l)
theorem zI:lT (ef 255 ORD []) 0=ORD:=by decide+kernel
theorem g1_z:(E1.jm (zp G1x,zp G1y,1) (ef 255 ORD []) (0,0,0)).2.2=0:=by decide+kernel
theorem F2:E1.jr (zp G1x,zp G1y,1) (some G1p):=⟨kd,by decide+kernel,by decide+kernel⟩
theorem Li{α:Type}(C:Ec α){J:α×α×α}{P:Pt α}(h:C.jr J P)(hz:J.2.2=C.R.zero):P=none:=by
 cases P with
 |none=>rfl
 |some p=>exact absurd hz h.1
theorem BL{α:Type} [DecidableEq α](C:Ec α){J:α×α×α}{P:Pt α}(hP:C.onP P)(h:C.jr J P)(l:List Bool){n:Nat}(hn:lT l 0=n)(hz:(C.jm J l (C.R.zero,C.R.zero,C.R.zero)).2.2=C.R.zero):C.times P n=none:=by
 have k:=C.jr_m hP h l (C.R.zero,C.R.zero,C.R.zero) 0 (show C.R.zero=C.R.zero from O);rw[hn]at k;exact Li C k hz
theorem kB:E1.times (some G1p) ORD=none:=BL E1 (P:=some G1p) u3 F2 (ef 255 ORD []) zI g1_z
structure Em{α β:Type}(C:Ec α)(D:Ec β) where
 f:α->β
 h0:f C.R.zero=D.R.zero
 ha: ∀a b,f (C.R.add a b)=D.R.add (f a) (f b)
 hm: ∀a b,f (C.R.mul a b)=D.R.mul (f a) (f b)
 hn: ∀a,f (C.R.neg a)=D.R.neg (f a)
 hi: ∀a b,f a=f b->a=b
 hb:f C.b=D.b
section
variable {α β:Type} {C:Ec α} {D:Ec β} (e:Em C D)
def Em.q(p:α×α):β×β:=(e.f p.1,e.f p.2)
def Em.p:Pt α->Pt β
 |none=>none
 |some p=>some (e.q p)
theorem Em.sub(a b:α):e.f (C.sub a b)=D.sub (e.f a) (e.f b):=by rw[Ec.sub,Ec.sub,e.ha,e.hn]
theorem Em.on{p:α×α}(h:C.on p):D.on (e.q p):=by
 have:=congrArg e.f h;rw[e.hm,e.ha,e.hm,e.hm,e.hb]at this;exact this
theorem Em.onP{P:Pt α}(h:C.onP P):D.onP (e.p P):=by
 cases P with
 |none=>trivial
 |some p=>exact e.on h
theorem Em.sl{p q:α×α}{s:α}(h:C.Sl p q s):D.Sl (e.q p) (e.q q) (e.f s):=by
 have h1:=congrArg e.f h.1;have h2:=congrArg e.f h.2;rw[e.hm,e.sub,e.sub]at h1;rw[e.hm,e.ha,e.ha,e.ha,e.hm,e.hm,e.hm]at h2;exact ⟨h1,h2⟩
theorem Em.opp{p q:α×α}:D.opp (e.q p) (e.q q)↔C.opp p q:=
 ⟨λh=>⟨e.hi _ _ h.1,e.hi _ _ (by rw[e.ha,e.h0];exact h.2)⟩,λh=>⟨congrArg e.f h.1,by
  have:=congrArg e.f h.2;rw[e.ha,e.h0]at this;exact this⟩⟩
theorem Em.th(p q:α×α)(s:α):D.th (e.q p) (e.q q) (e.f s)=e.q (C.th p q s):=by
 have hx:D.x3 (e.q p) (e.q q) (e.f s)=e.f (C.x3 p q s):=by rw[Ec.x3,Ec.x3,e.sub,e.sub,e.hm];rfl
 refine Prod.ext hx ?_;show D.sub (D.R.mul (e.f s) (D.sub (e.f p.1) (D.x3 (e.q p) (e.q q) (e.f s)))) (e.f p.2)=e.f (C.sub (C.R.mul s (C.sub p.1 (C.x3 p q s))) p.2);rw[hx,e.sub,e.hm,e.sub]
theorem Em.ne(P:Pt α):e.p (C.ne P)=D.ne (e.p P):=by
 cases P with
 |none=>rfl
 |some p=>exact congrArg some (Prod.ext O (e.hn _))
theorem Em.inj{P Q:Pt α}(h:e.p P=e.p Q):P=Q:=by
 cases P with
 |none=>
  cases Q with
  |none=>rfl
  |some q=>cases h
 |some p=>
  cases Q with
  |none=>cases h
  |some q=>
   have h:=Option.some.inj h;exact congrArg some (Prod.ext (e.hi _ _ (congrArg Prod.fst h)) (e.hi _ _ (congrArg Prod.snd h)))
theorem Em.non{P:Pt α}:e.p P=none↔P=none:=⟨λh=>e.inj (Q:=none) h,λh=>by rw[h];rfl⟩
theorem Em.jr{J:α×α×α}{P:Pt α}(h:C.jr J P):D.jr (e.f J.1,e.f J.2.1,e.f J.2.2) (e.p P):=by
 cases P with
 |none=>exact (congrArg e.f h).trans e.h0
 |some p=>
  refine ⟨λh'=>h.1 (e.hi _ _ (h'.trans e.h0.symm)), ?_, ?_⟩
  ·have:=congrArg e.f h.2.1
   rw[e.hm,Ec.z2,e.hm]at this;exact this
  ·have:=congrArg e.f h.2.2
   rw[e.hm,Ec.z3,e.hm,e.hm]at this;exact this
end
section
variable {α β:Type} [DecidableEq α] [DecidableEq β] {C:Ec α} {D:Ec β} (e:Em C D)
theorem Em.ad{P Q:Pt α}(hP:C.onP P)(hQ:C.onP Q):e.p (C.ad P Q)=D.ad (e.p P) (e.p Q):=by
 cases P with
 |none=>rfl
 |some p=>
  cases Q with
  |none=>rw[C.ad_nr];exact (D.ad_nr _).symm
  |some q=>
   by_cases ho:C.opp p q
   ·rw[C.ad_opp ho];exact (D.ad_opp (e.opp.2 ho)).symm
   ·obtain ⟨s,hs⟩:=C.sl_is hP hQ ho
    rw[C.ad_sl hP hQ ho hs];exact ((D.ad_sl (e.on hP) (e.on hQ) (λh=>ho (e.opp.1 h)) (e.sl hs)).trans (congrArg some (e.th p q s))).symm
theorem Em.times{P:Pt α}(hP:C.onP P): ∀n,e.p (C.times P n)=D.times (e.p P) n
 |0=>rfl
 |n+1=>by
  show e.p (C.ad (C.times P n) P)=D.ad (D.times (e.p P) n) (e.p P);rw[e.ad (C.times_on hP n) hP,Em.times hP n]
end
theorem Gm(a:Zp):a-0=a:=by grind
theorem sK(a:Zp):a+0=a:=by grind
theorem z_n0': -(0:Zp)=0:=lH.2 O
theorem zz(a b:Zp):ml2 (a,0) (b,0)=(a*b,0):=Prod.ext (by simp only[ml2];rw[gG,Gm]) (by simp only[ml2];rw[gG,rG,sK])
def em1:Em E1 E1w where
 f:=λa=>(a,0)
 h0:=rfl
 ha:=λ_ _=>Prod.ext O (sK 0).symm
 hm:=λa b=>(zz a b).symm
 hn:=λ_=>Prod.ext O z_n0'.symm
 hi:=λ_ _ h=>congrArg Prod.fst h
 hb:=rfl
section
variable {α:Type} (C:Ec α)
theorem Ec.jr_z{J:α×α×α}{P:Pt α}(h:C.jr J P):J.2.2=C.R.zero↔P=none:=by
 cases P with
 |none=>exact ⟨λ_=>rfl,λ_=>h⟩
 |some p=>exact ⟨λe=>absurd e h.1,λe=>by cases e⟩
theorem Ec.sc2(a z c:α):C.R.mul (C.R.mul a (C.z2 z)) (C.z2 c)=C.R.mul a (C.z2 (C.R.mul z c)):=zx C.R [a,z,c] 0x556577588 0x565578578
theorem Ec.jr_at(p:α×α)(h1:C.R.one≠C.R.zero):C.jr (p.1,p.2,C.R.one) (some p):=by
 refine ⟨h1, ?_, ?_⟩
 ·show p.1=C.R.mul p.1 (C.R.mul C.R.one C.R.one)
  rw[C.R.mul_one,C.R.mul_one]
 ·show p.2=C.R.mul p.2 (C.R.mul (C.R.mul C.R.one C.R.one) C.R.one)
  rw[C.R.mul_one,C.R.mul_one,C.R.mul_one]
end
section
variable {α:Type} [DecidableEq α] (C:Ec α)
theorem Ec.times_comm{P:Pt α}(hP:C.onP P)(m n:Nat):C.times (C.times P m) n=C.times (C.times P n) m:=by
 rw[<-C.times_mul hP,<-C.times_mul hP,Nat.mul_comm]
theorem Ec.times_ord{P:Pt α}(hP:C.onP P){r:Nat}(h:C.times P r=none)(k:Nat):C.times (C.times P k) r=none:=by
 rw[C.times_comm hP,h,C.times_none]
theorem Ec.times_mod{P:Pt α}(hP:C.onP P){r:Nat}(h:C.times P r=none)(n:Nat):C.times P (n % r)=C.times P n:=by
 have e:C.times P n=C.times P (r*(n / r)+n % r):=by rw[Nat.div_add_mod]
 rw[e,C.times_add hP,C.times_mul hP,h,C.times_none];rfl
theorem Ec.dbl_times{P:Pt α}(hP:C.onP P)(n:Nat):C.ad (C.times P n) (C.times P n)=C.times P (2*n):=by rw[<-C.times_add hP,Nat.two_mul]
end
def RJ:Pt Zp->W6
 |none=>(ze2,ze2,ze2)
 |some p=>((p.1,0),(p.2,0),on2)
theorem Wx(P:Pt Zp):E1w.jr (RJ P) (em1.p P):=by
 cases P with
 |none=>rfl
 |some p=> 
  refine ⟨λh=>absurd (congrArg Prod.fst h) kd, ?_, ?_⟩
  ·show ((p.1,0):W2)=R2.mul (p.1,0) (R2.mul R2.one R2.one)
   rw[R2.mul_one,R2.mul_one]
  ·show ((p.2,0):W2)=R2.mul (p.2,0) (R2.mul (R2.mul R2.one R2.one) R2.one)
   rw[R2.mul_one,R2.mul_one,R2.mul_one]
section
attribute [local simp] aZ a9 bd
theorem ent31:ai prog 31:=λ_ _=>kr
theorem ent124:ai prog 124:=λ_ _=>kr
theorem ent62:ai prog 62:=λ_ _=>kr
theorem ent50:ai prog 50:=λ_ _=>kr
theorem ent24:ai prog 24:=λ_ _=>kr
theorem ent125:ai prog 125:=λ_ _=>kr
theorem ent69:ai prog 69:=λ_ _=>kr
theorem ent181:ai prog 181:=λ_ _=>kr
abbrev EV6(x:W6):Value:=aI ((fe (x.1).1++fe (x.1).2)++((fe (x.2.1).1++fe (x.2.1).2)++(fe (x.2.2).1++fe (x.2.2).2)))
theorem zv43(w:World):(zeroValue 43).run prog w=.ok (aI ((fe 0++fe 0)++((fe 0++fe 0)++(fe 0++fe 0)))) w:=by rw[iZ];exact (zeroValue43 w).trans rr
theorem dM:Three prog 43 ⟨ "X",41,0,false, "", "",0⟩ ⟨ "Y",41,12,false, "", "",96⟩ ⟨ "Z",41,24,false, "", "",192⟩ 12 (fe 0++fe 0) (fe 0++fe 0) (fe 0++fe 0):=⟨underlying43,rfl,rfl,rfl,sizeOf41,sizeOf41,sizeOf41,zv43,sm,sm,sm⟩
theorem e6{a b c a' b' c':W2}(h1:a=a')(h2:b=b')(h3:c=c'):Ending.returned (aI ((fe (a).1++fe (a).2)++((fe (b).1++fe (b).2)++(fe (c).1++fe (c).2))))=.returned (aI ((fe (a').1++fe (a').2)++((fe (b').1++fe (b').2)++(fe (c').1++fe (c').2)))):=by rw[h1,h2,h3]
def q6:Sh W6:=q2.two (q2.two q2 2) 2
theorem V6(x:W6):EV6 x=dn rid (.inl [x.1.1,x.1.2,x.2.1.1,x.2.1.2,x.2.2.1,x.2.2.2]):=by
 show Value.agg _=Value.agg _;rw[clv,show cel [x.1.1,x.1.2,x.2.1.1,x.2.1.2,x.2.2.1,x.2.2.2]=fe x.1.1++(fe x.1.2++(fe x.2.1.1++(fe x.2.1.2++(fe x.2.2.1++fe x.2.2.2))))from O];rw[List.append_assoc,List.append_assoc]
theorem bF{f:Nat}{a a':List Value}{v v':Value}(ha:a=a')(hv:v=v')(h:PUR f a' v'):PUR f a v:=by rw[ha,hv];exact h
theorem l1{a b:Value}(h:a=b):[a]=[b]:=by rw[h]
theorem l2{a b c d:Value}(h:a=b)(k:c=d):[a,c]=[b,d]:=by rw[h,k]
theorem l3{a b c d e f:Value}(h:a=b)(k:c=d)(l:e=f):[a,c,e]=[b,d,f]:=by rw[h,k,l]
theorem t2{a b c:Value}(h:a=b):Value.tuple #[a,c]=.tuple #[b,c]:=by rw[h]
theorem OV(x y:W2):PUR 106 [EV2 x,EV2 y] (EV2 (E1w.sub x y)):=by
 have h:=NK x y;rw[k9]at h;exact h
def sm2(a b:BitVec 64):W2:=(zp a.toNat,zp b.toNat)
def TO53:Tb prog Gt:=TO52.add (cL (g:=E1w.sub) ent106 OV)
theorem te(a b:BitVec 64):PUR 181 [U64 a,U64 b] (EV2 (sm2 a b)):=by
 intro w hw;refine Hf func181 O hw<|λhGF=>Xp<|Al 4 hGF zv41<|λb4=>aa<|Xp<|Mv O<|Ca O (mK _)<|Mv O<|Ca O (mK _)<|cF NX O O sm sm O O<|Sa 4 hGF O O O cT<|aa<|ak<|Rr<|?_;exact au 4 O O O isAgg41 sizeOf41 sm (λw hw=>⟨rfl,ac hw⟩)
theorem rQ{f:Nat}{g:BitVec 64->BitVec 64->W2}(en:ai prog f)(h: ∀a b,PUR f [U64 a,U64 b] (EV2 (g a b))):Snd prog Gt f (c2 agU agU q2.rd g):=f9 agU agU q2.rd en h
def TO54:Tb prog Gt:=TO53.add (rQ (g:=sm2) ent181 te)
theorem uh(x:W6):PUR 31 [EV6 x] (.bool (decide (x.2.2=ze2))):=(bF (l1 (V6 _)) O (pE TO54 func31 [.inl [x.1.1,x.1.2,x.2.1.1,x.2.1.2,x.2.2.1,x.2.2.2]] (.inl (.inr (.inl (decide (x.2.2=ze2))))) (.inl (.inr (.inl (decide ((x.2.2.1,x.2.2.2)=ze2)))),[]) [] kr aD O))
theorem sN{f:Nat}{g:W6->Bool}(en:ai prog f)(h: ∀a,PUR f [EV6 a] (.bool (g a))):Snd prog Gt f (c1 q6.ag rdB g):=ga q6.ag rdB en (λa=>bF (l1 (V6 _).symm) O (h a))
def TO55:Tb prog Gt:=TO54.add (sN (g:=λx=>decide (x.2.2=ze2)) ent31 uh)
theorem Hg(a b:W2):PUR 124 [EV2 a,EV2 b] (EV6 (a,b,on2)):=(bF O (V6 _) (pE TO55 func124 [.inl [a.1,a.2],.inl [b.1,b.2]] (.inl (.inl [(a,b,on2).1.1,(a,b,on2).1.2,(a,b,on2).2.1.1,(a,b,on2).2.1.2,(a,b,on2).2.2.1,(a,b,on2).2.2.2])) (let t0:=on2;(.inl (.inl [a.1,a.2,b.1,b.2,t0.1,t0.2]),[])) [] kr aD O))
theorem kt{f:Nat}{g:W2->W2->W6}(en:ai prog f)(h: ∀a b,PUR f [EV2 a,EV2 b] (EV6 (g a b))):Snd prog Gt f (c2 q2.ag q2.ag q6.rd g):=f9 q2.ag q2.ag q6.rd en (λa b=>bF O (V6 _).symm (h a b))
def TO56:Tb prog Gt:=TO55.add (kt (g:=λa b=>(a,b,on2)) ent124 Hg)
theorem cI{f:Nat}{g:W6->W6}(en:ai prog f)(h: ∀a,PUR f [EV6 a] (EV6 (g a))):Snd prog Gt f (c1 q6.ag q6.rd g):=ga q6.ag q6.rd en (λa=>bF (l1 (V6 _).symm) (V6 _).symm (h a))
theorem wB(x:W6):PUR 62 [EV6 x] (EV6 (E1w.jdF x)):=by
 by_cases h:x.2.2=ze2
 ·exact (bF (l1 (V6 _)) (V6 _) (pE TO56 func62 [.inl [x.1.1,x.1.2,x.2.1.1,x.2.1.2,x.2.2.1,x.2.2.2]] (.inl (.inl [(E1w.jdF x).1.1,(E1w.jdF x).1.2,(E1w.jdF x).2.1.1,(E1w.jdF x).2.1.2,(E1w.jdF x).2.2.1,(E1w.jdF x).2.2.2])) (.inl (.inl [0,0,0,0,0,0]),[(decide (x.2.2=ze2),true)]) [some true] kr (ao (decide_eq_true h) aD) (by rw[show E1w.jdF x=(ze2,ze2,ze2)from if_pos (.inl h)]<;>exact rfl)))
 ·by_cases h2:x.2.1=ze2
  ·exact (bF (l1 (V6 _)) (V6 _) (pE TO56 func62 [.inl [x.1.1,x.1.2,x.2.1.1,x.2.1.2,x.2.2.1,x.2.2.2]] (.inl (.inl [(E1w.jdF x).1.1,(E1w.jdF x).1.2,(E1w.jdF x).2.1.1,(E1w.jdF x).2.1.2,(E1w.jdF x).2.2.1,(E1w.jdF x).2.2.2])) (.inl (.inl [0,0,0,0,0,0]),[(decide (x.2.2=ze2),false),(decide ((x.2.1.1,x.2.1.2)=ze2),true)]) [some false,some true] kr (ao (decide_eq_false h) (ao (decide_eq_true h2) aD)) (by rw[show E1w.jdF x=(ze2,ze2,ze2)from if_pos (.inr h2)]<;>exact rfl)))
  ·exact (bF (l1 (V6 _)) (V6 _) (pE TO56 func62 [.inl [x.1.1,x.1.2,x.2.1.1,x.2.1.2,x.2.2.1,x.2.2.2]] (.inl (.inl [(E1w.jdF x).1.1,(E1w.jdF x).1.2,(E1w.jdF x).2.1.1,(E1w.jdF x).2.1.2,(E1w.jdF x).2.2.1,(E1w.jdF x).2.2.2])) (let t0:=ml2 (x.1.1,x.1.2) (x.1.1,x.1.2);let t1:=ml2 (x.2.1.1,x.2.1.2) (x.2.1.1,x.2.1.2);let t2:=ml2 (x.1.1,x.1.2) (t1.1,t1.2);let t3:=ad2 (t2.1,t2.2) (t2.1,t2.2);let t4:=ad2 (t3.1,t3.2) (t3.1,t3.2);let t5:=ad2 (t0.1,t0.2) (t0.1,t0.2);let t6:=ad2 (t5.1,t5.2) (t0.1,t0.2);let t7:=ml2 (t6.1,t6.2) (t6.1,t6.2);let t8:=E1w.sub (t7.1,t7.2) (t4.1,t4.2);let t9:=E1w.sub (t8.1,t8.2) (t4.1,t4.2);let t10:=ml2 (t1.1,t1.2) (t1.1,t1.2);let t11:=ad2 (t10.1,t10.2) (t10.1,t10.2);let t12:=ad2 (t11.1,t11.2) (t11.1,t11.2);let t13:=ad2 (t12.1,t12.2) (t12.1,t12.2);let t14:=ml2 (x.2.1.1,x.2.1.2) (x.2.2.1,x.2.2.2);let t15:=E1w.sub (t4.1,t4.2) (t9.1,t9.2);let t16:=ml2 (t6.1,t6.2) (t15.1,t15.2);let t17:=E1w.sub (t16.1,t16.2) (t13.1,t13.2);let t18:=ad2 (t14.1,t14.2) (t14.1,t14.2);(.inl (.inl [t9.1,t9.2,t17.1,t17.2,t18.1,t18.2]),[(decide (x.2.2=ze2),false),(decide ((x.2.1.1,x.2.1.2)=ze2),false)])) [some false,some false] kr (ao (decide_eq_false h) (ao (decide_eq_false h2) aD)) (by rw[show E1w.jdF x=E1w.jd x.1 x.2.1 x.2.2 from if_neg (λe=>e.elim h h2)]<;>exact rfl)))
def TO58:Tb prog Gt:=TO56.add (cI (g:=E1w.jdF) ent62 wB)
theorem Of(x y:W6):PUR 50 [EV6 x,EV6 y] (EV6 (E1w.jaF x y)):=by
 by_cases h1:x.2.2=ze2
 ·exact (bF (l2 (V6 _) (V6 _)) (V6 _) (pE TO58 func50 [.inl [x.1.1,x.1.2,x.2.1.1,x.2.1.2,x.2.2.1,x.2.2.2],.inl [y.1.1,y.1.2,y.2.1.1,y.2.1.2,y.2.2.1,y.2.2.2]] (.inl (.inl [(E1w.jaF x y).1.1,(E1w.jaF x y).1.2,(E1w.jaF x y).2.1.1,(E1w.jaF x y).2.1.2,(E1w.jaF x y).2.2.1,(E1w.jaF x y).2.2.2])) (.inl (.inl [y.1.1,y.1.2,y.2.1.1,y.2.1.2,y.2.2.1,y.2.2.2]),[(decide (x.2.2=ze2),true)]) [some true] kr (ao (decide_eq_true h1) aD) (by rw[show E1w.jaF x y=y from if_pos h1]<;>exact rfl)))
 ·by_cases h2:y.2.2=ze2
  ·exact (bF (l2 (V6 _) (V6 _)) (V6 _) (pE TO58 func50 [.inl [x.1.1,x.1.2,x.2.1.1,x.2.1.2,x.2.2.1,x.2.2.2],.inl [y.1.1,y.1.2,y.2.1.1,y.2.1.2,y.2.2.1,y.2.2.2]] (.inl (.inl [(E1w.jaF x y).1.1,(E1w.jaF x y).1.2,(E1w.jaF x y).2.1.1,(E1w.jaF x y).2.1.2,(E1w.jaF x y).2.2.1,(E1w.jaF x y).2.2.2])) (.inl (.inl [x.1.1,x.1.2,x.2.1.1,x.2.1.2,x.2.2.1,x.2.2.2]),[(decide (x.2.2=ze2),false),(decide (y.2.2=ze2),true)]) [some false,some true] kr (ao (decide_eq_false h1) (ao (decide_eq_true h2) aD)) (by rw[show E1w.jaF x y=x from (if_neg h1).trans (if_pos h2)]<;>exact rfl)))
  ·by_cases h3:E1w.jh x.1 x.2.2 y.1 y.2.2=ze2
   ·by_cases h4:E1w.jq x.2.1 x.2.2 y.2.1 y.2.2=ze2
    ·exact (bF (l2 (V6 _) (V6 _)) (V6 _) (pE TO58 func50 [.inl [x.1.1,x.1.2,x.2.1.1,x.2.1.2,x.2.2.1,x.2.2.2],.inl [y.1.1,y.1.2,y.2.1.1,y.2.1.2,y.2.2.1,y.2.2.2]] (.inl (.inl [(E1w.jaF x y).1.1,(E1w.jaF x y).1.2,(E1w.jaF x y).2.1.1,(E1w.jaF x y).2.1.2,(E1w.jaF x y).2.2.1,(E1w.jaF x y).2.2.2])) (let t0:=ml2 (x.2.2.1,x.2.2.2) (x.2.2.1,x.2.2.2);let t1:=ml2 (y.2.2.1,y.2.2.2) (y.2.2.1,y.2.2.2);let t2:=ml2 (x.1.1,x.1.2) (t1.1,t1.2);let t3:=ml2 (y.1.1,y.1.2) (t0.1,t0.2);let t4:=ml2 (x.2.1.1,x.2.1.2) (t1.1,t1.2);let t5:=ml2 (t4.1,t4.2) (y.2.2.1,y.2.2.2);let t6:=ml2 (y.2.1.1,y.2.1.2) (t0.1,t0.2);let t7:=ml2 (t6.1,t6.2) (x.2.2.1,x.2.2.2);let t8:=E1w.sub (t3.1,t3.2) (t2.1,t2.2);let t9:=E1w.sub (t7.1,t7.2) (t5.1,t5.2);let t10:=E1w.jdF x;(.inl (.inl [t10.1.1,t10.1.2,t10.2.1.1,t10.2.1.2,t10.2.2.1,t10.2.2.2]),[(decide (x.2.2=ze2),false),(decide (y.2.2=ze2),false),(decide ((t8.1,t8.2)=ze2),true),(decide ((t9.1,t9.2)=ze2),true)])) [some false,some false,some true,some true] kr (ao (decide_eq_false h1) (ao (decide_eq_false h2) (ao (decide_eq_true h3) (ao (decide_eq_true h4) aD)))) (by rw[show E1w.jaF x y=E1w.jdF x from (if_neg h1).trans ((if_neg h2).trans ((if_pos h3).trans (if_pos h4)))]<;>exact rfl)))
    ·exact (bF (l2 (V6 _) (V6 _)) (V6 _) (pE TO58 func50 [.inl [x.1.1,x.1.2,x.2.1.1,x.2.1.2,x.2.2.1,x.2.2.2],.inl [y.1.1,y.1.2,y.2.1.1,y.2.1.2,y.2.2.1,y.2.2.2]] (.inl (.inl [(E1w.jaF x y).1.1,(E1w.jaF x y).1.2,(E1w.jaF x y).2.1.1,(E1w.jaF x y).2.1.2,(E1w.jaF x y).2.2.1,(E1w.jaF x y).2.2.2])) (let t0:=ml2 (x.2.2.1,x.2.2.2) (x.2.2.1,x.2.2.2);let t1:=ml2 (y.2.2.1,y.2.2.2) (y.2.2.1,y.2.2.2);let t2:=ml2 (x.1.1,x.1.2) (t1.1,t1.2);let t3:=ml2 (y.1.1,y.1.2) (t0.1,t0.2);let t4:=ml2 (x.2.1.1,x.2.1.2) (t1.1,t1.2);let t5:=ml2 (t4.1,t4.2) (y.2.2.1,y.2.2.2);let t6:=ml2 (y.2.1.1,y.2.1.2) (t0.1,t0.2);let t7:=ml2 (t6.1,t6.2) (x.2.2.1,x.2.2.2);let t8:=E1w.sub (t3.1,t3.2) (t2.1,t2.2);let t9:=E1w.sub (t7.1,t7.2) (t5.1,t5.2);(.inl (.inl [0,0,0,0,0,0]),[(decide (x.2.2=ze2),false),(decide (y.2.2=ze2),false),(decide ((t8.1,t8.2)=ze2),true),(decide ((t9.1,t9.2)=ze2),false)])) [some false,some false,some true,some false] kr (ao (decide_eq_false h1) (ao (decide_eq_false h2) (ao (decide_eq_true h3) (ao (decide_eq_false h4) aD)))) (by rw[show E1w.jaF x y=(ze2,ze2,ze2)from (if_neg h1).trans ((if_neg h2).trans ((if_pos h3).trans (if_neg h4)))]<;>exact rfl)))
   ·exact (bF (l2 (V6 _) (V6 _)) (V6 _) (pE TO58 func50 [.inl [x.1.1,x.1.2,x.2.1.1,x.2.1.2,x.2.2.1,x.2.2.2],.inl [y.1.1,y.1.2,y.2.1.1,y.2.1.2,y.2.2.1,y.2.2.2]] (.inl (.inl [(E1w.jaF x y).1.1,(E1w.jaF x y).1.2,(E1w.jaF x y).2.1.1,(E1w.jaF x y).2.1.2,(E1w.jaF x y).2.2.1,(E1w.jaF x y).2.2.2])) (let t0:=ml2 (x.2.2.1,x.2.2.2) (x.2.2.1,x.2.2.2);let t1:=ml2 (y.2.2.1,y.2.2.2) (y.2.2.1,y.2.2.2);let t2:=ml2 (x.1.1,x.1.2) (t1.1,t1.2);let t3:=ml2 (y.1.1,y.1.2) (t0.1,t0.2);let t4:=ml2 (x.2.1.1,x.2.1.2) (t1.1,t1.2);let t5:=ml2 (t4.1,t4.2) (y.2.2.1,y.2.2.2);let t6:=ml2 (y.2.1.1,y.2.1.2) (t0.1,t0.2);let t7:=ml2 (t6.1,t6.2) (x.2.2.1,x.2.2.2);let t8:=E1w.sub (t3.1,t3.2) (t2.1,t2.2);let t9:=E1w.sub (t7.1,t7.2) (t5.1,t5.2);let t10:=ml2 (t8.1,t8.2) (t8.1,t8.2);let t11:=ml2 (t10.1,t10.2) (t8.1,t8.2);let t12:=ml2 (t2.1,t2.2) (t10.1,t10.2);let t13:=ml2 (t9.1,t9.2) (t9.1,t9.2);let t14:=E1w.sub (t13.1,t13.2) (t11.1,t11.2);let t15:=E1w.sub (t14.1,t14.2) (t12.1,t12.2);let t16:=E1w.sub (t15.1,t15.2) (t12.1,t12.2);let t17:=E1w.sub (t12.1,t12.2) (t16.1,t16.2);let t18:=ml2 (t9.1,t9.2) (t17.1,t17.2);let t19:=ml2 (t5.1,t5.2) (t11.1,t11.2);let t20:=E1w.sub (t18.1,t18.2) (t19.1,t19.2);let t21:=ml2 (x.2.2.1,x.2.2.2) (y.2.2.1,y.2.2.2);let t22:=ml2 (t21.1,t21.2) (t8.1,t8.2);(.inl (.inl [t16.1,t16.2,t20.1,t20.2,t22.1,t22.2]),[(decide (x.2.2=ze2),false),(decide (y.2.2=ze2),false),(decide ((t8.1,t8.2)=ze2),false)])) [some false,some false,some false] kr (ao (decide_eq_false h1) (ao (decide_eq_false h2) (ao (decide_eq_false h3) aD))) (by rw[show E1w.jaF x y=E1w.ja x.1 x.2.1 x.2.2 y.1 y.2.1 y.2.2 from (if_neg h1).trans ((if_neg h2).trans (if_neg h3))]<;>exact rfl)))
theorem cw{f:Nat}{g:W6->W6->W6}(en:ai prog f)(h: ∀a b,PUR f [EV6 a,EV6 b] (EV6 (g a b))):Snd prog Gt f (c2 q6.ag q6.ag q6.rd g):=f9 q6.ag q6.ag q6.rd en (λa b=>bF (l2 (V6 _).symm (V6 _).symm) (V6 _).symm (h a b))
def TO59:Tb prog Gt:=TO58.add (cw (g:=E1w.jaF) ent50 Of)
theorem qN{f:Nat}{g:W6->W6->Bool}(en:ai prog f)(h: ∀a b,PUR f [EV6 a,EV6 b] (.bool (g a b))):Snd prog Gt f (c2 q6.ag q6.ag rdB g):=f9 q6.ag q6.ag rdB en (λa b=>bF (l2 (V6 _).symm (V6 _).symm) O (h a b))
end
section
attribute [local simp] aZ a9 bd
def RMJ(x:W6)(bs:L8):Nat->W6
 |0=>(ze2,ze2,ze2)
 |i+1=>if dB bs i=1#8 then E1w.jaF (E1w.jdF (RMJ x bs i)) x else E1w.jdF (RMJ x bs i)
theorem BU{x:W6}{bs:L8}{i:Nat}(h:dB bs i=1#8):RMJ x bs (i+1)=E1w.jaF (E1w.jdF (RMJ x bs i)) x:=if_pos h
theorem A6{x:W6}{bs:L8}{i:Nat}(h: ¬dB bs i=1#8):RMJ x bs (i+1)=E1w.jdF (RMJ x bs i):=if_neg h
theorem GI{x:W6}{P:Pt W2}(hP:E1w.onP P)(hx:E1w.jr x P)(bs:L8): ∀i,E1w.jr (RMJ x bs i) (E1w.times P (BTn bs i))
 |0=>rfl
 |i+1=>by
  have hd:=E1w.jr_d (E1w.times_on hP _) (GI hP hx bs i);rw[E1w.dbl_times hP]at hd;rcases m3 bs i with ⟨h,e⟩|⟨h,e⟩
  ·rw[BU h,BTn,e]
   exact E1w.jr_a (E1w.times_on hP _) hP hd hx
  ·rw[A6 h,BTn,e]
   exact hd
def RRL:L6:=[18446744069414584321#64,6034159408538082302#64,3691218898639771653#64,8353516859464449352#64,0#64,0#64]
def RB48:L8:=BYs RRL 48
def ORB:L8:=RB48.drop 16
theorem LV:ORB.length=32:=by decide+kernel
theorem Yh:BN ORB 32=ORD:=by decide+kernel
theorem GF:RB48.length=48:=by decide+kernel
theorem Kh:RRL.length=6:=rfl
attribute [local simp] GF Kh
theorem Qg{w:World}{b:Nat}{t:TypeId}(h:OwnB w b (RB48.map U8) t):BytesAt w (some ⟨b,16,none⟩) ORB:=BytesAt.range λj v hv=>by
 have:=h.range (16+j) v (by rw[ORB,List.map_drop,List.getElem?_drop]at hv;exact hv)
 rw[Nat.zero_add]at this;exact this
theorem nm_ze:nm 0=List.replicate 6 0#64:=by decide+kernel
theorem Vm(a b:Zp):PUR 100 [NV (nm a),NV (nm b)] (EV2 (a,b)):=by
 intro w hw;refine Hf func100 O hw<|λhGF=>Xp<|Bx 2 hGF O<|λb2=>Bx 3 hGF O<|λb3=>Al 4 hGF zv41<|λb4=>aa<|Xd []<|La 2 O O cg<|Ca O (Vt _)<|La 3 O O cg<|Ca O (Vt _)<|cF NX O O sm sm O O<|Sa 4 hGF O O O cT<|aa<|ak<|Rr<|?_;exact au 4 O O O isAgg41 sizeOf41 sm (λw hw=>⟨rfl,ac hw⟩)
theorem Vo(a b:Zp):PUR 60 [NV (nm a),NV (nm b)] (EV2 (a,b)):=by
 intro w hw;refine Hf func60 O hw<|λhGF=>Xp<|Bx 2 hGF O<|λb2=>Bx 3 hGF O<|λb3=>Al 4 hGF zv41<|λb4=>aa<|Xp<|La 2 O O cg<|La 3 O O cg<|Ca O (Vm _ _)<|Sa 4 hGF O O O cT<|aa<|ak<|Rr<|?_;exact au 4 O O O isAgg41 sizeOf41 sm (λw hw=>⟨rfl,ac hw⟩)
theorem V4:sm2 4#64 0#64=E1w.b:=by decide+kernel
theorem Jm  :PUR 121 [.bool false] (EV2 E1w.b):=by
 intro w hw;refine Hf func121 O hw<|λhGF=>Xp<|Al 2 hGF zv41<|λb2=>aa<|ah<|Xp<|Mv O<|aa<|aw O<|aq<|Xp<|Ca O (te _ _)<|Sa 2 hGF O O O cT<|aa<|ak<|Rr<|?_;exact au 2 O O O isAgg41 sizeOf41 sm (λw hw=>⟨by rw[<-V4],ac hw⟩)
theorem ve(x:W6)(e:Option Addr)(cap:Nat)(bs:L8)(hlen:bs.length<=4096)(w:World)(hw:Gt w)(hby:BytesAt w e bs):
 CLS 24 [EV6 x,.slice e bs.length cap].toArray w (λr w'=>r=.returned (EV6 (RMJ x bs (8*bs.length)))/\Grow w w'):=by
 refine Hf func24 O hw<|λhGF=>Xp<|Bx 2 hGF O<|λb2=>Al 4 hGF zv43<|λb4=>aa<|Xp<|Al 5 hGF zv43<|λb5=>aa<|ah<|Xp<|Asg O<|aa<|am<|cb (ι:={i:Nat // i<=8*bs.length}) (λy=>[(1,.slice e bs.length cap),(2,pnt b2),(4,pnt b4),(5,pnt b5),(6,I (y.1:Int))]) (λy=>[(2,b2,((fe ((x).1).1++fe ((x).1).2)++((fe ((x).2.1).1++fe ((x).2.1).2)++(fe ((x).2.2).1++fe ((x).2.2).2))).map U64,43),(4,b4,((fe 0++fe 0)++((fe 0++fe 0)++(fe 0++fe 0))).map U64,43),(5,b5,((fe ((RMJ x bs y.1).1).1++fe ((RMJ x bs y.1).1).2)++((fe ((RMJ x bs y.1).2.1).1++fe ((RMJ x bs y.1).2.1).2)++(fe ((RMJ x bs y.1).2.2).1++fe ((RMJ x bs y.1).2.2).2))).map U64,43)]) (λy=>8*bs.length-y.1) ⟨0,Nat.zero_le _⟩ hGF trv trv<|?_;rintro ⟨i,hi⟩;dsimp only;refine ah<|Xp<|Mv O<|Mv O<|bD O (λ_=>aV underlying22 _ _ _ _) O O<|Bnr (v:=I ((8*bs.length:Nat):Int)) O O (λ_=>(bJ _ _ _ oi).trans (by rw[show (8:Int)*(bs.length:Int)=((8*bs.length:Nat):Int) by omega]))<|Bnr O O (λ_=>aC _ _ _)<|aa<|?_
 refine bE O (λhc=> ?_) (λhc=> ?_)
 ·simp only[decide_eq_true_eq]at hc
  refine aq<|ah<|am<|Xp<|La 5 O O dz<|Ca O (wB _)<|Sa 5 hGF O O O dz<|aa<|Xp<|Mv O<|Mv O<|Bnr (v:=I ((i / 8:Nat):Int)) O O (λ_=>go _ _ _ dc (show inI ((i / 8:Nat):Int) by unfold inI;omega))<|?_
  obtain ⟨ad,rfl,_⟩:=hby (i / 8) _ (gm U8 bs 0 (i / 8) om);refine ek (i / 8) O O underlying22 sizeOf5 O om O O<|bp O isAgg5 (λw' h=>by obtain ⟨ad',e,hc⟩:=(hby.grow (ac h)) (i / 8) _ (gm U8 bs 0 (i / 8) om);cases e;exact hc) O O<|Mv O<|Bnr (v:=I ((i % 8:Nat):Int)) O O (λ_=>d7 _ _ _ dc)<|Bnr (v:=I ((7-i % 8:Nat):Int)) O O (λ_=>(bf _ _ _ oi).trans (by rw[show ((7:Int)-((i % 8:Nat):Int))=((7-i % 8:Nat):Int) by omega]))<|Bnr (v:=U8 (bs.getD (i / 8) 0>>>(7-i % 8))) O O (λ_=>eM _ _ _ om)<|Bnr (v:=U8 (dB bs i)) O O (λ_=>bC _ _ 1#8)<|Bnr (v:=.bool (decide (dB bs i=1#8))) O O (λ_=>(cH _ _ 1#8).trans O)<|aa<|?_
  refine bE O (λhc=> ?_) (λhc=> ?_)
  ·have hq:dB bs i=1#8:=of_decide_eq_true hc
   refine Xq<|La 5 O O dz<|La 2 O O dz<|Ca O (Of _ _)<|Sa 5 hGF O O O dz<|aa<|Xq<|Mv O<|Bnr O O (λ_=>az _ _ _ oi)<|Asg O<|aa<|?_
   repeat (refine aW ?_)
   exact aQ<|⟨rfl,⟨i+1,om⟩,_,by show 8*bs.length-(i+1)<8*bs.length-i;omega,rfl,trv,⟨rfl,rfl,by first|(rw[BU hq];rfl)|(rw[A6 hq];rfl),trivial⟩⟩
  ·have hq: ¬dB bs i=1#8:=of_decide_eq_false hc
   refine aq<|Xq<|Mv O<|Bnr O O (λ_=>az _ _ _ oi)<|Asg O<|aa<|?_
   repeat (refine aW ?_)
   exact aQ<|⟨rfl,⟨i+1,om⟩,_,by show 8*bs.length-(i+1)<8*bs.length-i;omega,rfl,trv,⟨rfl,rfl,by first|(rw[BU hq];rfl)|(rw[A6 hq];rfl),trivial⟩⟩
 ·obtain rfl:i=8*bs.length:=by simp at hc;omega
  refine a6<|Xp<|La 5 O O dz<|Sa 4 hGF O O O dz<|aa<|ak<|Rr<|?_;exact au 4 O O O isAgg43 sizeOf43 sm (λw hw=>⟨rfl,ac hw⟩)
theorem r3r  :PUR 130 [] (NV RRL):=by
 intro w hw;refine Hf func130 O hw<|λhGF=>Xp<|Al 0 hGF zv37<|λb0=>aa<|Xp<|gg (n:=6) O O underlying37 sizeOf24 zeroValue37 O O O O<|aA 0 hGF O O O sizeOf37 O sm O O<|aa<|ak<|Rr<|?_;exact au 0 O O O isAgg37 sizeOf37 sm (λw hw=>⟨rfl,ac hw⟩)
theorem rbR:PUR 52 [NV RRL] (.agg (RB48.map U8).toArray):=gx RRL O
theorem rN(w:World)(hw:Gt w):CLS 125 [].toArray w (λe w'=> ∃bm,e=.returned (.slice (some ⟨bm,16,none⟩) 32 32)/\Grow w w'/\w.heap.size<=bm/\OwnB w' bm (RB48.map U8) 29):=by
 refine Hf func125 O hw<|λhGF=>Xp<|Asg O<|aa<|Xp<|Ca O (r3r)<|Ca O (rbR)<|Al 1 hGF zv29<|λb1=>aA 1 hGF O O O sizeOf29 sm sm (bL _) O<|aa<|Xp<|bB (l:=16) (h':=48) O underlying29 sizeOf5 O O dc dc O O<|Asg O<|aa<|ak<|Rr<|?_;exact aO O O (λw hw=>⟨b1,rfl,ac hw,(hw.own 1 b1 _ _ O).2.elim id False.elim,(hw.own 1 b1 _ _ O).1⟩)
theorem Qy(x:W6)(e:Option Addr)(cap:Nat)(bs:L8)(n:Nat)(hn:bs.length=n)(hl:n<=4096)(w:World)(hw:Gt w)(hby:BytesAt w e bs):CLS 24 [EV6 x,.slice e n cap].toArray w (λr w'=>r=.returned (EV6 (RMJ x bs (8*n)))/\Grow w w'):=by
 subst hn;exact ve x e cap bs hl w hw hby
theorem OX(x:W6)(b:Nat)(t:TypeId)(w:World)(hw:Gt w)(h:OwnB w b (RB48.map U8) t):CLS 24 [EV6 x,.slice (some ⟨b,16,none⟩) 32 32].toArray w (λr w'=>r=.returned (EV6 (RMJ x ORB (8*32)))/\Grow w w'):=by
 exact Qy x _ 32 ORB 32 LV dc w hw (Qg h)
theorem ii(x:W6):PUR 69 [EV6 x] (.bool (decide ((RMJ x ORB (8*32)).2.2=ze2))):=by
 intro w hw;refine Hf func69 O hw<|λhGF=>Xp<|Bx 1 hGF O<|λb1=>Asg O<|aa<|pH (EE [125,2000125]) dU kr kr<|a7 (m:=0) [0,1,2,3,4] kr<|La 1 O O dz<|?_;refine bM O O ent125 O O (λw' hw'=>(rN w' (hGF.g _ _ _ hw')).mono λe w'' h=> ?_);obtain ⟨bm,rfl,hg,hb,hob⟩:=h;refine ⟨_,_,rfl,ay hGF,hw'.news ap hg [(33,bm,RB48.map U8,29)] ?_ bR,bN ap O, ?_⟩
 ·intro n' b' c' t' hl
  rcases aK hl with ⟨_,e⟩|⟨_,hl⟩
  ·cases e;exact ⟨hb,hob⟩
  ·cases hl
 clear hw' hg hb hob;refine Cc O ent24 (λw' hC hG=>OX _ bm _ w' hG (hC.own 33 _ _ _ O).1)<|Ca O (uh _)<|Asg O<|aa<|dC kr<|aQ<|ak<|Rr<|?_;exact aO O O (λw hw=>⟨rfl,ac hw⟩)
end
section
variable {α:Type} [DecidableEq α] {C:Ec α} (T:Tw C)
theorem Tw.in_of{P:Pt α}(hP:C.onP P)(line:C.ad (C.ad P (T.p P)) (T.p (T.p P))=none){U r:Nat}(hU:r+U*U=(U*U)*(U*U)+1)(h:C.ne (C.times (C.times P U) U)=T.p P):C.times P r=none:=by
 rw[<-C.times_mul hP]at h;generalize U*U=V at h hU;have hQ:=C.times_on hP V;have e2:T.p (T.p P)=C.times P (V*V):=by
  rw[<-h,T.p_ne,T.p_times hP,<-h,C.times_ne hQ,C.ne_ne,C.times_mul hP]
 have hS:=C.times_on hP (V*V);rw[e2,<-h]at line;have e3:C.ad (C.times P r) (C.times P V)=C.ad (C.times P (V*V)) P:=by rw[<-C.times_add hP,hU];rfl
 have e4:C.ad (C.ad (C.times P r) (C.times P V)) (C.ne (C.times P V))=C.times P r:=by
  rw[C.ad_assoc (C.times_on hP r) hQ (C.ne_on hQ),C.ad_ne,C.ad_nr]
 rw[<-e4,e3,C.ad_assoc hS hP (C.ne_on hQ),C.ad_comm hS (C.ad_on hP (C.ne_on hQ)),line]
theorem Tw.out_of{G:Pt α}(hG:C.onP G){U:Nat}(h:C.ne (C.times (C.times G U) U)=T.p G)(e:Nat):C.ne (C.times (C.times (C.times G e) U) U)=T.p (C.times G e):=by
 have h1:=C.times_on hG U;rw[T.p_times hG,<-h,C.times_ne (C.times_on h1 U),C.times_swap h1 U e,C.times_swap hG U e]
end
theorem NR{α:Type}(C:Ec α){J:α×α×α}{P:Pt α}{x y:α}(h:C.jr J P)(hz:J.2.2≠C.R.zero)(hx:J.1=C.R.mul x (C.z2 J.2.2))(hy:J.2.1=C.R.mul y (C.z3 J.2.2)):P=some (x,y):=by
 cases P with
 |none=>exact absurd h hz
 |some p=>
  refine congrArg some (Prod.ext ?_ ?_)
  ·exact C.mul_can (C.z2_ne hz) (h.2.1.symm.trans hx)
  ·exact C.mul_can (C.z3_ne hz) (h.2.2.symm.trans hy)
theorem Oi{α:Type} [DecidableEq α](C:Ec α){J K:α×α×α}{P:Pt α}(hP:C.onP P)(h:C.jr J P)(l:List Bool){n:Nat}(hn:lT l 0=n)(hK:C.jm J l (C.R.zero,C.R.zero,C.R.zero)=K){x y:α}(hz:K.2.2≠C.R.zero)(hx:K.1=C.R.mul x (C.z2 K.2.2))(hy:K.2.1=C.R.mul y (C.z3 K.2.2)):C.times P n=some (x,y):=by
 have k:=C.jr_m hP h l (C.R.zero,C.R.zero,C.R.zero) 0 (show C.R.zero=C.R.zero from O);rw[hn,hK]at k;exact NR C k hz hx hy
theorem rf{p:Nat}(hp:Pr p){d:Nat}(h0:0<d)(h1:d<p): ∃e,(d*e) % p=1:=by
 refine ⟨d^(p-2), ?_⟩;have h2:1<p:=hp.1;rw[<-Nat.pow_succ',show (p-2).succ=p-1 from by omega]
 exact hp.fermat1 λh=>absurd (Nat.le_of_dvd h0 h) om
def TRN:Nat:=0x5f19672fdf76ce51ba69c6076a0f77eaddb3a93be6f89688de17d813620a00022e01fffffffefffe
theorem Qe:zp TRN*zp TRN*(zp TRN*zp TRN)=zp TRN:=by decide+kernel
theorem Sf:zp TRN*zp TRN*(zp TRN*zp TRN*(zp TRN*zp TRN))=1:=by decide+kernel
theorem Ji:zp TRN*zp TRN+zp TRN+1=0:=by decide+kernel
theorem Sc:zp TRN*zp TRN≠0:=by decide+kernel
def TW1:Tw E1 where
 f:=λa=>a
 w:=zp TRN*zp TRN
 fa:=λ_ _=>rfl
 fm:=λ_ _=>rfl
 fn:=λ_=>rfl
 f0:=rfl
 fi:=λ_ h=>h
 wn:=Sc
 wb:=by decide+kernel
theorem vj(q:Zp×Zp):TW1.m q=(zp TRN*q.1,q.2):=by
 refine Prod.ext ?_ ?_
 ·show zp TRN*zp TRN*(zp TRN*zp TRN)*q.1=zp TRN*q.1
  rw[Qe]
 ·show zp TRN*zp TRN*(zp TRN*zp TRN*(zp TRN*zp TRN))*q.2=q.2
  rw[Sf];generalize q.2=y;grind
theorem QB{c x y:Zp}(hc:c*c+c+1=0)(hp:E1.on (x,y))(hq:E1.on (c*x,y)):E1.ad (E1.ad (some (x,y)) (some (c*x,y))) (some (c*(c*x),y))=none:=by
 have ho: ¬E1.opp (x,y) (c*x,y):=by
  intro h;have h1:x=c*x:=h.1;have hy:y=0:=E1.dbl0 h.2;have h3:(1+1+1)*x=0:=by
   have e:(c*c+c+1)*x=c*(c*x)+c*x+x:=by grind
   rw[hc,<-h1,<-h1]at e;grind
  have hx:x=0:=(kX h3).resolve_left E1.h3;subst hx hy;have k:(0:Zp)*0=0*(0*0)+zp 4:=hp;exact absurd k (by decide+kernel)
 have hs:E1.Sl (x,y) (c*x,y) 0:=by
  refine ⟨?_, ?_⟩
  ·show (0:Zp)*(x+ -(c*x))=y+ -y
   grind
  ·show (0:Zp)*(y+y)=x*x+x*(c*x)+c*x*(c*x)
   have e:x*x+x*(c*x)+c*x*(c*x)=(c*c+c+1)*(x*x):=by grind
   rw[e,hc];grind
 rw[E1.ad_sl hp hq ho hs];refine E1.ad_opp ⟨?_, ?_⟩
 ·show (0:Zp)*0+ -x+ -(c*x)=c*(c*x)
  have e:c*(c*x)-((0:Zp)*0+ -x+ -(c*x))=(c*c+c+1)*x:=by grind
  rw[hc]at e;grind
 ·show (0:Zp)*(x+ -((0:Zp)*0+ -x+ -(c*x)))+ -y+y=0
  grind
theorem Fs{P:Pt Zp}(hP:E1.onP P):E1.ad (E1.ad P (TW1.p P)) (TW1.p (TW1.p P))=none:=by
 cases P with
 |none=>rfl
 |some q=>
  have e:TW1.p (some q)=some (zp TRN*q.1,q.2):=congrArg some (vj q);have e':TW1.p (some (zp TRN*q.1,q.2))=some (zp TRN*(zp TRN*q.1),q.2):=congrArg some (vj _);have hq:E1.onP (TW1.p (some q)):=TW1.p_on hP;rw[e]at hq;rw[e,e'];exact QB Ji hP hq
def UG:Nat:=0xd201000000010000
theorem EJ:ORD+UG*UG=(UG*UG)*(UG*UG)+1:=by decide+kernel
def UGJ:Zp×Zp×Zp:=E1.jm (zp G1x,zp G1y,1) (ef 128 (UG*UG) []) (0,0,0)
theorem To:E1.jm (zp G1x,zp G1y,1) (ef 128 (UG*UG) []) (E1.R.zero,E1.R.zero,E1.R.zero)=UGJ:=by unfold UGJ;rfl
theorem Lo:lT (ef 128 (UG*UG) []) 0=UG*UG:=by decide+kernel
theorem ugj:UGJ.2.2≠0/\UGJ.1=zp TRN*zp G1x*(UGJ.2.2*UGJ.2.2)/\UGJ.2.1= -(zp G1y)*(UGJ.2.2*UGJ.2.2*UGJ.2.2):=by decide+kernel
theorem US:E1.times (some G1p) (UG*UG)=some (zp TRN*zp G1x,-(zp G1y)):=Oi E1 (P:=some G1p) u3 F2 (ef 128 (UG*UG) []) Lo To ugj.1 ugj.2.1 ugj.2.2
theorem il:E1.onP (some G1p):=u3
theorem ME:E1.ne (E1.times (E1.times (some G1p) UG) UG)=TW1.p (some G1p):=by
 rw[<-E1.times_mul il,US];refine congrArg some ((Prod.ext O ?_:_=(zp TRN*zp G1x,zp G1y)).trans (vj G1p).symm);show- -(zp G1y)=zp G1y;generalize zp G1y=y;grind
def cdP:Pt Zp->Nat
 |none=>0
 |some p=>1+(2*p.1.val+p.2.val % 2)
theorem Uy(S:Pt Zp):cdP S<2*PP+1:=by
 cases S with
 |none=>exact Nat.succ_pos _
 |some p=>
  show 1+(2*p.1.val+p.2.val % 2)<2*PP+1;have:=p.1.isLt;omega
theorem cd_y{a b:Zp}(h:a*a=b*b)(k:a.val % 2=b.val % 2):a=b:=by
 have e:(a-b)*(a+b)=0:=by grind
 rcases kX e with h1|h1
 ·grind
 ·have e2:a= -b:=by grind
  by_cases hb:b=0
  ·rw[e2,hb];decide+kernel
  ·exfalso
   rw[e2,ut hb]at k;have h2:=b.isLt;have h3:PP % 2=1:=by decide+kernel
   omega
theorem SD{S S':Pt Zp}(h:E1.onP S)(h':E1.onP S')(e:cdP S=cdP S'):S=S':=by
 cases S with
 |none=>
  cases S' with
  |none=>rfl
  |some q=>exact absurd (show 0=1+(2*q.1.val+q.2.val % 2)from e) om
 |some p=>
  cases S' with
  |none=>exact absurd (show 1+(2*p.1.val+p.2.val % 2)=0 from e) om
  |some q=>
   have e:1+(2*p.1.val+p.2.val % 2)=1+(2*q.1.val+q.2.val % 2):=e;have ex:p.1=q.1:=Fin.ext om;have k1:p.2*p.2=p.1*(p.1*p.1)+zp 4:=h;have k2:q.2*q.2=q.1*(q.1*q.1)+zp 4:=h';refine congrArg some (Prod.ext ex (cd_y (k1.trans ?_) om));rw[k2,ex]
theorem nA:Pr ORD:=by
 have e:ORD=RR:=by decide+kernel
 rw[e];exact pr_r
theorem Hy:(some G1p:Pt Zp)≠none:=λh=>by cases h
theorem T7{P:Pt Zp}(hP:E1.onP P)(h:E1.times P ORD=none): ∃e,P=E1.times (some G1p) e:=
 E1.cyc il hP (λ_ h0 h1=>rf nA h0 h1) kB h Hy (2*PP+1) cdP (λS _=>Uy S) (λ_ _ h h' e=>SD h h' e) (by decide+kernel)
theorem Wo{P:Pt Zp}(hP:E1.onP P):E1.ne (E1.times (E1.times P UG) UG)=TW1.p P↔E1.times P ORD=none:=by
 constructor
 ·exact λh=>TW1.in_of hP (Fs hP) EJ h
 ·intro h
  obtain ⟨e,rfl⟩:=T7 hP h;exact TW1.out_of il ME e
end Go.Proofs.YtfgacclgjklgnaaGreatDoor
