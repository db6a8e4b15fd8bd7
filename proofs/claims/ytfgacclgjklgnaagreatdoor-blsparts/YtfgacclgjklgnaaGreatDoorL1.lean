/- L1 -/
import Derived.Test.YtfgacclgjklgnaaGreatDoorL0
import Derived.Test.YtfgacclgjklgnaaGreatDoorXW
import Derived.Test.YtfgacclgjklgnaaGreatDoorX3
import Derived.Test.YtfgacclgjklgnaaGreatDoorM0
import Derived.Test.YtfgacclgjklgnaaGreatDoorQ1
import Derived.Test.YtfgacclgjklgnaaGreatDoorX5
import Derived.Test.YtfgacclgjklgnaaGreatDoorM1
set_option maxRecDepth 100000
set_option maxHeartbeats 1000000
namespace Go.Proofs.YtfgacclgjklgnaaGreatDoor
open Go.Proofs.Tryz
section
open Go.RowKit
attribute [local simp] aW bd aU aP aD bf aL aK aB PLl cm cq N1l cr cp cu a8 bg
theorem Na(x:Zp)(b:Nat)(t:TypeId)(bs:L8)(h48:bs.length=48)(w:World)(hw:Gt w)(ho:OwnB w b (bs.map U8) t):
 CLS 226 [EV x,.slice (spt b) 48 48].toArray w (fun r w'=>r=.returned (EV (x^BN bs 48))∧Grow w w'):=by
 have h:=vT x (spt b) 48 bs om w hw (BytesAt.range ho.range)
 rw[h48]at h
 exact h
theorem nj(a:Option Addr)(len cap:Nat)(bs:L8)(hl:bs.length=len)(h:len≤48)(w:World)(hw:Gt w)(hby:BytesAt w a bs):
 CLS 38 [.slice a len cap].toArray w (fun e w'=>e=.returned (.tuple #[NV (FRs bs bs.length),.bool true])∧Grow w w'):=by
 subst hl
 exact (pY a cap bs w hw hby).mono fun e w' ⟨he,hg⟩=>⟨by rw[he,if_neg om],hg⟩
theorem nu(x:Zp)(n:L6)(hn:n.length=6):PUR 189 [EV x,NV n] (EV (x^V n 6)):=by
 intro w hw
 refine Hf func189 rfl hw<|fun hGF=>Xp<|Bx 2 hGF rfl<|fun b2=>Bx 3 hGF rfl<|fun b3=>Al 4 hGF zv52<|fun b4=>aa<|Xp<|a9 3 rfl rfl isAgg25 sizeOf25 (by first|(simp;done)|simp[hn]) rfl rfl<|Ca rfl (lI _ (by first|(simp;done)|simp[hn]))<|Al 5 hGF zv29<|fun b5=>ao 5 hGF rfl rfl rfl sizeOf29 (by first|(simp;done)|simp[hn]) (by first|(simp;done)|simp[hn]) (bi _) rfl<|aa<|Xd []<|a9 2 rfl rfl isAgg52 sizeOf52 (by first|(simp;done)|simp[hn]) rfl rfl<|cf (l:=0) (h':=48) rfl underlying29 sizeOf5 rfl rfl om om rfl rfl<|Cc rfl ent226 (fun w hC hG=>Na x _ _ (BYs n 48) (by first|(simp;done)|simp[hn]) w hG (hC.own 5 _ _ _ rfl).1)<|ao 4 hGF rfl rfl rfl sizeOf52 (by first|(simp;done)|simp[hn]) (by first|(simp;done)|simp[hn]) (bk _) rfl<|aa<|am<|Rr<|?_
 exact ay 4 rfl rfl rfl isAgg52 sizeOf52 (by first|(simp;done)|simp[hn]) (fun w hw=>⟨by rw[CE n hn 48 rfl],ac hw⟩)
theorem BJ(x:Zp):PUR 135 [EV x] (EV (x^(PP-2))):=by
 intro w hw
 refine Hf func135 rfl hw<|fun hGF=>Xp<|Bx 1 hGF rfl<|fun b1=>Al 2 hGF zv52<|fun b2=>aa<|Xp<|La 1 rfl rfl bv<|fZ hGF isAgg25 sizeOf25 sm (fun _ h=>h.g4) rfl rfl<|Ca rfl (nu _ _ sm)<|Sa 2 hGF rfl rfl rfl bv<|aa<|am<|Rr<|?_
 exact ay 2 rfl rfl rfl isAgg52 sizeOf52 sm (fun w hw=>⟨by rw[←JM],ac hw⟩)
theorem BO(x:Zp):PUR 289 [EV x] (.bool (decide (x.val % 2=1))):=by
 intro w hw
 refine Hf func289 rfl hw<|fun hGF=>Xp<|Bx 1 hGF rfl<|fun b1=>Asg rfl<|aa<|Xp<|La 1 rfl rfl bv<|Ca rfl (jl _)<|jC U64 0 (0) rfl rfl underlying25 sizeOf24 isAgg24 om om sm rfl rfl<|Bnr rfl rfl (fun _=>ek _ _ _ dc)<|Bnr rfl rfl (fun _=>bX _ _ _)<|Asg rfl<|aa<|am<|Rr<|?_
 exact aE rfl rfl (fun w hw=>⟨by rw[←P8]<;>rfl,ac hw⟩)
theorem fX(x:Zp):PUR 89 [EV x] (.bool (decide (hf<x.val))):=by
 intro w hw
 refine Hf func89 rfl hw<|fun hGF=>Xp<|Bx 1 hGF rfl<|fun b1=>Asg rfl<|aa<|Xd []<|fZ hGF isAgg25 sizeOf25 sm (fun _ h=>h.g2) rfl rfl<|La 1 rfl rfl bv<|Ca rfl (jl _)<|Ca rfl (kN _ _ sm sm)<|Asg rfl<|aa<|am<|Rr<|?_
 exact aE rfl rfl (fun w hw=>⟨by rw[←EW],ac hw⟩)
theorem Jj(x:Zp):PUR 189 [EV x,NV RTP] (EV (SQr x)):=by
 have h:=nu x RTP rfl
 rw[JI]at h
 exact h
theorem lq(x:Zp):PUR 172 [EV x] (.tuple #[EV (SQ x),.bool (decide (SQr x*SQr x=x))]):=by
 intro w hw
 refine Hf func172 rfl hw<|fun hGF=>Xp<|Bx 1 hGF rfl<|fun b1=>Al 2 hGF zv52<|fun b2=>Asg rfl<|aa<|Xp<|La 1 rfl rfl bv<|fZ hGF isAgg25 sizeOf25 sm (fun _ h=>h.g6) rfl rfl<|Ca rfl (Jj x)<|Al 4 hGF zv52<|fun b4=>Sa 4 hGF rfl rfl rfl bv<|aa<|ah<|Xd []<|La 4 rfl rfl bv<|Ca rfl (jb _)<|La 1 rfl rfl bv<|Ca rfl (np _ _)<|aY rfl (fun _=>aJ _) rfl rfl<|aa<|?_
 refine bZ rfl (fun hc=> ?_) (fun hc=> ?_)
 ·have hs: ¬SQr x*SQr x=x:=by simpa using hc
  refine Xp<|fO zv52 underlying52 (o5 sizeOf25) rfl rfl<|Sa 2 hGF rfl rfl rfl bv<|Asg rfl<|aa<|am<|Rr<|?_
  exact aZ 2 rfl rfl rfl rfl isAgg52 sizeOf52 sm (fun w hw=>⟨by rw[SQ,if_neg hs,decide_eq_false hs,←kO]<;>rfl,ac hw⟩)
 ·have hs:SQr x*SQr x=x:=by simpa using hc
  clear hc
  refine ap<|ah<|Xp<|La 4 rfl rfl bv<|Ca rfl (fX _)<|aa<|?_
  refine bZ rfl (fun hc=> ?_) (fun hc=> ?_)
  ·simp only[decide_eq_true_eq]at hc
   refine Xq<|La 4 rfl rfl bv<|Ca rfl (dI _)<|Sa 4 hGF rfl rfl rfl bv<|aa<|Xp<|La 4 rfl rfl bv<|Sa 2 hGF rfl rfl rfl bv<|Asg rfl<|aa<|am<|Rr<|?_
   exact aZ 2 rfl rfl rfl rfl isAgg52 sizeOf52 sm (fun w hw=>⟨by rw[SQ,if_pos hs,SQn,if_pos hc,decide_eq_true hs]<;>rfl,ac hw⟩)
  ·simp only[decide_eq_false_iff_not]at hc
   refine ap<|Xp<|La 4 rfl rfl bv<|Sa 2 hGF rfl rfl rfl bv<|Asg rfl<|aa<|am<|Rr<|?_
   exact aZ 2 rfl rfl rfl rfl isAgg52 sizeOf52 sm (fun w hw=>⟨by rw[SQ,if_pos hs,SQn,if_neg hc,decide_eq_true hs]<;>rfl,ac hw⟩)
theorem dM(e:Option Addr)(cap:Nat)(bs:L8)(w:World)(hw:Gt w)(hby:BytesAt w e bs):
 CLS 90 [.slice e bs.length cap].toArray w (fun r w'=>r=.returned (.tuple #[EV (FV bs),.bool (FO bs)])∧Grow w w'):=by
 refine Hf func90 rfl hw<|fun hGF=>Xp<|Al 2 hGF zv52<|fun b2=>Asg rfl<|aa<|ah<|Xp<|Mv rfl<|a5 rfl (fun _=>az underlying22 _ _ _ _) rfl rfl<|Bnr rfl rfl (fun _=>aX _ _ _)<|aa<|?_
 refine bZ rfl (fun hc=> ?_) (fun hc=> ?_)
 ·have hc: ¬bs.length=48:=by simp at hc;omega
  refine Xp<|fO zv52 underlying52 (o5 sizeOf25) rfl rfl<|Sa 2 hGF rfl rfl rfl bv<|Asg rfl<|aa<|am<|Rr<|?_
  exact aZ 2 rfl rfl rfl rfl isAgg52 sizeOf52 sm (fun w hw=>⟨by rw[FV,FO,if_neg (fun h=>hc h.1),decide_eq_false (fun h=>hc h.1),←kO]<;>rfl,ac hw⟩)
 ·have h48:bs.length=48:=by simp at hc;omega
  clear hc
  refine ap<|Xp<|Mv rfl<|Cc rfl ent38 (fun w' hC hG=>nj e bs.length cap bs rfl om w' hG (hby.grow (ac hC)))<|Mv rfl<|Ext rfl rfl<|Ext rfl rfl<|Al 4 hGF zv25<|fun b4=>Sa 4 hGF rfl rfl rfl bK<|Asg rfl<|aa<|ah<|Xp<|Mv rfl<|aY rfl (fun _=>aJ _) rfl rfl<|Mv rfl<|La 4 rfl rfl bK<|fZ hGF isAgg25 sizeOf25 sm (fun _ h=>h.g3) rfl rfl<|Ca rfl (kN _ _ sm sm)<|aY rfl (fun _=>aJ _) rfl rfl<|Pk rfl rfl rfl<|aa<|?_
  refine bZ rfl (fun hc=> ?_) (fun hc=> ?_)
  ·have e0:V (FRs bs bs.length) 6=BN bs 48:=by rw[ru bs om,h48]
   have hl: ¬BN bs 48<PP:=by rw[qa,mY,e0]at hc;simpa using hc
   clear hc
   refine Xp<|fO zv52 underlying52 (o5 sizeOf25) rfl rfl<|Sa 2 hGF rfl rfl rfl bv<|Asg rfl<|aa<|am<|Rr<|?_
   exact aZ 2 rfl rfl rfl rfl isAgg52 sizeOf52 sm (fun w hw=>⟨by rw[FV,FO,if_neg (fun h=>hl h.2),decide_eq_false (fun h=>hl h.2),←kO]<;>rfl,ac hw⟩)
  ·have e0:V (FRs bs bs.length) 6=BN bs 48:=by rw[ru bs om,h48]
   have hl:BN bs 48<PP:=by rw[qa,mY,e0]at hc;simpa using hc
   clear hc
   refine ap<|Xp<|La 4 rfl rfl bK<|Ca rfl (lv _ sm)<|Sa 2 hGF rfl rfl rfl bv<|Asg rfl<|aa<|am<|Rr<|?_
   exact aZ 2 rfl rfl rfl rfl isAgg52 sizeOf52 sm (fun w hw=>⟨by rw[FV,FO,if_pos ⟨h48,hl⟩,decide_eq_true ⟨h48,hl⟩,ru bs om,h48]<;>rfl,ac hw⟩)
structure WSt(w:World)(bs:L8) where
 (k:Nat) (a:Option Addr) (c:Nat)
 hk:k≤bs.length
 hc:bs.length-k≤c
 hb:BytesAt w a (bs.drop k)
 hm:k=0∨(bs.length-k) % 48=0
theorem mO(bs:L8)(k cut:Nat)(h:cut≤bs.length-k):((bs.drop k).take cut).length=cut:=by
 rw[List.length_take,List.length_drop];omega
theorem vY(y:Zp):PUR 137 [EV y,NV TWO] (EV (y*RZ)):=QZ▸gI y RZ
theorem uS(bs:L8)(h:bs.length≤48):PUR 139 [NV (FRs bs bs.length)] (EV (zp (BN bs bs.length))):=ru bs h▸lv (FRs bs bs.length) (aL _ _)
theorem uF(e:Option Addr)(cap:Nat)(bs:L8)(hlen:bs.length≤1000000)(hcap:bs.length≤cap)(w:World)(hw:Gt w)(hby:BytesAt w e bs):
 CLS 262 [.slice e bs.length cap].toArray w (fun r w'=>r=.returned (EV (ZB bs))∧Grow w w'):=by
 refine Hf func262 rfl hw<|fun hGF=>Xp<|Al 2 hGF zv52<|fun b2=>aa<|Xp<|Al 3 hGF zv52<|fun b3=>aa<|ah<|aj<|cG (ι:=WSt w bs) (fun x=>[(0,.slice x.a (bs.length-x.k) x.c),(2,pnt b2),(3,pnt b3)]) (fun x=>[(2,b2,(List.replicate 6 0#64).map U64,52),(3,b3,(fe (zp (BN bs x.k))).map U64,52)]) (fun x=>(bs.length-x.k)) ⟨0,e,cap,Nat.zero_le _,hcap,hby,.inl rfl⟩ hGF trv ⟨rfl,by rw[BN,PV,kO];rfl,trivial⟩<|fun x=>ah<|Xp<|Mv rfl<|a5 rfl (fun _=>az underlying22 _ _ _ _) rfl rfl<|Bnr rfl rfl (fun _=>ba _ _ _)<|aa<|?_
 refine bZ rfl (fun hc=> ?_) (fun hc=> ?_)
 ·have hn:0<(bs.length-x.k):=by simp at hc;omega
  clear hc
  have hlenx:=x.hk
  have hcut:=Ci hn
  have hnext:BytesAt w (if x.c=(((bs.length-x.k)-1) % 48+1)then x.a else x.a.map (·.add ((((bs.length-x.k)-1) % 48+1)*1))) (bs.drop (x.k+(((bs.length-x.k)-1) % 48+1))):=by
   have:=x.hb.drop (cap:=x.c) (l:=(((bs.length-x.k)-1) % 48+1)) (by rw[List.length_drop];exact x.hc) om
   rw[List.drop_drop]at this
   exact this
  have hstep:zp (BN bs x.k)*RZ+zp (BN ((bs.drop x.k).take (((bs.length-x.k)-1) % 48+1)) ((bs.drop x.k).take (((bs.length-x.k)-1) % 48+1)).length)=zp (BN bs (x.k+(((bs.length-x.k)-1) % 48+1))):=by
   rw[mO bs x.k _ hcut.2.1,Hu]
   exact Az bs x.k _ (jf id (OM hn) x.hm)
  refine ap<|aj<|Xp<|Mv rfl<|a5 rfl (fun _=>az underlying22 _ _ _ _) rfl rfl<|Bnr (v:=I (((bs.length-x.k)-1:Nat):Int)) rfl rfl (fun _=>(bu _ _ _ oi).trans (by rw[show ((bs.length-x.k:Nat):Int)-1=((bs.length-x.k-1:Nat):Int) by omega]))<|dH (v:=I ((((bs.length-x.k)-1) % 48:Nat):Int)) rfl rfl (fun _=>rfl) (fun _=>fM _ _ _ dc) rfl rfl<|dH (v:=I (((((bs.length-x.k)-1) % 48+1):Nat):Int)) rfl rfl (fun _=>rfl) (fun _=>aA _ _ _ oi) rfl rfl<|Asg rfl<|aa<|Xp<|Mv rfl<|Mv rfl<|kD (l:=0) (h':=(((bs.length-x.k)-1) % 48+1)) rfl underlying22 sizeOf5 rfl rfl ⟨Nat.zero_le _,Nat.le_trans hcut.2.1 x.hc⟩ rfl rfl<|ma rfl rfl ent38 (fun w' hC hG=>nj _ (((bs.length-x.k)-1) % 48+1) _ ((bs.drop x.k).take (((bs.length-x.k)-1) % 48+1)) (mO bs x.k _ hcut.2.1) hcut.2.2 w' hG ((x.hb.cut 0 (((bs.length-x.k)-1) % 48+1) (by rw[List.length_drop];exact x.hc)).grow (ac hC))) rfl rfl<|Mv rfl<|Ext rfl rfl<|Ext rfl rfl<|Al 5 hGF zv25<|fun b5=>Sa 5 hGF rfl rfl rfl bK<|Asg rfl<|aa<|Xd []<|La 3 rfl rfl bv<|fZ hGF isAgg25 sizeOf25 sm (fun _ h=>h.g5) rfl rfl<|dq rfl sm underlying52 rfl sizeOf25 zv52 rfl rfl<|Ca rfl (vY _)<|La 5 rfl rfl bK<|Ca rfl (uS ((bs.drop x.k).take (((bs.length-x.k)-1) % 48+1)) (by rw[mO bs x.k _ hcut.2.1];exact hcut.2.2))<|Ca rfl (rx _ _)<|Sa 3 hGF rfl rfl rfl bv<|aa<|Xq<|Mv rfl<|Mv rfl<|kD (l:=(((bs.length-x.k)-1) % 48+1)) (h':=(bs.length-x.k)) rfl underlying22 sizeOf5 rfl rfl ⟨hcut.2.1,x.hc⟩ rfl rfl<|Asg rfl<|aa<|?_
  repeat (refine a7 ?_)
  exact aR<|⟨rfl,⟨x.k+(((bs.length-x.k)-1) % 48+1),_,x.c-(((bs.length-x.k)-1) % 48+1),by have:=x.hk;omega,by have:=x.hc;omega,hnext,.inr (by rw[Nat.sub_add_eq];exact hcut.1)⟩,_,by show bs.length-(x.k+(((bs.length-x.k)-1) % 48+1))<bs.length-x.k;omega,rfl,⟨congrArg (fun n=>some (Value.slice _ n _)) (Nat.sub_sub bs.length x.k (((bs.length-x.k)-1) % 48+1)),rfl,rfl,trivial⟩,⟨rfl,by rw[←hstep];rfl,trivial⟩⟩
 ·have hn:x.k=bs.length:=by simp at hc;have:=x.hk;omega
  clear hc
  refine be<|Xp<|La 3 rfl rfl bv<|Sa 2 hGF rfl rfl rfl bv<|aa<|am<|Rr<|?_
  exact ay 2 rfl rfl rfl isAgg52 sizeOf52 sm (fun w hw=>⟨by rw[hn];rfl,ac hw⟩)
end
section
open Go.RowKit
attribute [local simp] aW bd aU aP aD bf aL aK aB PLl cm cq N1l cr cp cu a8 bg
def BTn(bs:L8):Nat→Nat
 |0=>0
 |i+1=>2*BTn bs i+(eM bs i).toNat
theorem Gb(bs:L8)(k j:Nat)(hj:j<8):(eM bs (8*k+j)).toNat=(bs.getD k 0).toNat / 2^(7-j) % 2:=by
 rw[eM,show (8*k+j) / 8=k by omega,show (8*k+j) % 8=j by omega,BitVec.toNat_and,BitVec.toNat_ushiftRight,show (1#8).toNat=1 from rfl,Nat.and_one_is_mod,Nat.shiftRight_eq_div_pow]
theorem Ju{B b q r X:Nat}(hr:r=2*q)(hX:X=B+b / r):2*X+b / q % 2=2*B+b / q:=by
 have e:b / r=b / q / 2:=by rw[hr,Nat.mul_comm,Nat.div_div_eq_div_mul]
 rw[hX,e]
 omega
theorem ux(bs:L8)(k:Nat): ∀j,j≤8→BTn bs (8*k+j)=BTn bs (8*k)*2^j+(bs.getD k 0).toNat / 2^(8-j)
 |0,_=>by
  have h:=(bs.getD k 0).isLt
  rw[Nat.add_zero,Nat.pow_zero,Nat.mul_one,Nat.div_eq_of_lt h,Nat.add_zero]
 |j+1,h=>by
  have ih:=ux bs k j om
  rw[←Nat.add_assoc,BTn,Gb bs k j om,show 8-(j+1)=7-j by omega,Ju (r:=2^(8-j)) (by rw[show 8-j=7-j+1 by omega,Nat.pow_succ,Nat.mul_comm]) ih,Nat.pow_succ,Nat.mul_left_comm,Nat.mul_comm 2 (2^j)]
theorem mI(bs:L8): ∀k,BTn bs (8*k)=BN bs k
 |0=>rfl
 |k+1=>by
  rw[Nat.mul_add,ux bs k 8 (Nat.le_refl _),mI bs k,BN,Nat.sub_self,Nat.pow_zero,Nat.div_one,Nat.mul_comm]
theorem y3(bs:L8)(i:Nat):eM bs i=1#8∧(eM bs i).toNat=1∨¬eM bs i=1#8∧(eM bs i).toNat=0:=by
 by_cases h:eM bs i=1#8
 ·exact .inl ⟨h,by rw[h];rfl⟩
 ·refine .inr ⟨h, ?_⟩
  have e:(eM bs i).toNat≤1:=by
   rw[eM,BitVec.toNat_and,show (1#8).toNat=1 from rfl,Nat.and_one_is_mod]
   omega
  have:(eM bs i).toNat≠1:=fun e1=>h (BitVec.eq_of_toNat_eq (by rw[e1];rfl))
  omega
/-! ### The reference's numbers of many bytes -/
end
section
open Go.RowKit
attribute [local simp] aW bd aU aP aD bf aL aK aB PLl cm cq N1l cr cp cu a8 bg
end
section
theorem tP{a:Zp}(h:a≠0):(-a).val=PP-a.val:=by
 have h0:a.val≠0:=fun e=>h (Fin.ext e)
 have hl:=a.isLt
 have e:zp (PP-a.val)+a=0:=by
  have:zp (PP-a.val)+zp a.val=0:=by rw[←fL,show PP-a.val+a.val=PP by omega,nA]
  rw[Gc]at this
  exact this
 have e2: -a=zp (PP-a.val):=by grind
 rw[e2,eO,Nat.mod_eq_of_lt om]
theorem BD{a:Zp}(h: ¬a=0):(decide (hf<a.val) !=decide (hf<(-a).val))=true:=by
 have hl:=a.isLt
 have hp:=lF
 rw[tP h]
 by_cases h1:hf<a.val
 ·rw[decide_eq_true h1,decide_eq_false om];rfl
 ·rw[decide_eq_false h1,decide_eq_true om];rfl
theorem sA{a:Zp}(h:a≠0):a^hf*a^hf=1:=by
 rw[←qG,show hf+hf=PP-1 by have:=lF;omega,fermat h]
theorem z6{a:Zp}(h:a≠0):a^hf=1∨a^hf= -1:=by
 have e:=sA h
 have:(a^hf-1)*(a^hf+1)=0:=by grind
 rcases kW this with h|h
 ·left;grind
 ·right;grind
theorem sL: ¬(1:Zp)= -1:=fun h=>by
 have h2:(1:Zp)+1=0:=(congrArg (fun z=>z+(1:Zp)) h).trans (by grind)
 have h3:=congrArg Fin.val h2
 rw[Fin.val_add,show (1:Zp).val=1 % PP from rfl,Nat.mod_eq_of_lt pr_p.1,Nat.mod_eq_of_lt (by have:=mN;omega)]at h3
 cases h3
theorem z8(a:Zp):SQr a*SQr a=a^hf*a:=by rw[SQr,←qG,←Nat.two_mul,T5,ps]
theorem p9{a:Zp}(h:SQr a*SQr a=a):SQ a*SQ a=a:=by
 rw[SQ,if_pos h,SQn]
 split
 ·grind
 ·exact h
theorem jZ{a:Zp}(h:SQr a*SQr a=a): ¬hf<(SQ a).val:=by
 rw[SQ,if_pos h,SQn]
 split
 ·rename_i h1
  have h0:SQr a≠0:=fun e=>by rw[e]at h1;exact absurd h1 (Nat.not_lt_zero _)
  rw[tP h0]
  have:=lF
  omega
 ·rename_i h1;exact h1
theorem wR(a:Zp):SQr (a*a)*SQr (a*a)=a*a:=by
 rw[z8]
 by_cases h:a=0
 ·rw[h];grind
 ·rw[Iw,sA h];grind
theorem U2{x y:Zp}(h:x*x=y*y):x=y∨x= -y:=by
 have:(x-y)*(x+y)=0:=by grind
 rcases kW this with h|h
 ·left;grind
 ·right;grind
theorem UX(a:Zp):SQ (a*a)=a∨SQ (a*a)= -a:=U2 (p9 (wR a))
theorem IM(a:Zp)(n:Nat):(-a)^(2*n+1)= -(a^(2*n+1)):=by
 rw[ps,ps,Dn,Dn,show (-a)^2=a^2 by grind];grind
theorem w7(a:Zp):(-a)^hf= -(a^hf):=by
 obtain ⟨n,hn⟩: ∃n,hf=2*n+1:=⟨hf / 2,by have:=Oy;omega⟩
 rw[hn];exact IM a n
theorem rN:zp 2≠0:=fun h=>by
 have:=congrArg Fin.val h
 rw[eO,Nat.mod_eq_of_lt (by have:=mN;omega)]at this
 cases this
theorem Mp:zp 4=zp 2*zp 2∧zp 2=1+1:=⟨iA 2 2,fL 1 1⟩
end
section
abbrev W2:=Zp×Zp
def ad2(x y:W2):W2:=(x.1+y.1,x.2+y.2)
def ng2(x:W2):W2:=(-x.1,-x.2)
def sb2(x y:W2):W2:=(x.1-y.1,x.2-y.2)
def ml2(x y:W2):W2:=(x.1*y.1-x.2*y.2,x.1*y.2+x.2*y.1)
def cj2(x:W2):W2:=(x.1,-x.2)
def sc2(x:W2)(c:Zp):W2:=(x.1*c,x.2*c)
def xi2(x:W2):W2:=(x.1-x.2,x.1+x.2)
def nm2(x:W2):Zp:=x.1*x.1+x.2*x.2
def iv2(x:W2):W2:=(x.1*nm2 x^(PP-2),-x.2*nm2 x^(PP-2))
def on2:W2:=(1,0)
def ze2:W2:=(0,0)
theorem bx{x y:W2}(h1:x.1=y.1)(h2:x.2=y.2):x=y:=Prod.ext h1 h2
def R2:Rg W2 where
 zero:=ze2
 one:=on2
 add:=ad2
 mul:=ml2
 neg:=ng2
 add_assoc:=fun a b c=>bx (by simp only[ad2];grind) (by simp only[ad2];grind)
 add_comm:=fun a b=>bx (by simp only[ad2];grind) (by simp only[ad2];grind)
 add_zero:=fun a=>bx (by simp only[ad2,ze2];grind) (by simp only[ad2,ze2];grind)
 add_neg:=fun a=>bx (by simp only[ad2,ng2,ze2];grind) (by simp only[ad2,ng2,ze2];grind)
 mul_assoc:=fun a b c=>bx (by simp only[ml2];grind) (by simp only[ml2];grind)
 mul_comm:=fun a b=>bx (by simp only[ml2];grind) (by simp only[ml2];grind)
 mul_one:=fun a=>bx (by simp only[ml2,on2];grind) (by simp only[ml2,on2];grind)
 mul_add:=fun a b c=>bx (by simp only[ml2,ad2];grind) (by simp only[ml2,ad2];grind)
theorem ly(x y:W2):sb2 x y=ad2 x (ng2 y):=bx (by simp only[sb2,ad2,ng2];grind) (by simp only[sb2,ad2,ng2];grind)
theorem Cw(x:W2):xi2 x=ml2 x (1,1):=bx (by simp only[xi2,ml2];grind) (by simp only[xi2,ml2];grind)
theorem fT(x y:W2):nm2 (ml2 x y)=nm2 x*nm2 y:=by simp only[nm2,ml2];grind
theorem PO(x:W2):ml2 x (cj2 x)=(nm2 x,0):=bx (by simp only[ml2,cj2,nm2];grind) (by simp only[ml2,cj2];grind)
theorem fI(x y:W2):cj2 (ml2 x y)=ml2 (cj2 x) (cj2 y):=bx (by simp only[ml2,cj2];grind) (by simp only[ml2,cj2];grind)
theorem IE(x y:W2):cj2 (ad2 x y)=ad2 (cj2 x) (cj2 y):=bx (by simp only[ad2,cj2]) (by simp only[ad2,cj2];grind)
/-! ### -1 is no square -/
theorem sO{a:Zp}(h:a≠0):(a*a)^hf=1:=by rw[Iw,sA h]
theorem Bz{a:Zp}(h:0= -a):a=0:=by grind
theorem qN(a:Zp):a*1=a:=by grind
theorem Ad(a:Zp): -(-a)=a:=by grind
theorem ib(a:Zp):a*0=0:=by grind
theorem Ax{a b:Zp}(h:a*a+b*b=0):b=0:=by
 by_cases hb:b=0
 ·exact hb
 ·exfalso
  have e:a*a= -(b*b):=by grind
  have e2:(a*a)^hf= -1:=by rw[e,w7,sO hb]
  by_cases ha:a=0
  ·obtain ⟨n,hn⟩:=OC
   rw[ha,ib,hn,Ku]at e2
   exact kK (Bz e2)
  ·rw[sO ha]at e2
   exact sL e2
theorem oT{x:W2}(h:nm2 x=0):x=ze2:=by
 have h1:=Ax h
 have h2:=Ax (a:=x.2) (b:=x.1) (by rw[←h];simp only[nm2];grind)
 exact bx h2 h1
theorem VC:(0:Zp)+0=0:=sm
theorem Ou:nm2 ze2=0:=by simp only[nm2,ze2];rw[ib,VC]
theorem Ox{x:W2}(h:x≠ze2):nm2 x≠0:=fun e=>h (oT e)
theorem cQ{x:W2}(h:x≠ze2):ml2 x (iv2 x)=on2:=by
 have hz:=qQ (Ox h)
 have e:nm2 x=x.1*x.1+x.2*x.2:=rfl
 have k: ∀j:Zp,nm2 x*j=1→ml2 x (x.1*j,-x.2*j)=on2:=fun j hj=>by
  rw[e]at hj
  refine bx ?_ ?_
  ·simp only[ml2,on2];grind
  ·simp only[ml2,on2];grind
 exact k _ hz
theorem fA{x y:W2}(h:ml2 x y=ze2):x=ze2∨y=ze2:=by
 have e:=fT x y
 rw[h,Ou]at e
 rcases kW e.symm with h|h
 ·exact .inl (oT h)
 ·exact .inr (oT h)
/-! ### Powers -/
def pw2(x:W2)(n:Nat):W2:=R2.pw x n
theorem nt(x:W2)(n:Nat):pw2 x (n+1)=ml2 (pw2 x n) x:=rfl
theorem rT(x:W2)(m n:Nat):pw2 x (m+n)=ml2 (pw2 x m) (pw2 x n):=R2.pw_add x m n
theorem yM(x:W2)(m n:Nat):pw2 x (m*n)=pw2 (pw2 x m) n:=R2.pw_mul x m n
theorem I7(x y:W2)(n:Nat):pw2 (ml2 x y) n=ml2 (pw2 x n) (pw2 y n):=R2.mul_pw x y n
theorem tL(a:Zp):0*a=0:=by grind
theorem Og:(0:Zp)+0=0:=sm
theorem mZ(a b:Zp):ml2 (a,0) (b,0)=(a*b,0):=bx (by simp only[ml2];grind) (by simp only[ml2];rw[ib,tL,Og])
theorem Nc(a b:Zp):ml2 (a,0) (0,b)=(0,a*b):=bx (by simp only[ml2];rw[ib,tL];simp) (by simp only[ml2];grind)
theorem sy(a b:Zp):ml2 (0,a) (0,b)=(-(a*b),0):=bx (by simp only[ml2];grind) (by simp only[ml2];rw[ib,tL,Og])
theorem nY:(1:Zp)*1=1:=qN 1
theorem z_nn(a:Zp): -a* -a=a*a:=by grind
theorem wp(a:Zp): ∀n,pw2 (a,0) n=(a^n,0)
 |0=>bx (p0 a).symm rfl
 |n+1=>by rw[nt,wp a n,mZ,ps]
theorem VH:pw2 (0,1) PP=(0,-1):=by
 have h1:pw2 (0,1) 1=(0,1):=R2.pw_one _
 have h2:pw2 (0,1) 2=(-1,0):=by rw[nt,h1,sy,nY]
 have h3:pw2 (0,1) 3=(0,-1):=by rw[nt,h2,Nc,qN]
 have h4:pw2 (0,1) 4=on2:=by rw[nt,h3,sy,qN,Ad];rfl
 obtain ⟨k,hk⟩: ∃k,PP=4*k+3:=⟨PP / 4,by have:=s6;omega⟩
 have e:pw2 (0,1) PP=pw2 (0,1) (4*k+3):=congrArg (fun n=>pw2 (0,1) n) hk
 have h5:pw2 on2 k=on2:=R2.one_pw k
 rw[e,rT,yM,h4,h3,h5]
 exact R2.one_mul _
theorem E7(a:Zp):a^PP=a:=by
 by_cases h:a=0
 ·rw[h];exact Ku PQ
 ·have e:a^PP=a^(PP-1+1):=congrArg (fun n=>a^n) (show PQ+1=PQ+1-1+1 from rfl)
  rw[e,ps,fermat h];grind
theorem xG: ∀n,R2.nat n=(zp n,0)
 |0=>rfl
 |n+1=>by
  show ad2 (R2.nat n) on2=_
  rw[xG n]
  exact bx (by simp only[ad2,on2];rw[fL,Vc]) Og
theorem Gi(x:W2):pw2 x PP=cj2 x:=by
 have e:x=ad2 (x.1,0) (ml2 (x.2,0) (0,1)):=bx (by simp only[ad2,ml2];grind) (by simp only[ad2,ml2];grind)
 have hf:=R2.frob pr_p ((xG PP).trans (by rw[nA];rfl)) (x.1,0) (ml2 (x.2,0) (0,1))
 have h2:pw2 x PP=ad2 (pw2 (x.1,0) PP) (pw2 (ml2 (x.2,0) (0,1)) PP):=(congrArg (fun y=>pw2 y PP) e).trans hf
 rw[h2,I7,wp,wp,VH,E7,E7]
 exact bx (by simp only[ad2,ml2,cj2];grind) (by simp only[ad2,ml2,cj2];grind)
/-! ### Roots -/
theorem PZ{x y:W2}(h:ml2 x x=ml2 y y):x=y∨x=ng2 y:=by
 have hk:ml2 (sb2 x y) (ad2 x y)=ze2:=by
  have h1:=congrArg Prod.fst h
  have h2:=congrArg Prod.snd h
  simp only[ml2]at h1 h2
  refine bx ?_ ?_
  ·simp only[ml2,sb2,ad2,ze2];grind
  ·simp only[ml2,sb2,ad2,ze2];grind
 rcases fA hk with h|h
 ·left
  have h1:=congrArg Prod.fst h
  have h2:=congrArg Prod.snd h
  simp only[sb2,ze2]at h1 h2
  exact bx (by grind) (by grind)
 ·right
  have h1:=congrArg Prod.fst h
  have h2:=congrArg Prod.snd h
  simp only[ad2,ze2]at h1 h2
  exact bx (by simp only[ng2];grind) (by simp only[ng2];grind)
def LG2(x:W2):Bool:=if x.2=0 then decide (hf<x.1.val)else decide (hf<x.2.val)
theorem rc{a:Zp}(h:a≠0):decide (hf<(-a).val)= !decide (hf<a.val):=by
 have:=BD h
 cases h1:decide (hf<a.val)<;>cases h2:decide (hf<(-a).val)<;>rw[h1,h2]at this<;>first|rfl|cases this
theorem mG{a:Zp}: -a=0↔a=0:=⟨fun h=>by grind,fun h=>by rw[h];grind⟩
theorem og{x:W2}(h:x≠ze2):LG2 (ng2 x)= !LG2 x:=by
 unfold LG2 ng2
 by_cases h2:x.2=0
 ·rw[if_pos (mG.2 h2),if_pos h2]
  exact rc fun e=>h (bx e h2)
 ·rw[if_neg (fun e=>h2 (mG.1 e)),if_neg h2]
  exact rc h2
theorem sV:LG2 ze2=false:=by decide+kernel
theorem Dx:ng2 ze2=ze2:=bx (by simp only[ng2,ze2];grind) (by simp only[ng2,ze2];grind)
theorem FP(x:W2):ml2 (ng2 x) (ng2 x)=ml2 x x:=bx (by simp only[ml2,ng2];grind) (by simp only[ml2,ng2];grind)
theorem AQ{x y:W2}(h:ml2 x x=ml2 y y)(hx:LG2 x=false)(hy:LG2 y=false):x=y:=by
 rcases PZ h with e|e
 ·exact e
 ·by_cases h0:y=ze2
  ·rw[e,h0,Dx]
  ·rw[e,og h0,hy]at hx;cases hx
def IsQ(a:Zp):Prop:=SQr a*SQr a=a
theorem pn{a s:Zp}(h:s*s=a):IsQ a:=by rw[←h];exact wR s
theorem ic(a:Zp):IsQ a↔a=0∨a^hf=1:=by
 unfold IsQ
 rw[z8]
 constructor
 ·intro h
  by_cases h0:a=0
  ·exact .inl h0
  ·right
   have:(a^hf-1)*a=0:=by grind
   rcases kW this with h|h
   ·grind
   ·exact absurd h h0
 ·rintro (h|h)
  ·rw[h];grind
  ·rw[h];grind
theorem tu(a:Zp):IsQ a∨IsQ (-a):=by
 by_cases h:a=0
 ·exact .inl ((ic a).2 (.inl h))
 ·rcases z6 h with h1|h1
  ·exact .inl ((ic a).2 (.inr h1))
  ·right
   refine (ic (-a)).2 (.inr ?_)
   rw[w7,h1];grind
theorem lZ{a b c:Zp}(h:a*b= -(c*c))(hc:c≠0):(IsQ a∧¬IsQ b)∨(¬IsQ a∧IsQ b):=by
 have ha:a≠0:=fun e=>hc (Ax (a:=0) (b:=c) (by rw[e]at h;grind))
 have hb:b≠0:=fun e=>hc (Ax (a:=0) (b:=c) (by rw[e]at h;grind))
 have e:a^hf*b^hf= -1:=by rw[←Iw,h,w7,sO hc]
 rcases z6 ha with h1|h1
 ·left
  refine ⟨(ic a).2 (.inr h1),fun k=> ?_⟩
  rcases (ic b).1 k with k|k
  ·exact hb k
  ·rw[h1,k]at e;exact sL (by grind)
 ·right
  refine ⟨fun k=> ?_,(ic b).2 (.inr (by rw[h1]at e;grind))⟩
  rcases (ic a).1 k with k|k
  ·exact ha k
  ·rw[h1]at k;exact sL k.symm
theorem nI(a:Zp):IsQ (a*a):=pn rfl
theorem lH{x s:W2}(h:ml2 s s=x):IsQ (nm2 x):=by rw[←h,fT];exact nI _
theorem tU{x:W2}{n s t h2:Zp}(hn:n*n=nm2 x)(h2e:(1+1)*h2=1)(hs:s*s=(x.1+n)*h2∨s*s=(x.1-n)*h2)(ht:s*t=1):ml2 (s,x.2*h2*t) (s,x.2*h2*t)=x:=by
 have e:nm2 x=x.1*x.1+x.2*x.2:=rfl
 rw[e]at hn
 have key:s*s-x.2*h2*t*(x.2*h2*t)=x.1:=by
  have e1:x.2*h2*t*(x.2*h2*t)=(x.2*x.2)*(h2*h2)*(t*t):=by grind
  have e2:x.2*x.2=n*n-x.1*x.1:=by grind
  rcases hs with hs|hs
  ·have e3:(n*n-x.1*x.1)*(h2*h2)=s*s*((n-x.1)*h2):=by grind
   have e4:s*s*((n-x.1)*h2)*(t*t)=(n-x.1)*h2:=by
    have:s*s*(t*t)=1:=by grind
    grind
   rw[e1,e2,e3,e4,hs]
   grind
  ·have e3:(n*n-x.1*x.1)*(h2*h2)=s*s*(-(n+x.1)*h2):=by grind
   have e4:s*s*(-(n+x.1)*h2)*(t*t)= -(n+x.1)*h2:=by
    have:s*s*(t*t)=1:=by grind
    grind
   rw[e1,e2,e3,e4,hs]
   grind
 refine bx key ?_
 simp only[ml2]
 have e5:s*(x.2*h2*t)+x.2*h2*t*s=x.2*((1+1)*h2)*(s*t):=by grind
 rw[e5,h2e,ht]
 grind
theorem Aq: ∃j:Zp,(1+1)*j=1:=⟨zp 2^(PP-2),by have h:=qQ rN;rw[show (1+1:Zp)=zp 2 from Mp.2.symm];exact h⟩
theorem JS{x:W2}{n j:Zp}(hn:n*n=nm2 x):((x.1+n)*j)*((x.1-n)*j)= -(x.2*j*(x.2*j)):=by
 have hn':n*n=x.1*x.1+x.2*x.2:=hn
 grind
theorem Ix{x:W2}{j:Zp}(hj:(1+1)*j=1)(h2:x.2≠0):x.2*j≠0:=fun e=>by
 rcases kW e with e|e
 ·exact h2 e
 ·rw[e]at hj;exact kK (hj.symm.trans (ib _))
theorem It{a b c:Zp}(h:a*b= -(c*c))(hc:c≠0):a≠0∧b≠0:=
 ⟨fun e=>hc (Ax (a:=0) (b:=c) (by rw[e]at h;grind)),fun e=>hc (Ax (a:=0) (b:=c) (by rw[e]at h;grind))⟩
theorem Gl{a:Zp}(h:IsQ a)(h0:a≠0):SQr a≠0:=fun e=>h0 (by
 have h':SQr a*SQr a=a:=h
 rw[e,ib]at h'
 exact h'.symm)
theorem iS(x:W2):(∃s,ml2 s s=x)↔IsQ (nm2 x):=by
 refine ⟨fun ⟨s,h⟩=>lH h,fun h=> ?_⟩
 by_cases h2:x.2=0
 ·rcases tu x.1 with hq|hq
  ·exact ⟨(SQr x.1,0),by rw[mZ,show SQr x.1*SQr x.1=x.1 from hq];exact bx rfl h2.symm⟩
  ·exact ⟨(0,SQr (-x.1)),by rw[sy,show SQr (-x.1)*SQr (-x.1)= -x.1 from hq,Ad];exact bx rfl h2.symm⟩
 ·obtain ⟨j,hj⟩:=Aq
  have hp:=JS (x:=x) (j:=j) (n:=SQr (nm2 x)) h
  have hb:=Ix hj h2
  have hne:=It hp hb
  rcases lZ hp hb with ⟨hq,_⟩|⟨_,hq⟩
  ·exact ⟨_,tU h hj (.inl hq) (qQ (Gl hq hne.1))⟩
  ·exact ⟨_,tU h hj (.inr hq) (qQ (Gl hq hne.2))⟩
end
section
/-! ### Equality, signs -/
theorem BU{x y:W2}(h:x.1=y.1):decide (x.2=y.2)=decide (x=y):=decide_eq_decide.2 ⟨fun h'=>bx h h',fun h'=>by rw[h']⟩
theorem DF{x y:W2}(h: ¬x.1=y.1):false=decide (x=y):=(decide_eq_false fun h'=>h (by rw[h'])).symm
def SG2(x:W2):Int:=if x.1.val % 2=1 then 1 else if x.1=0 then (if x.2.val % 2=1 then 1 else 0)else 0
/-! ### Powers by digits -/
def fe2(x:W2):L6:=fe x.1++fe x.2
theorem aQ(x:W2):(fe2 x).length=12:=by rw[fe2,List.length_append,aW,aW]
def SP2(x:W2)(i:Nat):L6:=FM (fun j=>if j<i then fe2 (pw2 x j)else fe2 ze2) 16
theorem a6(x:W2)(i:Nat):(SP2 x i).length=192:=bc _ _
/-! ### Roots -/
theorem Kp{a:Zp}(h: ¬hf<a.val):LG2 (a,0)=false:=by
 show (if (0:Zp)=0 then decide (hf<a.val)else decide (hf<(0:Zp).val))=false
 rw[if_pos rfl];exact decide_eq_false h
theorem WG{a:Zp}(h: ¬hf<a.val):LG2 (0,a)=false:=by
 show (if a=0 then decide (hf<(0:Zp).val)else decide (hf<a.val))=false
 split
 ·exact decide_eq_false (Nat.not_lt_zero _)
 ·exact decide_eq_false h
def RO(c:Zp):W2:=if SQr c*SQr c=c then (SQ c,0)else (0,SQ (-c))
theorem sU{c:Zp}(h: ¬SQr c*SQr c=c):SQr (-c)*SQr (-c)= -c:=(tu c).resolve_left h
theorem Lb(c:Zp):ml2 (RO c) (RO c)=(c,0):=by
 unfold RO
 split
 ·rename_i h
  rw[mZ,p9 h]
 ·rename_i h
  rw[sy,p9 (sU h),Ad]
theorem FK(c:Zp):LG2 (RO c)=false:=by
 unfold RO
 split
 ·rename_i h
  exact Kp (jZ h)
 ·rename_i h
  exact WG (jZ (sU h))
theorem rb_a{s t j a b n:Zp}(ht:t*t=s+s)(hj:t*j=1)(hs:s=a+n)(hn:n*n=a*a+b*b):s*j*(s*j)-b*j*(b*j)=a:=by
 have e:(s+s)*(j*j)=1:=by
  rw[←ht]
  have:t*t*(j*j)=(t*j)*(t*j):=by grind
  rw[this,hj,nY]
 have e2:s*s-b*b=(s+s)*a:=by
  subst hs
  grind
 have e3:s*j*(s*j)-b*j*(b*j)=(s*s-b*b)*(j*j):=by grind
 have e4:(s+s)*a*(j*j)=(s+s)*(j*j)*a:=by grind
 rw[e3,e2,e4,e]
 grind
theorem rb_b{s t j b:Zp}(ht:t*t=s+s)(hj:t*j=1):s*j*(b*j)+b*j*(s*j)=b:=by
 have e:(s+s)*(j*j)=1:=by
  rw[←ht]
  have:t*t*(j*j)=(t*j)*(t*j):=by grind
  rw[this,hj,nY]
 have e3:s*j*(b*j)+b*j*(s*j)=(s+s)*(j*j)*b:=by grind
 rw[e3,e]
 grind
theorem rb_c{s t j a b n:Zp}(ht:t*t= -(s+s))(hj:t*j=1)(hs:s=a+n)(hn:n*n=a*a+b*b):b*j*(b*j)- -s*j*(-s*j)=a:=by
 have e: -(s+s)*(j*j)=1:=by
  rw[←ht]
  have:t*t*(j*j)=(t*j)*(t*j):=by grind
  rw[this,hj,nY]
 have e2:b*b-s*s= -(s+s)*a:=by
  subst hs
  grind
 have e3:b*j*(b*j)- -s*j*(-s*j)=(b*b-s*s)*(j*j):=by grind
 have e4: -(s+s)*a*(j*j)= -(s+s)*(j*j)*a:=by grind
 rw[e3,e2,e4,e]
 grind
theorem rb_d{s t j b:Zp}(ht:t*t= -(s+s))(hj:t*j=1):b*j*(-s*j)+ -s*j*(b*j)=b:=by
 have e: -(s+s)*(j*j)=1:=by
  rw[←ht]
  have:t*t*(j*j)=(t*j)*(t*j):=by grind
  rw[this,hj,nY]
 have e3:b*j*(-s*j)+ -s*j*(b*j)= -(s+s)*(j*j)*b:=by grind
 rw[e3,e]
 grind
theorem OI{s:Zp}(h:s≠0):s+s≠0:=fun e=>by
 obtain ⟨j,hj⟩:=Aq
 have:s=(s+s)*j:=by
  have e1:(s+s)*j=s*((1+1)*j):=by grind
  rw[e1,hj,qN]
 rw[e,tL]at this
 exact h this
theorem NU{a b n:Zp}(hn:n*n=a*a+b*b)(hb:b≠0):a+n≠0:=fun e=>by
 have:b*b=(a+n)*(n-a):=by grind
 rw[e,tL]at this
 exact hb ((kW this).elim id id)
theorem KE{a t:Zp}(h:t*t=a)(ha:a≠0):t≠0:=fun e=>ha (by rw[←h,e,ib])
def RBs(x:W2)(n:Zp):Zp:=x.1+n+(x.1+n)
def RB(x:W2)(n:Zp):W2:=
 if SQr (RBs x n)*SQr (RBs x n)=RBs x n then ((x.1+n)*SQ (RBs x n)^(PP-2),x.2*SQ (RBs x n)^(PP-2))
 else (x.2*SQ (-RBs x n)^(PP-2),-(x.1+n)*SQ (-RBs x n)^(PP-2))
theorem WD{x:W2}{n:Zp}(hn:n*n=nm2 x)(h2:x.2≠0):ml2 (RB x n) (RB x n)=x:=by
 have hd:RBs x n≠0:=OI (NU hn h2)
 have hm: -RBs x n≠0:=fun e=>hd (mG.1 e)
 unfold RB
 split
 ·rename_i h
  have e:=p9 h
  have hj:=qQ (KE e hd)
  generalize SQ (RBs x n)^(PP-2)=j at*
  generalize SQ (RBs x n)=t at*
  exact bx (rb_a e hj rfl hn) (rb_b e hj)
 ·rename_i h
  have e:=p9 (sU h)
  have hj:=qQ (KE e hm)
  generalize SQ (-RBs x n)^(PP-2)=j at*
  generalize SQ (-RBs x n)=t at*
  exact bx (rb_c e hj rfl hn) (rb_d e hj)
def NL(x:W2):W2:=if LG2 x=true then ng2 x else x
theorem GU(x:W2):ml2 (NL x) (NL x)=ml2 x x:=by
 unfold NL
 split
 ·exact FP x
 ·rfl
theorem oN(x:W2):LG2 (NL x)=false:=by
 unfold NL
 split
 ·rename_i h
  have hx:x≠ze2:=fun e=>by rw[e,sV]at h;cases h
  rw[og hx,h];rfl
 ·rename_i h
  exact Bool.eq_false_iff.2 h
theorem kI{x r q:W2}(hr:ml2 r r=x)(hl:LG2 r=false)(hq:ml2 q q=x)(hl':LG2 q=false):q=r:=AQ (hq.trans hr.symm) hl' hl
theorem HZ{x r:W2}(hr:ml2 r r=x)(hl:LG2 r=false)(h:x.2=0):RO x.1=r:=kI hr hl ((Lb x.1).trans (bx rfl h.symm)) (FK _)
theorem y9{x r:W2}(hr:ml2 r r=x)(hl:LG2 r=false)(h:x.2≠0):NL (RB x (SQ (nm2 x)))=r:=kI hr hl ((GU _).trans (WD (p9 (lH hr)) h)) (oN _)
theorem Vu{x:W2}(h: ¬IsQ (nm2 x)):x.2≠0:=fun e=>h ((iS x).1 ⟨RO x.1,(Lb x.1).trans (bx rfl e.symm)⟩)
end
section
open Go.RowKit
theorem pg: ∀k,cel (List.replicate k 0)=List.replicate (6*k) 0#64
 |0=>rfl
 |k+1=>by rw[List.replicate_succ,iJ,pg k,kO,List.replicate_append_replicate];congr 1;omega
theorem iG{t k:Nat}(h: ∀w,(zeroValue t).run prog w=.ok (aT (List.replicate (6*k) 0#64)) w): ∀w,(zeroValue t).run prog w=.ok (.agg (clv (List.replicate k 0)).toArray) w:=fun w=>by rw[clv,pg];exact h w
def szL:List (Nat×Nat):=[(25,1),(27,1),(37,1),(39,1),(41,2),(43,6),(52,1),(54,3),(92,2),(94,6),(142,2),(182,9),(231,6),(233,12),(262,6),(264,12),(288,6),(293,16),(307,12),(321,4),(322,16)]
def fsL:List (Nat×List (Nat×Nat)):=[(27,[(0,1)]),(39,[(0,1)]),(41,[(0,1),(1,1)]),(43,[(0,2),(2,2),(4,2)]),(52,[(0,1)]),(54,[(0,1),(1,1),(2,1)]),(92,[(0,1),(1,1)]),(94,[(0,2),(2,2),(4,2)]),(182,[(0,3),(3,6)]),(231,[(0,2),(2,2),(4,2)]),(233,[(0,6),(6,6)]),(262,[(0,2),(2,2),(4,2)]),(264,[(0,1),(1,1),(2,2),(4,2),(6,2),(8,2),(10,2)]),(321,[(0,2),(2,2)])]
abbrev ia(t k:Nat):Prop:=(∀w,(isAgg t).run prog w=.ok true w)∧(∀w,(sizeOf t).run prog w=.ok (6*k) w)∧∀w,(zeroValue t).run prog w=.ok (.agg (clv (List.replicate k 0)).toArray) w
theorem sz25:ia 25 1:=⟨isAgg25,sizeOf25,iG fun w=>(zeroValue25 w).trans rr⟩
theorem sz27:ia 27 1:=⟨isAgg27,sizeOf27,iG fun w=>(zeroValue27 w).trans rr⟩
theorem sz37:ia 37 1:=⟨isAgg37,sizeOf37,iG fun w=>(zeroValue37 w).trans rr⟩
theorem sz39:ia 39 1:=⟨isAgg39,sizeOf39,iG fun w=>(zeroValue39 w).trans rr⟩
theorem sz41:ia 41 2:=⟨isAgg41,sizeOf41,iG fun w=>(zeroValue41 w).trans rr⟩
theorem sz43:ia 43 6:=⟨isAgg43,sizeOf43,iG fun w=>(zeroValue43 w).trans rr⟩
theorem sz52:ia 52 1:=⟨isAgg52,sizeOf52,iG fun w=>(zeroValue52 w).trans rr⟩
theorem sz54:ia 54 3:=⟨isAgg54,sizeOf54,iG fun w=>(zeroValue54 w).trans rr⟩
theorem sz92:ia 92 2:=⟨isAgg92,sizeOf92,iG fun w=>(zeroValue92 w).trans rr⟩
theorem sz94:ia 94 6:=⟨isAgg94,sizeOf94,iG fun w=>(zeroValue94 w).trans rr⟩
theorem Vg:ia 142 2:=⟨isAgg142,sizeOf142,iG fun w=>(zeroValue142 w).trans rr⟩
theorem Tp:ia 182 9:=⟨isAgg182,sizeOf182,iG fun w=>(zeroValue182 w).trans rr⟩
theorem UN:ia 231 6:=⟨isAgg231,sizeOf231,iG fun w=>(zeroValue231 w).trans rr⟩
theorem T3:ia 233 12:=⟨isAgg233,sizeOf233,iG fun w=>(zeroValue233 w).trans rr⟩
theorem UP:ia 262 6:=⟨isAgg262,sizeOf262,iG fun w=>(zeroValue262 w).trans rr⟩
theorem Sd:ia 264 12:=⟨isAgg264,sizeOf264,iG fun w=>(zeroValue264 w).trans rr⟩
theorem S8:ia 288 6:=⟨isAgg288,sizeOf288,iG fun w=>(zeroValue288 w).trans rr⟩
theorem Wg:ia 293 16:=⟨isAgg293,sizeOf293,iG fun w=>(zeroValue293 w).trans rr⟩
theorem UV:ia 307 12:=⟨isAgg307,sizeOf307,iG fun w=>(zeroValue307 w).trans rr⟩
theorem UY:ia 321 4:=⟨isAgg321,sizeOf321,iG fun w=>(zeroValue321 w).trans rr⟩
theorem Sf:ia 322 16:=⟨isAgg322,sizeOf322,iG fun w=>(zeroValue322 w).trans rr⟩
theorem szOk(t k:Nat)(h:nR szL t=some k):ia t k:=by
 have h:=jQ h
 simp only[szL,List.mem_cons,List.not_mem_nil,or_false,Prod.mk.injEq]at h
 rcases h with ⟨rfl,rfl⟩|⟨rfl,rfl⟩|⟨rfl,rfl⟩|⟨rfl,rfl⟩|⟨rfl,rfl⟩|⟨rfl,rfl⟩|⟨rfl,rfl⟩|⟨rfl,rfl⟩|⟨rfl,rfl⟩|⟨rfl,rfl⟩|⟨rfl,rfl⟩|⟨rfl,rfl⟩|⟨rfl,rfl⟩|⟨rfl,rfl⟩|⟨rfl,rfl⟩|⟨rfl,rfl⟩|⟨rfl,rfl⟩|⟨rfl,rfl⟩|⟨rfl,rfl⟩|⟨rfl,rfl⟩|⟨rfl,rfl⟩
 ·exact sz25
 ·exact sz27
 ·exact sz37
 ·exact sz39
 ·exact sz41
 ·exact sz43
 ·exact sz52
 ·exact sz54
 ·exact sz92
 ·exact sz94
 ·exact Vg
 ·exact Tp
 ·exact UN
 ·exact T3
 ·exact UP
 ·exact Sd
 ·exact S8
 ·exact Wg
 ·exact UV
 ·exact UY
 ·exact Sf
abbrev lw(t:Nat)(l:List (Nat×Nat)):Prop:= ∃fields,prog.underlying t=some (.struct fields)∧(∀w,(Array.mapM (fun f=>Prod.mk f.offset<$>sizeOf f.type) fields:Sem _).run prog w=.ok (l.map (fun p=>(6*p.1,6*p.2))).toArray w)∧∀(i:Nat) (p:Nat×Nat),l[i]? =some p→∃(fd:Field) (m:Nat),fields[i]? =some fd∧fd.offset=6*p.1∧m≠0∧∀w,(sizeOf fd.type).run prog w=.ok m w
theorem fs27:lw 27 [(0,1)]:=by
 refine ⟨_,underlying27,fun w=>by simp[sizeOf25],fun i p h=> ?_⟩
 match i,h with
 |0,h=>cases h;exact ⟨_,6,rfl,rfl,dc,sizeOf25⟩
 |n+1,h=>simp at h
theorem fs39:lw 39 [(0,1)]:=by
 refine ⟨_,underlying39,fun w=>by simp[sizeOf37],fun i p h=> ?_⟩
 match i,h with
 |0,h=>cases h;exact ⟨_,6,rfl,rfl,dc,sizeOf37⟩
 |n+1,h=>simp at h
theorem fs41:lw 41 [(0,1),(1,1)]:=by
 refine ⟨_,underlying41,fun w=>by simp[sizeOf39],fun i p h=> ?_⟩
 match i,h with
 |0,h=>cases h;exact ⟨_,6,rfl,rfl,dc,sizeOf39⟩
 |1,h=>cases h;exact ⟨_,6,rfl,rfl,dc,sizeOf39⟩
 |n+2,h=>simp at h
theorem fs43:lw 43 [(0,2),(2,2),(4,2)]:=by
 refine ⟨_,underlying43,fun w=>by simp[sizeOf41],fun i p h=> ?_⟩
 match i,h with
 |0,h=>cases h;exact ⟨_,12,rfl,rfl,dc,sizeOf41⟩
 |1,h=>cases h;exact ⟨_,12,rfl,rfl,dc,sizeOf41⟩
 |2,h=>cases h;exact ⟨_,12,rfl,rfl,dc,sizeOf41⟩
 |n+3,h=>simp at h
theorem fs52:lw 52 [(0,1)]:=by
 refine ⟨_,underlying52,fun w=>by simp[sizeOf25],fun i p h=> ?_⟩
 match i,h with
 |0,h=>cases h;exact ⟨_,6,rfl,rfl,dc,sizeOf25⟩
 |n+1,h=>simp at h
theorem fs54:lw 54 [(0,1),(1,1),(2,1)]:=by
 refine ⟨_,underlying54,fun w=>by simp[sizeOf52],fun i p h=> ?_⟩
 match i,h with
 |0,h=>cases h;exact ⟨_,6,rfl,rfl,dc,sizeOf52⟩
 |1,h=>cases h;exact ⟨_,6,rfl,rfl,dc,sizeOf52⟩
 |2,h=>cases h;exact ⟨_,6,rfl,rfl,dc,sizeOf52⟩
 |n+3,h=>simp at h
theorem fs92:lw 92 [(0,1),(1,1)]:=by
 refine ⟨_,underlying92,fun w=>by simp[sizeOf52],fun i p h=> ?_⟩
 match i,h with
 |0,h=>cases h;exact ⟨_,6,rfl,rfl,dc,sizeOf52⟩
 |1,h=>cases h;exact ⟨_,6,rfl,rfl,dc,sizeOf52⟩
 |n+2,h=>simp at h
theorem fs94:lw 94 [(0,2),(2,2),(4,2)]:=by
 refine ⟨_,underlying94,fun w=>by simp[sizeOf92],fun i p h=> ?_⟩
 match i,h with
 |0,h=>cases h;exact ⟨_,12,rfl,rfl,dc,sizeOf92⟩
 |1,h=>cases h;exact ⟨_,12,rfl,rfl,dc,sizeOf92⟩
 |2,h=>cases h;exact ⟨_,12,rfl,rfl,dc,sizeOf92⟩
 |n+3,h=>simp at h
theorem VW:lw 182 [(0,3),(3,6)]:=by
 refine ⟨_,underlying182,fun w=>by simp[sizeOf54,sizeOf94],fun i p h=> ?_⟩
 match i,h with
 |0,h=>cases h;exact ⟨_,18,rfl,rfl,dc,sizeOf54⟩
 |1,h=>cases h;exact ⟨_,36,rfl,rfl,dc,sizeOf94⟩
 |n+2,h=>simp at h
theorem WY:lw 231 [(0,2),(2,2),(4,2)]:=by
 refine ⟨_,underlying231,fun w=>by simp[sizeOf92],fun i p h=> ?_⟩
 match i,h with
 |0,h=>cases h;exact ⟨_,12,rfl,rfl,dc,sizeOf92⟩
 |1,h=>cases h;exact ⟨_,12,rfl,rfl,dc,sizeOf92⟩
 |2,h=>cases h;exact ⟨_,12,rfl,rfl,dc,sizeOf92⟩
 |n+3,h=>simp at h
theorem R7:lw 233 [(0,6),(6,6)]:=by
 refine ⟨_,underlying233,fun w=>by simp[sizeOf231],fun i p h=> ?_⟩
 match i,h with
 |0,h=>cases h;exact ⟨_,36,rfl,rfl,dc,sizeOf231⟩
 |1,h=>cases h;exact ⟨_,36,rfl,rfl,dc,sizeOf231⟩
 |n+2,h=>simp at h
theorem UQ:lw 262 [(0,2),(2,2),(4,2)]:=by
 refine ⟨_,underlying262,fun w=>by simp[sizeOf92],fun i p h=> ?_⟩
 match i,h with
 |0,h=>cases h;exact ⟨_,12,rfl,rfl,dc,sizeOf92⟩
 |1,h=>cases h;exact ⟨_,12,rfl,rfl,dc,sizeOf92⟩
 |2,h=>cases h;exact ⟨_,12,rfl,rfl,dc,sizeOf92⟩
 |n+3,h=>simp at h
theorem WN:lw 264 [(0,1),(1,1),(2,2),(4,2),(6,2),(8,2),(10,2)]:=by
 refine ⟨_,underlying264,fun w=>by simp[sizeOf52,sizeOf92],fun i p h=> ?_⟩
 match i,h with
 |0,h=>cases h;exact ⟨_,6,rfl,rfl,dc,sizeOf52⟩
 |1,h=>cases h;exact ⟨_,6,rfl,rfl,dc,sizeOf52⟩
 |2,h=>cases h;exact ⟨_,12,rfl,rfl,dc,sizeOf92⟩
 |3,h=>cases h;exact ⟨_,12,rfl,rfl,dc,sizeOf92⟩
 |4,h=>cases h;exact ⟨_,12,rfl,rfl,dc,sizeOf92⟩
 |5,h=>cases h;exact ⟨_,12,rfl,rfl,dc,sizeOf92⟩
 |6,h=>cases h;exact ⟨_,12,rfl,rfl,dc,sizeOf92⟩
 |n+7,h=>simp at h
theorem Wa:lw 321 [(0,2),(2,2)]:=by
 refine ⟨_,underlying321,fun w=>by simp[sizeOf92],fun i p h=> ?_⟩
 match i,h with
 |0,h=>cases h;exact ⟨_,12,rfl,rfl,dc,sizeOf92⟩
 |1,h=>cases h;exact ⟨_,12,rfl,rfl,dc,sizeOf92⟩
 |n+2,h=>simp at h
theorem fsOk(t:Nat)(l:List (Nat×Nat))(h:nR fsL t=some l):lw t l:=by
 have h:=jQ h
 simp only[fsL,List.mem_cons,List.not_mem_nil,or_false,Prod.mk.injEq]at h
 rcases h with ⟨rfl,rfl⟩|⟨rfl,rfl⟩|⟨rfl,rfl⟩|⟨rfl,rfl⟩|⟨rfl,rfl⟩|⟨rfl,rfl⟩|⟨rfl,rfl⟩|⟨rfl,rfl⟩|⟨rfl,rfl⟩|⟨rfl,rfl⟩|⟨rfl,rfl⟩|⟨rfl,rfl⟩|⟨rfl,rfl⟩|⟨rfl,rfl⟩
 ·exact fs27
 ·exact fs39
 ·exact fs41
 ·exact fs43
 ·exact fs52
 ·exact fs54
 ·exact fs92
 ·exact fs94
 ·exact VW
 ·exact WY
 ·exact R7
 ·exact UQ
 ·exact WN
 ·exact Wa
abbrev mD(t k:Nat):Prop:=(∀(op:BinOp) (x y:Operand) (xs ys:Array Value) (w:World),(eqGuard op t x y (.agg xs) (.agg ys)).run prog w=.ok () w)∧∃d0,d0≤100∧EqF prog t (6*k) d0
theorem Va:mD 25 1:=⟨fun op x y xs ys w=>run_eqGuard_agg w op 25 x y xs ys kr,2,dc,(cx underlying25 underlying24 sizeOf24 isAgg24)⟩
theorem WC:mD 27 1:=⟨fun op x y xs ys w=>run_eqGuard_agg w op 27 x y xs ys kr,3,dc,(cS underlying27 rfl dc kr isAgg25 sizeOf25 (cx underlying25 underlying24 sizeOf24 isAgg24))⟩
theorem Uw:mD 37 1:=⟨fun op x y xs ys w=>run_eqGuard_agg w op 37 x y xs ys kr,2,dc,(cx underlying37 underlying24 sizeOf24 isAgg24)⟩
theorem VL:mD 39 1:=⟨fun op x y xs ys w=>run_eqGuard_agg w op 39 x y xs ys kr,3,dc,(cS underlying39 rfl dc kr isAgg37 sizeOf37 (cx underlying37 underlying24 sizeOf24 isAgg24))⟩
theorem S4:mD 41 2:=⟨fun op x y xs ys w=>run_eqGuard_agg w op 41 x y xs ys kr,4,dc,(fU (m:=6) (n:=6) underlying41 rfl rfl dc dc kr isAgg39 sizeOf39 (cS underlying39 rfl dc kr isAgg37 sizeOf37 (cx underlying37 underlying24 sizeOf24 isAgg24)) isAgg39 sizeOf39 (cS underlying39 rfl dc kr isAgg37 sizeOf37 (cx underlying37 underlying24 sizeOf24 isAgg24)))⟩
theorem UI:mD 52 1:=⟨fun op x y xs ys w=>run_eqGuard_agg w op 52 x y xs ys kr,3,dc,(cS underlying52 rfl dc kr isAgg25 sizeOf25 (cx underlying25 underlying24 sizeOf24 isAgg24))⟩
theorem RY:mD 92 2:=⟨fun op x y xs ys w=>run_eqGuard_agg w op 92 x y xs ys kr,4,dc,(fU (m:=6) (n:=6) underlying92 rfl rfl dc dc kr isAgg52 sizeOf52 (cS underlying52 rfl dc kr isAgg25 sizeOf25 (cx underlying25 underlying24 sizeOf24 isAgg24)) isAgg52 sizeOf52 (cS underlying52 rfl dc kr isAgg25 sizeOf25 (cx underlying25 underlying24 sizeOf24 isAgg24)))⟩
theorem O4:mD 142 2:=⟨fun op x y xs ys w=>run_eqGuard_agg w op 142 x y xs ys kr,2,dc,(cx underlying142 underlying24 sizeOf24 isAgg24)⟩
theorem OE:mD 288 6:=⟨fun op x y xs ys w=>run_eqGuard_agg w op 288 x y xs ys kr,5,dc,(lY (k:=3) (n:=12) dc underlying288 isAgg92 sizeOf92 (fU (m:=6) (n:=6) underlying92 rfl rfl dc dc kr isAgg52 sizeOf52 (cS underlying52 rfl dc kr isAgg25 sizeOf25 (cx underlying25 underlying24 sizeOf24 isAgg24)) isAgg52 sizeOf52 (cS underlying52 rfl dc kr isAgg25 sizeOf25 (cx underlying25 underlying24 sizeOf24 isAgg24))))⟩
theorem Pj:mD 293 16:=⟨fun op x y xs ys w=>run_eqGuard_agg w op 293 x y xs ys kr,4,dc,(lY (k:=16) (n:=6) dc underlying293 isAgg52 sizeOf52 (cS underlying52 rfl dc kr isAgg25 sizeOf25 (cx underlying25 underlying24 sizeOf24 isAgg24)))⟩
theorem O2:mD 307 12:=⟨fun op x y xs ys w=>run_eqGuard_agg w op 307 x y xs ys kr,5,dc,(lY (k:=6) (n:=12) dc underlying307 isAgg92 sizeOf92 (fU (m:=6) (n:=6) underlying92 rfl rfl dc dc kr isAgg52 sizeOf52 (cS underlying52 rfl dc kr isAgg25 sizeOf25 (cx underlying25 underlying24 sizeOf24 isAgg24)) isAgg52 sizeOf52 (cS underlying52 rfl dc kr isAgg25 sizeOf25 (cx underlying25 underlying24 sizeOf24 isAgg24))))⟩
theorem PT:mD 321 4:=⟨fun op x y xs ys w=>run_eqGuard_agg w op 321 x y xs ys kr,5,dc,(fU (m:=12) (n:=12) underlying321 rfl rfl dc dc kr isAgg92 sizeOf92 (fU (m:=6) (n:=6) underlying92 rfl rfl dc dc kr isAgg52 sizeOf52 (cS underlying52 rfl dc kr isAgg25 sizeOf25 (cx underlying25 underlying24 sizeOf24 isAgg24)) isAgg52 sizeOf52 (cS underlying52 rfl dc kr isAgg25 sizeOf25 (cx underlying25 underlying24 sizeOf24 isAgg24))) isAgg92 sizeOf92 (fU (m:=6) (n:=6) underlying92 rfl rfl dc dc kr isAgg52 sizeOf52 (cS underlying52 rfl dc kr isAgg25 sizeOf25 (cx underlying25 underlying24 sizeOf24 isAgg24)) isAgg52 sizeOf52 (cS underlying52 rfl dc kr isAgg25 sizeOf25 (cx underlying25 underlying24 sizeOf24 isAgg24))))⟩
theorem Qn:mD 322 16:=⟨fun op x y xs ys w=>run_eqGuard_agg w op 322 x y xs ys kr,6,dc,(lY (k:=4) (n:=24) dc underlying322 isAgg321 sizeOf321 (fU (m:=12) (n:=12) underlying321 rfl rfl dc dc kr isAgg92 sizeOf92 (fU (m:=6) (n:=6) underlying92 rfl rfl dc dc kr isAgg52 sizeOf52 (cS underlying52 rfl dc kr isAgg25 sizeOf25 (cx underlying25 underlying24 sizeOf24 isAgg24)) isAgg52 sizeOf52 (cS underlying52 rfl dc kr isAgg25 sizeOf25 (cx underlying25 underlying24 sizeOf24 isAgg24))) isAgg92 sizeOf92 (fU (m:=6) (n:=6) underlying92 rfl rfl dc dc kr isAgg52 sizeOf52 (cS underlying52 rfl dc kr isAgg25 sizeOf25 (cx underlying25 underlying24 sizeOf24 isAgg24)) isAgg52 sizeOf52 (cS underlying52 rfl dc kr isAgg25 sizeOf25 (cx underlying25 underlying24 sizeOf24 isAgg24)))))⟩
def eqL:List (Nat×Nat):=[(25,1),(27,1),(37,1),(39,1),(41,2),(52,1),(92,2),(142,2),(288,6),(293,16),(307,12),(321,4),(322,16)]
theorem eqOk(t k:Nat)(h:(nR eqL t).isSome=true)(hk:nR szL t=some k):mD t k:=by
 obtain ⟨q,hq⟩:=Option.isSome_iff_exists.1 h
 have h:=jQ hq
 simp only[eqL,List.mem_cons,List.not_mem_nil,or_false,Prod.mk.injEq]at h
 rcases h with ⟨rfl,rfl⟩|⟨rfl,rfl⟩|⟨rfl,rfl⟩|⟨rfl,rfl⟩|⟨rfl,rfl⟩|⟨rfl,rfl⟩|⟨rfl,rfl⟩|⟨rfl,rfl⟩|⟨rfl,rfl⟩|⟨rfl,rfl⟩|⟨rfl,rfl⟩|⟨rfl,rfl⟩|⟨rfl,rfl⟩
 ·cases hk;exact Va
 ·cases hk;exact WC
 ·cases hk;exact Uw
 ·cases hk;exact VL
 ·cases hk;exact S4
 ·cases hk;exact UI
 ·cases hk;exact RY
 ·cases hk;exact O4
 ·cases hk;exact OE
 ·cases hk;exact Pj
 ·cases hk;exact O2
 ·cases hk;exact PT
 ·cases hk;exact Qn
def arL:List (Nat×Nat):=[(288,2),(293,1),(307,2),(322,4)]
theorem arOk(t m:Nat)(h:nR arL t=some m): ∃n e,prog.underlying t=some (.array n e)∧∀w,(sizeOf e).run prog w=.ok (6*m) w:=by
 have h:=jQ h
 simp only[arL,List.mem_cons,List.not_mem_nil,or_false,Prod.mk.injEq]at h
 rcases h with ⟨rfl,rfl⟩|⟨rfl,rfl⟩|⟨rfl,rfl⟩|⟨rfl,rfl⟩
 ·exact ⟨_,92,underlying288,sizeOf92⟩
 ·exact ⟨_,52,underlying293,sizeOf52⟩
 ·exact ⟨_,92,underlying307,sizeOf92⟩
 ·exact ⟨_,321,underlying322,sizeOf321⟩
theorem boOk(t:Nat)(h:[4].any (Nat.beq t)=true):prog.underlying t=some .bool:=by
 simp only[List.any_cons,List.any_nil,Bool.or_false]at h
 rw[Nat.eq_of_beq_eq_true h];exact underlying4
def TB:Tb prog Gt:=⟨nR szL,nR fsL,[],szOk,fsOk,(fun _ h=>by cases h),fun t=>(nR eqL t).isSome,eqOk,nR arL,arOk,fun t=>[4].any (Nat.beq t),boOk⟩
theorem Qi{P:Program}{G:Cls}(T:Tb P G){f:Nat}{c:List S0→Option S1}(h:Snd P G f c): ∀e∈(f,c)::T.ct,Snd P G e.1 e.2:=fun e he=>by
 rcases List.mem_cons.1 he with rfl|he
 ·exact h
 ·exact T.hct e he
def Tb.add{P:Program}{G:Cls}(T:Tb P G){f:Nat}{c:List S0→Option S1}(h:Snd P G f c):Tb P G:={T with ct:=(f,c)::T.ct,hct:=Qi T h}
theorem gtS(w:World)(h:Gt w):BOk Gt (pl w):=gt_low.plain h
end
section
open Go.RowKit
attribute [local simp] aW bd aU aP aD bf aL aK aB PLl cm cq N1l cr cp cu a8 bg aQ a6 bc
theorem ent239:ai prog 239:=fun _ _=>kr
theorem ent253:ai prog 253:=fun _ _=>kr
theorem ent197:ai prog 197:=fun _ _=>kr
theorem ent232:ai prog 232:=fun _ _=>kr
theorem ent203:ai prog 203:=fun _ _=>kr
theorem ent224:ai prog 224:=fun _ _=>kr
theorem ent198:ai prog 198:=fun _ _=>kr
theorem ent150:ai prog 150:=fun _ _=>kr
theorem ent149:ai prog 149:=fun _ _=>kr
theorem ent199:ai prog 199:=fun _ _=>kr
theorem ent278:ai prog 278:=fun _ _=>kr
theorem ent148:ai prog 148:=fun _ _=>kr
theorem ent200:ai prog 200:=fun _ _=>kr
theorem ent255:ai prog 255:=fun _ _=>kr
theorem ent256:ai prog 256:=fun _ _=>kr
theorem ent272:ai prog 272:=fun _ _=>kr
theorem ent97:ai prog 97:=fun _ _=>kr
abbrev EV2(x:W2):Value:=aT (fe x.1++fe x.2)
theorem zf52(w:World):(zeroValue 52).run prog w=.ok (aT (fe 0)) w:=by rw[kO];exact (zeroValue52 w).trans rr
theorem zv92(w:World):(zeroValue 92).run prog w=.ok (aT (fe 0++fe 0)) w:=by rw[kO];exact (zeroValue92 w).trans rr
theorem fo:Two prog 92 ⟨ "C0",52,0,false, "", "",0⟩ ⟨ "C1",52,6,false, "", "",48⟩ 6 6 (fe 0) (fe 0):=⟨underlying92,rfl,rfl,sizeOf52,sizeOf52,zv92,aW 0,aW 0⟩
theorem e2{a b c d:Zp}(h1:a=c)(h2:b=d):Ending.returned (aT (fe a++fe b))=.returned (aT (fe c++fe d)):=by rw[h1,h2]
theorem rb{a b:Bool}(h:a=b):Ending.returned (.bool a)=.returned (.bool b):=by rw[h]
def q3:Sh (Zp×Zp×Zp):=q1.two (q1.two q1 1) 1
theorem pE{f:FuncId}{fn:Func}{c:Code}(T:Tb prog Gt)(hf:prog.funcs[f]? =some fn)(a:List S0)(v:S1)(vc:S1×CB)(p:Pa)(h:xF T fn c a p=some vc)(hc:Ok vc.2)(e:vc.1=v)(hb:fn.body=some c:=by rfl)(hn:Nat.ble a.length fn.ntmps=true:=by rfl):PUR f (a.map (dn rid)) (dn1 rid v):=by rw[←e];exact Qk (v:=vc.1) (cs:=vc.2) T dC gtS hf hb h hc hn rid
theorem el2{a b c d:Zp}(h1:a=c)(h2:b=d):(Sum.inl (Sum.inl [a,b]):S1)=.inl (.inl [c,d]):=by rw[h1,h2]
theorem eb{a b:Bool}(h:a=b):(Sum.inl (.inr (.inl a)):S1)=.inl (.inr (.inl b)):=by rw[h]
theorem ei{a b:Int}(h:a=b):(Sum.inl (.inr (.inr (.inl (I a)))):S1)=.inl (.inr (.inr (.inl (I b)))):=by rw[h]
theorem eY{f:Nat}{g:Zp→Zp→Zp}(en:ai prog f)(h: ∀a b,PUR f [EV a,EV b] (EV (g a b))):Snd prog Gt f (c2 q1.ag q1.ag q1.rd g):=ge q1.ag q1.ag q1.rd en h
def TO1:Tb prog Gt:=TB.add (eY (g:=fun x y=>x*y) ent137 gI)
theorem BH{f:Nat}{g:BitVec 64→Zp}(en:ai prog f)(h: ∀a,PUR f [U64 a] (EV (g a))):Snd prog Gt f (c1 agU q1.rd g):=f8 agU q1.rd en h
def TO2:Tb prog Gt:=TO1.add (BH (g:=fun n=>zp n.toNat) ent140 dP)
theorem ph{f:Nat}{g:Zp→Zp→Bool}(en:ai prog f)(h: ∀a b,PUR f [EV a,EV b] (.bool (g a b))):Snd prog Gt f (c2 q1.ag q1.ag rdB g):=ge q1.ag q1.ag rdB en h
def TO3:Tb prog Gt:=TO2.add (ph (g:=fun x y=>decide (x=y)) ent209 np)
theorem mW{f:Nat}{g:Zp→Bool}(en:ai prog f)(h: ∀a,PUR f [EV a] (.bool (g a))):Snd prog Gt f (c1 q1.ag rdB g):=f8 q1.ag rdB en h
def TO4:Tb prog Gt:=TO3.add (mW (g:=fun x=>decide (x=0)) ent63 r7)
def TO5:Tb prog Gt:=TO4.add (eY (g:=fun x y=>x+y) ent201 rx)
def TO6:Tb prog Gt:=TO5.add (eY (g:=fun x y=>x-y) ent191 m3)
theorem gN{f:Nat}{g:Zp→Zp}(en:ai prog f)(h: ∀a,PUR f [EV a] (EV (g a))):Snd prog Gt f (c1 q1.ag q1.rd g):=f8 q1.ag q1.rd en h
def TO7:Tb prog Gt:=TO6.add (gN (g:=fun x=> -x) ent173 dI)
def TO8:Tb prog Gt:=TO7.add (gN (g:=fun x=>x*x) ent136 jb)
theorem wC{f:Nat}{g:Zp}(en:ai prog f)(h:PUR f [U64 1#64] (EV g)):Snd prog Gt f (c1 (agL 1) q1.rd (fun _=>g)):=f8 (agL 1) q1.rd en (fun _=>h)
def TO9:Tb prog Gt:=TO8.add (wC (g:=1) ent140 ri)
def TO10:Tb prog Gt:=TO9.add (gN (g:=fun x=>x^(PP-2)) ent135 BJ)
def TO11:Tb prog Gt:=TO10.add (mW (g:=fun x=>decide (x.val % 2=1)) ent289 BO)
def TO12:Tb prog Gt:=TO11.add (mW (g:=fun x=>decide (hf<x.val)) ent89 fX)
theorem u6{f:Nat}{g:Zp→Zp}{k:Zp→Bool}(en:ai prog f)(h: ∀a,PUR f [EV a] (.tuple #[EV (g a),.bool (k a)])):Snd prog Gt f (c1 q1.ag q1.rdB (fun a=>((g a),(k a)))):=f8 q1.ag q1.rdB en h
def TO13:Tb prog Gt:=TO12.add (u6 (g:=SQ) (k:=fun x=>decide (SQr x*SQr x=x)) ent172 lq)
theorem q8  :PUR 239 [] (EV2 on2):=pE TO13 func239 [] (.inl (.inl [on2.1,on2.2])) (.inl (.inl [1,0]),[]) [] kr aI rfl
theorem yy{f:Nat}{g:W2}(en:ai prog f)(h:PUR f [] (EV2 g)):Snd prog Gt f (c0 q2.rd g):=uq q2.rd en h
def TO24:Tb prog Gt:=TO13.add (yy (g:=on2) ent239 q8)
theorem tS(x y:W2):PUR 253 [EV2 x,EV2 y] (.bool (decide (x=y))):=by
 by_cases h:x.1=y.1
 ·exact pE TO24 func253 [.inl [x.1,x.2],.inl [y.1,y.2]] (.inl (.inr (.inl (decide (x=y))))) (.inl (.inr (.inl (decide (x.2=y.2)))),[(decide (x.1=y.1),true)]) [some true] kr (aw (decide_eq_true h) aI) (eb (BU h))
 ·exact pE TO24 func253 [.inl [x.1,x.2],.inl [y.1,y.2]] (.inl (.inr (.inl (decide (x=y))))) (.inl (.inr (.inl false)),[(decide (x.1=y.1),false)]) [some false] kr (aw (decide_eq_false h) aI) (eb (DF h))
theorem qw{f:Nat}{g:W2→W2→Bool}(en:ai prog f)(h: ∀a b,PUR f [EV2 a,EV2 b] (.bool (g a b))):Snd prog Gt f (c2 q2.ag q2.ag rdB g):=ge q2.ag q2.ag rdB en h
def TO25:Tb prog Gt:=TO24.add (qw (g:=fun x y=>decide (x=y)) ent253 tS)
theorem uy(x:W2):PUR 197 [EV2 x] (.bool (decide (x=ze2))):=by
 by_cases h:x.1=0
 ·exact pE TO25 func197 [.inl [x.1,x.2]] (.inl (.inr (.inl (decide (x=ze2))))) (.inl (.inr (.inl (decide (x.2=0)))),[(decide (x.1=0),true)]) [some true] kr (aw (decide_eq_true h) aI) (eb (BU (y:=ze2) h))
 ·exact pE TO25 func197 [.inl [x.1,x.2]] (.inl (.inr (.inl (decide (x=ze2))))) (.inl (.inr (.inl false)),[(decide (x.1=0),false)]) [some false] kr (aw (decide_eq_false h) aI) (eb (DF (y:=ze2) h))
theorem rA{f:Nat}{g:W2→Bool}(en:ai prog f)(h: ∀a,PUR f [EV2 a] (.bool (g a))):Snd prog Gt f (c1 q2.ag rdB g):=f8 q2.ag rdB en h
def TO26:Tb prog Gt:=TO25.add (rA (g:=fun x=>decide (x=ze2)) ent197 uy)
theorem eH(x y:W2):PUR 232 [EV2 x,EV2 y] (EV2 (ad2 x y)):=pE TO26 func232 [.inl [x.1,x.2],.inl [y.1,y.2]] (.inl (.inl [(ad2 x y).1,(ad2 x y).2])) (.inl (.inl [x.1+y.1,x.2+y.2]),[]) [] kr aI rfl
theorem eU{f:Nat}{g:W2→W2→W2}(en:ai prog f)(h: ∀a b,PUR f [EV2 a,EV2 b] (EV2 (g a b))):Snd prog Gt f (c2 q2.ag q2.ag q2.rd g):=ge q2.ag q2.ag q2.rd en h
def TO27:Tb prog Gt:=TO26.add (eU (g:=ad2) ent232 eH)
theorem jT(x y:W2):PUR 203 [EV2 x,EV2 y] (EV2 (sb2 x y)):=pE TO27 func203 [.inl [x.1,x.2],.inl [y.1,y.2]] (.inl (.inl [(sb2 x y).1,(sb2 x y).2])) (.inl (.inl [x.1-y.1,x.2-y.2]),[]) [] kr aI rfl
def TO28:Tb prog Gt:=TO27.add (eU (g:=sb2) ent203 jT)
theorem CA(x:W2):PUR 224 [EV2 x] (EV2 (ng2 x)):=pE TO28 func224 [.inl [x.1,x.2]] (.inl (.inl [(ng2 x).1,(ng2 x).2])) (.inl (.inl [-x.1,-x.2]),[]) [] kr aI rfl
theorem fg{f:Nat}{g:W2→W2}(en:ai prog f)(h: ∀a,PUR f [EV2 a] (EV2 (g a))):Snd prog Gt f (c1 q2.ag q2.rd g):=f8 q2.ag q2.rd en h
def TO29:Tb prog Gt:=TO28.add (fg (g:=ng2) ent224 CA)
theorem mM(x:W2):PUR 198 [EV2 x] (EV2 (cj2 x)):=pE TO29 func198 [.inl [x.1,x.2]] (.inl (.inl [(cj2 x).1,(cj2 x).2])) (.inl (.inl [x.1,-x.2]),[]) [] kr aI rfl
def TO30:Tb prog Gt:=TO29.add (fg (g:=cj2) ent198 mM)
theorem dh(x y:W2):PUR 150 [EV2 x,EV2 y] (EV2 (ml2 x y)):=pE TO30 func150 [.inl [x.1,x.2],.inl [y.1,y.2]] (.inl (.inl [(ml2 x y).1,(ml2 x y).2])) (let t0:=(x.1+x.2)*(y.1+y.2);let t1:=(x.1*y.1)-(x.2*y.2);let t2:=t0-(x.1*y.1);let t3:=t2-(x.2*y.2);(.inl (.inl [t1,t3]),[])) [] kr aI (el2 (by first|(simp only[ml2];done)|(simp only[ml2];grind)) (by first|(simp only[ml2];done)|(simp only[ml2];grind)))
def TO31:Tb prog Gt:=TO30.add (eU (g:=ml2) ent150 dh)
theorem h9(x:W2):PUR 149 [EV2 x] (EV2 (ml2 x x)):=pE TO31 func149 [.inl [x.1,x.2]] (.inl (.inl [(ml2 x x).1,(ml2 x x).2])) (let t0:=(x.1+x.2)*(x.1-x.2);let t1:=(x.1*x.2)+(x.1*x.2);(.inl (.inl [t0,t1]),[])) [] kr aI (el2 (by first|(simp only[ml2];done)|(simp only[ml2];grind)) (by first|(simp only[ml2];done)|(simp only[ml2];grind)))
def TO32:Tb prog Gt:=TO31.add (fg (g:=fun x=>ml2 x x) ent149 h9)
theorem Ii(x:W2)(c:Zp):PUR 199 [EV2 x,EV c] (EV2 (sc2 x c)):=pE TO32 func199 [.inl [x.1,x.2],.inl [c]] (.inl (.inl [(sc2 x c).1,(sc2 x c).2])) (.inl (.inl [x.1*c,x.2*c]),[]) [] kr aI rfl
theorem jG{f:Nat}{g:W2→Zp→W2}(en:ai prog f)(h: ∀a b,PUR f [EV2 a,EV b] (EV2 (g a b))):Snd prog Gt f (c2 q2.ag q1.ag q2.rd g):=ge q2.ag q1.ag q2.rd en h
def TO33:Tb prog Gt:=TO32.add (jG (g:=sc2) ent199 Ii)
theorem AO(x:W2):PUR 278 [EV2 x] (EV2 (xi2 x)):=pE TO33 func278 [.inl [x.1,x.2]] (.inl (.inl [(xi2 x).1,(xi2 x).2])) (.inl (.inl [x.1-x.2,x.1+x.2]),[]) [] kr aI rfl
def TO34:Tb prog Gt:=TO33.add (fg (g:=xi2) ent278 AO)
theorem M6(x:W2):PUR 200 [EV2 x] (EV (nm2 x)):=pE TO34 func200 [.inl [x.1,x.2]] (.inl (.inl [nm2 x])) (let t0:=(x.1*x.1)+(x.2*x.2);(.inl (.inl [t0]),[])) [] kr aI rfl
theorem xl{f:Nat}{g:W2→Zp}(en:ai prog f)(h: ∀a,PUR f [EV2 a] (EV (g a))):Snd prog Gt f (c1 q2.ag q1.rd g):=f8 q2.ag q1.rd en h
def TO35:Tb prog Gt:=TO34.add (xl (g:=nm2) ent200 M6)
theorem DR(x:W2):PUR 148 [EV2 x] (EV2 (iv2 x)):=pE TO35 func148 [.inl [x.1,x.2]] (.inl (.inl [(iv2 x).1,(iv2 x).2])) (let t0:=cj2 x;let t1:=(nm2 x)^(PP-2);let t2:=sc2 (t0.1,t0.2) t1;(.inl (.inl [t2.1,t2.2]),[])) [] kr aI rfl
def TO36:Tb prog Gt:=TO35.add (fg (g:=iv2) ent148 DR)
end
section
open Go.RowKit
attribute [local simp] aW bd aU aP aD bf aL aK aB PLl cm cq N1l cr cp cu a8 bg aQ a6 bc
theorem KG{x:W2}(h:x.2=0):decide (hf<x.1.val)=LG2 x:=by rw[LG2,if_pos h]
theorem MQ{x:W2}(h: ¬x.2=0):decide (hf<x.2.val)=LG2 x:=by rw[LG2,if_neg h]
theorem UJ{x:W2}(h:hf<x.2.val):true=LG2 x:=by
 have h0: ¬x.2=0:=fun e=>by rw[e]at h;exact Nat.not_lt_zero _ h
 rw[←MQ h0,decide_eq_true h]
theorem Ue{x:W2}(h: ¬hf<x.2.val)(h0: ¬x.2=0):false=LG2 x:=by rw[←MQ h0,decide_eq_false h]
theorem TU{x:W2}(h:x.1.val % 2=1):1=SG2 x:=by rw[SG2,if_pos h]
theorem Ud{x:W2}(h: ¬x.1.val % 2=1)(h0:x.1=0)(h2:x.2.val % 2=1):1=SG2 x:=by rw[SG2,if_neg h,if_pos h0,if_pos h2]
theorem Wu{x:W2}(h: ¬x.1.val % 2=1)(h0:x.1=0)(h2: ¬x.2.val % 2=1):0=SG2 x:=by rw[SG2,if_neg h,if_pos h0,if_neg h2]
theorem Tr{x:W2}(h: ¬x.1.val % 2=1)(h0: ¬x.1=0):0=SG2 x:=by rw[SG2,if_neg h,if_neg h0]
theorem ou(x:W2):PUR 97 [EV2 x] (.bool (LG2 x)):=by
 by_cases h:hf<x.2.val
 ·exact pE TO36 func97 [.inl [x.1,x.2]] (.inl (.inr (.inl (LG2 x)))) (.inl (.inr (.inl true)),[(decide (hf<x.2.val),true)]) [some true] kr (aw (decide_eq_true h) aI) (eb (UJ h))
 ·by_cases h0:x.2=0
  ·exact pE TO36 func97 [.inl [x.1,x.2]] (.inl (.inr (.inl (LG2 x)))) (.inl (.inr (.inl (decide (hf<x.1.val)))),[(decide (hf<x.2.val),false),(decide (x.2=0),true)]) [some false,some true] kr (aw (decide_eq_false h) (aw (decide_eq_true h0) aI)) (eb (KG h0))
  ·exact pE TO36 func97 [.inl [x.1,x.2]] (.inl (.inr (.inl (LG2 x)))) (.inl (.inr (.inl false)),[(decide (hf<x.2.val),false),(decide (x.2=0),false)]) [some false,some false] kr (aw (decide_eq_false h) (aw (decide_eq_false h0) aI)) (eb (Ue h h0))
def TO39:Tb prog Gt:=TO36.add (rA (g:=LG2) ent97 ou)
theorem vj(x:W2):PUR 272 [EV2 x] (I (SG2 x)):=by
 by_cases h:x.1.val % 2=1
 ·exact pE TO39 func272 [.inl [x.1,x.2]] (.inl (.inr (.inr (.inl (I (SG2 x)))))) (.inl (.inr (.inr (.inl (I 1)))),[(decide (x.1.val % 2=1),true)]) [some true] kr (aw (decide_eq_true h) aI) (ei (TU h))
 ·by_cases h0:x.1=0
  ·by_cases h2:x.2.val % 2=1
   ·exact pE TO39 func272 [.inl [x.1,x.2]] (.inl (.inr (.inr (.inl (I (SG2 x)))))) (.inl (.inr (.inr (.inl (I 1)))),[(decide (x.1.val % 2=1),false),(decide (x.1=0),true),(decide (x.2.val % 2=1),true)]) [some false,some true,some true] kr (aw (decide_eq_false h) (aw (decide_eq_true h0) (aw (decide_eq_true h2) aI))) (ei (Ud h h0 h2))
   ·exact pE TO39 func272 [.inl [x.1,x.2]] (.inl (.inr (.inr (.inl (I (SG2 x)))))) (.inl (.inr (.inr (.inl (I 0)))),[(decide (x.1.val % 2=1),false),(decide (x.1=0),true),(decide (x.2.val % 2=1),false)]) [some false,some true,some false] kr (aw (decide_eq_false h) (aw (decide_eq_true h0) (aw (decide_eq_false h2) aI))) (ei (Wu h h0 h2))
  ·exact pE TO39 func272 [.inl [x.1,x.2]] (.inl (.inr (.inr (.inl (I (SG2 x)))))) (.inl (.inr (.inr (.inl (I 0)))),[(decide (x.1.val % 2=1),false),(decide (x.1=0),false)]) [some false,some false] kr (aw (decide_eq_false h) (aw (decide_eq_false h0) aI)) (ei (Tr h h0))
theorem AF{f:Nat}{g:W2→Value}(en:ai prog f)(h: ∀a,PUR f [EV2 a] ((g a))):Snd prog Gt f (c1 q2.ag rdV g):=f8 q2.ag rdV en h
def TO40:Tb prog Gt:=TO39.add (AF (g:=fun x=>I (SG2 x)) ent272 vj)
theorem sj(c:Zp):PUR 255 [EV c] (EV2 (RO c)):=by
 by_cases h:SQr c*SQr c=c
 ·exact pE TO40 func255 [.inl [c]] (.inl (.inl [(RO c).1,(RO c).2])) (.inl (.inl [SQ c,0]),[(decide (SQr c*SQr c=c),true)]) [some true] kr (aw (decide_eq_true h) aI) (by rw[show RO c=(SQ c,0)from if_pos h]<;>exact rfl)
 ·exact pE TO40 func255 [.inl [c]] (.inl (.inl [(RO c).1,(RO c).2])) (.inl (.inl [0,SQ (-c)]),[(decide (SQr c*SQr c=c),false)]) [some false] kr (aw (decide_eq_false h) aI) (by rw[show RO c=(0,SQ (-c))from if_neg h]<;>exact rfl)
theorem xq{f:Nat}{g:Zp→W2}(en:ai prog f)(h: ∀a,PUR f [EV a] (EV2 (g a))):Snd prog Gt f (c1 q1.ag q2.rd g):=f8 q1.ag q2.rd en h
def TO51:Tb prog Gt:=TO40.add (xq (g:=RO) ent255 sj)
theorem Ev(x:W2)(n:Zp):PUR 256 [EV2 x,EV n] (EV2 (RB x n)):=by
 by_cases h:SQr (RBs x n)*SQr (RBs x n)=RBs x n
 ·exact pE TO51 func256 [.inl [x.1,x.2],.inl [n]] (.inl (.inl [(RB x n).1,(RB x n).2])) (let t0:=(x.1+n)+(x.1+n);let t1:=(SQ t0)^(PP-2);let t2:=(x.1+n)*t1;(.inl (.inl [t2,x.2*t1]),[(decide (SQr t0*SQr t0=t0),true)])) [some true] kr (aw (decide_eq_true h) aI) (by rw[show RB x n=_ from if_pos h]<;>exact rfl)
 ·exact pE TO51 func256 [.inl [x.1,x.2],.inl [n]] (.inl (.inl [(RB x n).1,(RB x n).2])) (let t0:=(x.1+n)+(x.1+n);let t1:=(SQ (-t0))^(PP-2);let t2:=(-(x.1+n))*t1;(.inl (.inl [x.2*t1,t2]),[(decide (SQr t0*SQr t0=t0),false)])) [some false] kr (aw (decide_eq_false h) aI) (by rw[show RB x n=_ from if_neg h]<;>exact rfl)
def TO52:Tb prog Gt:=TO51.add (jG (g:=RB) ent256 Ev)
theorem OT{α:Type}(f:W2→α)(x:W2):f (x.1,x.2)=f x:=rfl
theorem n9(x r:W2)(hr:ml2 r r=x)(hl:LG2 r=false):PUR 223 [EV2 x] (.tuple #[EV2 r,.bool true]):=by
 by_cases h:x.2=0
 ·exact pE TO52 func223 [.inl [x.1,x.2]] (.inr [.inl [r.1,r.2],.inr (.inl true)]) (let t0:=RO x.1;(.inr [.inl [t0.1,t0.2],.inr (.inl true)],[(decide (x.2=0),true)])) [some true] kr (aw (decide_eq_true h) aI) (by rw[←HZ hr hl h]<;>exact rfl)
 ·by_cases hc:LG2 (RB x (SQ (nm2 x)))=true
  ·exact pE TO52 func223 [.inl [x.1,x.2]] (.inr [.inl [r.1,r.2],.inr (.inl true)]) (let t0:=RB x (SQ (nm2 x));let t1:=ng2 (t0.1,t0.2);(.inr [.inl [t1.1,t1.2],.inr (.inl true)],[(decide (x.2=0),false),(decide (SQr (nm2 x)*SQr (nm2 x)=(nm2 x)),true),(LG2 (t0.1,t0.2),true)])) [some false,some true,some true] kr (aw (decide_eq_false h) (aw (decide_eq_true (lH hr)) (aw ((OT LG2 (RB x (SQ (nm2 x)))).trans hc) aI))) (by rw[←y9 hr hl h,NL,if_pos hc,←OT ng2 (RB x (SQ (nm2 x)))]<;>exact rfl)
  ·exact pE TO52 func223 [.inl [x.1,x.2]] (.inr [.inl [r.1,r.2],.inr (.inl true)]) (let t0:=RB x (SQ (nm2 x));(.inr [.inl [t0.1,t0.2],.inr (.inl true)],[(decide (x.2=0),false),(decide (SQr (nm2 x)*SQr (nm2 x)=(nm2 x)),true),(LG2 (t0.1,t0.2),false)])) [some false,some true,some false] kr (aw (decide_eq_false h) (aw (decide_eq_true (lH hr)) (aw ((OT LG2 (RB x (SQ (nm2 x)))).trans (Bool.eq_false_iff.2 hc)) aI))) (by rw[←y9 hr hl h,NL,if_neg hc]<;>exact rfl)
theorem te(x:W2)(hq: ¬IsQ (nm2 x)):PUR 223 [EV2 x] (.tuple #[EV2 ze2,.bool false]):=by
 exact pE TO52 func223 [.inl [x.1,x.2]] (.inr [.inl [ze2.1,ze2.2],.inr (.inl false)]) (.inr [.inl [0,0],.inr (.inl false)],[(decide (x.2=0),false),(decide (SQr (nm2 x)*SQr (nm2 x)=(nm2 x)),false)]) [some false,some false] kr (aw (decide_eq_false (Vu hq)) (aw (decide_eq_false hq) aI)) rfl
end
section
def XI:W2:=(1,1)
abbrev W6:=W2×W2×W2
def K6:Rg W6:=Rg.cub R2 XI
def VV:W6:=(ze2,on2,ze2)
abbrev W12:=W6×W6
def K12:Rg W12:=Rg.quad K6 VV
theorem fd2:Fd R2:=fun a h=>⟨iv2 a,cQ h⟩
theorem zE(a:Nat): ∀n:Nat,zp a^n=zp (a^n)
 |0=>p0 _
 |n+1=>by rw[ps,zE a n,Nat.pow_succ,iA]
theorem Ee(a n f:Nat)(h:n<2^f):zp a^n=zp (pm a PP f n):=by rw[xP _ _ _ _ h,wr,zE]
theorem CN{k n:Nat}(hk:R6=2^k)(h:n<PP):n<2^k:=hk▸Nat.lt_trans h yZ
def th:Nat:=(PP-1) / 3
def sx:Nat:=(PP-1) / 6
theorem Gk:3*th=PP-1:=by decide+kernel
theorem sx_val:6*sx+1=PP:=by decide+kernel
theorem zF{n:Nat}(h:zp n=1)(hn:n<PP):n=1:=by
 have:=congrArg Fin.val h
 rw[eO,Nat.mod_eq_of_lt hn,show (1:Zp).val=1 % PP from rfl,Nat.mod_eq_of_lt pr_p.1]at this
 exact this
theorem K5:pm 2 PP (64*6) th≠1∧pm 2 PP (64*6) th<PP:=by decide+kernel
theorem LA:pm 2 PP (64*6) hf≠1∧pm 2 PP (64*6) hf<PP:=by decide+kernel
theorem QJ:zp 2^th≠1:=fun h=>by
 rw[Ee 2 th (64*6) (CN eZ (by have:=Gk;have:=mN;omega))]at h
 exact K5.1 (zF h K5.2)
theorem Dt:zp 2^hf≠1:=fun h=>by
 rw[Ee 2 hf (64*6) (CN eZ (by have:=lF;have:=mN;omega))]at h
 exact LA.1 (zF h LA.2)
theorem E3:nm2 XI=zp 2:=by
 simp only[nm2,XI];rw[nY];exact Mp.2.symm
theorem zN(s:W2):R2.mul s (R2.mul s s)≠XI:=fun h=>by
 have e:nm2 s*(nm2 s*nm2 s)=zp 2:=by rw[←fT,←fT,←E3];exact congrArg nm2 h
 have e3:nm2 s^3=zp 2:=by rw[←e];grind
 have hn:nm2 s≠0:=fun h0=>rN (by rw[←e,h0,ib,ib])
 exact QJ (by rw[←e3,←Dn,Gk,fermat hn])
theorem KA(s:W2):R2.mul s s≠XI:=fun h=>by
 have e:IsQ (zp 2):=by rw[←E3];exact lH h
 rcases (ic _).1 e with h|h
 ·exact rN h
 ·exact Dt h
theorem fd6:Fd K6:=Q7 fd2 zN
theorem VS:cnm R2 XI VV=XI:=by decide+kernel
theorem FJ(s:W6):K6.mul s s≠VV:=fun h=>by
 have e:=Jo R2 XI s s
 rw[show Du R2 XI s s=VV from h,VS]at e
 exact KA _ e.symm
theorem fd12:Fd K12:=JF fd6 FJ
theorem Rg.inv_one{α:Type}(R:Rg α){x y y':α}(h:R.mul x y=R.one)(h':R.mul x y'=R.one):y=y':=by
 have e:R.mul (R.mul x y) y'=R.mul (R.mul x y') y:=by rw[R.mul_assoc,R.mul_assoc,R.mul_comm y]
 rw[h,h',R.one_mul,R.one_mul]at e
 exact e.symm
/-! ### The power of p -/
theorem J0:K12.nat PP=K12.zero:=by
 have e2:R2.nat PP=R2.zero:=(xG PP).trans (by rw[nA];rfl)
 have e6:K6.nat PP=K6.zero:=(J4 (R:=R2) (z:=XI) PP).trans (by rw[e2];rfl)
 exact (Fb (R:=K6) (z:=VV) PP).trans (by rw[e6];rfl)
theorem iV(x y:W12):K12.pw (K12.add x y) PP=K12.add (K12.pw x PP) (K12.pw y PP):=K12.frob pr_p J0 x y
def em(c:W2):W12:=((c,ze2,ze2),(ze2,ze2,ze2))
def wk(k:Nat):W12:=K12.pw ((ze2,ze2,ze2),(on2,ze2,ze2)) k
theorem dX(a b:W2):K12.mul (em a) (em b)=em (ml2 a b):=Prod.ext (Prod.ext (zx R2 [a,b,XI] 0x4456758451151145145115845115115845244511511511514451151158511 0x567) (Prod.ext (zx R2 [a,b,XI] 0x4445615175851144514451151158511524511584511511585144511511511 0x1) (zx R2 [a,b,XI] 0x444561511517445144511511511524451151158511514511584511511 0x1))) (Prod.ext (zx R2 [a,b,XI] 0x445615845115114517584511511 0x1) (Prod.ext (zx R2 [a,b,XI] 0x444561511585114451151758511 0x1) (zx R2 [a,b,XI] 0x44456151151144511511517 0x1)))
theorem vF(c:W2): ∀n,K12.pw (em c) n=em (pw2 c n)
 |0=>rfl
 |n+1=>by
  rw[Rg.pw,vF c n,dX,nt]
theorem wk0:wk 0=((on2,ze2,ze2),(ze2,ze2,ze2)):=by decide+kernel
theorem wk1:wk 1=((ze2,ze2,ze2),(on2,ze2,ze2)):=by decide+kernel
theorem wk2:wk 2=((ze2,on2,ze2),(ze2,ze2,ze2)):=by decide+kernel
theorem wk3:wk 3=((ze2,ze2,ze2),(ze2,on2,ze2)):=by decide+kernel
theorem wk4:wk 4=((ze2,ze2,on2),(ze2,ze2,ze2)):=by decide+kernel
theorem wk5:wk 5=((ze2,ze2,ze2),(ze2,ze2,on2)):=by decide+kernel
theorem wk6:wk 6=em XI:=by decide+kernel
theorem rh(c0 c1 c2 c3 c4 c5:W2):K12.add (K12.add (K12.add (K12.add (K12.add (K12.mul (em c0) (wk 0)) (K12.mul (em c1) (wk 1))) (K12.mul (em c2) (wk 2))) (K12.mul (em c3) (wk 3))) (K12.mul (em c4) (wk 4))) (K12.mul (em c5) (wk 5))=((c0,c2,c4),(c1,c3,c5)):=by
 rw[wk0,wk1,wk2,wk3,wk4,wk5]
 exact Prod.ext (Prod.ext (zx R2 [c0,c1,c2,c3,c4,c5,XI] 0x44444445625c451151145145115c45115115c4524451151151151445115115c511445715c451151145145125c45115115c4524451151151251445115125c511445815c451151245145115c45115115c4524451151151151445115115c511445915c451151145145115c45115125c4524451151251151445125115c511445a15c451251145145115c45115115c4524451151151151445115115c511445b15c451151145145115c45125115c4524451251151151445115115c512 0x6) (Prod.ext (zx R2 [c0,c1,c2,c3,c4,c5,XI] 0x444444445615125c5114451445115115c5115245115c45115115c51445115115114445715115c5114451445115125c5115245125c45115115c51445115115124445825115c5114451445115115c5115245115c45115115c51445115115114445915115c5114451445125115c5115245115c45115125c51445115125114445a15115c5124451445115115c5115245115c45115115c51445115115114445b15115c5114451445115115c5125245115c45125115c5144512511511 0x8) (zx R2 [c0,c1,c2,c3,c4,c5,XI] 0x4444444456151151244514451151151152445115115c5115145115c451151144457151151144514451151151252445115125c5115145125c451151144458151251144514451151151152445115115c5115145115c451151144459151151144514451151251152445125115c5115145115c45115124445a251151144514451151151152445115115c5115145115c45115114445b151151144514451251151152445115115c5125145115c4512511 0xa))) (Prod.ext (zx R2 [c0,c1,c2,c3,c4,c5,XI] 0x44444445615c451151145125c4511511445725c451151145115c4511511445815c451151145115c4511512445915c451151245115c4511511445a15c451151145115c4512511445b15c451251145115c4511511 0x7) (Prod.ext (zx R2 [c0,c1,c2,c3,c4,c5,XI] 0x444444445615115c511445115125c5114445715125c511445115115c5114445815115c511445125115c5114445925115c511445115115c5114445a15115c511445115115c5124445b15115c512445115115c511 0x9) (zx R2 [c0,c1,c2,c3,c4,c5,XI] 0x44444444561511511445115115124445715115124451151151144458151151144511512511444591512511445115115114445a1511511445125115114445b251151144511511511 0xb)))
def GA:W2:=pw2 XI sx
theorem Mm:K12.pw (wk 1) PP=K12.mul (em GA) (wk 1):=by
 have e:K12.pw (wk 1) PP=K12.pw (wk 1) (6*sx+1):=congrArg (fun n=>K12.pw (wk 1) n) sx_val.symm
 have e1:wk 1=((ze2,ze2,ze2),(on2,ze2,ze2)):=wk1
 have e6:K12.pw (wk 1) 6=em XI:=by rw[e1];exact wk6
 rw[e,K12.pw_add,K12.pw_mul,e6,vF,K12.pw_one];rfl
theorem V4(k:Nat):K12.pw (wk k) PP=K12.mul (em (pw2 GA k)) (wk k):=by
 have e1:wk 1=((ze2,ze2,ze2),(on2,ze2,ze2)):=wk1
 have e:wk k=K12.pw (wk 1) k:=by rw[e1];rfl
 rw[e,←K12.pw_mul,Nat.mul_comm,K12.pw_mul,Mm,K12.mul_pw,vF]
theorem kC(c:W2)(k:Nat):K12.pw (K12.mul (em c) (wk k)) PP=K12.mul (em (ml2 (cj2 c) (pw2 GA k))) (wk k):=by
 rw[K12.mul_pw,vF,Gi,V4,←K12.mul_assoc,dX]
def bP(x:W12):W12:=((ml2 (cj2 x.1.1) (pw2 GA 0),ml2 (cj2 x.1.2.1) (pw2 GA 2),ml2 (cj2 x.1.2.2) (pw2 GA 4)),(ml2 (cj2 x.2.1) (pw2 GA 1),ml2 (cj2 x.2.2.1) (pw2 GA 3),ml2 (cj2 x.2.2.2) (pw2 GA 5)))
theorem fb(x:W12):K12.pw x PP=bP x:=by
 have h:=rh x.1.1 x.2.1 x.1.2.1 x.2.2.1 x.1.2.2 x.2.2.2
 have e:K12.pw x PP=K12.pw ((x.1.1,x.1.2.1,x.1.2.2),(x.2.1,x.2.2.1,x.2.2.2)) PP:=rfl
 rw[e,←h,iV,iV,iV,iV,iV,kC,kC,kC,kC,kC,kC,rh]
 rfl
/-! ### Six parts, as the reference multiplies them -/
def tq(f:Nat→W2):W12:=((f 0,f 2,f 4),(f 1,f 3,f 5))
theorem txi{ρ:Nat→W2}{p:Po}{a:W2}(k:Nat)(ha:R2.d ρ p=a)(hk:ρ k=XI):R2.d ρ (jJ p (pv k))=xi2 a:=by rw[R2.d_mul,ha,R2.d_var,hk];exact (Cw a).symm
theorem tsb{ρ:Nat→W2}{p q:Po}{a b:W2}(ha:R2.d ρ p=a)(hb:R2.d ρ q=b):R2.d ρ (gt p (k9 q))=sb2 a b:=by rw[R2.d_add,R2.d_neg,ha,hb,ly];rfl
end
section
section
variable {α:Type} [DecidableEq α] (C:Ec α)
def Ec.jm(J:α×α×α):List Bool→α×α×α→α×α×α
 |[],A=>A
 |b::r,A=>Ec.jm J r (if b then C.jaF (C.jdF A) J else C.jdF A)
def ld:List Bool→Nat→Nat
 |[],n=>n
 |b::r,n=>ld r (2*n+(if b then 1 else 0))
theorem Ec.jr_m{J:α×α×α}{P:Pt α}(hP:C.onP P)(h:C.jr J P): ∀(l:List Bool) (A:α×α×α) (n:Nat),C.jr A (C.times P n)→C.jr (C.jm J l A) (C.times P (ld l n))
 |[],_,_,hA=>hA
 |b::r,A,n,hA=>by
  have hd:=C.jr_d (C.times_on hP n) hA
  rw[←C.times_add hP,←Nat.two_mul]at hd
  cases b with
  |false=>exact Ec.jr_m hP h r _ _ hd
  |true=>
   have ha:=C.jr_a (C.times_on hP (2*n)) hP hd h
   exact Ec.jr_m hP h r _ (2*n+1) ha
end
/-! ### Over p -/
def RZp:Rg Zp where
 zero:=0
 one:=1
 add:=fun a b=>a+b
 mul:=fun a b=>a*b
 neg:=fun a=> -a
 add_assoc:=fun a b c=>by grind
 add_comm:=fun a b=>by grind
 add_zero:=fun a=>by grind
 add_neg:=fun a=>by grind
 mul_assoc:=fun a b c=>by grind
 mul_comm:=fun a b=>by grind
 mul_one:=fun a=>by grind
 mul_add:=fun a b c=>by grind
def E1:Ec Zp where
 R:=RZp
 iv:=fun a=>a^(PP-2)
 b:=zp 4
 hi:=fun _ h=>qQ h
 h2:=by decide+kernel
 h3:=by decide+kernel
 hb:=by decide+kernel
def E2w:Ec W2 where
 R:=R2
 iv:=iv2
 b:=(zp 4,zp 4)
 hi:=fun _ h=>cQ h
 h2:=by decide+kernel
 h3:=by decide+kernel
 hb:=by decide+kernel
def G1x:Nat:=0x17f1d3a73197d7942695638c4fa9ac0fc3688c4f9774b905a14e3a3f171bac586c55e83ff97a1aeffb3af00adb22c6bb
def G1y:Nat:=0x8b3f481e3aaa0f1a09e30ed741d8ae4fcf5e095d5d00af600db18cb2c04b3edd03cc744a2888ae40caa232946c5e7e1
def G1p:Zp×Zp:=(zp G1x,zp G1y)
theorem u9:E1.on G1p:=by
 unfold Ec.on
 decide+kernel
def ORD:Nat:=0x73eda753299d7d483339d80809a1d80553bda402fffe5bfeffffffff00000001
def dZ:Nat→Nat→List Bool→List Bool
 |0,_,l=>l
 |f+1,n,l=>dZ f (n / 2) ((n % 2==1)::l)
theorem yT:ld (dZ 255 ORD []) 0=ORD:=by decide+kernel
theorem g1_z:(E1.jm (zp G1x,zp G1y,1) (dZ 255 ORD []) (0,0,0)).2.2=0:=by decide+kernel
theorem DI:E1.jr (zp G1x,zp G1y,1) (some G1p):=⟨kK,by decide+kernel,by decide+kernel⟩
theorem Iq{α:Type}(C:Ec α){J:α×α×α}{P:Pt α}(h:C.jr J P)(hz:J.2.2=C.R.zero):P=none:=by
 cases P with
 |none=>rfl
 |some p=>exact absurd hz h.1
theorem yl{α:Type} [DecidableEq α](C:Ec α){J:α×α×α}{P:Pt α}(hP:C.onP P)(h:C.jr J P)(l:List Bool){n:Nat}(hn:ld l 0=n)(hz:(C.jm J l (C.R.zero,C.R.zero,C.R.zero)).2.2=C.R.zero):C.times P n=none:=by
 have k:=C.jr_m hP h l (C.R.zero,C.R.zero,C.R.zero) 0 (show C.R.zero=C.R.zero from rfl)
 rw[hn]at k
 exact Iq C k hz
theorem iL:E1.times (some G1p) ORD=none:=yl E1 (P:=some G1p) u9 DI (dZ 255 ORD []) yT g1_z
end
section
structure Em{α β:Type}(C:Ec α)(D:Ec β) where
 f:α→β
 h0:f C.R.zero=D.R.zero
 ha: ∀a b,f (C.R.add a b)=D.R.add (f a) (f b)
 hm: ∀a b,f (C.R.mul a b)=D.R.mul (f a) (f b)
 hn: ∀a,f (C.R.neg a)=D.R.neg (f a)
 hi: ∀a b,f a=f b→a=b
 hb:f C.b=D.b
section
variable {α β:Type} {C:Ec α} {D:Ec β} (e:Em C D)
def Em.q(p:α×α):β×β:=(e.f p.1,e.f p.2)
def Em.p:Pt α→Pt β
 |none=>none
 |some p=>some (e.q p)
theorem Em.sub(a b:α):e.f (C.sub a b)=D.sub (e.f a) (e.f b):=by rw[Ec.sub,Ec.sub,e.ha,e.hn]
theorem Em.on{p:α×α}(h:C.on p):D.on (e.q p):=by
 have:=congrArg e.f h
 rw[e.hm,e.ha,e.hm,e.hm,e.hb]at this
 exact this
theorem Em.onP{P:Pt α}(h:C.onP P):D.onP (e.p P):=by
 cases P with
 |none=>trivial
 |some p=>exact e.on h
theorem Em.sl{p q:α×α}{s:α}(h:C.Sl p q s):D.Sl (e.q p) (e.q q) (e.f s):=by
 have h1:=congrArg e.f h.1
 have h2:=congrArg e.f h.2
 rw[e.hm,e.sub,e.sub]at h1
 rw[e.hm,e.ha,e.ha,e.ha,e.hm,e.hm,e.hm]at h2
 exact ⟨h1,h2⟩
theorem Em.opp{p q:α×α}:D.opp (e.q p) (e.q q)↔C.opp p q:=
 ⟨fun h=>⟨e.hi _ _ h.1,e.hi _ _ (by rw[e.ha,e.h0];exact h.2)⟩,fun h=>⟨congrArg e.f h.1,by
  have:=congrArg e.f h.2
  rw[e.ha,e.h0]at this
  exact this⟩⟩
theorem Em.th(p q:α×α)(s:α):D.th (e.q p) (e.q q) (e.f s)=e.q (C.th p q s):=by
 have hx:D.x3 (e.q p) (e.q q) (e.f s)=e.f (C.x3 p q s):=by rw[Ec.x3,Ec.x3,e.sub,e.sub,e.hm];rfl
 refine Prod.ext hx ?_
 show D.sub (D.R.mul (e.f s) (D.sub (e.f p.1) (D.x3 (e.q p) (e.q q) (e.f s)))) (e.f p.2)=e.f (C.sub (C.R.mul s (C.sub p.1 (C.x3 p q s))) p.2)
 rw[hx,e.sub,e.hm,e.sub]
theorem Em.ne(P:Pt α):e.p (C.ne P)=D.ne (e.p P):=by
 cases P with
 |none=>rfl
 |some p=>exact congrArg some (Prod.ext rfl (e.hn _))
theorem Em.inj{P Q:Pt α}(h:e.p P=e.p Q):P=Q:=by
 cases P with
 |none=>
  cases Q with
  |none=>rfl
  |some q=>cases h
 |some p=>
  cases Q with
  |none=>cases h
  |some q=>
   have h:=Option.some.inj h
   exact congrArg some (Prod.ext (e.hi _ _ (congrArg Prod.fst h)) (e.hi _ _ (congrArg Prod.snd h)))
theorem Em.jr{J:α×α×α}{P:Pt α}(h:C.jr J P):D.jr (e.f J.1,e.f J.2.1,e.f J.2.2) (e.p P):=by
 cases P with
 |none=>exact (congrArg e.f h).trans e.h0
 |some p=>
  refine ⟨fun h'=>h.1 (e.hi _ _ (h'.trans e.h0.symm)), ?_, ?_⟩
  ·have:=congrArg e.f h.2.1
   rw[e.hm,Ec.z2,e.hm]at this
   exact this
  ·have:=congrArg e.f h.2.2
   rw[e.hm,Ec.z3,e.hm,e.hm]at this
   exact this
end
section
variable {α β:Type} [DecidableEq α] [DecidableEq β] {C:Ec α} {D:Ec β} (e:Em C D)
theorem Em.ad{P Q:Pt α}(hP:C.onP P)(hQ:C.onP Q):e.p (C.ad P Q)=D.ad (e.p P) (e.p Q):=by
 cases P with
 |none=>rfl
 |some p=>
  cases Q with
  |none=>rw[C.ad_nr];exact (D.ad_nr _).symm
  |some q=>
   by_cases ho:C.opp p q
   ·rw[C.ad_opp ho];exact (D.ad_opp (e.opp.2 ho)).symm
   ·obtain ⟨s,hs⟩:=C.sl_is hP hQ ho
    rw[C.ad_sl hP hQ ho hs]
    exact ((D.ad_sl (e.on hP) (e.on hQ) (fun h=>ho (e.opp.1 h)) (e.sl hs)).trans (congrArg some (e.th p q s))).symm
theorem Em.times{P:Pt α}(hP:C.onP P): ∀n,e.p (C.times P n)=D.times (e.p P) n
 |0=>rfl
 |n+1=>by
  show e.p (C.ad (C.times P n) P)=D.ad (D.times (e.p P) n) (e.p P)
  rw[e.ad (C.times_on hP n) hP,Em.times hP n]
end
theorem KM(a:Zp):a-0=a:=by grind
theorem DO(a:Zp):a+0=a:=by grind
theorem z_n0': -(0:Zp)=0:=mG.2 rfl
end
section
section
variable {α:Type} (C:Ec α)
theorem Ec.jr_z{J:α×α×α}{P:Pt α}(h:C.jr J P):J.2.2=C.R.zero↔P=none:=by
 cases P with
 |none=>exact ⟨fun _=>rfl,fun _=>h⟩
 |some p=>exact ⟨fun e=>absurd e h.1,fun e=>by cases e⟩
theorem Ec.sc2(a z c:α):C.R.mul (C.R.mul a (C.z2 z)) (C.z2 c)=C.R.mul a (C.z2 (C.R.mul z c)):=zx C.R [a,z,c] 0x556577588 0x565578578
theorem Ec.jr_at(p:α×α)(h1:C.R.one≠C.R.zero):C.jr (p.1,p.2,C.R.one) (some p):=by
 refine ⟨h1, ?_, ?_⟩
 ·show p.1=C.R.mul p.1 (C.R.mul C.R.one C.R.one)
  rw[C.R.mul_one,C.R.mul_one]
 ·show p.2=C.R.mul p.2 (C.R.mul (C.R.mul C.R.one C.R.one) C.R.one)
  rw[C.R.mul_one,C.R.mul_one,C.R.mul_one]
end
section
variable {α:Type} [DecidableEq α] (C:Ec α)
theorem Ec.times_comm{P:Pt α}(hP:C.onP P)(m n:Nat):C.times (C.times P m) n=C.times (C.times P n) m:=by
 rw[←C.times_mul hP,←C.times_mul hP,Nat.mul_comm]
theorem Ec.times_ord{P:Pt α}(hP:C.onP P){r:Nat}(h:C.times P r=none)(k:Nat):C.times (C.times P k) r=none:=by
 rw[C.times_comm hP,h,C.times_none]
theorem Ec.times_mod{P:Pt α}(hP:C.onP P){r:Nat}(h:C.times P r=none)(n:Nat):C.times P (n % r)=C.times P n:=by
 have e:C.times P n=C.times P (r*(n / r)+n % r):=by rw[Nat.div_add_mod]
 rw[e,C.times_add hP,C.times_mul hP,h,C.times_none];rfl
theorem Ec.dbl_times{P:Pt α}(hP:C.onP P)(n:Nat):C.ad (C.times P n) (C.times P n)=C.times P (2*n):=by rw[←C.times_add hP,Nat.two_mul]
end
end
section
open Go.RowKit
attribute [local simp] aW bd aU aP aD bf aL aK aB PLl cm cq N1l cr cp cu a8 bg aQ a6 bc
abbrev EV6(x:W6):Value:=aT ((fe (x.1).1++fe (x.1).2)++((fe (x.2.1).1++fe (x.2.1).2)++(fe (x.2.2).1++fe (x.2.2).2)))
theorem e6{a b c a' b' c':W2}(h1:a=a')(h2:b=b')(h3:c=c'):Ending.returned (aT ((fe (a).1++fe (a).2)++((fe (b).1++fe (b).2)++(fe (c).1++fe (c).2))))=.returned (aT ((fe (a').1++fe (a').2)++((fe (b').1++fe (b').2)++(fe (c').1++fe (c').2)))):=by rw[h1,h2,h3]
def q6:Sh W6:=q2.two (q2.two q2 2) 2
theorem V6(x:W6):EV6 x=dn rid (.inl [x.1.1,x.1.2,x.2.1.1,x.2.1.2,x.2.2.1,x.2.2.2]):=by
 show Value.agg _=Value.agg _
 rw[clv,show cel [x.1.1,x.1.2,x.2.1.1,x.2.1.2,x.2.2.1,x.2.2.2]=fe x.1.1++(fe x.1.2++(fe x.2.1.1++(fe x.2.1.2++(fe x.2.2.1++fe x.2.2.2))))from rfl]
 rw[List.append_assoc,List.append_assoc]
theorem bQ{f:Nat}{a a':List Value}{v v':Value}(ha:a=a')(hv:v=v')(h:PUR f a' v'):PUR f a v:=by rw[ha,hv];exact h
theorem l1{a b:Value}(h:a=b):[a]=[b]:=by rw[h]
theorem l2{a b c d:Value}(h:a=b)(k:c=d):[a,c]=[b,d]:=by rw[h,k]
theorem l3{a b c d e f:Value}(h:a=b)(k:c=d)(l:e=f):[a,c,e]=[b,d,f]:=by rw[h,k,l]
theorem t2{a b c:Value}(h:a=b):Value.tuple #[a,c]=.tuple #[b,c]:=by rw[h]
theorem Bq{f:Nat}{g:W6→Bool}(en:ai prog f)(h: ∀a,PUR f [EV6 a] (.bool (g a))):Snd prog Gt f (c1 q6.ag rdB g):=f8 q6.ag rdB en (fun a=>bQ (l1 (V6 _).symm) rfl (h a))
theorem nN{f:Nat}{g:W2→W2→W6}(en:ai prog f)(h: ∀a b,PUR f [EV2 a,EV2 b] (EV6 (g a b))):Snd prog Gt f (c2 q2.ag q2.ag q6.rd g):=ge q2.ag q2.ag q6.rd en (fun a b=>bQ rfl (V6 _).symm (h a b))
theorem cF{f:Nat}{g:W6→W6}(en:ai prog f)(h: ∀a,PUR f [EV6 a] (EV6 (g a))):Snd prog Gt f (c1 q6.ag q6.rd g):=f8 q6.ag q6.rd en (fun a=>bQ (l1 (V6 _).symm) (V6 _).symm (h a))
theorem cB{f:Nat}{g:W6→W6→W6}(en:ai prog f)(h: ∀a b,PUR f [EV6 a,EV6 b] (EV6 (g a b))):Snd prog Gt f (c2 q6.ag q6.ag q6.rd g):=ge q6.ag q6.ag q6.rd en (fun a b=>bQ (l2 (V6 _).symm (V6 _).symm) (V6 _).symm (h a b))
theorem qe{f:Nat}{g:W6→W6→Bool}(en:ai prog f)(h: ∀a b,PUR f [EV6 a,EV6 b] (.bool (g a b))):Snd prog Gt f (c2 q6.ag q6.ag rdB g):=ge q6.ag q6.ag rdB en (fun a b=>bQ (l2 (V6 _).symm (V6 _).symm) rfl (h a b))
end
section
open Go.RowKit
attribute [local simp] aW bd aU aP aD bf aL aK aB PLl cm cq N1l cr cp cu a8 bg aQ a6 bc
def RRL:L6:=[18446744069414584321#64,6034159408538082302#64,3691218898639771653#64,8353516859464449352#64,0#64,0#64]
def RB48:L8:=BYs RRL 48
theorem E5:RB48.length=48:=by decide+kernel
theorem I2:RRL.length=6:=rfl
attribute [local simp] E5 I2
theorem nm_ze:nm 0=List.replicate 6 0#64:=by decide+kernel
end
section
section
variable {α:Type} [DecidableEq α] {C:Ec α} (T:Tw C)
theorem Tw.in_of{P:Pt α}(hP:C.onP P)(line:C.ad (C.ad P (T.p P)) (T.p (T.p P))=none){U r:Nat}(hU:r+U*U=(U*U)*(U*U)+1)(h:C.ne (C.times (C.times P U) U)=T.p P):C.times P r=none:=by
 rw[←C.times_mul hP]at h
 generalize U*U=V at h hU
 have hQ:=C.times_on hP V
 have e2:T.p (T.p P)=C.times P (V*V):=by
  rw[←h,T.p_ne,T.p_times hP,←h,C.times_ne hQ,C.ne_ne,C.times_mul hP]
 have hS:=C.times_on hP (V*V)
 rw[e2,←h]at line
 have e3:C.ad (C.times P r) (C.times P V)=C.ad (C.times P (V*V)) P:=by rw[←C.times_add hP,hU];rfl
 have e4:C.ad (C.ad (C.times P r) (C.times P V)) (C.ne (C.times P V))=C.times P r:=by
  rw[C.ad_assoc (C.times_on hP r) hQ (C.ne_on hQ),C.ad_ne,C.ad_nr]
 rw[←e4,e3,C.ad_assoc hS hP (C.ne_on hQ),C.ad_comm hS (C.ad_on hP (C.ne_on hQ)),line]
theorem Tw.out_of{G:Pt α}(hG:C.onP G){U:Nat}(h:C.ne (C.times (C.times G U) U)=T.p G)(e:Nat):C.ne (C.times (C.times (C.times G e) U) U)=T.p (C.times G e):=by
 have h1:=C.times_on hG U
 rw[T.p_times hG,←h,C.times_ne (C.times_on h1 U),C.times_swap h1 U e,C.times_swap hG U e]
end
theorem Mw{α:Type}(C:Ec α){J:α×α×α}{P:Pt α}{x y:α}(h:C.jr J P)(hz:J.2.2≠C.R.zero)(hx:J.1=C.R.mul x (C.z2 J.2.2))(hy:J.2.1=C.R.mul y (C.z3 J.2.2)):P=some (x,y):=by
 cases P with
 |none=>exact absurd h hz
 |some p=>
  refine congrArg some (Prod.ext ?_ ?_)
  ·exact C.mul_can (C.z2_ne hz) (h.2.1.symm.trans hx)
  ·exact C.mul_can (C.z3_ne hz) (h.2.2.symm.trans hy)
theorem MB{α:Type} [DecidableEq α](C:Ec α){J K:α×α×α}{P:Pt α}(hP:C.onP P)(h:C.jr J P)(l:List Bool){n:Nat}(hn:ld l 0=n)(hK:C.jm J l (C.R.zero,C.R.zero,C.R.zero)=K){x y:α}(hz:K.2.2≠C.R.zero)(hx:K.1=C.R.mul x (C.z2 K.2.2))(hy:K.2.1=C.R.mul y (C.z3 K.2.2)):C.times P n=some (x,y):=by
 have k:=C.jr_m hP h l (C.R.zero,C.R.zero,C.R.zero) 0 (show C.R.zero=C.R.zero from rfl)
 rw[hn,hK]at k
 exact Mw C k hz hx hy
theorem qh{p:Nat}(hp:Pr p){d:Nat}(h0:0<d)(h1:d<p): ∃e,(d*e) % p=1:=by
 refine ⟨d^(p-2), ?_⟩
 have h2:1<p:=hp.1
 rw[←Nat.pow_succ',show (p-2).succ=p-1 from by omega]
 exact hp.fermat1 fun h=>absurd (Nat.le_of_dvd h0 h) om
/-! ### The first curve -/
def TRN:Nat:=0x5f19672fdf76ce51ba69c6076a0f77eaddb3a93be6f89688de17d813620a00022e01fffffffefffe
theorem Nr:zp TRN*zp TRN*(zp TRN*zp TRN)=zp TRN:=by decide+kernel
theorem RJ:zp TRN*zp TRN*(zp TRN*zp TRN*(zp TRN*zp TRN))=1:=by decide+kernel
theorem JA:zp TRN*zp TRN+zp TRN+1=0:=by decide+kernel
theorem Ps:zp TRN*zp TRN≠0:=by decide+kernel
def TW1:Tw E1 where
 f:=fun a=>a
 w:=zp TRN*zp TRN
 fa:=fun _ _=>rfl
 fm:=fun _ _=>rfl
 fn:=fun _=>rfl
 f0:=rfl
 fi:=fun _ h=>h
 wn:=Ps
 wb:=by decide+kernel
theorem u1(q:Zp×Zp):TW1.m q=(zp TRN*q.1,q.2):=by
 refine Prod.ext ?_ ?_
 ·show zp TRN*zp TRN*(zp TRN*zp TRN)*q.1=zp TRN*q.1
  rw[Nr]
 ·show zp TRN*zp TRN*(zp TRN*zp TRN*(zp TRN*zp TRN))*q.2=q.2
  rw[RJ]
  generalize q.2=y
  grind
theorem Od{c x y:Zp}(hc:c*c+c+1=0)(hp:E1.on (x,y))(hq:E1.on (c*x,y)):E1.ad (E1.ad (some (x,y)) (some (c*x,y))) (some (c*(c*x),y))=none:=by
 have ho: ¬E1.opp (x,y) (c*x,y):=by
  intro h
  have h1:x=c*x:=h.1
  have hy:y=0:=E1.dbl0 h.2
  have h3:(1+1+1)*x=0:=by
   have e:(c*c+c+1)*x=c*(c*x)+c*x+x:=by grind
   rw[hc,←h1,←h1]at e
   grind
  have hx:x=0:=(kW h3).resolve_left E1.h3
  subst hx hy
  have k:(0:Zp)*0=0*(0*0)+zp 4:=hp
  exact absurd k (by decide+kernel)
 have hs:E1.Sl (x,y) (c*x,y) 0:=by
  refine ⟨?_, ?_⟩
  ·show (0:Zp)*(x+ -(c*x))=y+ -y
   grind
  ·show (0:Zp)*(y+y)=x*x+x*(c*x)+c*x*(c*x)
   have e:x*x+x*(c*x)+c*x*(c*x)=(c*c+c+1)*(x*x):=by grind
   rw[e,hc]
   grind
 rw[E1.ad_sl hp hq ho hs]
 refine E1.ad_opp ⟨?_, ?_⟩
 ·show (0:Zp)*0+ -x+ -(c*x)=c*(c*x)
  have e:c*(c*x)-((0:Zp)*0+ -x+ -(c*x))=(c*c+c+1)*x:=by grind
  rw[hc]at e
  grind
 ·show (0:Zp)*(x+ -((0:Zp)*0+ -x+ -(c*x)))+ -y+y=0
  grind
theorem Ct{P:Pt Zp}(hP:E1.onP P):E1.ad (E1.ad P (TW1.p P)) (TW1.p (TW1.p P))=none:=by
 cases P with
 |none=>rfl
 |some q=>
  have e:TW1.p (some q)=some (zp TRN*q.1,q.2):=congrArg some (u1 q)
  have e':TW1.p (some (zp TRN*q.1,q.2))=some (zp TRN*(zp TRN*q.1),q.2):=congrArg some (u1 _)
  have hq:E1.onP (TW1.p (some q)):=TW1.p_on hP
  rw[e]at hq
  rw[e,e']
  exact Od JA hP hq
def UG:Nat:=0xd201000000010000
theorem GB:ORD+UG*UG=(UG*UG)*(UG*UG)+1:=by decide+kernel
def UGJ:Zp×Zp×Zp:=E1.jm (zp G1x,zp G1y,1) (dZ 128 (UG*UG) []) (0,0,0)
theorem OP:E1.jm (zp G1x,zp G1y,1) (dZ 128 (UG*UG) []) (E1.R.zero,E1.R.zero,E1.R.zero)=UGJ:=by unfold UGJ;rfl
theorem Jy:ld (dZ 128 (UG*UG) []) 0=UG*UG:=by decide+kernel
theorem ugj:UGJ.2.2≠0∧UGJ.1=zp TRN*zp G1x*(UGJ.2.2*UGJ.2.2)∧UGJ.2.1= -(zp G1y)*(UGJ.2.2*UGJ.2.2*UGJ.2.2):=by decide+kernel
theorem Uz:E1.times (some G1p) (UG*UG)=some (zp TRN*zp G1x,-(zp G1y)):=MB E1 (P:=some G1p) u9 DI (dZ 128 (UG*UG) []) Jy OP ugj.1 ugj.2.1 ugj.2.2
theorem gj:E1.onP (some G1p):=u9
theorem Ko:E1.ne (E1.times (E1.times (some G1p) UG) UG)=TW1.p (some G1p):=by
 rw[←E1.times_mul gj,Uz]
 refine congrArg some ((Prod.ext rfl ?_:_=(zp TRN*zp G1x,zp G1y)).trans (u1 G1p).symm)
 show- -(zp G1y)=zp G1y
 generalize zp G1y=y
 grind
def cdP:Pt Zp→Nat
 |none=>0
 |some p=>1+(2*p.1.val+p.2.val % 2)
theorem Vo(S:Pt Zp):cdP S<2*PP+1:=by
 cases S with
 |none=>exact Nat.succ_pos _
 |some p=>
  show 1+(2*p.1.val+p.2.val % 2)<2*PP+1
  have:=p.1.isLt
  omega
theorem cd_y{a b:Zp}(h:a*a=b*b)(k:a.val % 2=b.val % 2):a=b:=by
 have e:(a-b)*(a+b)=0:=by grind
 rcases kW e with h1|h1
 ·grind
 ·have e2:a= -b:=by grind
  by_cases hb:b=0
  ·rw[e2,hb];decide+kernel
  ·exfalso
   rw[e2,tP hb]at k
   have h2:=b.isLt
   have h3:PP % 2=1:=by decide+kernel
   omega
theorem Rs{S S':Pt Zp}(h:E1.onP S)(h':E1.onP S')(e:cdP S=cdP S'):S=S':=by
 cases S with
 |none=>
  cases S' with
  |none=>rfl
  |some q=>exact absurd (show 0=1+(2*q.1.val+q.2.val % 2)from e) om
 |some p=>
  cases S' with
  |none=>exact absurd (show 1+(2*p.1.val+p.2.val % 2)=0 from e) om
  |some q=>
   have e:1+(2*p.1.val+p.2.val % 2)=1+(2*q.1.val+q.2.val % 2):=e
   have ex:p.1=q.1:=Fin.ext om
   have k1:p.2*p.2=p.1*(p.1*p.1)+zp 4:=h
   have k2:q.2*q.2=q.1*(q.1*q.1)+zp 4:=h'
   refine congrArg some (Prod.ext ex (cd_y (k1.trans ?_) om))
   rw[k2,ex]
theorem m5:Pr ORD:=by
 have e:ORD=RR:=by decide+kernel
 rw[e];exact pr_r
theorem Gj:(some G1p:Pt Zp)≠none:=fun h=>by cases h
theorem Oq{P:Pt Zp}(hP:E1.onP P)(h:E1.times P ORD=none): ∃e,P=E1.times (some G1p) e:=
 E1.cyc gj hP (fun _ h0 h1=>qh m5 h0 h1) iL h Gj (2*PP+1) cdP (fun S _=>Vo S) (fun _ _ h h' e=>Rs h h' e) (by decide+kernel)
theorem To{P:Pt Zp}(hP:E1.onP P):E1.ne (E1.times (E1.times P UG) UG)=TW1.p P↔E1.times P ORD=none:=by
 constructor
 ·exact fun h=>TW1.in_of hP (Ct hP) GB h
 ·intro h
  obtain ⟨e,rfl⟩:=Oq hP h
  exact TW1.out_of gj Ko e
end
end Go.Proofs.YtfgacclgjklgnaaGreatDoor
