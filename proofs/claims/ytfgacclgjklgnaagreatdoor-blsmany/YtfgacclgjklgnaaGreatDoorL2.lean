/- L2 -/
import Derived.Test.YtfgacclgjklgnaaGreatDoorL1
import Derived.Test.YtfgacclgjklgnaaGreatDoorXW
import Derived.Test.YtfgacclgjklgnaaGreatDoorX3
import Derived.Test.YtfgacclgjklgnaaGreatDoorM1
import Derived.Test.YtfgacclgjklgnaaGreatDoorQ1
import Derived.Test.YtfgacclgjklgnaaGreatDoorX5
set_option maxRecDepth 100000
set_option maxHeartbeats 1000000
namespace Go.Proofs.YtfgacclgjklgnaaGreatDoor
open Go.Proofs.Tryz
section
open Go.RowKit
attribute [local simp] aV ba aT aO aD bd aK aJ aA PLl cv cw N1l cu cr cq a7 bc
theorem Ml(x:Zp)(b:Nat)(t:TypeId)(bs:L8)(h48:bs.length=48)(w:World)(hw:Gt w)(ho:OwnB w b (bs.map U8) t):
 CLS 226 [EV x,.slice (spt b) 48 48].toArray w (fun r w'=>r=.returned (EV (x^BN bs 48))∧Grow w w'):=by
 have h:=wv x (spt b) 48 bs om w hw (BytesAt.range ho.range)
 rw[h48]at h
 exact h
theorem m7(a:Option Addr)(len cap:Nat)(bs:L8)(hl:bs.length=len)(h:len≤48)(w:World)(hw:Gt w)(hby:BytesAt w a bs):
 CLS 38 [.slice a len cap].toArray w (fun e w'=>e=.returned (.tuple #[NV (FRs bs bs.length),.bool true])∧Grow w w'):=by
 subst hl
 exact (wt a cap bs w hw hby).mono fun e w' ⟨he,hg⟩=>⟨by rw[he,if_neg om],hg⟩
theorem m9(x:Zp)(n:L6)(hn:n.length=6):PUR 189 [EV x,NV n] (EV (x^V n 6)):=by
 intro w hw
 refine Hf func189 rfl hw<|fun hGF=>Xp<|Bx 2 hGF rfl<|fun b2=>Bx 3 hGF rfl<|fun b3=>Al 4 hGF zv52<|fun b4=>aa<|Xp<|cf 3 rfl rfl isAgg25 sizeOf25 (by first|(simp;done)|simp[hn]) rfl rfl<|Ca rfl (lM _ (by first|(simp;done)|simp[hn]))<|Al 5 hGF zv29<|fun b5=>aw 5 hGF rfl rfl rfl sizeOf29 (by first|(simp;done)|simp[hn]) (by first|(simp;done)|simp[hn]) (bC _) rfl<|aa<|Xd []<|cf 2 rfl rfl isAgg52 sizeOf52 (by first|(simp;done)|simp[hn]) rfl rfl<|ce (l:=0) (h':=48) rfl underlying29 sizeOf5 rfl rfl om om rfl rfl<|Cc rfl ent226 (fun w hC hG=>Ml x _ _ (BYs n 48) (by first|(simp;done)|simp[hn]) w hG (hC.own 5 _ _ _ rfl).1)<|aw 4 hGF rfl rfl rfl sizeOf52 (by first|(simp;done)|simp[hn]) (by first|(simp;done)|simp[hn]) (bj _) rfl<|aa<|am<|Rr<|?_
 exact az 4 rfl rfl rfl isAgg52 sizeOf52 (by first|(simp;done)|simp[hn]) (fun w hw=>⟨by rw[Cd n hn 48 rfl],ae hw⟩)
theorem Az(x:Zp):PUR 135 [EV x] (EV (x^(PP-2))):=by
 intro w hw
 refine Hf func135 rfl hw<|fun hGF=>Xp<|Bx 1 hGF rfl<|fun b1=>Al 2 hGF zv52<|fun b2=>aa<|Xp<|La 1 rfl rfl bp<|ju hGF isAgg25 sizeOf25 sm (fun _ h=>h.g4) rfl rfl<|Ca rfl (m9 _ _ sm)<|Sa 2 hGF rfl rfl rfl bp<|aa<|am<|Rr<|?_
 exact az 2 rfl rfl rfl isAgg52 sizeOf52 sm (fun w hw=>⟨by rw[←Hm],ae hw⟩)
theorem Ax(x:Zp):PUR 289 [EV x] (.bool (decide (x.val % 2=1))):=by
 intro w hw
 refine Hf func289 rfl hw<|fun hGF=>Xp<|Bx 1 hGF rfl<|fun b1=>Asg rfl<|aa<|Xp<|La 1 rfl rfl bp<|Ca rfl (i5 _)<|iX U64 0 (0) rfl rfl underlying25 sizeOf24 isAgg24 om om sm rfl rfl<|Bnr rfl rfl (fun _=>d9 _ _ _ dc)<|Bnr rfl rfl (fun _=>bU _ _ _)<|Asg rfl<|aa<|am<|Rr<|?_
 exact aH rfl rfl (fun w hw=>⟨by rw[←Md]<;>rfl,ae hw⟩)
theorem fZ(x:Zp):PUR 89 [EV x] (.bool (decide (hf<x.val))):=by
 intro w hw
 refine Hf func89 rfl hw<|fun hGF=>Xp<|Bx 1 hGF rfl<|fun b1=>Asg rfl<|aa<|Xd []<|ju hGF isAgg25 sizeOf25 sm (fun _ h=>h.g2) rfl rfl<|La 1 rfl rfl bp<|Ca rfl (i5 _)<|Ca rfl (ko _ _ sm sm)<|Asg rfl<|aa<|am<|Rr<|?_
 exact aH rfl rfl (fun w hw=>⟨by rw[←EP],ae hw⟩)
theorem GY(x:Zp):PUR 189 [EV x,NV RTP] (EV (SQr x)):=by
 have h:=m9 x RTP rfl
 rw[HQ]at h
 exact h
theorem kS(x:Zp):PUR 172 [EV x] (.tuple #[EV (SQ x),.bool (decide (SQr x*SQr x=x))]):=by
 intro w hw
 refine Hf func172 rfl hw<|fun hGF=>Xp<|Bx 1 hGF rfl<|fun b1=>Al 2 hGF zv52<|fun b2=>Asg rfl<|aa<|Xp<|La 1 rfl rfl bp<|ju hGF isAgg25 sizeOf25 sm (fun _ h=>h.g6) rfl rfl<|Ca rfl (GY x)<|Al 4 hGF zv52<|fun b4=>Sa 4 hGF rfl rfl rfl bp<|aa<|ah<|Xd []<|La 4 rfl rfl bp<|Ca rfl (jj _)<|La 1 rfl rfl bp<|Ca rfl (nf _ _)<|a5 rfl (fun _=>aL _) rfl rfl<|aa<|?_
 refine bX rfl (fun hc=> ?_) (fun hc=> ?_)
 ·have hs: ¬SQr x*SQr x=x:=by simpa using hc
  refine Xp<|fC zv52 underlying52 (pq sizeOf25) rfl rfl<|Sa 2 hGF rfl rfl rfl bp<|Asg rfl<|aa<|am<|Rr<|?_
  exact aW 2 rfl rfl rfl rfl isAgg52 sizeOf52 sm (fun w hw=>⟨by rw[SQ,if_neg hs,decide_eq_false hs,←kF]<;>rfl,ae hw⟩)
 ·have hs:SQr x*SQr x=x:=by simpa using hc
  clear hc
  refine ap<|ah<|Xp<|La 4 rfl rfl bp<|Ca rfl (fZ _)<|aa<|?_
  refine bX rfl (fun hc=> ?_) (fun hc=> ?_)
  ·simp only[decide_eq_true_eq]at hc
   refine Xq<|La 4 rfl rfl bp<|Ca rfl (dv _)<|Sa 4 hGF rfl rfl rfl bp<|aa<|Xp<|La 4 rfl rfl bp<|Sa 2 hGF rfl rfl rfl bp<|Asg rfl<|aa<|am<|Rr<|?_
   exact aW 2 rfl rfl rfl rfl isAgg52 sizeOf52 sm (fun w hw=>⟨by rw[SQ,if_pos hs,SQn,if_pos hc,decide_eq_true hs]<;>rfl,ae hw⟩)
  ·simp only[decide_eq_false_iff_not]at hc
   refine ap<|Xp<|La 4 rfl rfl bp<|Sa 2 hGF rfl rfl rfl bp<|Asg rfl<|aa<|am<|Rr<|?_
   exact aW 2 rfl rfl rfl rfl isAgg52 sizeOf52 sm (fun w hw=>⟨by rw[SQ,if_pos hs,SQn,if_neg hc,decide_eq_true hs]<;>rfl,ae hw⟩)
theorem dB(e:Option Addr)(cap:Nat)(bs:L8)(w:World)(hw:Gt w)(hby:BytesAt w e bs):
 CLS 90 [.slice e bs.length cap].toArray w (fun r w'=>r=.returned (.tuple #[EV (FV bs),.bool (FO bs)])∧Grow w w'):=by
 refine Hf func90 rfl hw<|fun hGF=>Xp<|Al 2 hGF zv52<|fun b2=>Asg rfl<|aa<|ah<|Xp<|Mv rfl<|bk rfl (fun _=>aE underlying22 _ _ _ _) rfl rfl<|Bnr rfl rfl (fun _=>a6 _ _ _)<|aa<|?_
 refine bX rfl (fun hc=> ?_) (fun hc=> ?_)
 ·have hc: ¬bs.length=48:=by simp at hc;omega
  refine Xp<|fC zv52 underlying52 (pq sizeOf25) rfl rfl<|Sa 2 hGF rfl rfl rfl bp<|Asg rfl<|aa<|am<|Rr<|?_
  exact aW 2 rfl rfl rfl rfl isAgg52 sizeOf52 sm (fun w hw=>⟨by rw[FV,FO,if_neg (fun h=>hc h.1),decide_eq_false (fun h=>hc h.1),←kF]<;>rfl,ae hw⟩)
 ·have h48:bs.length=48:=by simp at hc;omega
  clear hc
  refine ap<|Xp<|Mv rfl<|Cc rfl ent38 (fun w' hC hG=>m7 e bs.length cap bs rfl om w' hG (hby.grow (ae hC)))<|Mv rfl<|Ext rfl rfl<|Ext rfl rfl<|Al 4 hGF zv25<|fun b4=>Sa 4 hGF rfl rfl rfl bL<|Asg rfl<|aa<|ah<|Xp<|Mv rfl<|a5 rfl (fun _=>aL _) rfl rfl<|Mv rfl<|La 4 rfl rfl bL<|ju hGF isAgg25 sizeOf25 sm (fun _ h=>h.g3) rfl rfl<|Ca rfl (ko _ _ sm sm)<|a5 rfl (fun _=>aL _) rfl rfl<|Pk rfl rfl rfl<|aa<|?_
  refine bX rfl (fun hc=> ?_) (fun hc=> ?_)
  ·have e0:V (FRs bs bs.length) 6=BN bs 48:=by rw[ur bs om,h48]
   have hl: ¬BN bs 48<PP:=by rw[oT,mt,e0]at hc;simpa using hc
   clear hc
   refine Xp<|fC zv52 underlying52 (pq sizeOf25) rfl rfl<|Sa 2 hGF rfl rfl rfl bp<|Asg rfl<|aa<|am<|Rr<|?_
   exact aW 2 rfl rfl rfl rfl isAgg52 sizeOf52 sm (fun w hw=>⟨by rw[FV,FO,if_neg (fun h=>hl h.2),decide_eq_false (fun h=>hl h.2),←kF]<;>rfl,ae hw⟩)
  ·have e0:V (FRs bs bs.length) 6=BN bs 48:=by rw[ur bs om,h48]
   have hl:BN bs 48<PP:=by rw[oT,mt,e0]at hc;simpa using hc
   clear hc
   refine ap<|Xp<|La 4 rfl rfl bL<|Ca rfl (kR _ sm)<|Sa 2 hGF rfl rfl rfl bp<|Asg rfl<|aa<|am<|Rr<|?_
   exact aW 2 rfl rfl rfl rfl isAgg52 sizeOf52 sm (fun w hw=>⟨by rw[FV,FO,if_pos ⟨h48,hl⟩,decide_eq_true ⟨h48,hl⟩,ur bs om,h48]<;>rfl,ae hw⟩)
structure WSt(w:World)(bs:L8) where
 (k:Nat) (a:Option Addr) (c:Nat)
 hk:k≤bs.length
 hc:bs.length-k≤c
 hb:BytesAt w a (bs.drop k)
 hm:k=0∨(bs.length-k) % 48=0
theorem mG(bs:L8)(k cut:Nat)(h:cut≤bs.length-k):((bs.drop k).take cut).length=cut:=by
 rw[List.length_take,List.length_drop];omega
theorem vm(y:Zp):PUR 137 [EV y,NV TWO] (EV (y*RZ)):=Ou▸gA y RZ
theorem uG(bs:L8)(h:bs.length≤48):PUR 139 [NV (FRs bs bs.length)] (EV (zp (BN bs bs.length))):=ur bs h▸kR (FRs bs bs.length) (aK _ _)
theorem uc(e:Option Addr)(cap:Nat)(bs:L8)(hlen:bs.length≤1000000)(hcap:bs.length≤cap)(w:World)(hw:Gt w)(hby:BytesAt w e bs):
 CLS 262 [.slice e bs.length cap].toArray w (fun r w'=>r=.returned (EV (ZB bs))∧Grow w w'):=by
 refine Hf func262 rfl hw<|fun hGF=>Xp<|Al 2 hGF zv52<|fun b2=>aa<|Xp<|Al 3 hGF zv52<|fun b3=>aa<|ah<|aj<|cE (ι:=WSt w bs) (fun x=>[(0,.slice x.a (bs.length-x.k) x.c),(2,pnt b2),(3,pnt b3)]) (fun x=>[(2,b2,(List.replicate 6 0#64).map U64,52),(3,b3,(fe (zp (BN bs x.k))).map U64,52)]) (fun x=>(bs.length-x.k)) ⟨0,e,cap,Nat.zero_le _,hcap,hby,.inl rfl⟩ hGF trv ⟨rfl,by rw[BN,LA,kF];rfl,trivial⟩<|fun x=>ah<|Xp<|Mv rfl<|bk rfl (fun _=>aE underlying22 _ _ _ _) rfl rfl<|Bnr rfl rfl (fun _=>bP _ _ _)<|aa<|?_
 refine bX rfl (fun hc=> ?_) (fun hc=> ?_)
 ·have hn:0<(bs.length-x.k):=by simp at hc;omega
  clear hc
  have hlenx:=x.hk
  have hcut:=FC hn
  have hnext:BytesAt w (if x.c=(((bs.length-x.k)-1) % 48+1)then x.a else x.a.map (·.add ((((bs.length-x.k)-1) % 48+1)*1))) (bs.drop (x.k+(((bs.length-x.k)-1) % 48+1))):=by
   have:=x.hb.drop (cap:=x.c) (l:=(((bs.length-x.k)-1) % 48+1)) (by rw[List.length_drop];exact x.hc) om
   rw[List.drop_drop]at this
   exact this
  have hstep:zp (BN bs x.k)*RZ+zp (BN ((bs.drop x.k).take (((bs.length-x.k)-1) % 48+1)) ((bs.drop x.k).take (((bs.length-x.k)-1) % 48+1)).length)=zp (BN bs (x.k+(((bs.length-x.k)-1) % 48+1))):=by
   rw[mG bs x.k _ hcut.2.1,It]
   exact zT bs x.k _ (jT id (NG hn) x.hm)
  refine ap<|aj<|Xp<|Mv rfl<|bk rfl (fun _=>aE underlying22 _ _ _ _) rfl rfl<|Bnr (v:=I (((bs.length-x.k)-1:Nat):Int)) rfl rfl (fun _=>(bq _ _ _ oi).trans (by rw[show ((bs.length-x.k:Nat):Int)-1=((bs.length-x.k-1:Nat):Int) by omega]))<|dY (v:=I ((((bs.length-x.k)-1) % 48:Nat):Int)) rfl rfl (fun _=>rfl) (fun _=>fF _ _ _ dc) rfl rfl<|dY (v:=I (((((bs.length-x.k)-1) % 48+1):Nat):Int)) rfl rfl (fun _=>rfl) (fun _=>ay _ _ _ oi) rfl rfl<|Asg rfl<|aa<|Xp<|Mv rfl<|Mv rfl<|nY (l:=0) (h':=(((bs.length-x.k)-1) % 48+1)) rfl underlying22 sizeOf5 rfl rfl ⟨Nat.zero_le _,Nat.le_trans hcut.2.1 x.hc⟩ rfl rfl<|pX rfl rfl ent38 (fun w' hC hG=>m7 _ (((bs.length-x.k)-1) % 48+1) _ ((bs.drop x.k).take (((bs.length-x.k)-1) % 48+1)) (mG bs x.k _ hcut.2.1) hcut.2.2 w' hG ((x.hb.cut 0 (((bs.length-x.k)-1) % 48+1) (by rw[List.length_drop];exact x.hc)).grow (ae hC))) rfl rfl<|Mv rfl<|Ext rfl rfl<|Ext rfl rfl<|Al 5 hGF zv25<|fun b5=>Sa 5 hGF rfl rfl rfl bL<|Asg rfl<|aa<|Xd []<|La 3 rfl rfl bp<|ju hGF isAgg25 sizeOf25 sm (fun _ h=>h.g5) rfl rfl<|dN rfl sm underlying52 rfl sizeOf25 zv52 rfl rfl<|Ca rfl (vm _)<|La 5 rfl rfl bL<|Ca rfl (uG ((bs.drop x.k).take (((bs.length-x.k)-1) % 48+1)) (by rw[mG bs x.k _ hcut.2.1];exact hcut.2.2))<|Ca rfl (qU _ _)<|Sa 3 hGF rfl rfl rfl bp<|aa<|Xq<|Mv rfl<|Mv rfl<|nY (l:=(((bs.length-x.k)-1) % 48+1)) (h':=(bs.length-x.k)) rfl underlying22 sizeOf5 rfl rfl ⟨hcut.2.1,x.hc⟩ rfl rfl<|Asg rfl<|aa<|?_
  repeat (refine aY ?_)
  exact aU<|⟨rfl,⟨x.k+(((bs.length-x.k)-1) % 48+1),_,x.c-(((bs.length-x.k)-1) % 48+1),by have:=x.hk;omega,by have:=x.hc;omega,hnext,.inr (by rw[Nat.sub_add_eq];exact hcut.1)⟩,_,by show bs.length-(x.k+(((bs.length-x.k)-1) % 48+1))<bs.length-x.k;omega,rfl,⟨congrArg (fun n=>some (Value.slice _ n _)) (Nat.sub_sub bs.length x.k (((bs.length-x.k)-1) % 48+1)),rfl,rfl,trivial⟩,⟨rfl,by rw[←hstep];rfl,trivial⟩⟩
 ·have hn:x.k=bs.length:=by simp at hc;have:=x.hk;omega
  clear hc
  refine a8<|Xp<|La 3 rfl rfl bp<|Sa 2 hGF rfl rfl rfl bp<|aa<|am<|Rr<|?_
  exact az 2 rfl rfl rfl isAgg52 sizeOf52 sm (fun w hw=>⟨by rw[hn];rfl,ae hw⟩)
end
section
open Go.RowKit
attribute [local simp] aV ba aT aO aD bd aK aJ aA PLl cv cw N1l cu cr cq a7 bc
def BTn(bs:L8):Nat→Nat
 |0=>0
 |i+1=>2*BTn bs i+(eB bs i).toNat
theorem E9(bs:L8)(k j:Nat)(hj:j<8):(eB bs (8*k+j)).toNat=(bs.getD k 0).toNat / 2^(7-j) % 2:=by
 rw[eB,show (8*k+j) / 8=k by omega,show (8*k+j) % 8=j by omega,BitVec.toNat_and,BitVec.toNat_ushiftRight,show (1#8).toNat=1 from rfl,Nat.and_one_is_mod,Nat.shiftRight_eq_div_pow]
theorem Hh{B b q r X:Nat}(hr:r=2*q)(hX:X=B+b / r):2*X+b / q % 2=2*B+b / q:=by
 have e:b / r=b / q / 2:=by rw[hr,Nat.mul_comm,Nat.div_div_eq_div_mul]
 rw[hX,e]
 omega
theorem uN(bs:L8)(k:Nat): ∀j,j≤8→BTn bs (8*k+j)=BTn bs (8*k)*2^j+(bs.getD k 0).toNat / 2^(8-j)
 |0,_=>by
  have h:=(bs.getD k 0).isLt
  rw[Nat.add_zero,Nat.pow_zero,Nat.mul_one,Nat.div_eq_of_lt h,Nat.add_zero]
 |j+1,h=>by
  have ih:=uN bs k j om
  rw[←Nat.add_assoc,BTn,E9 bs k j om,show 8-(j+1)=7-j by omega,Hh (r:=2^(8-j)) (by rw[show 8-j=7-j+1 by omega,Nat.pow_succ,Nat.mul_comm]) ih,Nat.pow_succ,Nat.mul_left_comm,Nat.mul_comm 2 (2^j)]
theorem mX(bs:L8): ∀k,BTn bs (8*k)=BN bs k
 |0=>rfl
 |k+1=>by
  rw[Nat.mul_add,uN bs k 8 (Nat.le_refl _),mX bs k,BN,Nat.sub_self,Nat.pow_zero,Nat.div_one,Nat.mul_comm]
theorem zH(bs:L8)(i:Nat):eB bs i=1#8∧(eB bs i).toNat=1∨¬eB bs i=1#8∧(eB bs i).toNat=0:=by
 by_cases h:eB bs i=1#8
 ·exact .inl ⟨h,by rw[h];rfl⟩
 ·refine .inr ⟨h, ?_⟩
  have e:(eB bs i).toNat≤1:=by
   rw[eB,BitVec.toNat_and,show (1#8).toNat=1 from rfl,Nat.and_one_is_mod]
   omega
  have:(eB bs i).toNat≠1:=fun e1=>h (BitVec.eq_of_toNat_eq (by rw[e1];rfl))
  omega
/-! ### The reference's numbers of many bytes -/
end
section
open Go.RowKit
attribute [local simp] aV ba aT aO aD bd aK aJ aA PLl cv cw N1l cu cr cq a7 bc
end
section
theorem sD{a:Zp}(h:a≠0):(-a).val=PP-a.val:=by
 have h0:a.val≠0:=fun e=>h (Fin.ext e)
 have hl:=a.isLt
 have e:zp (PP-a.val)+a=0:=by
  have:zp (PP-a.val)+zp a.val=0:=by rw[←fI,show PP-a.val+a.val=PP by omega,nc]
  rw[FK]at this
  exact this
 have e2: -a=zp (PP-a.val):=by grind
 rw[e2,ez,Nat.mod_eq_of_lt om]
theorem zW{a:Zp}(h: ¬a=0):(decide (hf<a.val) !=decide (hf<(-a).val))=true:=by
 have hl:=a.isLt
 have hp:=ld
 rw[sD h]
 by_cases h1:hf<a.val
 ·rw[decide_eq_true h1,decide_eq_false om];rfl
 ·rw[decide_eq_false h1,decide_eq_true om];rfl
theorem tg{a:Zp}(h:a≠0):a^hf*a^hf=1:=by
 rw[←qA,show hf+hf=PP-1 by have:=ld;omega,fermat h]
theorem y2{a:Zp}(h:a≠0):a^hf=1∨a^hf= -1:=by
 have e:=tg h
 have:(a^hf-1)*(a^hf+1)=0:=by grind
 rcases kI this with h|h
 ·left;grind
 ·right;grind
theorem s5: ¬(1:Zp)= -1:=fun h=>by
 have h2:(1:Zp)+1=0:=(congrArg (fun z=>z+(1:Zp)) h).trans (by grind)
 have h3:=congrArg Fin.val h2
 rw[Fin.val_add,show (1:Zp).val=1 % PP from rfl,Nat.mod_eq_of_lt pr_p.1,Nat.mod_eq_of_lt (by have:=mD;omega)]at h3
 cases h3
theorem ym(a:Zp):SQr a*SQr a=a^hf*a:=by rw[SQr,←qA,←Nat.two_mul,Ud,ps]
theorem o6{a:Zp}(h:SQr a*SQr a=a):SQ a*SQ a=a:=by
 rw[SQ,if_pos h,SQn]
 split
 ·grind
 ·exact h
theorem jG{a:Zp}(h:SQr a*SQr a=a): ¬hf<(SQ a).val:=by
 rw[SQ,if_pos h,SQn]
 split
 ·rename_i h1
  have h0:SQr a≠0:=fun e=>by rw[e]at h1;exact absurd h1 (Nat.not_lt_zero _)
  rw[sD h0]
  have:=ld
  omega
 ·rename_i h1;exact h1
theorem wy(a:Zp):SQr (a*a)*SQr (a*a)=a*a:=by
 rw[ym]
 by_cases h:a=0
 ·rw[h];grind
 ·rw[IM,tg h];grind
theorem Rx{x y:Zp}(h:x*x=y*y):x=y∨x= -y:=by
 have:(x-y)*(x+y)=0:=by grind
 rcases kI this with h|h
 ·left;grind
 ·right;grind
theorem TV(a:Zp):SQ (a*a)=a∨SQ (a*a)= -a:=Rx (o6 (wy a))
theorem Jd(a:Zp)(n:Nat):(-a)^(2*n+1)= -(a^(2*n+1)):=by
 rw[ps,ps,FJ,FJ,show (-a)^2=a^2 by grind];grind
theorem w6(a:Zp):(-a)^hf= -(a^hf):=by
 obtain ⟨n,hn⟩: ∃n,hf=2*n+1:=⟨hf / 2,by have:=Ow;omega⟩
 rw[hn];exact Jd a n
theorem rZ:zp 2≠0:=fun h=>by
 have:=congrArg Fin.val h
 rw[ez,Nat.mod_eq_of_lt (by have:=mD;omega)]at this
 cases this
theorem Ky:zp 4=zp 2*zp 2∧zp 2=1+1:=⟨io 2 2,fI 1 1⟩
end
section
abbrev W2:=Zp×Zp
def ad2(x y:W2):W2:=(x.1+y.1,x.2+y.2)
def ng2(x:W2):W2:=(-x.1,-x.2)
def sb2(x y:W2):W2:=(x.1-y.1,x.2-y.2)
def ml2(x y:W2):W2:=(x.1*y.1-x.2*y.2,x.1*y.2+x.2*y.1)
def cj2(x:W2):W2:=(x.1,-x.2)
def sc2(x:W2)(c:Zp):W2:=(x.1*c,x.2*c)
def xi2(x:W2):W2:=(x.1-x.2,x.1+x.2)
def nm2(x:W2):Zp:=x.1*x.1+x.2*x.2
def iv2(x:W2):W2:=(x.1*nm2 x^(PP-2),-x.2*nm2 x^(PP-2))
def on2:W2:=(1,0)
def ze2:W2:=(0,0)
theorem bt{x y:W2}(h1:x.1=y.1)(h2:x.2=y.2):x=y:=Prod.ext h1 h2
def R2:Rg W2 where
 zero:=ze2
 one:=on2
 add:=ad2
 mul:=ml2
 neg:=ng2
 add_assoc:=fun a b c=>bt (by simp only[ad2];grind) (by simp only[ad2];grind)
 add_comm:=fun a b=>bt (by simp only[ad2];grind) (by simp only[ad2];grind)
 add_zero:=fun a=>bt (by simp only[ad2,ze2];grind) (by simp only[ad2,ze2];grind)
 add_neg:=fun a=>bt (by simp only[ad2,ng2,ze2];grind) (by simp only[ad2,ng2,ze2];grind)
 mul_assoc:=fun a b c=>bt (by simp only[ml2];grind) (by simp only[ml2];grind)
 mul_comm:=fun a b=>bt (by simp only[ml2];grind) (by simp only[ml2];grind)
 mul_one:=fun a=>bt (by simp only[ml2,on2];grind) (by simp only[ml2,on2];grind)
 mul_add:=fun a b c=>bt (by simp only[ml2,ad2];grind) (by simp only[ml2,ad2];grind)
theorem k9(x y:W2):sb2 x y=ad2 x (ng2 y):=bt (by simp only[sb2,ad2,ng2];grind) (by simp only[sb2,ad2,ng2];grind)
theorem Fq(x:W2):xi2 x=ml2 x (1,1):=bt (by simp only[xi2,ml2];grind) (by simp only[xi2,ml2];grind)
theorem fP(x y:W2):nm2 (ml2 x y)=nm2 x*nm2 y:=by simp only[nm2,ml2];grind
theorem LF(x:W2):ml2 x (cj2 x)=(nm2 x,0):=bt (by simp only[ml2,cj2,nm2];grind) (by simp only[ml2,cj2];grind)
theorem fy(x y:W2):cj2 (ml2 x y)=ml2 (cj2 x) (cj2 y):=bt (by simp only[ml2,cj2];grind) (by simp only[ml2,cj2];grind)
theorem In(x y:W2):cj2 (ad2 x y)=ad2 (cj2 x) (cj2 y):=bt (by simp only[ad2,cj2]) (by simp only[ad2,cj2];grind)
/-! ### -1 is no square -/
theorem sG{a:Zp}(h:a≠0):(a*a)^hf=1:=by rw[IM,tg h]
theorem Ay{a:Zp}(h:0= -a):a=0:=by grind
theorem qy(a:Zp):a*1=a:=by grind
theorem xz(a:Zp): -(-a)=a:=by grind
theorem gX(a:Zp):a*0=0:=by grind
theorem A2{a b:Zp}(h:a*a+b*b=0):b=0:=by
 by_cases hb:b=0
 ·exact hb
 ·exfalso
  have e:a*a= -(b*b):=by grind
  have e2:(a*a)^hf= -1:=by rw[e,w6,sG hb]
  by_cases ha:a=0
  ·obtain ⟨n,hn⟩:=Oz
   rw[ha,gX,hn,KR]at e2
   exact kw (Ay e2)
  ·rw[sG ha]at e2
   exact s5 e2
theorem qp{x:W2}(h:nm2 x=0):x=ze2:=by
 have h1:=A2 h
 have h2:=A2 (a:=x.2) (b:=x.1) (by rw[←h];simp only[nm2];grind)
 exact bt h2 h1
theorem Ts:(0:Zp)+0=0:=sm
theorem Pp:nm2 ze2=0:=by simp only[nm2,ze2];rw[gX,Ts]
theorem Pv{x:W2}(h:x≠ze2):nm2 x≠0:=fun e=>h (qp e)
theorem cM{x:W2}(h:x≠ze2):ml2 x (iv2 x)=on2:=by
 have hz:=qv (Pv h)
 have e:nm2 x=x.1*x.1+x.2*x.2:=rfl
 have k: ∀j:Zp,nm2 x*j=1→ml2 x (x.1*j,-x.2*j)=on2:=fun j hj=>by
  rw[e]at hj
  refine bt ?_ ?_
  ·simp only[ml2,on2];grind
  ·simp only[ml2,on2];grind
 exact k _ hz
theorem fg{x y:W2}(h:ml2 x y=ze2):x=ze2∨y=ze2:=by
 have e:=fP x y
 rw[h,Pp]at e
 rcases kI e.symm with h|h
 ·exact .inl (qp h)
 ·exact .inr (qp h)
/-! ### Powers -/
def pw2(x:W2)(n:Nat):W2:=R2.pw x n
theorem nd(x:W2)(n:Nat):pw2 x (n+1)=ml2 (pw2 x n) x:=rfl
theorem sB(x:W2)(m n:Nat):pw2 x (m+n)=ml2 (pw2 x m) (pw2 x n):=R2.pw_add x m n
theorem zh(x:W2)(m n:Nat):pw2 x (m*n)=pw2 (pw2 x m) n:=R2.pw_mul x m n
theorem Iz(x y:W2)(n:Nat):pw2 (ml2 x y) n=ml2 (pw2 x n) (pw2 y n):=R2.mul_pw x y n
theorem r4(a:Zp):0*a=0:=by grind
theorem Pg:(0:Zp)+0=0:=sm
theorem mJ(a b:Zp):ml2 (a,0) (b,0)=(a*b,0):=bt (by simp only[ml2];grind) (by simp only[ml2];rw[gX,r4,Pg])
theorem Qu(a b:Zp):ml2 (a,0) (0,b)=(0,a*b):=bt (by simp only[ml2];rw[gX,r4];simp) (by simp only[ml2];grind)
theorem rV(a b:Zp):ml2 (0,a) (0,b)=(-(a*b),0):=bt (by simp only[ml2];grind) (by simp only[ml2];rw[gX,r4,Pg])
theorem nE:(1:Zp)*1=1:=qy 1
theorem z_nn(a:Zp): -a* -a=a*a:=by grind
theorem wN(a:Zp): ∀n,pw2 (a,0) n=(a^n,0)
 |0=>bt (p0 a).symm rfl
 |n+1=>by rw[nd,wN a n,mJ,ps]
theorem Vm:pw2 (0,1) PP=(0,-1):=by
 have h1:pw2 (0,1) 1=(0,1):=R2.pw_one _
 have h2:pw2 (0,1) 2=(-1,0):=by rw[nd,h1,rV,nE]
 have h3:pw2 (0,1) 3=(0,-1):=by rw[nd,h2,Qu,qy]
 have h4:pw2 (0,1) 4=on2:=by rw[nd,h3,rV,qy,xz];rfl
 obtain ⟨k,hk⟩: ∃k,PP=4*k+3:=⟨PP / 4,by have:=sy;omega⟩
 have e:pw2 (0,1) PP=pw2 (0,1) (4*k+3):=congrArg (fun n=>pw2 (0,1) n) hk
 have h5:pw2 on2 k=on2:=R2.one_pw k
 rw[e,sB,zh,h4,h3,h5]
 exact R2.one_mul _
theorem Ci(a:Zp):a^PP=a:=by
 by_cases h:a=0
 ·rw[h];exact KR PQ
 ·have e:a^PP=a^(PP-1+1):=congrArg (fun n=>a^n) (show PQ+1=PQ+1-1+1 from rfl)
  rw[e,ps,fermat h];grind
theorem vz: ∀n,R2.nat n=(zp n,0)
 |0=>rfl
 |n+1=>by
  show ad2 (R2.nat n) on2=_
  rw[vz n]
  exact bt (by simp only[ad2,on2];rw[fI,Tu]) Pg
theorem Bb(x:W2):pw2 x PP=cj2 x:=by
 have e:x=ad2 (x.1,0) (ml2 (x.2,0) (0,1)):=bt (by simp only[ad2,ml2];grind) (by simp only[ad2,ml2];grind)
 have hf:=R2.frob pr_p ((vz PP).trans (by rw[nc];rfl)) (x.1,0) (ml2 (x.2,0) (0,1))
 have h2:pw2 x PP=ad2 (pw2 (x.1,0) PP) (pw2 (ml2 (x.2,0) (0,1)) PP):=(congrArg (fun y=>pw2 y PP) e).trans hf
 rw[h2,Iz,wN,wN,Vm,Ci,Ci]
 exact bt (by simp only[ad2,ml2,cj2];grind) (by simp only[ad2,ml2,cj2];grind)
/-! ### Roots -/
theorem OW{x y:W2}(h:ml2 x x=ml2 y y):x=y∨x=ng2 y:=by
 have hk:ml2 (sb2 x y) (ad2 x y)=ze2:=by
  have h1:=congrArg Prod.fst h
  have h2:=congrArg Prod.snd h
  simp only[ml2]at h1 h2
  refine bt ?_ ?_
  ·simp only[ml2,sb2,ad2,ze2];grind
  ·simp only[ml2,sb2,ad2,ze2];grind
 rcases fg hk with h|h
 ·left
  have h1:=congrArg Prod.fst h
  have h2:=congrArg Prod.snd h
  simp only[sb2,ze2]at h1 h2
  exact bt (by grind) (by grind)
 ·right
  have h1:=congrArg Prod.fst h
  have h2:=congrArg Prod.snd h
  simp only[ad2,ze2]at h1 h2
  exact bt (by simp only[ng2];grind) (by simp only[ng2];grind)
def LG2(x:W2):Bool:=if x.2=0 then decide (hf<x.1.val)else decide (hf<x.2.val)
theorem qK{a:Zp}(h:a≠0):decide (hf<(-a).val)= !decide (hf<a.val):=by
 have:=zW h
 cases h1:decide (hf<a.val)<;>cases h2:decide (hf<(-a).val)<;>rw[h1,h2]at this<;>first|rfl|cases this
theorem ls{a:Zp}: -a=0↔a=0:=⟨fun h=>by grind,fun h=>by rw[h];grind⟩
theorem nU{x:W2}(h:x≠ze2):LG2 (ng2 x)= !LG2 x:=by
 unfold LG2 ng2
 by_cases h2:x.2=0
 ·rw[if_pos (ls.2 h2),if_pos h2]
  exact qK fun e=>h (bt e h2)
 ·rw[if_neg (fun e=>h2 (ls.1 e)),if_neg h2]
  exact qK h2
theorem ss:LG2 ze2=false:=by decide+kernel
theorem Cu:ng2 ze2=ze2:=bt (by simp only[ng2,ze2];grind) (by simp only[ng2,ze2];grind)
theorem DS(x:W2):ml2 (ng2 x) (ng2 x)=ml2 x x:=bt (by simp only[ml2,ng2];grind) (by simp only[ml2,ng2];grind)
theorem Ad{x y:W2}(h:ml2 x x=ml2 y y)(hx:LG2 x=false)(hy:LG2 y=false):x=y:=by
 rcases OW h with e|e
 ·exact e
 ·by_cases h0:y=ze2
  ·rw[e,h0,Cu]
  ·rw[e,nU h0,hy]at hx;cases hx
def IsQ(a:Zp):Prop:=SQr a*SQr a=a
theorem qq{a s:Zp}(h:s*s=a):IsQ a:=by rw[←h];exact wy s
theorem g8(a:Zp):IsQ a↔a=0∨a^hf=1:=by
 unfold IsQ
 rw[ym]
 constructor
 ·intro h
  by_cases h0:a=0
  ·exact .inl h0
  ·right
   have:(a^hf-1)*a=0:=by grind
   rcases kI this with h|h
   ·grind
   ·exact absurd h h0
 ·rintro (h|h)
  ·rw[h];grind
  ·rw[h];grind
theorem sV(a:Zp):IsQ a∨IsQ (-a):=by
 by_cases h:a=0
 ·exact .inl ((g8 a).2 (.inl h))
 ·rcases y2 h with h1|h1
  ·exact .inl ((g8 a).2 (.inr h1))
  ·right
   refine (g8 (-a)).2 (.inr ?_)
   rw[w6,h1];grind
theorem lj{a b c:Zp}(h:a*b= -(c*c))(hc:c≠0):(IsQ a∧¬IsQ b)∨(¬IsQ a∧IsQ b):=by
 have ha:a≠0:=fun e=>hc (A2 (a:=0) (b:=c) (by rw[e]at h;grind))
 have hb:b≠0:=fun e=>hc (A2 (a:=0) (b:=c) (by rw[e]at h;grind))
 have e:a^hf*b^hf= -1:=by rw[←IM,h,w6,sG hc]
 rcases y2 ha with h1|h1
 ·left
  refine ⟨(g8 a).2 (.inr h1),fun k=> ?_⟩
  rcases (g8 b).1 k with k|k
  ·exact hb k
  ·rw[h1,k]at e;exact s5 (by grind)
 ·right
  refine ⟨fun k=> ?_,(g8 b).2 (.inr (by rw[h1]at e;grind))⟩
  rcases (g8 a).1 k with k|k
  ·exact ha k
  ·rw[h1]at k;exact s5 k.symm
theorem nb(a:Zp):IsQ (a*a):=qq rfl
theorem kX{x s:W2}(h:ml2 s s=x):IsQ (nm2 x):=by rw[←h,fP];exact nb _
theorem tK{x:W2}{n s t h2:Zp}(hn:n*n=nm2 x)(h2e:(1+1)*h2=1)(hs:s*s=(x.1+n)*h2∨s*s=(x.1-n)*h2)(ht:s*t=1):ml2 (s,x.2*h2*t) (s,x.2*h2*t)=x:=by
 have e:nm2 x=x.1*x.1+x.2*x.2:=rfl
 rw[e]at hn
 have key:s*s-x.2*h2*t*(x.2*h2*t)=x.1:=by
  have e1:x.2*h2*t*(x.2*h2*t)=(x.2*x.2)*(h2*h2)*(t*t):=by grind
  have e2:x.2*x.2=n*n-x.1*x.1:=by grind
  rcases hs with hs|hs
  ·have e3:(n*n-x.1*x.1)*(h2*h2)=s*s*((n-x.1)*h2):=by grind
   have e4:s*s*((n-x.1)*h2)*(t*t)=(n-x.1)*h2:=by
    have:s*s*(t*t)=1:=by grind
    grind
   rw[e1,e2,e3,e4,hs]
   grind
  ·have e3:(n*n-x.1*x.1)*(h2*h2)=s*s*(-(n+x.1)*h2):=by grind
   have e4:s*s*(-(n+x.1)*h2)*(t*t)= -(n+x.1)*h2:=by
    have:s*s*(t*t)=1:=by grind
    grind
   rw[e1,e2,e3,e4,hs]
   grind
 refine bt key ?_
 simp only[ml2]
 have e5:s*(x.2*h2*t)+x.2*h2*t*s=x.2*((1+1)*h2)*(s*t):=by grind
 rw[e5,h2e,ht]
 grind
theorem y1: ∃j:Zp,(1+1)*j=1:=⟨zp 2^(PP-2),by have h:=qv rZ;rw[show (1+1:Zp)=zp 2 from Ky.2.symm];exact h⟩
theorem G1{x:W2}{n j:Zp}(hn:n*n=nm2 x):((x.1+n)*j)*((x.1-n)*j)= -(x.2*j*(x.2*j)):=by
 have hn':n*n=x.1*x.1+x.2*x.2:=hn
 grind
theorem G6{x:W2}{j:Zp}(hj:(1+1)*j=1)(h2:x.2≠0):x.2*j≠0:=fun e=>by
 rcases kI e with e|e
 ·exact h2 e
 ·rw[e]at hj;exact kw (hj.symm.trans (gX _))
theorem IK{a b c:Zp}(h:a*b= -(c*c))(hc:c≠0):a≠0∧b≠0:=
 ⟨fun e=>hc (A2 (a:=0) (b:=c) (by rw[e]at h;grind)),fun e=>hc (A2 (a:=0) (b:=c) (by rw[e]at h;grind))⟩
theorem A8{a:Zp}(h:IsQ a)(h0:a≠0):SQr a≠0:=fun e=>h0 (by
 have h':SQr a*SQr a=a:=h
 rw[e,gX]at h'
 exact h'.symm)
theorem iM(x:W2):(∃s,ml2 s s=x)↔IsQ (nm2 x):=by
 refine ⟨fun ⟨s,h⟩=>kX h,fun h=> ?_⟩
 by_cases h2:x.2=0
 ·rcases sV x.1 with hq|hq
  ·exact ⟨(SQr x.1,0),by rw[mJ,show SQr x.1*SQr x.1=x.1 from hq];exact bt rfl h2.symm⟩
  ·exact ⟨(0,SQr (-x.1)),by rw[rV,show SQr (-x.1)*SQr (-x.1)= -x.1 from hq,xz];exact bt rfl h2.symm⟩
 ·obtain ⟨j,hj⟩:=y1
  have hp:=G1 (x:=x) (j:=j) (n:=SQr (nm2 x)) h
  have hb:=G6 hj h2
  have hne:=IK hp hb
  rcases lj hp hb with ⟨hq,_⟩|⟨_,hq⟩
  ·exact ⟨_,tK h hj (.inl hq) (qv (A8 hq hne.1))⟩
  ·exact ⟨_,tK h hj (.inr hq) (qv (A8 hq hne.2))⟩
end
section
/-! ### Equality, signs -/
theorem BL{x y:W2}(h:x.1=y.1):decide (x.2=y.2)=decide (x=y):=decide_eq_decide.2 ⟨fun h'=>bt h h',fun h'=>by rw[h']⟩
theorem BC{x y:W2}(h: ¬x.1=y.1):false=decide (x=y):=(decide_eq_false fun h'=>h (by rw[h'])).symm
def SG2(x:W2):Int:=if x.1.val % 2=1 then 1 else if x.1=0 then (if x.2.val % 2=1 then 1 else 0)else 0
/-! ### Powers by digits -/
def fe2(x:W2):L6:=fe x.1++fe x.2
theorem aP(x:W2):(fe2 x).length=12:=by rw[fe2,List.length_append,aV,aV]
def SP2(x:W2)(i:Nat):L6:=FM (fun j=>if j<i then fe2 (pw2 x j)else fe2 ze2) 16
theorem aZ(x:W2)(i:Nat):(SP2 x i).length=192:=a9 _ _
/-! ### Roots -/
theorem JR{a:Zp}(h: ¬hf<a.val):LG2 (a,0)=false:=by
 show (if (0:Zp)=0 then decide (hf<a.val)else decide (hf<(0:Zp).val))=false
 rw[if_pos rfl];exact decide_eq_false h
theorem Ta{a:Zp}(h: ¬hf<a.val):LG2 (0,a)=false:=by
 show (if a=0 then decide (hf<(0:Zp).val)else decide (hf<a.val))=false
 split
 ·exact decide_eq_false (Nat.not_lt_zero _)
 ·exact decide_eq_false h
def RO(c:Zp):W2:=if SQr c*SQr c=c then (SQ c,0)else (0,SQ (-c))
theorem sZ{c:Zp}(h: ¬SQr c*SQr c=c):SQr (-c)*SQr (-c)= -c:=(sV c).resolve_left h
theorem Kt(c:Zp):ml2 (RO c) (RO c)=(c,0):=by
 unfold RO
 split
 ·rename_i h
  rw[mJ,o6 h]
 ·rename_i h
  rw[rV,o6 (sZ h),xz]
theorem Dc(c:Zp):LG2 (RO c)=false:=by
 unfold RO
 split
 ·rename_i h
  exact JR (jG h)
 ·rename_i h
  exact Ta (jG (sZ h))
theorem rb_a{s t j a b n:Zp}(ht:t*t=s+s)(hj:t*j=1)(hs:s=a+n)(hn:n*n=a*a+b*b):s*j*(s*j)-b*j*(b*j)=a:=by
 have e:(s+s)*(j*j)=1:=by
  rw[←ht]
  have:t*t*(j*j)=(t*j)*(t*j):=by grind
  rw[this,hj,nE]
 have e2:s*s-b*b=(s+s)*a:=by
  subst hs
  grind
 have e3:s*j*(s*j)-b*j*(b*j)=(s*s-b*b)*(j*j):=by grind
 have e4:(s+s)*a*(j*j)=(s+s)*(j*j)*a:=by grind
 rw[e3,e2,e4,e]
 grind
theorem rb_b{s t j b:Zp}(ht:t*t=s+s)(hj:t*j=1):s*j*(b*j)+b*j*(s*j)=b:=by
 have e:(s+s)*(j*j)=1:=by
  rw[←ht]
  have:t*t*(j*j)=(t*j)*(t*j):=by grind
  rw[this,hj,nE]
 have e3:s*j*(b*j)+b*j*(s*j)=(s+s)*(j*j)*b:=by grind
 rw[e3,e]
 grind
theorem rb_c{s t j a b n:Zp}(ht:t*t= -(s+s))(hj:t*j=1)(hs:s=a+n)(hn:n*n=a*a+b*b):b*j*(b*j)- -s*j*(-s*j)=a:=by
 have e: -(s+s)*(j*j)=1:=by
  rw[←ht]
  have:t*t*(j*j)=(t*j)*(t*j):=by grind
  rw[this,hj,nE]
 have e2:b*b-s*s= -(s+s)*a:=by
  subst hs
  grind
 have e3:b*j*(b*j)- -s*j*(-s*j)=(b*b-s*s)*(j*j):=by grind
 have e4: -(s+s)*a*(j*j)= -(s+s)*(j*j)*a:=by grind
 rw[e3,e2,e4,e]
 grind
theorem rb_d{s t j b:Zp}(ht:t*t= -(s+s))(hj:t*j=1):b*j*(-s*j)+ -s*j*(b*j)=b:=by
 have e: -(s+s)*(j*j)=1:=by
  rw[←ht]
  have:t*t*(j*j)=(t*j)*(t*j):=by grind
  rw[this,hj,nE]
 have e3:b*j*(-s*j)+ -s*j*(b*j)= -(s+s)*(j*j)*b:=by grind
 rw[e3,e]
 grind
theorem Ma{s:Zp}(h:s≠0):s+s≠0:=fun e=>by
 obtain ⟨j,hj⟩:=y1
 have:s=(s+s)*j:=by
  have e1:(s+s)*j=s*((1+1)*j):=by grind
  rw[e1,hj,qy]
 rw[e,r4]at this
 exact h this
theorem PN{a b n:Zp}(hn:n*n=a*a+b*b)(hb:b≠0):a+n≠0:=fun e=>by
 have:b*b=(a+n)*(n-a):=by grind
 rw[e,r4]at this
 exact hb ((kI this).elim id id)
theorem JL{a t:Zp}(h:t*t=a)(ha:a≠0):t≠0:=fun e=>ha (by rw[←h,e,gX])
def RBs(x:W2)(n:Zp):Zp:=x.1+n+(x.1+n)
def RB(x:W2)(n:Zp):W2:=
 if SQr (RBs x n)*SQr (RBs x n)=RBs x n then ((x.1+n)*SQ (RBs x n)^(PP-2),x.2*SQ (RBs x n)^(PP-2))
 else (x.2*SQ (-RBs x n)^(PP-2),-(x.1+n)*SQ (-RBs x n)^(PP-2))
theorem S3{x:W2}{n:Zp}(hn:n*n=nm2 x)(h2:x.2≠0):ml2 (RB x n) (RB x n)=x:=by
 have hd:RBs x n≠0:=Ma (PN hn h2)
 have hm: -RBs x n≠0:=fun e=>hd (ls.1 e)
 unfold RB
 split
 ·rename_i h
  have e:=o6 h
  have hj:=qv (JL e hd)
  generalize SQ (RBs x n)^(PP-2)=j at*
  generalize SQ (RBs x n)=t at*
  exact bt (rb_a e hj rfl hn) (rb_b e hj)
 ·rename_i h
  have e:=o6 (sZ h)
  have hj:=qv (JL e hm)
  generalize SQ (-RBs x n)^(PP-2)=j at*
  generalize SQ (-RBs x n)=t at*
  exact bt (rb_c e hj rfl hn) (rb_d e hj)
def NL(x:W2):W2:=if LG2 x=true then ng2 x else x
theorem B8(x:W2):ml2 (NL x) (NL x)=ml2 x x:=by
 unfold NL
 split
 ·exact DS x
 ·rfl
theorem oZ(x:W2):LG2 (NL x)=false:=by
 unfold NL
 split
 ·rename_i h
  have hx:x≠ze2:=fun e=>by rw[e,ss]at h;cases h
  rw[nU hx,h];rfl
 ·rename_i h
  exact Bool.eq_false_iff.2 h
theorem kp{x r q:W2}(hr:ml2 r r=x)(hl:LG2 r=false)(hq:ml2 q q=x)(hl':LG2 q=false):q=r:=Ad (hq.trans hr.symm) hl' hl
theorem IJ{x r:W2}(hr:ml2 r r=x)(hl:LG2 r=false)(h:x.2=0):RO x.1=r:=kp hr hl ((Kt x.1).trans (bt rfl h.symm)) (Dc _)
theorem yr{x r:W2}(hr:ml2 r r=x)(hl:LG2 r=false)(h:x.2≠0):NL (RB x (SQ (nm2 x)))=r:=kp hr hl ((B8 _).trans (S3 (o6 (kX hr)) h)) (oZ _)
theorem Vz{x:W2}(h: ¬IsQ (nm2 x)):x.2≠0:=fun e=>h ((iM x).1 ⟨RO x.1,(Kt x.1).trans (bt rfl e.symm)⟩)
end
section
open Go.RowKit
theorem oR: ∀k,cel (List.replicate k 0)=List.replicate (6*k) 0#64
 |0=>rfl
 |k+1=>by rw[List.replicate_succ,iT,oR k,kF,List.replicate_append_replicate];congr 1;omega
theorem il{t k:Nat}(h: ∀w,(zeroValue t).run prog w=.ok (aR (List.replicate (6*k) 0#64)) w): ∀w,(zeroValue t).run prog w=.ok (.agg (clv (List.replicate k 0)).toArray) w:=fun w=>by rw[clv,oR];exact h w
def szL:List (Nat×Nat):=[(25,1),(27,1),(37,1),(39,1),(41,2),(43,6),(52,1),(54,3),(92,2),(94,6),(142,2),(182,9),(231,6),(233,12),(262,6),(264,12),(288,6),(293,16),(307,12),(321,4),(322,16)]
def fsL:List (Nat×List (Nat×Nat)):=[(27,[(0,1)]),(39,[(0,1)]),(41,[(0,1),(1,1)]),(43,[(0,2),(2,2),(4,2)]),(52,[(0,1)]),(54,[(0,1),(1,1),(2,1)]),(92,[(0,1),(1,1)]),(94,[(0,2),(2,2),(4,2)]),(182,[(0,3),(3,6)]),(231,[(0,2),(2,2),(4,2)]),(233,[(0,6),(6,6)]),(262,[(0,2),(2,2),(4,2)]),(264,[(0,1),(1,1),(2,2),(4,2),(6,2),(8,2),(10,2)]),(321,[(0,2),(2,2)])]
abbrev gY(t k:Nat):Prop:=(∀w,(isAgg t).run prog w=.ok true w)∧(∀w,(sizeOf t).run prog w=.ok (6*k) w)∧∀w,(zeroValue t).run prog w=.ok (.agg (clv (List.replicate k 0)).toArray) w
theorem sz25:gY 25 1:=⟨isAgg25,sizeOf25,il fun w=>(zeroValue25 w).trans rr⟩
theorem sz27:gY 27 1:=⟨isAgg27,sizeOf27,il fun w=>(zeroValue27 w).trans rr⟩
theorem sz37:gY 37 1:=⟨isAgg37,sizeOf37,il fun w=>(zeroValue37 w).trans rr⟩
theorem sz39:gY 39 1:=⟨isAgg39,sizeOf39,il fun w=>(zeroValue39 w).trans rr⟩
theorem sz41:gY 41 2:=⟨isAgg41,sizeOf41,il fun w=>(zeroValue41 w).trans rr⟩
theorem sz43:gY 43 6:=⟨isAgg43,sizeOf43,il fun w=>(zeroValue43 w).trans rr⟩
theorem sz52:gY 52 1:=⟨isAgg52,sizeOf52,il fun w=>(zeroValue52 w).trans rr⟩
theorem sz54:gY 54 3:=⟨isAgg54,sizeOf54,il fun w=>(zeroValue54 w).trans rr⟩
theorem sz92:gY 92 2:=⟨isAgg92,sizeOf92,il fun w=>(zeroValue92 w).trans rr⟩
theorem sz94:gY 94 6:=⟨isAgg94,sizeOf94,il fun w=>(zeroValue94 w).trans rr⟩
theorem S9:gY 142 2:=⟨isAgg142,sizeOf142,il fun w=>(zeroValue142 w).trans rr⟩
theorem RK:gY 182 9:=⟨isAgg182,sizeOf182,il fun w=>(zeroValue182 w).trans rr⟩
theorem Su:gY 231 6:=⟨isAgg231,sizeOf231,il fun w=>(zeroValue231 w).trans rr⟩
theorem UW:gY 233 12:=⟨isAgg233,sizeOf233,il fun w=>(zeroValue233 w).trans rr⟩
theorem R5:gY 262 6:=⟨isAgg262,sizeOf262,il fun w=>(zeroValue262 w).trans rr⟩
theorem QP:gY 264 12:=⟨isAgg264,sizeOf264,il fun w=>(zeroValue264 w).trans rr⟩
theorem RJ:gY 288 6:=⟨isAgg288,sizeOf288,il fun w=>(zeroValue288 w).trans rr⟩
theorem SC:gY 293 16:=⟨isAgg293,sizeOf293,il fun w=>(zeroValue293 w).trans rr⟩
theorem U1:gY 307 12:=⟨isAgg307,sizeOf307,il fun w=>(zeroValue307 w).trans rr⟩
theorem UA:gY 321 4:=⟨isAgg321,sizeOf321,il fun w=>(zeroValue321 w).trans rr⟩
theorem Rb:gY 322 16:=⟨isAgg322,sizeOf322,il fun w=>(zeroValue322 w).trans rr⟩
theorem szOk(t k:Nat)(h:nw szL t=some k):gY t k:=by
 have h:=kf h
 simp only[szL,List.mem_cons,List.not_mem_nil,or_false,Prod.mk.injEq]at h
 rcases h with ⟨rfl,rfl⟩|⟨rfl,rfl⟩|⟨rfl,rfl⟩|⟨rfl,rfl⟩|⟨rfl,rfl⟩|⟨rfl,rfl⟩|⟨rfl,rfl⟩|⟨rfl,rfl⟩|⟨rfl,rfl⟩|⟨rfl,rfl⟩|⟨rfl,rfl⟩|⟨rfl,rfl⟩|⟨rfl,rfl⟩|⟨rfl,rfl⟩|⟨rfl,rfl⟩|⟨rfl,rfl⟩|⟨rfl,rfl⟩|⟨rfl,rfl⟩|⟨rfl,rfl⟩|⟨rfl,rfl⟩|⟨rfl,rfl⟩
 ·exact sz25
 ·exact sz27
 ·exact sz37
 ·exact sz39
 ·exact sz41
 ·exact sz43
 ·exact sz52
 ·exact sz54
 ·exact sz92
 ·exact sz94
 ·exact S9
 ·exact RK
 ·exact Su
 ·exact UW
 ·exact R5
 ·exact QP
 ·exact RJ
 ·exact SC
 ·exact U1
 ·exact UA
 ·exact Rb
abbrev kV(t:Nat)(l:List (Nat×Nat)):Prop:= ∃fields,prog.underlying t=some (.struct fields)∧(∀w,(Array.mapM (fun f=>Prod.mk f.offset<$>sizeOf f.type) fields:Sem _).run prog w=.ok (l.map (fun p=>(6*p.1,6*p.2))).toArray w)∧∀(i:Nat) (p:Nat×Nat),l[i]? =some p→∃(fd:Field) (m:Nat),fields[i]? =some fd∧fd.offset=6*p.1∧m≠0∧∀w,(sizeOf fd.type).run prog w=.ok m w
theorem fs27:kV 27 [(0,1)]:=by
 refine ⟨_,underlying27,fun w=>by simp[sizeOf25],fun i p h=> ?_⟩
 match i,h with
 |0,h=>cases h;exact ⟨_,6,rfl,rfl,dc,sizeOf25⟩
 |n+1,h=>simp at h
theorem fs39:kV 39 [(0,1)]:=by
 refine ⟨_,underlying39,fun w=>by simp[sizeOf37],fun i p h=> ?_⟩
 match i,h with
 |0,h=>cases h;exact ⟨_,6,rfl,rfl,dc,sizeOf37⟩
 |n+1,h=>simp at h
theorem fs41:kV 41 [(0,1),(1,1)]:=by
 refine ⟨_,underlying41,fun w=>by simp[sizeOf39],fun i p h=> ?_⟩
 match i,h with
 |0,h=>cases h;exact ⟨_,6,rfl,rfl,dc,sizeOf39⟩
 |1,h=>cases h;exact ⟨_,6,rfl,rfl,dc,sizeOf39⟩
 |n+2,h=>simp at h
theorem fs43:kV 43 [(0,2),(2,2),(4,2)]:=by
 refine ⟨_,underlying43,fun w=>by simp[sizeOf41],fun i p h=> ?_⟩
 match i,h with
 |0,h=>cases h;exact ⟨_,12,rfl,rfl,dc,sizeOf41⟩
 |1,h=>cases h;exact ⟨_,12,rfl,rfl,dc,sizeOf41⟩
 |2,h=>cases h;exact ⟨_,12,rfl,rfl,dc,sizeOf41⟩
 |n+3,h=>simp at h
theorem fs52:kV 52 [(0,1)]:=by
 refine ⟨_,underlying52,fun w=>by simp[sizeOf25],fun i p h=> ?_⟩
 match i,h with
 |0,h=>cases h;exact ⟨_,6,rfl,rfl,dc,sizeOf25⟩
 |n+1,h=>simp at h
theorem fs54:kV 54 [(0,1),(1,1),(2,1)]:=by
 refine ⟨_,underlying54,fun w=>by simp[sizeOf52],fun i p h=> ?_⟩
 match i,h with
 |0,h=>cases h;exact ⟨_,6,rfl,rfl,dc,sizeOf52⟩
 |1,h=>cases h;exact ⟨_,6,rfl,rfl,dc,sizeOf52⟩
 |2,h=>cases h;exact ⟨_,6,rfl,rfl,dc,sizeOf52⟩
 |n+3,h=>simp at h
theorem fs92:kV 92 [(0,1),(1,1)]:=by
 refine ⟨_,underlying92,fun w=>by simp[sizeOf52],fun i p h=> ?_⟩
 match i,h with
 |0,h=>cases h;exact ⟨_,6,rfl,rfl,dc,sizeOf52⟩
 |1,h=>cases h;exact ⟨_,6,rfl,rfl,dc,sizeOf52⟩
 |n+2,h=>simp at h
theorem fs94:kV 94 [(0,2),(2,2),(4,2)]:=by
 refine ⟨_,underlying94,fun w=>by simp[sizeOf92],fun i p h=> ?_⟩
 match i,h with
 |0,h=>cases h;exact ⟨_,12,rfl,rfl,dc,sizeOf92⟩
 |1,h=>cases h;exact ⟨_,12,rfl,rfl,dc,sizeOf92⟩
 |2,h=>cases h;exact ⟨_,12,rfl,rfl,dc,sizeOf92⟩
 |n+3,h=>simp at h
theorem R0:kV 182 [(0,3),(3,6)]:=by
 refine ⟨_,underlying182,fun w=>by simp[sizeOf54,sizeOf94],fun i p h=> ?_⟩
 match i,h with
 |0,h=>cases h;exact ⟨_,18,rfl,rfl,dc,sizeOf54⟩
 |1,h=>cases h;exact ⟨_,36,rfl,rfl,dc,sizeOf94⟩
 |n+2,h=>simp at h
theorem SJ:kV 231 [(0,2),(2,2),(4,2)]:=by
 refine ⟨_,underlying231,fun w=>by simp[sizeOf92],fun i p h=> ?_⟩
 match i,h with
 |0,h=>cases h;exact ⟨_,12,rfl,rfl,dc,sizeOf92⟩
 |1,h=>cases h;exact ⟨_,12,rfl,rfl,dc,sizeOf92⟩
 |2,h=>cases h;exact ⟨_,12,rfl,rfl,dc,sizeOf92⟩
 |n+3,h=>simp at h
theorem Sq:kV 233 [(0,6),(6,6)]:=by
 refine ⟨_,underlying233,fun w=>by simp[sizeOf231],fun i p h=> ?_⟩
 match i,h with
 |0,h=>cases h;exact ⟨_,36,rfl,rfl,dc,sizeOf231⟩
 |1,h=>cases h;exact ⟨_,36,rfl,rfl,dc,sizeOf231⟩
 |n+2,h=>simp at h
theorem RF:kV 262 [(0,2),(2,2),(4,2)]:=by
 refine ⟨_,underlying262,fun w=>by simp[sizeOf92],fun i p h=> ?_⟩
 match i,h with
 |0,h=>cases h;exact ⟨_,12,rfl,rfl,dc,sizeOf92⟩
 |1,h=>cases h;exact ⟨_,12,rfl,rfl,dc,sizeOf92⟩
 |2,h=>cases h;exact ⟨_,12,rfl,rfl,dc,sizeOf92⟩
 |n+3,h=>simp at h
theorem TN:kV 264 [(0,1),(1,1),(2,2),(4,2),(6,2),(8,2),(10,2)]:=by
 refine ⟨_,underlying264,fun w=>by simp[sizeOf52,sizeOf92],fun i p h=> ?_⟩
 match i,h with
 |0,h=>cases h;exact ⟨_,6,rfl,rfl,dc,sizeOf52⟩
 |1,h=>cases h;exact ⟨_,6,rfl,rfl,dc,sizeOf52⟩
 |2,h=>cases h;exact ⟨_,12,rfl,rfl,dc,sizeOf92⟩
 |3,h=>cases h;exact ⟨_,12,rfl,rfl,dc,sizeOf92⟩
 |4,h=>cases h;exact ⟨_,12,rfl,rfl,dc,sizeOf92⟩
 |5,h=>cases h;exact ⟨_,12,rfl,rfl,dc,sizeOf92⟩
 |6,h=>cases h;exact ⟨_,12,rfl,rfl,dc,sizeOf92⟩
 |n+7,h=>simp at h
theorem SO:kV 321 [(0,2),(2,2)]:=by
 refine ⟨_,underlying321,fun w=>by simp[sizeOf92],fun i p h=> ?_⟩
 match i,h with
 |0,h=>cases h;exact ⟨_,12,rfl,rfl,dc,sizeOf92⟩
 |1,h=>cases h;exact ⟨_,12,rfl,rfl,dc,sizeOf92⟩
 |n+2,h=>simp at h
theorem fsOk(t:Nat)(l:List (Nat×Nat))(h:nw fsL t=some l):kV t l:=by
 have h:=kf h
 simp only[fsL,List.mem_cons,List.not_mem_nil,or_false,Prod.mk.injEq]at h
 rcases h with ⟨rfl,rfl⟩|⟨rfl,rfl⟩|⟨rfl,rfl⟩|⟨rfl,rfl⟩|⟨rfl,rfl⟩|⟨rfl,rfl⟩|⟨rfl,rfl⟩|⟨rfl,rfl⟩|⟨rfl,rfl⟩|⟨rfl,rfl⟩|⟨rfl,rfl⟩|⟨rfl,rfl⟩|⟨rfl,rfl⟩|⟨rfl,rfl⟩
 ·exact fs27
 ·exact fs39
 ·exact fs41
 ·exact fs43
 ·exact fs52
 ·exact fs54
 ·exact fs92
 ·exact fs94
 ·exact R0
 ·exact SJ
 ·exact Sq
 ·exact RF
 ·exact TN
 ·exact SO
abbrev lV(t k:Nat):Prop:=(∀(op:BinOp) (x y:Operand) (xs ys:Array Value) (w:World),(eqGuard op t x y (.agg xs) (.agg ys)).run prog w=.ok () w)∧∃d0,d0≤100∧EqF prog t (6*k) d0
theorem QQ:lV 25 1:=⟨fun op x y xs ys w=>run_eqGuard_agg w op 25 x y xs ys kr,2,dc,(cx underlying25 underlying24 sizeOf24 isAgg24)⟩
theorem Vr:lV 27 1:=⟨fun op x y xs ys w=>run_eqGuard_agg w op 27 x y xs ys kr,3,dc,(cR underlying27 rfl dc kr isAgg25 sizeOf25 (cx underlying25 underlying24 sizeOf24 isAgg24))⟩
theorem RP:lV 37 1:=⟨fun op x y xs ys w=>run_eqGuard_agg w op 37 x y xs ys kr,2,dc,(cx underlying37 underlying24 sizeOf24 isAgg24)⟩
theorem SE:lV 39 1:=⟨fun op x y xs ys w=>run_eqGuard_agg w op 39 x y xs ys kr,3,dc,(cR underlying39 rfl dc kr isAgg37 sizeOf37 (cx underlying37 underlying24 sizeOf24 isAgg24))⟩
theorem Si:lV 41 2:=⟨fun op x y xs ys w=>run_eqGuard_agg w op 41 x y xs ys kr,4,dc,(fQ (m:=6) (n:=6) underlying41 rfl rfl dc dc kr isAgg39 sizeOf39 (cR underlying39 rfl dc kr isAgg37 sizeOf37 (cx underlying37 underlying24 sizeOf24 isAgg24)) isAgg39 sizeOf39 (cR underlying39 rfl dc kr isAgg37 sizeOf37 (cx underlying37 underlying24 sizeOf24 isAgg24)))⟩
theorem Q8:lV 52 1:=⟨fun op x y xs ys w=>run_eqGuard_agg w op 52 x y xs ys kr,3,dc,(cR underlying52 rfl dc kr isAgg25 sizeOf25 (cx underlying25 underlying24 sizeOf24 isAgg24))⟩
theorem Sd:lV 92 2:=⟨fun op x y xs ys w=>run_eqGuard_agg w op 92 x y xs ys kr,4,dc,(fQ (m:=6) (n:=6) underlying92 rfl rfl dc dc kr isAgg52 sizeOf52 (cR underlying52 rfl dc kr isAgg25 sizeOf25 (cx underlying25 underlying24 sizeOf24 isAgg24)) isAgg52 sizeOf52 (cR underlying52 rfl dc kr isAgg25 sizeOf25 (cx underlying25 underlying24 sizeOf24 isAgg24)))⟩
theorem QG:lV 142 2:=⟨fun op x y xs ys w=>run_eqGuard_agg w op 142 x y xs ys kr,2,dc,(cx underlying142 underlying24 sizeOf24 isAgg24)⟩
theorem PI:lV 288 6:=⟨fun op x y xs ys w=>run_eqGuard_agg w op 288 x y xs ys kr,5,dc,(mq (k:=3) (n:=12) dc underlying288 isAgg92 sizeOf92 (fQ (m:=6) (n:=6) underlying92 rfl rfl dc dc kr isAgg52 sizeOf52 (cR underlying52 rfl dc kr isAgg25 sizeOf25 (cx underlying25 underlying24 sizeOf24 isAgg24)) isAgg52 sizeOf52 (cR underlying52 rfl dc kr isAgg25 sizeOf25 (cx underlying25 underlying24 sizeOf24 isAgg24))))⟩
theorem Mj:lV 293 16:=⟨fun op x y xs ys w=>run_eqGuard_agg w op 293 x y xs ys kr,4,dc,(mq (k:=16) (n:=6) dc underlying293 isAgg52 sizeOf52 (cR underlying52 rfl dc kr isAgg25 sizeOf25 (cx underlying25 underlying24 sizeOf24 isAgg24)))⟩
theorem Qz:lV 307 12:=⟨fun op x y xs ys w=>run_eqGuard_agg w op 307 x y xs ys kr,5,dc,(mq (k:=6) (n:=12) dc underlying307 isAgg92 sizeOf92 (fQ (m:=6) (n:=6) underlying92 rfl rfl dc dc kr isAgg52 sizeOf52 (cR underlying52 rfl dc kr isAgg25 sizeOf25 (cx underlying25 underlying24 sizeOf24 isAgg24)) isAgg52 sizeOf52 (cR underlying52 rfl dc kr isAgg25 sizeOf25 (cx underlying25 underlying24 sizeOf24 isAgg24))))⟩
theorem N6:lV 321 4:=⟨fun op x y xs ys w=>run_eqGuard_agg w op 321 x y xs ys kr,5,dc,(fQ (m:=12) (n:=12) underlying321 rfl rfl dc dc kr isAgg92 sizeOf92 (fQ (m:=6) (n:=6) underlying92 rfl rfl dc dc kr isAgg52 sizeOf52 (cR underlying52 rfl dc kr isAgg25 sizeOf25 (cx underlying25 underlying24 sizeOf24 isAgg24)) isAgg52 sizeOf52 (cR underlying52 rfl dc kr isAgg25 sizeOf25 (cx underlying25 underlying24 sizeOf24 isAgg24))) isAgg92 sizeOf92 (fQ (m:=6) (n:=6) underlying92 rfl rfl dc dc kr isAgg52 sizeOf52 (cR underlying52 rfl dc kr isAgg25 sizeOf25 (cx underlying25 underlying24 sizeOf24 isAgg24)) isAgg52 sizeOf52 (cR underlying52 rfl dc kr isAgg25 sizeOf25 (cx underlying25 underlying24 sizeOf24 isAgg24))))⟩
theorem Pm:lV 322 16:=⟨fun op x y xs ys w=>run_eqGuard_agg w op 322 x y xs ys kr,6,dc,(mq (k:=4) (n:=24) dc underlying322 isAgg321 sizeOf321 (fQ (m:=12) (n:=12) underlying321 rfl rfl dc dc kr isAgg92 sizeOf92 (fQ (m:=6) (n:=6) underlying92 rfl rfl dc dc kr isAgg52 sizeOf52 (cR underlying52 rfl dc kr isAgg25 sizeOf25 (cx underlying25 underlying24 sizeOf24 isAgg24)) isAgg52 sizeOf52 (cR underlying52 rfl dc kr isAgg25 sizeOf25 (cx underlying25 underlying24 sizeOf24 isAgg24))) isAgg92 sizeOf92 (fQ (m:=6) (n:=6) underlying92 rfl rfl dc dc kr isAgg52 sizeOf52 (cR underlying52 rfl dc kr isAgg25 sizeOf25 (cx underlying25 underlying24 sizeOf24 isAgg24)) isAgg52 sizeOf52 (cR underlying52 rfl dc kr isAgg25 sizeOf25 (cx underlying25 underlying24 sizeOf24 isAgg24)))))⟩
def eqL:List (Nat×Nat):=[(25,1),(27,1),(37,1),(39,1),(41,2),(52,1),(92,2),(142,2),(288,6),(293,16),(307,12),(321,4),(322,16)]
theorem eqOk(t k:Nat)(h:(nw eqL t).isSome=true)(hk:nw szL t=some k):lV t k:=by
 obtain ⟨q,hq⟩:=Option.isSome_iff_exists.1 h
 have h:=kf hq
 simp only[eqL,List.mem_cons,List.not_mem_nil,or_false,Prod.mk.injEq]at h
 rcases h with ⟨rfl,rfl⟩|⟨rfl,rfl⟩|⟨rfl,rfl⟩|⟨rfl,rfl⟩|⟨rfl,rfl⟩|⟨rfl,rfl⟩|⟨rfl,rfl⟩|⟨rfl,rfl⟩|⟨rfl,rfl⟩|⟨rfl,rfl⟩|⟨rfl,rfl⟩|⟨rfl,rfl⟩|⟨rfl,rfl⟩
 ·cases hk;exact QQ
 ·cases hk;exact Vr
 ·cases hk;exact RP
 ·cases hk;exact SE
 ·cases hk;exact Si
 ·cases hk;exact Q8
 ·cases hk;exact Sd
 ·cases hk;exact QG
 ·cases hk;exact PI
 ·cases hk;exact Mj
 ·cases hk;exact Qz
 ·cases hk;exact N6
 ·cases hk;exact Pm
def arL:List (Nat×Nat):=[(288,2),(293,1),(307,2),(322,4)]
theorem arOk(t m:Nat)(h:nw arL t=some m): ∃n e,prog.underlying t=some (.array n e)∧∀w,(sizeOf e).run prog w=.ok (6*m) w:=by
 have h:=kf h
 simp only[arL,List.mem_cons,List.not_mem_nil,or_false,Prod.mk.injEq]at h
 rcases h with ⟨rfl,rfl⟩|⟨rfl,rfl⟩|⟨rfl,rfl⟩|⟨rfl,rfl⟩
 ·exact ⟨_,92,underlying288,sizeOf92⟩
 ·exact ⟨_,52,underlying293,sizeOf52⟩
 ·exact ⟨_,92,underlying307,sizeOf92⟩
 ·exact ⟨_,321,underlying322,sizeOf321⟩
theorem boOk(t:Nat)(h:[4].any (Nat.beq t)=true):prog.underlying t=some .bool:=by
 simp only[List.any_cons,List.any_nil,Bool.or_false]at h
 rw[Nat.eq_of_beq_eq_true h];exact underlying4
def TB:Tb prog Gt:=⟨nw szL,nw fsL,[],szOk,fsOk,(fun _ h=>by cases h),fun t=>(nw eqL t).isSome,eqOk,nw arL,arOk,fun t=>[4].any (Nat.beq t),boOk⟩
theorem OL{P:Program}{G:Cls}(T:Tb P G){f:Nat}{c:List S0→Option S1}(h:Snd P G f c): ∀e∈(f,c)::T.ct,Snd P G e.1 e.2:=fun e he=>by
 rcases List.mem_cons.1 he with rfl|he
 ·exact h
 ·exact T.hct e he
def Tb.add{P:Program}{G:Cls}(T:Tb P G){f:Nat}{c:List S0→Option S1}(h:Snd P G f c):Tb P G:={T with ct:=(f,c)::T.ct,hct:=OL T h}
theorem gtS(w:World)(h:Gt w):BOk Gt (pl w):=gt_low.plain h
end
section
open Go.RowKit
attribute [local simp] aV ba aT aO aD bd aK aJ aA PLl cv cw N1l cu cr cq a7 bc aP aZ a9
theorem ent239:ai prog 239:=fun _ _=>kr
theorem ent253:ai prog 253:=fun _ _=>kr
theorem ent197:ai prog 197:=fun _ _=>kr
theorem ent232:ai prog 232:=fun _ _=>kr
theorem ent203:ai prog 203:=fun _ _=>kr
theorem ent224:ai prog 224:=fun _ _=>kr
theorem ent198:ai prog 198:=fun _ _=>kr
theorem ent150:ai prog 150:=fun _ _=>kr
theorem ent149:ai prog 149:=fun _ _=>kr
theorem ent199:ai prog 199:=fun _ _=>kr
theorem ent278:ai prog 278:=fun _ _=>kr
theorem ent148:ai prog 148:=fun _ _=>kr
theorem ent200:ai prog 200:=fun _ _=>kr
theorem ent255:ai prog 255:=fun _ _=>kr
theorem ent256:ai prog 256:=fun _ _=>kr
theorem ent272:ai prog 272:=fun _ _=>kr
theorem ent97:ai prog 97:=fun _ _=>kr
abbrev EV2(x:W2):Value:=aR (fe x.1++fe x.2)
theorem zf52(w:World):(zeroValue 52).run prog w=.ok (aR (fe 0)) w:=by rw[kF];exact (zeroValue52 w).trans rr
theorem zv92(w:World):(zeroValue 92).run prog w=.ok (aR (fe 0++fe 0)) w:=by rw[kF];exact (zeroValue92 w).trans rr
theorem eV:Two prog 92 ⟨ "C0",52,0,false, "", "",0⟩ ⟨ "C1",52,6,false, "", "",48⟩ 6 6 (fe 0) (fe 0):=⟨underlying92,rfl,rfl,sizeOf52,sizeOf52,zv92,aV 0,aV 0⟩
theorem e2{a b c d:Zp}(h1:a=c)(h2:b=d):Ending.returned (aR (fe a++fe b))=.returned (aR (fe c++fe d)):=by rw[h1,h2]
theorem rb{a b:Bool}(h:a=b):Ending.returned (.bool a)=.returned (.bool b):=by rw[h]
def q3:Sh (Zp×Zp×Zp):=q1.two (q1.two q1 1) 1
theorem pE{f:FuncId}{fn:Func}{c:Code}(T:Tb prog Gt)(hf:prog.funcs[f]? =some fn)(a:List S0)(v:S1)(vc:S1×CB)(p:Pa)(h:xF T fn c a p=some vc)(hc:Ok vc.2)(e:vc.1=v)(hb:fn.body=some c:=by rfl)(hn:Nat.ble a.length fn.ntmps=true:=by rfl):PUR f (a.map (dn rid)) (dn1 rid v):=by rw[←e];exact Mt (v:=vc.1) (cs:=vc.2) T dz gtS hf hb h hc hn rid
theorem el2{a b c d:Zp}(h1:a=c)(h2:b=d):(Sum.inl (Sum.inl [a,b]):S1)=.inl (.inl [c,d]):=by rw[h1,h2]
theorem eb{a b:Bool}(h:a=b):(Sum.inl (.inr (.inl a)):S1)=.inl (.inr (.inl b)):=by rw[h]
theorem ei{a b:Int}(h:a=b):(Sum.inl (.inr (.inr (.inl (I a)))):S1)=.inl (.inr (.inr (.inl (I b)))):=by rw[h]
theorem eM{f:Nat}{g:Zp→Zp→Zp}(en:ai prog f)(h: ∀a b,PUR f [EV a,EV b] (EV (g a b))):Snd prog Gt f (c2 q1.ag q1.ag q1.rd g):=fW q1.ag q1.ag q1.rd en h
def TO1:Tb prog Gt:=TB.add (eM (g:=fun x y=>x*y) ent137 gA)
theorem Av{f:Nat}{g:BitVec 64→Zp}(en:ai prog f)(h: ∀a,PUR f [U64 a] (EV (g a))):Snd prog Gt f (c1 agU q1.rd g):=f7 agU q1.rd en h
def TO2:Tb prog Gt:=TO1.add (Av (g:=fun n=>zp n.toNat) ent140 dK)
theorem oF{f:Nat}{g:Zp→Zp→Bool}(en:ai prog f)(h: ∀a b,PUR f [EV a,EV b] (.bool (g a b))):Snd prog Gt f (c2 q1.ag q1.ag rdB g):=fW q1.ag q1.ag rdB en h
def TO3:Tb prog Gt:=TO2.add (oF (g:=fun x y=>decide (x=y)) ent209 nf)
theorem mE{f:Nat}{g:Zp→Bool}(en:ai prog f)(h: ∀a,PUR f [EV a] (.bool (g a))):Snd prog Gt f (c1 q1.ag rdB g):=f7 q1.ag rdB en h
def TO4:Tb prog Gt:=TO3.add (mE (g:=fun x=>decide (x=0)) ent63 sR)
def TO5:Tb prog Gt:=TO4.add (eM (g:=fun x y=>x+y) ent201 qU)
def TO6:Tb prog Gt:=TO5.add (eM (g:=fun x y=>x-y) ent191 my)
theorem gM{f:Nat}{g:Zp→Zp}(en:ai prog f)(h: ∀a,PUR f [EV a] (EV (g a))):Snd prog Gt f (c1 q1.ag q1.rd g):=f7 q1.ag q1.rd en h
def TO7:Tb prog Gt:=TO6.add (gM (g:=fun x=> -x) ent173 dv)
def TO8:Tb prog Gt:=TO7.add (gM (g:=fun x=>x*x) ent136 jj)
theorem vB{f:Nat}{g:Zp}(en:ai prog f)(h:PUR f [U64 1#64] (EV g)):Snd prog Gt f (c1 (agL 1) q1.rd (fun _=>g)):=f7 (agL 1) q1.rd en (fun _=>h)
def TO9:Tb prog Gt:=TO8.add (vB (g:=1) ent140 qW)
def TO10:Tb prog Gt:=TO9.add (gM (g:=fun x=>x^(PP-2)) ent135 Az)
def TO11:Tb prog Gt:=TO10.add (mE (g:=fun x=>decide (x.val % 2=1)) ent289 Ax)
def TO12:Tb prog Gt:=TO11.add (mE (g:=fun x=>decide (hf<x.val)) ent89 fZ)
theorem u4{f:Nat}{g:Zp→Zp}{k:Zp→Bool}(en:ai prog f)(h: ∀a,PUR f [EV a] (.tuple #[EV (g a),.bool (k a)])):Snd prog Gt f (c1 q1.ag q1.rdB (fun a=>((g a),(k a)))):=f7 q1.ag q1.rdB en h
def TO13:Tb prog Gt:=TO12.add (u4 (g:=SQ) (k:=fun x=>decide (SQr x*SQr x=x)) ent172 kS)
theorem qR  :PUR 239 [] (EV2 on2):=pE TO13 func239 [] (.inl (.inl [on2.1,on2.2])) (.inl (.inl [1,0]),[]) [] kr aI rfl
theorem xj{f:Nat}{g:W2}(en:ai prog f)(h:PUR f [] (EV2 g)):Snd prog Gt f (c0 q2.rd g):=uw q2.rd en h
def TO24:Tb prog Gt:=TO13.add (xj (g:=on2) ent239 qR)
theorem rI(x y:W2):PUR 253 [EV2 x,EV2 y] (.bool (decide (x=y))):=by
 by_cases h:x.1=y.1
 ·exact pE TO24 func253 [.inl [x.1,x.2],.inl [y.1,y.2]] (.inl (.inr (.inl (decide (x=y))))) (.inl (.inr (.inl (decide (x.2=y.2)))),[(decide (x.1=y.1),true)]) [some true] kr (av (decide_eq_true h) aI) (eb (BL h))
 ·exact pE TO24 func253 [.inl [x.1,x.2],.inl [y.1,y.2]] (.inl (.inr (.inl (decide (x=y))))) (.inl (.inr (.inl false)),[(decide (x.1=y.1),false)]) [some false] kr (av (decide_eq_false h) aI) (eb (BC h))
theorem qd{f:Nat}{g:W2→W2→Bool}(en:ai prog f)(h: ∀a b,PUR f [EV2 a,EV2 b] (.bool (g a b))):Snd prog Gt f (c2 q2.ag q2.ag rdB g):=fW q2.ag q2.ag rdB en h
def TO25:Tb prog Gt:=TO24.add (qd (g:=fun x y=>decide (x=y)) ent253 rI)
theorem ul(x:W2):PUR 197 [EV2 x] (.bool (decide (x=ze2))):=by
 by_cases h:x.1=0
 ·exact pE TO25 func197 [.inl [x.1,x.2]] (.inl (.inr (.inl (decide (x=ze2))))) (.inl (.inr (.inl (decide (x.2=0)))),[(decide (x.1=0),true)]) [some true] kr (av (decide_eq_true h) aI) (eb (BL (y:=ze2) h))
 ·exact pE TO25 func197 [.inl [x.1,x.2]] (.inl (.inr (.inl (decide (x=ze2))))) (.inl (.inr (.inl false)),[(decide (x.1=0),false)]) [some false] kr (av (decide_eq_false h) aI) (eb (BC (y:=ze2) h))
theorem rn{f:Nat}{g:W2→Bool}(en:ai prog f)(h: ∀a,PUR f [EV2 a] (.bool (g a))):Snd prog Gt f (c1 q2.ag rdB g):=f7 q2.ag rdB en h
def TO26:Tb prog Gt:=TO25.add (rn (g:=fun x=>decide (x=ze2)) ent197 ul)
theorem eo(x y:W2):PUR 232 [EV2 x,EV2 y] (EV2 (ad2 x y)):=pE TO26 func232 [.inl [x.1,x.2],.inl [y.1,y.2]] (.inl (.inl [(ad2 x y).1,(ad2 x y).2])) (.inl (.inl [x.1+y.1,x.2+y.2]),[]) [] kr aI rfl
theorem eJ{f:Nat}{g:W2→W2→W2}(en:ai prog f)(h: ∀a b,PUR f [EV2 a,EV2 b] (EV2 (g a b))):Snd prog Gt f (c2 q2.ag q2.ag q2.rd g):=fW q2.ag q2.ag q2.rd en h
def TO27:Tb prog Gt:=TO26.add (eJ (g:=ad2) ent232 eo)
theorem kg(x y:W2):PUR 203 [EV2 x,EV2 y] (EV2 (sb2 x y)):=pE TO27 func203 [.inl [x.1,x.2],.inl [y.1,y.2]] (.inl (.inl [(sb2 x y).1,(sb2 x y).2])) (.inl (.inl [x.1-y.1,x.2-y.2]),[]) [] kr aI rfl
def TO28:Tb prog Gt:=TO27.add (eJ (g:=sb2) ent203 kg)
theorem Gh(x:W2):PUR 224 [EV2 x] (EV2 (ng2 x)):=pE TO28 func224 [.inl [x.1,x.2]] (.inl (.inl [(ng2 x).1,(ng2 x).2])) (.inl (.inl [-x.1,-x.2]),[]) [] kr aI rfl
theorem eN{f:Nat}{g:W2→W2}(en:ai prog f)(h: ∀a,PUR f [EV2 a] (EV2 (g a))):Snd prog Gt f (c1 q2.ag q2.rd g):=f7 q2.ag q2.rd en h
def TO29:Tb prog Gt:=TO28.add (eN (g:=ng2) ent224 Gh)
theorem mP(x:W2):PUR 198 [EV2 x] (EV2 (cj2 x)):=pE TO29 func198 [.inl [x.1,x.2]] (.inl (.inl [(cj2 x).1,(cj2 x).2])) (.inl (.inl [x.1,-x.2]),[]) [] kr aI rfl
def TO30:Tb prog Gt:=TO29.add (eN (g:=cj2) ent198 mP)
theorem db(x y:W2):PUR 150 [EV2 x,EV2 y] (EV2 (ml2 x y)):=pE TO30 func150 [.inl [x.1,x.2],.inl [y.1,y.2]] (.inl (.inl [(ml2 x y).1,(ml2 x y).2])) (let t0:=(x.1+x.2)*(y.1+y.2);let t1:=(x.1*y.1)-(x.2*y.2);let t2:=t0-(x.1*y.1);let t3:=t2-(x.2*y.2);(.inl (.inl [t1,t3]),[])) [] kr aI (el2 (by first|(simp only[ml2];done)|(simp only[ml2];grind)) (by first|(simp only[ml2];done)|(simp only[ml2];grind)))
def TO31:Tb prog Gt:=TO30.add (eJ (g:=ml2) ent150 db)
theorem gR(x:W2):PUR 149 [EV2 x] (EV2 (ml2 x x)):=pE TO31 func149 [.inl [x.1,x.2]] (.inl (.inl [(ml2 x x).1,(ml2 x x).2])) (let t0:=(x.1+x.2)*(x.1-x.2);let t1:=(x.1*x.2)+(x.1*x.2);(.inl (.inl [t0,t1]),[])) [] kr aI (el2 (by first|(simp only[ml2];done)|(simp only[ml2];grind)) (by first|(simp only[ml2];done)|(simp only[ml2];grind)))
def TO32:Tb prog Gt:=TO31.add (eN (g:=fun x=>ml2 x x) ent149 gR)
theorem Hn(x:W2)(c:Zp):PUR 199 [EV2 x,EV c] (EV2 (sc2 x c)):=pE TO32 func199 [.inl [x.1,x.2],.inl [c]] (.inl (.inl [(sc2 x c).1,(sc2 x c).2])) (.inl (.inl [x.1*c,x.2*c]),[]) [] kr aI rfl
theorem jy{f:Nat}{g:W2→Zp→W2}(en:ai prog f)(h: ∀a b,PUR f [EV2 a,EV b] (EV2 (g a b))):Snd prog Gt f (c2 q2.ag q1.ag q2.rd g):=fW q2.ag q1.ag q2.rd en h
def TO33:Tb prog Gt:=TO32.add (jy (g:=sc2) ent199 Hn)
theorem A0(x:W2):PUR 278 [EV2 x] (EV2 (xi2 x)):=pE TO33 func278 [.inl [x.1,x.2]] (.inl (.inl [(xi2 x).1,(xi2 x).2])) (.inl (.inl [x.1-x.2,x.1+x.2]),[]) [] kr aI rfl
def TO34:Tb prog Gt:=TO33.add (eN (g:=xi2) ent278 A0)
theorem PA(x:W2):PUR 200 [EV2 x] (EV (nm2 x)):=pE TO34 func200 [.inl [x.1,x.2]] (.inl (.inl [nm2 x])) (let t0:=(x.1*x.1)+(x.2*x.2);(.inl (.inl [t0]),[])) [] kr aI rfl
theorem vF{f:Nat}{g:W2→Zp}(en:ai prog f)(h: ∀a,PUR f [EV2 a] (EV (g a))):Snd prog Gt f (c1 q2.ag q1.rd g):=f7 q2.ag q1.rd en h
def TO35:Tb prog Gt:=TO34.add (vF (g:=nm2) ent200 PA)
theorem Dm(x:W2):PUR 148 [EV2 x] (EV2 (iv2 x)):=pE TO35 func148 [.inl [x.1,x.2]] (.inl (.inl [(iv2 x).1,(iv2 x).2])) (let t0:=cj2 x;let t1:=(nm2 x)^(PP-2);let t2:=sc2 (t0.1,t0.2) t1;(.inl (.inl [t2.1,t2.2]),[])) [] kr aI rfl
def TO36:Tb prog Gt:=TO35.add (eN (g:=iv2) ent148 Dm)
end
end Go.Proofs.YtfgacclgjklgnaaGreatDoor
