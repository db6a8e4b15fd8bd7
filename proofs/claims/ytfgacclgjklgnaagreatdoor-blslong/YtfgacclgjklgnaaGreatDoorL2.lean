/- L2 -/
import Derived.Test.YtfgacclgjklgnaaGreatDoorL1
import Derived.Test.YtfgacclgjklgnaaGreatDoorXW
import Derived.Test.YtfgacclgjklgnaaGreatDoorX3
import Derived.Test.YtfgacclgjklgnaaGreatDoorM1
import Derived.Test.YtfgacclgjklgnaaGreatDoorQ1
import Derived.Test.YtfgacclgjklgnaaGreatDoorX5
set_option maxRecDepth 100000
set_option maxHeartbeats 1000000
namespace Go.Proofs.YtfgacclgjklgnaaGreatDoor
open Go.Proofs.Tryz
section
open Go.RowKit
attribute [local simp] aT a9 aR aM aC bd aJ aI aA PLl cq cn N1l ck cp cm a5 bc
theorem QC(x:Zp)(b:Nat)(t:TypeId)(bs:L8)(h48:bs.length=48)(w:World)(hw:Gt w)(ho:OwnB w b (bs.map U8) t):
 CLS 226 [EV x,.slice (spt b) 48 48].toArray w (fun r w'=>r=.returned (EV (x^BN bs 48))∧Grow w w'):=by
 have h:=wu x (spt b) 48 bs om w hw (BytesAt.range ho.range)
 rw[h48]at h
 exact h
theorem nd(a:Option Addr)(len cap:Nat)(bs:L8)(hl:bs.length=len)(h:len≤48)(w:World)(hw:Gt w)(hby:BytesAt w a bs):
 CLS 38 [.slice a len cap].toArray w (fun e w'=>e=.returned (.tuple #[NV (FRs bs bs.length),.bool true])∧Grow w w'):=by
 subst hl
 exact (wz a cap bs w hw hby).mono fun e w' ⟨he,hg⟩=>⟨by rw[he,if_neg om],hg⟩
theorem na(x:Zp)(n:L6)(hn:n.length=6):PUR 189 [EV x,NV n] (EV (x^V n 6)):=by
 intro w hw
 refine Hf func189 rfl hw<|fun hGF=>Xp<|Bx 2 hGF rfl<|fun b2=>Bx 3 hGF rfl<|fun b3=>Al 4 hGF zv52<|fun b4=>aa<|Xp<|bT 3 rfl rfl isAgg25 sizeOf25 (by first|(simp;done)|simp[hn]) rfl rfl<|Ca rfl (lm _ (by first|(simp;done)|simp[hn]))<|Al 5 hGF zv29<|fun b5=>aw 5 hGF rfl rfl rfl sizeOf29 (by first|(simp;done)|simp[hn]) (by first|(simp;done)|simp[hn]) (bH _) rfl<|aa<|Xd []<|bT 2 rfl rfl isAgg52 sizeOf52 (by first|(simp;done)|simp[hn]) rfl rfl<|cf (l:=0) (h':=48) rfl underlying29 sizeOf5 rfl rfl om om rfl rfl<|Cc rfl ent226 (fun w hC hG=>QC x _ _ (BYs n 48) (by first|(simp;done)|simp[hn]) w hG (hC.own 5 _ _ _ rfl).1)<|aw 4 hGF rfl rfl rfl sizeOf52 (by first|(simp;done)|simp[hn]) (by first|(simp;done)|simp[hn]) (bq _) rfl<|aa<|am<|Rr<|?_
 exact ay 4 rfl rfl rfl isAgg52 sizeOf52 (by first|(simp;done)|simp[hn]) (fun w hw=>⟨by rw[Dw n hn 48 rfl],ac hw⟩)
theorem zU(x:Zp):PUR 135 [EV x] (EV (x^(PP-2))):=by
 intro w hw
 refine Hf func135 rfl hw<|fun hGF=>Xp<|Bx 1 hGF rfl<|fun b1=>Al 2 hGF zv52<|fun b2=>aa<|Xp<|La 1 rfl rfl bg<|ji hGF isAgg25 sizeOf25 sm (fun _ h=>h.g4) rfl rfl<|Ca rfl (na _ _ sm)<|Sa 2 hGF rfl rfl rfl bg<|aa<|am<|Rr<|?_
 exact ay 2 rfl rfl rfl isAgg52 sizeOf52 sm (fun w hw=>⟨by rw[←GO],ac hw⟩)
theorem AT(x:Zp):PUR 289 [EV x] (.bool (decide (x.val % 2=1))):=by
 intro w hw
 refine Hf func289 rfl hw<|fun hGF=>Xp<|Bx 1 hGF rfl<|fun b1=>Asg rfl<|aa<|Xp<|La 1 rfl rfl bg<|Ca rfl (i2 _)<|i7 U64 0 (0) rfl rfl underlying25 sizeOf24 isAgg24 om om sm rfl rfl<|Bnr rfl rfl (fun _=>dY _ _ _ dc)<|Bnr rfl rfl (fun _=>bR _ _ _)<|Asg rfl<|aa<|am<|Rr<|?_
 exact aH rfl rfl (fun w hw=>⟨by rw[←Nu]<;>rfl,ac hw⟩)
theorem fR(x:Zp):PUR 89 [EV x] (.bool (decide (hf<x.val))):=by
 intro w hw
 refine Hf func89 rfl hw<|fun hGF=>Xp<|Bx 1 hGF rfl<|fun b1=>Asg rfl<|aa<|Xd []<|ji hGF isAgg25 sizeOf25 sm (fun _ h=>h.g2) rfl rfl<|La 1 rfl rfl bg<|Ca rfl (i2 _)<|Ca rfl (kq _ _ sm sm)<|Asg rfl<|aa<|am<|Rr<|?_
 exact aH rfl rfl (fun w hw=>⟨by rw[←E7],ac hw⟩)
theorem HA(x:Zp):PUR 189 [EV x,NV RTP] (EV (SQr x)):=by
 have h:=na x RTP rfl
 rw[Hr]at h
 exact h
theorem kW(x:Zp):PUR 172 [EV x] (.tuple #[EV (SQ x),.bool (decide (SQr x*SQr x=x))]):=by
 intro w hw
 refine Hf func172 rfl hw<|fun hGF=>Xp<|Bx 1 hGF rfl<|fun b1=>Al 2 hGF zv52<|fun b2=>Asg rfl<|aa<|Xp<|La 1 rfl rfl bg<|ji hGF isAgg25 sizeOf25 sm (fun _ h=>h.g6) rfl rfl<|Ca rfl (HA x)<|Al 4 hGF zv52<|fun b4=>Sa 4 hGF rfl rfl rfl bg<|aa<|ah<|Xd []<|La 4 rfl rfl bg<|Ca rfl (iY _)<|La 1 rfl rfl bg<|Ca rfl (mZ _ _)<|aY rfl (fun _=>aK _) rfl rfl<|aa<|?_
 refine bV rfl (fun hc=> ?_) (fun hc=> ?_)
 ·have hs: ¬SQr x*SQr x=x:=by simpa using hc
  refine Xp<|fH zv52 underlying52 (p8 sizeOf25) rfl rfl<|Sa 2 hGF rfl rfl rfl bg<|Asg rfl<|aa<|am<|Rr<|?_
  exact a6 2 rfl rfl rfl rfl isAgg52 sizeOf52 sm (fun w hw=>⟨by rw[SQ,if_neg hs,decide_eq_false hs,←kA]<;>rfl,ac hw⟩)
 ·have hs:SQr x*SQr x=x:=by simpa using hc
  clear hc
  refine ap<|ah<|Xp<|La 4 rfl rfl bg<|Ca rfl (fR _)<|aa<|?_
  refine bV rfl (fun hc=> ?_) (fun hc=> ?_)
  ·simp only[decide_eq_true_eq]at hc
   refine Xq<|La 4 rfl rfl bg<|Ca rfl (dr _)<|Sa 4 hGF rfl rfl rfl bg<|aa<|Xp<|La 4 rfl rfl bg<|Sa 2 hGF rfl rfl rfl bg<|Asg rfl<|aa<|am<|Rr<|?_
   exact a6 2 rfl rfl rfl rfl isAgg52 sizeOf52 sm (fun w hw=>⟨by rw[SQ,if_pos hs,SQn,if_pos hc,decide_eq_true hs]<;>rfl,ac hw⟩)
  ·simp only[decide_eq_false_iff_not]at hc
   refine ap<|Xp<|La 4 rfl rfl bg<|Sa 2 hGF rfl rfl rfl bg<|Asg rfl<|aa<|am<|Rr<|?_
   exact a6 2 rfl rfl rfl rfl isAgg52 sizeOf52 sm (fun w hw=>⟨by rw[SQ,if_pos hs,SQn,if_neg hc,decide_eq_true hs]<;>rfl,ac hw⟩)
theorem dw(e:Option Addr)(cap:Nat)(bs:L8)(w:World)(hw:Gt w)(hby:BytesAt w e bs):
 CLS 90 [.slice e bs.length cap].toArray w (fun r w'=>r=.returned (.tuple #[EV (FV bs),.bool (FO bs)])∧Grow w w'):=by
 refine Hf func90 rfl hw<|fun hGF=>Xp<|Al 2 hGF zv52<|fun b2=>Asg rfl<|aa<|ah<|Xp<|Mv rfl<|bv rfl (fun _=>aL underlying22 _ _ _ _) rfl rfl<|Bnr rfl rfl (fun _=>aZ _ _ _)<|aa<|?_
 refine bV rfl (fun hc=> ?_) (fun hc=> ?_)
 ·have hc: ¬bs.length=48:=by simp at hc;omega
  refine Xp<|fH zv52 underlying52 (p8 sizeOf25) rfl rfl<|Sa 2 hGF rfl rfl rfl bg<|Asg rfl<|aa<|am<|Rr<|?_
  exact a6 2 rfl rfl rfl rfl isAgg52 sizeOf52 sm (fun w hw=>⟨by rw[FV,FO,if_neg (fun h=>hc h.1),decide_eq_false (fun h=>hc h.1),←kA]<;>rfl,ac hw⟩)
 ·have h48:bs.length=48:=by simp at hc;omega
  clear hc
  refine ap<|Xp<|Mv rfl<|Cc rfl ent38 (fun w' hC hG=>nd e bs.length cap bs rfl om w' hG (hby.grow (ac hC)))<|Mv rfl<|Ext rfl rfl<|Ext rfl rfl<|Al 4 hGF zv25<|fun b4=>Sa 4 hGF rfl rfl rfl bJ<|Asg rfl<|aa<|ah<|Xp<|Mv rfl<|aY rfl (fun _=>aK _) rfl rfl<|Mv rfl<|La 4 rfl rfl bJ<|ji hGF isAgg25 sizeOf25 sm (fun _ h=>h.g3) rfl rfl<|Ca rfl (kq _ _ sm sm)<|aY rfl (fun _=>aK _) rfl rfl<|Pk rfl rfl rfl<|aa<|?_
  refine bV rfl (fun hc=> ?_) (fun hc=> ?_)
  ·have e0:V (FRs bs bs.length) 6=BN bs 48:=by rw[un bs om,h48]
   have hl: ¬BN bs 48<PP:=by rw[qk,my,e0]at hc;simpa using hc
   clear hc
   refine Xp<|fH zv52 underlying52 (p8 sizeOf25) rfl rfl<|Sa 2 hGF rfl rfl rfl bg<|Asg rfl<|aa<|am<|Rr<|?_
   exact a6 2 rfl rfl rfl rfl isAgg52 sizeOf52 sm (fun w hw=>⟨by rw[FV,FO,if_neg (fun h=>hl h.2),decide_eq_false (fun h=>hl h.2),←kA]<;>rfl,ac hw⟩)
  ·have e0:V (FRs bs bs.length) 6=BN bs 48:=by rw[un bs om,h48]
   have hl:BN bs 48<PP:=by rw[qk,my,e0]at hc;simpa using hc
   clear hc
   refine ap<|Xp<|La 4 rfl rfl bJ<|Ca rfl (kS _ sm)<|Sa 2 hGF rfl rfl rfl bg<|Asg rfl<|aa<|am<|Rr<|?_
   exact a6 2 rfl rfl rfl rfl isAgg52 sizeOf52 sm (fun w hw=>⟨by rw[FV,FO,if_pos ⟨h48,hl⟩,decide_eq_true ⟨h48,hl⟩,un bs om,h48]<;>rfl,ac hw⟩)
structure WSt(w:World)(bs:L8) where
 (k:Nat) (a:Option Addr) (c:Nat)
 hk:k≤bs.length
 hc:bs.length-k≤c
 hb:BytesAt w a (bs.drop k)
 hm:k=0∨(bs.length-k) % 48=0
theorem mw(bs:L8)(k cut:Nat)(h:cut≤bs.length-k):((bs.drop k).take cut).length=cut:=by
 rw[List.length_take,List.length_drop];omega
theorem vR(y:Zp):PUR 137 [EV y,NV TWO] (EV (y*RZ)):=Pm▸gt y RZ
theorem tz(bs:L8)(h:bs.length≤48):PUR 139 [NV (FRs bs bs.length)] (EV (zp (BN bs bs.length))):=un bs h▸kS (FRs bs bs.length) (aJ _ _)
theorem tX(e:Option Addr)(cap:Nat)(bs:L8)(hlen:bs.length≤1000000)(hcap:bs.length≤cap)(w:World)(hw:Gt w)(hby:BytesAt w e bs):
 CLS 262 [.slice e bs.length cap].toArray w (fun r w'=>r=.returned (EV (ZB bs))∧Grow w w'):=by
 refine Hf func262 rfl hw<|fun hGF=>Xp<|Al 2 hGF zv52<|fun b2=>aa<|Xp<|Al 3 hGF zv52<|fun b3=>aa<|ah<|aj<|cH (ι:=WSt w bs) (fun x=>[(0,.slice x.a (bs.length-x.k) x.c),(2,pnt b2),(3,pnt b3)]) (fun x=>[(2,b2,(List.replicate 6 0#64).map U64,52),(3,b3,(fe (zp (BN bs x.k))).map U64,52)]) (fun x=>(bs.length-x.k)) ⟨0,e,cap,Nat.zero_le _,hcap,hby,.inl rfl⟩ hGF trv ⟨rfl,by rw[BN,ON,kA];rfl,trivial⟩<|fun x=>ah<|Xp<|Mv rfl<|bv rfl (fun _=>aL underlying22 _ _ _ _) rfl rfl<|Bnr rfl rfl (fun _=>cb _ _ _)<|aa<|?_
 refine bV rfl (fun hc=> ?_) (fun hc=> ?_)
 ·have hn:0<(bs.length-x.k):=by simp at hc;omega
  clear hc
  have hlenx:=x.hk
  have hcut:=BZ hn
  have hnext:BytesAt w (if x.c=(((bs.length-x.k)-1) % 48+1)then x.a else x.a.map (·.add ((((bs.length-x.k)-1) % 48+1)*1))) (bs.drop (x.k+(((bs.length-x.k)-1) % 48+1))):=by
   have:=x.hb.drop (cap:=x.c) (l:=(((bs.length-x.k)-1) % 48+1)) (by rw[List.length_drop];exact x.hc) om
   rw[List.drop_drop]at this
   exact this
  have hstep:zp (BN bs x.k)*RZ+zp (BN ((bs.drop x.k).take (((bs.length-x.k)-1) % 48+1)) ((bs.drop x.k).take (((bs.length-x.k)-1) % 48+1)).length)=zp (BN bs (x.k+(((bs.length-x.k)-1) % 48+1))):=by
   rw[mw bs x.k _ hcut.2.1,Jk]
   exact AQ bs x.k _ (jE id (Oj hn) x.hm)
  refine ap<|aj<|Xp<|Mv rfl<|bv rfl (fun _=>aL underlying22 _ _ _ _) rfl rfl<|Bnr (v:=I (((bs.length-x.k)-1:Nat):Int)) rfl rfl (fun _=>(bi _ _ _ oi).trans (by rw[show ((bs.length-x.k:Nat):Int)-1=((bs.length-x.k-1:Nat):Int) by omega]))<|d8 (v:=I ((((bs.length-x.k)-1) % 48:Nat):Int)) rfl rfl (fun _=>rfl) (fun _=>fK _ _ _ dc) rfl rfl<|d8 (v:=I (((((bs.length-x.k)-1) % 48+1):Nat):Int)) rfl rfl (fun _=>rfl) (fun _=>az _ _ _ oi) rfl rfl<|Asg rfl<|aa<|Xp<|Mv rfl<|Mv rfl<|nJ (l:=0) (h':=(((bs.length-x.k)-1) % 48+1)) rfl underlying22 sizeOf5 rfl rfl ⟨Nat.zero_le _,Nat.le_trans hcut.2.1 x.hc⟩ rfl rfl<|o0 rfl rfl ent38 (fun w' hC hG=>nd _ (((bs.length-x.k)-1) % 48+1) _ ((bs.drop x.k).take (((bs.length-x.k)-1) % 48+1)) (mw bs x.k _ hcut.2.1) hcut.2.2 w' hG ((x.hb.cut 0 (((bs.length-x.k)-1) % 48+1) (by rw[List.length_drop];exact x.hc)).grow (ac hC))) rfl rfl<|Mv rfl<|Ext rfl rfl<|Ext rfl rfl<|Al 5 hGF zv25<|fun b5=>Sa 5 hGF rfl rfl rfl bJ<|Asg rfl<|aa<|Xd []<|La 3 rfl rfl bg<|ji hGF isAgg25 sizeOf25 sm (fun _ h=>h.g5) rfl rfl<|dI rfl sm underlying52 rfl sizeOf25 zv52 rfl rfl<|Ca rfl (vR _)<|La 5 rfl rfl bJ<|Ca rfl (tz ((bs.drop x.k).take (((bs.length-x.k)-1) % 48+1)) (by rw[mw bs x.k _ hcut.2.1];exact hcut.2.2))<|Ca rfl (qQ _ _)<|Sa 3 hGF rfl rfl rfl bg<|aa<|Xq<|Mv rfl<|Mv rfl<|nJ (l:=(((bs.length-x.k)-1) % 48+1)) (h':=(bs.length-x.k)) rfl underlying22 sizeOf5 rfl rfl ⟨hcut.2.1,x.hc⟩ rfl rfl<|Asg rfl<|aa<|?_
  repeat (refine a7 ?_)
  exact aV<|⟨rfl,⟨x.k+(((bs.length-x.k)-1) % 48+1),_,x.c-(((bs.length-x.k)-1) % 48+1),by have:=x.hk;omega,by have:=x.hc;omega,hnext,.inr (by rw[Nat.sub_add_eq];exact hcut.1)⟩,_,by show bs.length-(x.k+(((bs.length-x.k)-1) % 48+1))<bs.length-x.k;omega,rfl,⟨congrArg (fun n=>some (Value.slice _ n _)) (Nat.sub_sub bs.length x.k (((bs.length-x.k)-1) % 48+1)),rfl,rfl,trivial⟩,⟨rfl,by rw[←hstep];rfl,trivial⟩⟩
 ·have hn:x.k=bs.length:=by simp at hc;have:=x.hk;omega
  clear hc
  refine ba<|Xp<|La 3 rfl rfl bg<|Sa 2 hGF rfl rfl rfl bg<|aa<|am<|Rr<|?_
  exact ay 2 rfl rfl rfl isAgg52 sizeOf52 sm (fun w hw=>⟨by rw[hn];rfl,ac hw⟩)
end
section
open Go.RowKit
attribute [local simp] aT a9 aR aM aC bd aJ aI aA PLl cq cn N1l ck cp cm a5 bc
def BTn(bs:L8):Nat→Nat
 |0=>0
 |i+1=>2*BTn bs i+(eB bs i).toNat
theorem Gi(bs:L8)(k j:Nat)(hj:j<8):(eB bs (8*k+j)).toNat=(bs.getD k 0).toNat / 2^(7-j) % 2:=by
 rw[eB,show (8*k+j) / 8=k by omega,show (8*k+j) % 8=j by omega,BitVec.toNat_and,BitVec.toNat_ushiftRight,show (1#8).toNat=1 from rfl,Nat.and_one_is_mod,Nat.shiftRight_eq_div_pow]
theorem I9{B b q r X:Nat}(hr:r=2*q)(hX:X=B+b / r):2*X+b / q % 2=2*B+b / q:=by
 have e:b / r=b / q / 2:=by rw[hr,Nat.mul_comm,Nat.div_div_eq_div_mul]
 rw[hX,e]
 omega
theorem tg(bs:L8)(k:Nat): ∀j,j≤8→BTn bs (8*k+j)=BTn bs (8*k)*2^j+(bs.getD k 0).toNat / 2^(8-j)
 |0,_=>by
  have h:=(bs.getD k 0).isLt
  rw[Nat.add_zero,Nat.pow_zero,Nat.mul_one,Nat.div_eq_of_lt h,Nat.add_zero]
 |j+1,h=>by
  have ih:=tg bs k j om
  rw[←Nat.add_assoc,BTn,Gi bs k j om,show 8-(j+1)=7-j by omega,I9 (r:=2^(8-j)) (by rw[show 8-j=7-j+1 by omega,Nat.pow_succ,Nat.mul_comm]) ih,Nat.pow_succ,Nat.mul_left_comm,Nat.mul_comm 2 (2^j)]
theorem mH(bs:L8): ∀k,BTn bs (8*k)=BN bs k
 |0=>rfl
 |k+1=>by
  rw[Nat.mul_add,tg bs k 8 (Nat.le_refl _),mH bs k,BN,Nat.sub_self,Nat.pow_zero,Nat.div_one,Nat.mul_comm]
theorem zi(bs:L8)(i:Nat):eB bs i=1#8∧(eB bs i).toNat=1∨¬eB bs i=1#8∧(eB bs i).toNat=0:=by
 by_cases h:eB bs i=1#8
 ·exact .inl ⟨h,by rw[h];rfl⟩
 ·refine .inr ⟨h, ?_⟩
  have e:(eB bs i).toNat≤1:=by
   rw[eB,BitVec.toNat_and,show (1#8).toNat=1 from rfl,Nat.and_one_is_mod]
   omega
  have:(eB bs i).toNat≠1:=fun e1=>h (BitVec.eq_of_toNat_eq (by rw[e1];rfl))
  omega
/-! ### The reference's numbers of many bytes -/
end
section
open Go.RowKit
attribute [local simp] aT a9 aR aM aC bd aJ aI aA PLl cq cn N1l ck cp cm a5 bc
end
section
theorem te{a:Zp}(h:a≠0):(-a).val=PP-a.val:=by
 have h0:a.val≠0:=fun e=>h (Fin.ext e)
 have hl:=a.isLt
 have e:zp (PP-a.val)+a=0:=by
  have:zp (PP-a.val)+zp a.val=0:=by rw[←fD,show PP-a.val+a.val=PP by omega,m6]
  rw[FY]at this
  exact this
 have e2: -a=zp (PP-a.val):=by grind
 rw[e2,eu,Nat.mod_eq_of_lt om]
theorem Ai{a:Zp}(h: ¬a=0):(decide (hf<a.val) !=decide (hf<(-a).val))=true:=by
 have hl:=a.isLt
 have hp:=kO
 rw[te h]
 by_cases h1:hf<a.val
 ·rw[decide_eq_true h1,decide_eq_false om];rfl
 ·rw[decide_eq_false h1,decide_eq_true om];rfl
theorem sE{a:Zp}(h:a≠0):a^hf*a^hf=1:=by
 rw[←qp,show hf+hf=PP-1 by have:=kO;omega,fermat h]
theorem zv{a:Zp}(h:a≠0):a^hf=1∨a^hf= -1:=by
 have e:=sE h
 have:(a^hf-1)*(a^hf+1)=0:=by grind
 rcases kN this with h|h
 ·left;grind
 ·right;grind
theorem sS: ¬(1:Zp)= -1:=fun h=>by
 have h2:(1:Zp)+1=0:=(congrArg (fun z=>z+(1:Zp)) h).trans (by grind)
 have h3:=congrArg Fin.val h2
 rw[Fin.val_add,show (1:Zp).val=1 % PP from rfl,Nat.mod_eq_of_lt pr_p.1,Nat.mod_eq_of_lt (by have:=mJ;omega)]at h3
 cases h3
theorem yI(a:Zp):SQr a*SQr a=a^hf*a:=by rw[SQr,←qp,←Nat.two_mul,Sv,ps]
theorem pY{a:Zp}(h:SQr a*SQr a=a):SQ a*SQ a=a:=by
 rw[SQ,if_pos h,SQn]
 split
 ·grind
 ·exact h
theorem jR{a:Zp}(h:SQr a*SQr a=a): ¬hf<(SQ a).val:=by
 rw[SQ,if_pos h,SQn]
 split
 ·rename_i h1
  have h0:SQr a≠0:=fun e=>by rw[e]at h1;exact absurd h1 (Nat.not_lt_zero _)
  rw[te h0]
  have:=kO
  omega
 ·rename_i h1;exact h1
theorem wV(a:Zp):SQr (a*a)*SQr (a*a)=a*a:=by
 rw[yI]
 by_cases h:a=0
 ·rw[h];grind
 ·rw[Ik,sE h];grind
theorem VE{x y:Zp}(h:x*x=y*y):x=y∨x= -y:=by
 have:(x-y)*(x+y)=0:=by grind
 rcases kN this with h|h
 ·left;grind
 ·right;grind
theorem Q7(a:Zp):SQ (a*a)=a∨SQ (a*a)= -a:=VE (pY (wV a))
theorem Ja(a:Zp)(n:Nat):(-a)^(2*n+1)= -(a^(2*n+1)):=by
 rw[ps,ps,Bl,Bl,show (-a)^2=a^2 by grind];grind
theorem vk(a:Zp):(-a)^hf= -(a^hf):=by
 obtain ⟨n,hn⟩: ∃n,hf=2*n+1:=⟨hf / 2,by have:=Ps;omega⟩
 rw[hn];exact Ja a n
theorem sX:zp 2≠0:=fun h=>by
 have:=congrArg Fin.val h
 rw[eu,Nat.mod_eq_of_lt (by have:=mJ;omega)]at this
 cases this
theorem Kn:zp 4=zp 2*zp 2∧zp 2=1+1:=⟨ib 2 2,fD 1 1⟩
end
section
abbrev W2:=Zp×Zp
def ad2(x y:W2):W2:=(x.1+y.1,x.2+y.2)
def ng2(x:W2):W2:=(-x.1,-x.2)
def sb2(x y:W2):W2:=(x.1-y.1,x.2-y.2)
def ml2(x y:W2):W2:=(x.1*y.1-x.2*y.2,x.1*y.2+x.2*y.1)
def cj2(x:W2):W2:=(x.1,-x.2)
def sc2(x:W2)(c:Zp):W2:=(x.1*c,x.2*c)
def xi2(x:W2):W2:=(x.1-x.2,x.1+x.2)
def nm2(x:W2):Zp:=x.1*x.1+x.2*x.2
def iv2(x:W2):W2:=(x.1*nm2 x^(PP-2),-x.2*nm2 x^(PP-2))
def on2:W2:=(1,0)
def ze2:W2:=(0,0)
theorem bp{x y:W2}(h1:x.1=y.1)(h2:x.2=y.2):x=y:=Prod.ext h1 h2
def R2:Rg W2 where
 zero:=ze2
 one:=on2
 add:=ad2
 mul:=ml2
 neg:=ng2
 add_assoc:=fun a b c=>bp (by simp only[ad2];grind) (by simp only[ad2];grind)
 add_comm:=fun a b=>bp (by simp only[ad2];grind) (by simp only[ad2];grind)
 add_zero:=fun a=>bp (by simp only[ad2,ze2];grind) (by simp only[ad2,ze2];grind)
 add_neg:=fun a=>bp (by simp only[ad2,ng2,ze2];grind) (by simp only[ad2,ng2,ze2];grind)
 mul_assoc:=fun a b c=>bp (by simp only[ml2];grind) (by simp only[ml2];grind)
 mul_comm:=fun a b=>bp (by simp only[ml2];grind) (by simp only[ml2];grind)
 mul_one:=fun a=>bp (by simp only[ml2,on2];grind) (by simp only[ml2,on2];grind)
 mul_add:=fun a b c=>bp (by simp only[ml2,ad2];grind) (by simp only[ml2,ad2];grind)
theorem kR(x y:W2):sb2 x y=ad2 x (ng2 y):=bp (by simp only[sb2,ad2,ng2];grind) (by simp only[sb2,ad2,ng2];grind)
theorem Bz(x:W2):xi2 x=ml2 x (1,1):=bp (by simp only[xi2,ml2];grind) (by simp only[xi2,ml2];grind)
theorem fN(x y:W2):nm2 (ml2 x y)=nm2 x*nm2 y:=by simp only[nm2,ml2];grind
theorem P2(x:W2):ml2 x (cj2 x)=(nm2 x,0):=bp (by simp only[ml2,cj2,nm2];grind) (by simp only[ml2,cj2];grind)
theorem ff(x y:W2):cj2 (ml2 x y)=ml2 (cj2 x) (cj2 y):=bp (by simp only[ml2,cj2];grind) (by simp only[ml2,cj2];grind)
theorem GE(x y:W2):cj2 (ad2 x y)=ad2 (cj2 x) (cj2 y):=bp (by simp only[ad2,cj2]) (by simp only[ad2,cj2];grind)
/-! ### -1 is no square -/
theorem rQ{a:Zp}(h:a≠0):(a*a)^hf=1:=by rw[Ik,sE h]
theorem zJ{a:Zp}(h:0= -a):a=0:=by grind
theorem qt(a:Zp):a*1=a:=by grind
theorem ym(a:Zp): -(-a)=a:=by grind
theorem gP(a:Zp):a*0=0:=by grind
theorem AO{a b:Zp}(h:a*a+b*b=0):b=0:=by
 by_cases hb:b=0
 ·exact hb
 ·exfalso
  have e:a*a= -(b*b):=by grind
  have e2:(a*a)^hf= -1:=by rw[e,vk,rQ hb]
  by_cases ha:a=0
  ·obtain ⟨n,hn⟩:=OH
   rw[ha,gP,hn,KB]at e2
   exact kd (zJ e2)
  ·rw[rQ ha]at e2
   exact sS e2
theorem o6{x:W2}(h:nm2 x=0):x=ze2:=by
 have h1:=AO h
 have h2:=AO (a:=x.2) (b:=x.1) (by rw[←h];simp only[nm2];grind)
 exact bp h2 h1
theorem Te:(0:Zp)+0=0:=sm
theorem N6:nm2 ze2=0:=by simp only[nm2,ze2];rw[gP,Te]
theorem MY{x:W2}(h:x≠ze2):nm2 x≠0:=fun e=>h (o6 e)
theorem cK{x:W2}(h:x≠ze2):ml2 x (iv2 x)=on2:=by
 have hz:=qs (MY h)
 have e:nm2 x=x.1*x.1+x.2*x.2:=rfl
 have k: ∀j:Zp,nm2 x*j=1→ml2 x (x.1*j,-x.2*j)=on2:=fun j hj=>by
  rw[e]at hj
  refine bp ?_ ?_
  ·simp only[ml2,on2];grind
  ·simp only[ml2,on2];grind
 exact k _ hz
theorem fg{x y:W2}(h:ml2 x y=ze2):x=ze2∨y=ze2:=by
 have e:=fN x y
 rw[h,N6]at e
 rcases kN e.symm with h|h
 ·exact .inl (o6 h)
 ·exact .inr (o6 h)
/-! ### Powers -/
def pw2(x:W2)(n:Nat):W2:=R2.pw x n
theorem np(x:W2)(n:Nat):pw2 x (n+1)=ml2 (pw2 x n) x:=rfl
theorem sn(x:W2)(m n:Nat):pw2 x (m+n)=ml2 (pw2 x m) (pw2 x n):=R2.pw_add x m n
theorem yw(x:W2)(m n:Nat):pw2 x (m*n)=pw2 (pw2 x m) n:=R2.pw_mul x m n
theorem IX(x y:W2)(n:Nat):pw2 (ml2 x y) n=ml2 (pw2 x n) (pw2 y n):=R2.mul_pw x y n
theorem sR(a:Zp):0*a=0:=by grind
theorem NR:(0:Zp)+0=0:=sm
theorem mF(a b:Zp):ml2 (a,0) (b,0)=(a*b,0):=bp (by simp only[ml2];grind) (by simp only[ml2];rw[gP,sR,NR])
theorem Pf(a b:Zp):ml2 (a,0) (0,b)=(0,a*b):=bp (by simp only[ml2];rw[gP,sR];simp) (by simp only[ml2];grind)
theorem rx(a b:Zp):ml2 (0,a) (0,b)=(-(a*b),0):=bp (by simp only[ml2];grind) (by simp only[ml2];rw[gP,sR,NR])
theorem nE:(1:Zp)*1=1:=qt 1
theorem z_nn(a:Zp): -a* -a=a*a:=by grind
theorem wN(a:Zp): ∀n,pw2 (a,0) n=(a^n,0)
 |0=>bp (p0 a).symm rfl
 |n+1=>by rw[np,wN a n,mF,ps]
theorem SW:pw2 (0,1) PP=(0,-1):=by
 have h1:pw2 (0,1) 1=(0,1):=R2.pw_one _
 have h2:pw2 (0,1) 2=(-1,0):=by rw[np,h1,rx,nE]
 have h3:pw2 (0,1) 3=(0,-1):=by rw[np,h2,Pf,qt]
 have h4:pw2 (0,1) 4=on2:=by rw[np,h3,rx,qt,ym];rfl
 obtain ⟨k,hk⟩: ∃k,PP=4*k+3:=⟨PP / 4,by have:=rG;omega⟩
 have e:pw2 (0,1) PP=pw2 (0,1) (4*k+3):=congrArg (fun n=>pw2 (0,1) n) hk
 have h5:pw2 on2 k=on2:=R2.one_pw k
 rw[e,sn,yw,h4,h3,h5]
 exact R2.one_mul _
theorem Cp(a:Zp):a^PP=a:=by
 by_cases h:a=0
 ·rw[h];exact KB PQ
 ·have e:a^PP=a^(PP-1+1):=congrArg (fun n=>a^n) (show PQ+1=PQ+1-1+1 from rfl)
  rw[e,ps,fermat h];grind
theorem wM: ∀n,R2.nat n=(zp n,0)
 |0=>rfl
 |n+1=>by
  show ad2 (R2.nat n) on2=_
  rw[wM n]
  exact bp (by simp only[ad2,on2];rw[fD,VI]) NR
theorem EP(x:W2):pw2 x PP=cj2 x:=by
 have e:x=ad2 (x.1,0) (ml2 (x.2,0) (0,1)):=bp (by simp only[ad2,ml2];grind) (by simp only[ad2,ml2];grind)
 have hf:=R2.frob pr_p ((wM PP).trans (by rw[m6];rfl)) (x.1,0) (ml2 (x.2,0) (0,1))
 have h2:pw2 x PP=ad2 (pw2 (x.1,0) PP) (pw2 (ml2 (x.2,0) (0,1)) PP):=(congrArg (fun y=>pw2 y PP) e).trans hf
 rw[h2,IX,wN,wN,SW,Cp,Cp]
 exact bp (by simp only[ad2,ml2,cj2];grind) (by simp only[ad2,ml2,cj2];grind)
/-! ### Roots -/
theorem Qo{x y:W2}(h:ml2 x x=ml2 y y):x=y∨x=ng2 y:=by
 have hk:ml2 (sb2 x y) (ad2 x y)=ze2:=by
  have h1:=congrArg Prod.fst h
  have h2:=congrArg Prod.snd h
  simp only[ml2]at h1 h2
  refine bp ?_ ?_
  ·simp only[ml2,sb2,ad2,ze2];grind
  ·simp only[ml2,sb2,ad2,ze2];grind
 rcases fg hk with h|h
 ·left
  have h1:=congrArg Prod.fst h
  have h2:=congrArg Prod.snd h
  simp only[sb2,ze2]at h1 h2
  exact bp (by grind) (by grind)
 ·right
  have h1:=congrArg Prod.fst h
  have h2:=congrArg Prod.snd h
  simp only[ad2,ze2]at h1 h2
  exact bp (by simp only[ng2];grind) (by simp only[ng2];grind)
def LG2(x:W2):Bool:=if x.2=0 then decide (hf<x.1.val)else decide (hf<x.2.val)
theorem qB{a:Zp}(h:a≠0):decide (hf<(-a).val)= !decide (hf<a.val):=by
 have:=Ai h
 cases h1:decide (hf<a.val)<;>cases h2:decide (hf<(-a).val)<;>rw[h1,h2]at this<;>first|rfl|cases this
theorem ma{a:Zp}: -a=0↔a=0:=⟨fun h=>by grind,fun h=>by rw[h];grind⟩
theorem nM{x:W2}(h:x≠ze2):LG2 (ng2 x)= !LG2 x:=by
 unfold LG2 ng2
 by_cases h2:x.2=0
 ·rw[if_pos (ma.2 h2),if_pos h2]
  exact qB fun e=>h (bp e h2)
 ·rw[if_neg (fun e=>h2 (ma.1 e)),if_neg h2]
  exact qB h2
theorem sk:LG2 ze2=false:=by decide+kernel
theorem DR:ng2 ze2=ze2:=bp (by simp only[ng2,ze2];grind) (by simp only[ng2,ze2];grind)
theorem B6(x:W2):ml2 (ng2 x) (ng2 x)=ml2 x x:=bp (by simp only[ml2,ng2];grind) (by simp only[ml2,ng2];grind)
theorem AN{x y:W2}(h:ml2 x x=ml2 y y)(hx:LG2 x=false)(hy:LG2 y=false):x=y:=by
 rcases Qo h with e|e
 ·exact e
 ·by_cases h0:y=ze2
  ·rw[e,h0,DR]
  ·rw[e,nM h0,hy]at hx;cases hx
def IsQ(a:Zp):Prop:=SQr a*SQr a=a
theorem oF{a s:Zp}(h:s*s=a):IsQ a:=by rw[←h];exact wV s
theorem gZ(a:Zp):IsQ a↔a=0∨a^hf=1:=by
 unfold IsQ
 rw[yI]
 constructor
 ·intro h
  by_cases h0:a=0
  ·exact .inl h0
  ·right
   have:(a^hf-1)*a=0:=by grind
   rcases kN this with h|h
   ·grind
   ·exact absurd h h0
 ·rintro (h|h)
  ·rw[h];grind
  ·rw[h];grind
theorem sL(a:Zp):IsQ a∨IsQ (-a):=by
 by_cases h:a=0
 ·exact .inl ((gZ a).2 (.inl h))
 ·rcases zv h with h1|h1
  ·exact .inl ((gZ a).2 (.inr h1))
  ·right
   refine (gZ (-a)).2 (.inr ?_)
   rw[vk,h1];grind
theorem mf{a b c:Zp}(h:a*b= -(c*c))(hc:c≠0):(IsQ a∧¬IsQ b)∨(¬IsQ a∧IsQ b):=by
 have ha:a≠0:=fun e=>hc (AO (a:=0) (b:=c) (by rw[e]at h;grind))
 have hb:b≠0:=fun e=>hc (AO (a:=0) (b:=c) (by rw[e]at h;grind))
 have e:a^hf*b^hf= -1:=by rw[←Ik,h,vk,rQ hc]
 rcases zv ha with h1|h1
 ·left
  refine ⟨(gZ a).2 (.inr h1),fun k=> ?_⟩
  rcases (gZ b).1 k with k|k
  ·exact hb k
  ·rw[h1,k]at e;exact sS (by grind)
 ·right
  refine ⟨fun k=> ?_,(gZ b).2 (.inr (by rw[h1]at e;grind))⟩
  rcases (gZ a).1 k with k|k
  ·exact ha k
  ·rw[h1]at k;exact sS k.symm
theorem mX(a:Zp):IsQ (a*a):=oF rfl
theorem k5{x s:W2}(h:ml2 s s=x):IsQ (nm2 x):=by rw[←h,fN];exact mX _
theorem tw{x:W2}{n s t h2:Zp}(hn:n*n=nm2 x)(h2e:(1+1)*h2=1)(hs:s*s=(x.1+n)*h2∨s*s=(x.1-n)*h2)(ht:s*t=1):ml2 (s,x.2*h2*t) (s,x.2*h2*t)=x:=by
 have e:nm2 x=x.1*x.1+x.2*x.2:=rfl
 rw[e]at hn
 have key:s*s-x.2*h2*t*(x.2*h2*t)=x.1:=by
  have e1:x.2*h2*t*(x.2*h2*t)=(x.2*x.2)*(h2*h2)*(t*t):=by grind
  have e2:x.2*x.2=n*n-x.1*x.1:=by grind
  rcases hs with hs|hs
  ·have e3:(n*n-x.1*x.1)*(h2*h2)=s*s*((n-x.1)*h2):=by grind
   have e4:s*s*((n-x.1)*h2)*(t*t)=(n-x.1)*h2:=by
    have:s*s*(t*t)=1:=by grind
    grind
   rw[e1,e2,e3,e4,hs]
   grind
  ·have e3:(n*n-x.1*x.1)*(h2*h2)=s*s*(-(n+x.1)*h2):=by grind
   have e4:s*s*(-(n+x.1)*h2)*(t*t)= -(n+x.1)*h2:=by
    have:s*s*(t*t)=1:=by grind
    grind
   rw[e1,e2,e3,e4,hs]
   grind
 refine bp key ?_
 simp only[ml2]
 have e5:s*(x.2*h2*t)+x.2*h2*t*s=x.2*((1+1)*h2)*(s*t):=by grind
 rw[e5,h2e,ht]
 grind
theorem zF: ∃j:Zp,(1+1)*j=1:=⟨zp 2^(PP-2),by have h:=qs sX;rw[show (1+1:Zp)=zp 2 from Kn.2.symm];exact h⟩
theorem Hg{x:W2}{n j:Zp}(hn:n*n=nm2 x):((x.1+n)*j)*((x.1-n)*j)= -(x.2*j*(x.2*j)):=by
 have hn':n*n=x.1*x.1+x.2*x.2:=hn
 grind
theorem Hy{x:W2}{j:Zp}(hj:(1+1)*j=1)(h2:x.2≠0):x.2*j≠0:=fun e=>by
 rcases kN e with e|e
 ·exact h2 e
 ·rw[e]at hj;exact kd (hj.symm.trans (gP _))
theorem IR{a b c:Zp}(h:a*b= -(c*c))(hc:c≠0):a≠0∧b≠0:=
 ⟨fun e=>hc (AO (a:=0) (b:=c) (by rw[e]at h;grind)),fun e=>hc (AO (a:=0) (b:=c) (by rw[e]at h;grind))⟩
theorem El{a:Zp}(h:IsQ a)(h0:a≠0):SQr a≠0:=fun e=>h0 (by
 have h':SQr a*SQr a=a:=h
 rw[e,gP]at h'
 exact h'.symm)
theorem iJ(x:W2):(∃s,ml2 s s=x)↔IsQ (nm2 x):=by
 refine ⟨fun ⟨s,h⟩=>k5 h,fun h=> ?_⟩
 by_cases h2:x.2=0
 ·rcases sL x.1 with hq|hq
  ·exact ⟨(SQr x.1,0),by rw[mF,show SQr x.1*SQr x.1=x.1 from hq];exact bp rfl h2.symm⟩
  ·exact ⟨(0,SQr (-x.1)),by rw[rx,show SQr (-x.1)*SQr (-x.1)= -x.1 from hq,ym];exact bp rfl h2.symm⟩
 ·obtain ⟨j,hj⟩:=zF
  have hp:=Hg (x:=x) (j:=j) (n:=SQr (nm2 x)) h
  have hb:=Hy hj h2
  have hne:=IR hp hb
  rcases mf hp hb with ⟨hq,_⟩|⟨_,hq⟩
  ·exact ⟨_,tw h hj (.inl hq) (qs (El hq hne.1))⟩
  ·exact ⟨_,tw h hj (.inr hq) (qs (El hq hne.2))⟩
end
section
/-! ### Equality, signs -/
theorem BB{x y:W2}(h:x.1=y.1):decide (x.2=y.2)=decide (x=y):=decide_eq_decide.2 ⟨fun h'=>bp h h',fun h'=>by rw[h']⟩
theorem Ei{x y:W2}(h: ¬x.1=y.1):false=decide (x=y):=(decide_eq_false fun h'=>h (by rw[h'])).symm
def SG2(x:W2):Int:=if x.1.val % 2=1 then 1 else if x.1=0 then (if x.2.val % 2=1 then 1 else 0)else 0
/-! ### Powers by digits -/
def fe2(x:W2):L6:=fe x.1++fe x.2
theorem aP(x:W2):(fe2 x).length=12:=by rw[fe2,List.length_append,aT,aT]
def SP2(x:W2)(i:Nat):L6:=FM (fun j=>if j<i then fe2 (pw2 x j)else fe2 ze2) 16
theorem aX(x:W2)(i:Nat):(SP2 x i).length=192:=a8 _ _
/-! ### Roots -/
theorem J6{a:Zp}(h: ¬hf<a.val):LG2 (a,0)=false:=by
 show (if (0:Zp)=0 then decide (hf<a.val)else decide (hf<(0:Zp).val))=false
 rw[if_pos rfl];exact decide_eq_false h
theorem SE{a:Zp}(h: ¬hf<a.val):LG2 (0,a)=false:=by
 show (if a=0 then decide (hf<(0:Zp).val)else decide (hf<a.val))=false
 split
 ·exact decide_eq_false (Nat.not_lt_zero _)
 ·exact decide_eq_false h
def RO(c:Zp):W2:=if SQr c*SQr c=c then (SQ c,0)else (0,SQ (-c))
theorem sA{c:Zp}(h: ¬SQr c*SQr c=c):SQr (-c)*SQr (-c)= -c:=(sL c).resolve_left h
theorem JK(c:Zp):ml2 (RO c) (RO c)=(c,0):=by
 unfold RO
 split
 ·rename_i h
  rw[mF,pY h]
 ·rename_i h
  rw[rx,pY (sA h),ym]
theorem Cv(c:Zp):LG2 (RO c)=false:=by
 unfold RO
 split
 ·rename_i h
  exact J6 (jR h)
 ·rename_i h
  exact SE (jR (sA h))
theorem rb_a{s t j a b n:Zp}(ht:t*t=s+s)(hj:t*j=1)(hs:s=a+n)(hn:n*n=a*a+b*b):s*j*(s*j)-b*j*(b*j)=a:=by
 have e:(s+s)*(j*j)=1:=by
  rw[←ht]
  have:t*t*(j*j)=(t*j)*(t*j):=by grind
  rw[this,hj,nE]
 have e2:s*s-b*b=(s+s)*a:=by
  subst hs
  grind
 have e3:s*j*(s*j)-b*j*(b*j)=(s*s-b*b)*(j*j):=by grind
 have e4:(s+s)*a*(j*j)=(s+s)*(j*j)*a:=by grind
 rw[e3,e2,e4,e]
 grind
theorem rb_b{s t j b:Zp}(ht:t*t=s+s)(hj:t*j=1):s*j*(b*j)+b*j*(s*j)=b:=by
 have e:(s+s)*(j*j)=1:=by
  rw[←ht]
  have:t*t*(j*j)=(t*j)*(t*j):=by grind
  rw[this,hj,nE]
 have e3:s*j*(b*j)+b*j*(s*j)=(s+s)*(j*j)*b:=by grind
 rw[e3,e]
 grind
theorem rb_c{s t j a b n:Zp}(ht:t*t= -(s+s))(hj:t*j=1)(hs:s=a+n)(hn:n*n=a*a+b*b):b*j*(b*j)- -s*j*(-s*j)=a:=by
 have e: -(s+s)*(j*j)=1:=by
  rw[←ht]
  have:t*t*(j*j)=(t*j)*(t*j):=by grind
  rw[this,hj,nE]
 have e2:b*b-s*s= -(s+s)*a:=by
  subst hs
  grind
 have e3:b*j*(b*j)- -s*j*(-s*j)=(b*b-s*s)*(j*j):=by grind
 have e4: -(s+s)*a*(j*j)= -(s+s)*(j*j)*a:=by grind
 rw[e3,e2,e4,e]
 grind
theorem rb_d{s t j b:Zp}(ht:t*t= -(s+s))(hj:t*j=1):b*j*(-s*j)+ -s*j*(b*j)=b:=by
 have e: -(s+s)*(j*j)=1:=by
  rw[←ht]
  have:t*t*(j*j)=(t*j)*(t*j):=by grind
  rw[this,hj,nE]
 have e3:b*j*(-s*j)+ -s*j*(b*j)= -(s+s)*(j*j)*b:=by grind
 rw[e3,e]
 grind
theorem PG{s:Zp}(h:s≠0):s+s≠0:=fun e=>by
 obtain ⟨j,hj⟩:=zF
 have:s=(s+s)*j:=by
  have e1:(s+s)*j=s*((1+1)*j):=by grind
  rw[e1,hj,qt]
 rw[e,sR]at this
 exact h this
theorem Qs{a b n:Zp}(hn:n*n=a*a+b*b)(hb:b≠0):a+n≠0:=fun e=>by
 have:b*b=(a+n)*(n-a):=by grind
 rw[e,sR]at this
 exact hb ((kN this).elim id id)
theorem Kg{a t:Zp}(h:t*t=a)(ha:a≠0):t≠0:=fun e=>ha (by rw[←h,e,gP])
def RBs(x:W2)(n:Zp):Zp:=x.1+n+(x.1+n)
def RB(x:W2)(n:Zp):W2:=
 if SQr (RBs x n)*SQr (RBs x n)=RBs x n then ((x.1+n)*SQ (RBs x n)^(PP-2),x.2*SQ (RBs x n)^(PP-2))
 else (x.2*SQ (-RBs x n)^(PP-2),-(x.1+n)*SQ (-RBs x n)^(PP-2))
theorem Ro{x:W2}{n:Zp}(hn:n*n=nm2 x)(h2:x.2≠0):ml2 (RB x n) (RB x n)=x:=by
 have hd:RBs x n≠0:=PG (Qs hn h2)
 have hm: -RBs x n≠0:=fun e=>hd (ma.1 e)
 unfold RB
 split
 ·rename_i h
  have e:=pY h
  have hj:=qs (Kg e hd)
  generalize SQ (RBs x n)^(PP-2)=j at*
  generalize SQ (RBs x n)=t at*
  exact bp (rb_a e hj rfl hn) (rb_b e hj)
 ·rename_i h
  have e:=pY (sA h)
  have hj:=qs (Kg e hm)
  generalize SQ (-RBs x n)^(PP-2)=j at*
  generalize SQ (-RBs x n)=t at*
  exact bp (rb_c e hj rfl hn) (rb_d e hj)
def NL(x:W2):W2:=if LG2 x=true then ng2 x else x
theorem EI(x:W2):ml2 (NL x) (NL x)=ml2 x x:=by
 unfold NL
 split
 ·exact B6 x
 ·rfl
theorem oM(x:W2):LG2 (NL x)=false:=by
 unfold NL
 split
 ·rename_i h
  have hx:x≠ze2:=fun e=>by rw[e,sk]at h;cases h
  rw[nM hx,h];rfl
 ·rename_i h
  exact Bool.eq_false_iff.2 h
theorem km{x r q:W2}(hr:ml2 r r=x)(hl:LG2 r=false)(hq:ml2 q q=x)(hl':LG2 q=false):q=r:=AN (hq.trans hr.symm) hl' hl
theorem Hs{x r:W2}(hr:ml2 r r=x)(hl:LG2 r=false)(h:x.2=0):RO x.1=r:=km hr hl ((JK x.1).trans (bp rfl h.symm)) (Cv _)
theorem yf{x r:W2}(hr:ml2 r r=x)(hl:LG2 r=false)(h:x.2≠0):NL (RB x (SQ (nm2 x)))=r:=km hr hl ((EI _).trans (Ro (pY (k5 hr)) h)) (oM _)
theorem Uv{x:W2}(h: ¬IsQ (nm2 x)):x.2≠0:=fun e=>h ((iJ x).1 ⟨RO x.1,(JK x.1).trans (bp rfl e.symm)⟩)
end
section
open Go.RowKit
theorem ox: ∀k,cel (List.replicate k 0)=List.replicate (6*k) 0#64
 |0=>rfl
 |k+1=>by rw[List.replicate_succ,iH,ox k,kA,List.replicate_append_replicate];congr 1;omega
theorem ie{t k:Nat}(h: ∀w,(zeroValue t).run prog w=.ok (aQ (List.replicate (6*k) 0#64)) w): ∀w,(zeroValue t).run prog w=.ok (.agg (clv (List.replicate k 0)).toArray) w:=fun w=>by rw[clv,ox];exact h w
def szL:List (Nat×Nat):=[(25,1),(27,1),(37,1),(39,1),(41,2),(43,6),(52,1),(54,3),(92,2),(94,6),(142,2),(182,9),(231,6),(233,12),(262,6),(264,12),(288,6),(293,16),(307,12),(321,4),(322,16)]
def fsL:List (Nat×List (Nat×Nat)):=[(27,[(0,1)]),(39,[(0,1)]),(41,[(0,1),(1,1)]),(43,[(0,2),(2,2),(4,2)]),(52,[(0,1)]),(54,[(0,1),(1,1),(2,1)]),(92,[(0,1),(1,1)]),(94,[(0,2),(2,2),(4,2)]),(182,[(0,3),(3,6)]),(231,[(0,2),(2,2),(4,2)]),(233,[(0,6),(6,6)]),(262,[(0,2),(2,2),(4,2)]),(264,[(0,1),(1,1),(2,2),(4,2),(6,2),(8,2),(10,2)]),(321,[(0,2),(2,2)])]
abbrev gN(t k:Nat):Prop:=(∀w,(isAgg t).run prog w=.ok true w)∧(∀w,(sizeOf t).run prog w=.ok (6*k) w)∧∀w,(zeroValue t).run prog w=.ok (.agg (clv (List.replicate k 0)).toArray) w
theorem sz25:gN 25 1:=⟨isAgg25,sizeOf25,ie fun w=>(zeroValue25 w).trans rr⟩
theorem sz27:gN 27 1:=⟨isAgg27,sizeOf27,ie fun w=>(zeroValue27 w).trans rr⟩
theorem sz37:gN 37 1:=⟨isAgg37,sizeOf37,ie fun w=>(zeroValue37 w).trans rr⟩
theorem sz39:gN 39 1:=⟨isAgg39,sizeOf39,ie fun w=>(zeroValue39 w).trans rr⟩
theorem sz41:gN 41 2:=⟨isAgg41,sizeOf41,ie fun w=>(zeroValue41 w).trans rr⟩
theorem sz43:gN 43 6:=⟨isAgg43,sizeOf43,ie fun w=>(zeroValue43 w).trans rr⟩
theorem sz52:gN 52 1:=⟨isAgg52,sizeOf52,ie fun w=>(zeroValue52 w).trans rr⟩
theorem sz54:gN 54 3:=⟨isAgg54,sizeOf54,ie fun w=>(zeroValue54 w).trans rr⟩
theorem sz92:gN 92 2:=⟨isAgg92,sizeOf92,ie fun w=>(zeroValue92 w).trans rr⟩
theorem sz94:gN 94 6:=⟨isAgg94,sizeOf94,ie fun w=>(zeroValue94 w).trans rr⟩
theorem Tt:gN 142 2:=⟨isAgg142,sizeOf142,ie fun w=>(zeroValue142 w).trans rr⟩
theorem RE:gN 182 9:=⟨isAgg182,sizeOf182,ie fun w=>(zeroValue182 w).trans rr⟩
theorem TN:gN 231 6:=⟨isAgg231,sizeOf231,ie fun w=>(zeroValue231 w).trans rr⟩
theorem Vg:gN 233 12:=⟨isAgg233,sizeOf233,ie fun w=>(zeroValue233 w).trans rr⟩
theorem SX:gN 262 6:=⟨isAgg262,sizeOf262,ie fun w=>(zeroValue262 w).trans rr⟩
theorem Rp:gN 264 12:=⟨isAgg264,sizeOf264,ie fun w=>(zeroValue264 w).trans rr⟩
theorem SG:gN 288 6:=⟨isAgg288,sizeOf288,ie fun w=>(zeroValue288 w).trans rr⟩
theorem Rf:gN 293 16:=⟨isAgg293,sizeOf293,ie fun w=>(zeroValue293 w).trans rr⟩
theorem QT:gN 307 12:=⟨isAgg307,sizeOf307,ie fun w=>(zeroValue307 w).trans rr⟩
theorem Rh:gN 321 4:=⟨isAgg321,sizeOf321,ie fun w=>(zeroValue321 w).trans rr⟩
theorem Vp:gN 322 16:=⟨isAgg322,sizeOf322,ie fun w=>(zeroValue322 w).trans rr⟩
theorem szOk(t k:Nat)(h:nu szL t=some k):gN t k:=by
 have h:=jB h
 simp only[szL,List.mem_cons,List.not_mem_nil,or_false,Prod.mk.injEq]at h
 rcases h with ⟨rfl,rfl⟩|⟨rfl,rfl⟩|⟨rfl,rfl⟩|⟨rfl,rfl⟩|⟨rfl,rfl⟩|⟨rfl,rfl⟩|⟨rfl,rfl⟩|⟨rfl,rfl⟩|⟨rfl,rfl⟩|⟨rfl,rfl⟩|⟨rfl,rfl⟩|⟨rfl,rfl⟩|⟨rfl,rfl⟩|⟨rfl,rfl⟩|⟨rfl,rfl⟩|⟨rfl,rfl⟩|⟨rfl,rfl⟩|⟨rfl,rfl⟩|⟨rfl,rfl⟩|⟨rfl,rfl⟩|⟨rfl,rfl⟩
 ·exact sz25
 ·exact sz27
 ·exact sz37
 ·exact sz39
 ·exact sz41
 ·exact sz43
 ·exact sz52
 ·exact sz54
 ·exact sz92
 ·exact sz94
 ·exact Tt
 ·exact RE
 ·exact TN
 ·exact Vg
 ·exact SX
 ·exact Rp
 ·exact SG
 ·exact Rf
 ·exact QT
 ·exact Rh
 ·exact Vp
abbrev k9(t:Nat)(l:List (Nat×Nat)):Prop:= ∃fields,prog.underlying t=some (.struct fields)∧(∀w,(Array.mapM (fun f=>Prod.mk f.offset<$>sizeOf f.type) fields:Sem _).run prog w=.ok (l.map (fun p=>(6*p.1,6*p.2))).toArray w)∧∀(i:Nat) (p:Nat×Nat),l[i]? =some p→∃(fd:Field) (m:Nat),fields[i]? =some fd∧fd.offset=6*p.1∧m≠0∧∀w,(sizeOf fd.type).run prog w=.ok m w
theorem fs27:k9 27 [(0,1)]:=by
 refine ⟨_,underlying27,fun w=>by simp[sizeOf25],fun i p h=> ?_⟩
 match i,h with
 |0,h=>cases h;exact ⟨_,6,rfl,rfl,dc,sizeOf25⟩
 |n+1,h=>simp at h
theorem fs39:k9 39 [(0,1)]:=by
 refine ⟨_,underlying39,fun w=>by simp[sizeOf37],fun i p h=> ?_⟩
 match i,h with
 |0,h=>cases h;exact ⟨_,6,rfl,rfl,dc,sizeOf37⟩
 |n+1,h=>simp at h
theorem fs41:k9 41 [(0,1),(1,1)]:=by
 refine ⟨_,underlying41,fun w=>by simp[sizeOf39],fun i p h=> ?_⟩
 match i,h with
 |0,h=>cases h;exact ⟨_,6,rfl,rfl,dc,sizeOf39⟩
 |1,h=>cases h;exact ⟨_,6,rfl,rfl,dc,sizeOf39⟩
 |n+2,h=>simp at h
theorem fs43:k9 43 [(0,2),(2,2),(4,2)]:=by
 refine ⟨_,underlying43,fun w=>by simp[sizeOf41],fun i p h=> ?_⟩
 match i,h with
 |0,h=>cases h;exact ⟨_,12,rfl,rfl,dc,sizeOf41⟩
 |1,h=>cases h;exact ⟨_,12,rfl,rfl,dc,sizeOf41⟩
 |2,h=>cases h;exact ⟨_,12,rfl,rfl,dc,sizeOf41⟩
 |n+3,h=>simp at h
theorem fs52:k9 52 [(0,1)]:=by
 refine ⟨_,underlying52,fun w=>by simp[sizeOf25],fun i p h=> ?_⟩
 match i,h with
 |0,h=>cases h;exact ⟨_,6,rfl,rfl,dc,sizeOf25⟩
 |n+1,h=>simp at h
theorem fs54:k9 54 [(0,1),(1,1),(2,1)]:=by
 refine ⟨_,underlying54,fun w=>by simp[sizeOf52],fun i p h=> ?_⟩
 match i,h with
 |0,h=>cases h;exact ⟨_,6,rfl,rfl,dc,sizeOf52⟩
 |1,h=>cases h;exact ⟨_,6,rfl,rfl,dc,sizeOf52⟩
 |2,h=>cases h;exact ⟨_,6,rfl,rfl,dc,sizeOf52⟩
 |n+3,h=>simp at h
theorem fs92:k9 92 [(0,1),(1,1)]:=by
 refine ⟨_,underlying92,fun w=>by simp[sizeOf52],fun i p h=> ?_⟩
 match i,h with
 |0,h=>cases h;exact ⟨_,6,rfl,rfl,dc,sizeOf52⟩
 |1,h=>cases h;exact ⟨_,6,rfl,rfl,dc,sizeOf52⟩
 |n+2,h=>simp at h
theorem fs94:k9 94 [(0,2),(2,2),(4,2)]:=by
 refine ⟨_,underlying94,fun w=>by simp[sizeOf92],fun i p h=> ?_⟩
 match i,h with
 |0,h=>cases h;exact ⟨_,12,rfl,rfl,dc,sizeOf92⟩
 |1,h=>cases h;exact ⟨_,12,rfl,rfl,dc,sizeOf92⟩
 |2,h=>cases h;exact ⟨_,12,rfl,rfl,dc,sizeOf92⟩
 |n+3,h=>simp at h
theorem UK:k9 182 [(0,3),(3,6)]:=by
 refine ⟨_,underlying182,fun w=>by simp[sizeOf54,sizeOf94],fun i p h=> ?_⟩
 match i,h with
 |0,h=>cases h;exact ⟨_,18,rfl,rfl,dc,sizeOf54⟩
 |1,h=>cases h;exact ⟨_,36,rfl,rfl,dc,sizeOf94⟩
 |n+2,h=>simp at h
theorem Sn:k9 231 [(0,2),(2,2),(4,2)]:=by
 refine ⟨_,underlying231,fun w=>by simp[sizeOf92],fun i p h=> ?_⟩
 match i,h with
 |0,h=>cases h;exact ⟨_,12,rfl,rfl,dc,sizeOf92⟩
 |1,h=>cases h;exact ⟨_,12,rfl,rfl,dc,sizeOf92⟩
 |2,h=>cases h;exact ⟨_,12,rfl,rfl,dc,sizeOf92⟩
 |n+3,h=>simp at h
theorem Tm:k9 233 [(0,6),(6,6)]:=by
 refine ⟨_,underlying233,fun w=>by simp[sizeOf231],fun i p h=> ?_⟩
 match i,h with
 |0,h=>cases h;exact ⟨_,36,rfl,rfl,dc,sizeOf231⟩
 |1,h=>cases h;exact ⟨_,36,rfl,rfl,dc,sizeOf231⟩
 |n+2,h=>simp at h
theorem Sz:k9 262 [(0,2),(2,2),(4,2)]:=by
 refine ⟨_,underlying262,fun w=>by simp[sizeOf92],fun i p h=> ?_⟩
 match i,h with
 |0,h=>cases h;exact ⟨_,12,rfl,rfl,dc,sizeOf92⟩
 |1,h=>cases h;exact ⟨_,12,rfl,rfl,dc,sizeOf92⟩
 |2,h=>cases h;exact ⟨_,12,rfl,rfl,dc,sizeOf92⟩
 |n+3,h=>simp at h
theorem Uc:k9 264 [(0,1),(1,1),(2,2),(4,2),(6,2),(8,2),(10,2)]:=by
 refine ⟨_,underlying264,fun w=>by simp[sizeOf52,sizeOf92],fun i p h=> ?_⟩
 match i,h with
 |0,h=>cases h;exact ⟨_,6,rfl,rfl,dc,sizeOf52⟩
 |1,h=>cases h;exact ⟨_,6,rfl,rfl,dc,sizeOf52⟩
 |2,h=>cases h;exact ⟨_,12,rfl,rfl,dc,sizeOf92⟩
 |3,h=>cases h;exact ⟨_,12,rfl,rfl,dc,sizeOf92⟩
 |4,h=>cases h;exact ⟨_,12,rfl,rfl,dc,sizeOf92⟩
 |5,h=>cases h;exact ⟨_,12,rfl,rfl,dc,sizeOf92⟩
 |6,h=>cases h;exact ⟨_,12,rfl,rfl,dc,sizeOf92⟩
 |n+7,h=>simp at h
theorem Vf:k9 321 [(0,2),(2,2)]:=by
 refine ⟨_,underlying321,fun w=>by simp[sizeOf92],fun i p h=> ?_⟩
 match i,h with
 |0,h=>cases h;exact ⟨_,12,rfl,rfl,dc,sizeOf92⟩
 |1,h=>cases h;exact ⟨_,12,rfl,rfl,dc,sizeOf92⟩
 |n+2,h=>simp at h
theorem fsOk(t:Nat)(l:List (Nat×Nat))(h:nu fsL t=some l):k9 t l:=by
 have h:=jB h
 simp only[fsL,List.mem_cons,List.not_mem_nil,or_false,Prod.mk.injEq]at h
 rcases h with ⟨rfl,rfl⟩|⟨rfl,rfl⟩|⟨rfl,rfl⟩|⟨rfl,rfl⟩|⟨rfl,rfl⟩|⟨rfl,rfl⟩|⟨rfl,rfl⟩|⟨rfl,rfl⟩|⟨rfl,rfl⟩|⟨rfl,rfl⟩|⟨rfl,rfl⟩|⟨rfl,rfl⟩|⟨rfl,rfl⟩|⟨rfl,rfl⟩
 ·exact fs27
 ·exact fs39
 ·exact fs41
 ·exact fs43
 ·exact fs52
 ·exact fs54
 ·exact fs92
 ·exact fs94
 ·exact UK
 ·exact Sn
 ·exact Tm
 ·exact Sz
 ·exact Uc
 ·exact Vf
abbrev lZ(t k:Nat):Prop:=(∀(op:BinOp) (x y:Operand) (xs ys:Array Value) (w:World),(eqGuard op t x y (.agg xs) (.agg ys)).run prog w=.ok () w)∧∃d0,d0≤100∧EqF prog t (6*k) d0
theorem Sc:lZ 25 1:=⟨fun op x y xs ys w=>run_eqGuard_agg w op 25 x y xs ys kr,2,dc,(cr underlying25 underlying24 sizeOf24 isAgg24)⟩
theorem Su:lZ 27 1:=⟨fun op x y xs ys w=>run_eqGuard_agg w op 27 x y xs ys kr,3,dc,(cL underlying27 rfl dc kr isAgg25 sizeOf25 (cr underlying25 underlying24 sizeOf24 isAgg24))⟩
theorem UA:lZ 37 1:=⟨fun op x y xs ys w=>run_eqGuard_agg w op 37 x y xs ys kr,2,dc,(cr underlying37 underlying24 sizeOf24 isAgg24)⟩
theorem Vo:lZ 39 1:=⟨fun op x y xs ys w=>run_eqGuard_agg w op 39 x y xs ys kr,3,dc,(cL underlying39 rfl dc kr isAgg37 sizeOf37 (cr underlying37 underlying24 sizeOf24 isAgg24))⟩
theorem R9:lZ 41 2:=⟨fun op x y xs ys w=>run_eqGuard_agg w op 41 x y xs ys kr,4,dc,(fQ (m:=6) (n:=6) underlying41 rfl rfl dc dc kr isAgg39 sizeOf39 (cL underlying39 rfl dc kr isAgg37 sizeOf37 (cr underlying37 underlying24 sizeOf24 isAgg24)) isAgg39 sizeOf39 (cL underlying39 rfl dc kr isAgg37 sizeOf37 (cr underlying37 underlying24 sizeOf24 isAgg24)))⟩
theorem TX:lZ 52 1:=⟨fun op x y xs ys w=>run_eqGuard_agg w op 52 x y xs ys kr,3,dc,(cL underlying52 rfl dc kr isAgg25 sizeOf25 (cr underlying25 underlying24 sizeOf24 isAgg24))⟩
theorem TO:lZ 92 2:=⟨fun op x y xs ys w=>run_eqGuard_agg w op 92 x y xs ys kr,4,dc,(fQ (m:=6) (n:=6) underlying92 rfl rfl dc dc kr isAgg52 sizeOf52 (cL underlying52 rfl dc kr isAgg25 sizeOf25 (cr underlying25 underlying24 sizeOf24 isAgg24)) isAgg52 sizeOf52 (cL underlying52 rfl dc kr isAgg25 sizeOf25 (cr underlying25 underlying24 sizeOf24 isAgg24)))⟩
theorem OW:lZ 142 2:=⟨fun op x y xs ys w=>run_eqGuard_agg w op 142 x y xs ys kr,2,dc,(cr underlying142 underlying24 sizeOf24 isAgg24)⟩
theorem Nw:lZ 288 6:=⟨fun op x y xs ys w=>run_eqGuard_agg w op 288 x y xs ys kr,5,dc,(lW (k:=3) (n:=12) dc underlying288 isAgg92 sizeOf92 (fQ (m:=6) (n:=6) underlying92 rfl rfl dc dc kr isAgg52 sizeOf52 (cL underlying52 rfl dc kr isAgg25 sizeOf25 (cr underlying25 underlying24 sizeOf24 isAgg24)) isAgg52 sizeOf52 (cL underlying52 rfl dc kr isAgg25 sizeOf25 (cr underlying25 underlying24 sizeOf24 isAgg24))))⟩
theorem M7:lZ 293 16:=⟨fun op x y xs ys w=>run_eqGuard_agg w op 293 x y xs ys kr,4,dc,(lW (k:=16) (n:=6) dc underlying293 isAgg52 sizeOf52 (cL underlying52 rfl dc kr isAgg25 sizeOf25 (cr underlying25 underlying24 sizeOf24 isAgg24)))⟩
theorem P6:lZ 307 12:=⟨fun op x y xs ys w=>run_eqGuard_agg w op 307 x y xs ys kr,5,dc,(lW (k:=6) (n:=12) dc underlying307 isAgg92 sizeOf92 (fQ (m:=6) (n:=6) underlying92 rfl rfl dc dc kr isAgg52 sizeOf52 (cL underlying52 rfl dc kr isAgg25 sizeOf25 (cr underlying25 underlying24 sizeOf24 isAgg24)) isAgg52 sizeOf52 (cL underlying52 rfl dc kr isAgg25 sizeOf25 (cr underlying25 underlying24 sizeOf24 isAgg24))))⟩
theorem O1:lZ 321 4:=⟨fun op x y xs ys w=>run_eqGuard_agg w op 321 x y xs ys kr,5,dc,(fQ (m:=12) (n:=12) underlying321 rfl rfl dc dc kr isAgg92 sizeOf92 (fQ (m:=6) (n:=6) underlying92 rfl rfl dc dc kr isAgg52 sizeOf52 (cL underlying52 rfl dc kr isAgg25 sizeOf25 (cr underlying25 underlying24 sizeOf24 isAgg24)) isAgg52 sizeOf52 (cL underlying52 rfl dc kr isAgg25 sizeOf25 (cr underlying25 underlying24 sizeOf24 isAgg24))) isAgg92 sizeOf92 (fQ (m:=6) (n:=6) underlying92 rfl rfl dc dc kr isAgg52 sizeOf52 (cL underlying52 rfl dc kr isAgg25 sizeOf25 (cr underlying25 underlying24 sizeOf24 isAgg24)) isAgg52 sizeOf52 (cL underlying52 rfl dc kr isAgg25 sizeOf25 (cr underlying25 underlying24 sizeOf24 isAgg24))))⟩
theorem PZ:lZ 322 16:=⟨fun op x y xs ys w=>run_eqGuard_agg w op 322 x y xs ys kr,6,dc,(lW (k:=4) (n:=24) dc underlying322 isAgg321 sizeOf321 (fQ (m:=12) (n:=12) underlying321 rfl rfl dc dc kr isAgg92 sizeOf92 (fQ (m:=6) (n:=6) underlying92 rfl rfl dc dc kr isAgg52 sizeOf52 (cL underlying52 rfl dc kr isAgg25 sizeOf25 (cr underlying25 underlying24 sizeOf24 isAgg24)) isAgg52 sizeOf52 (cL underlying52 rfl dc kr isAgg25 sizeOf25 (cr underlying25 underlying24 sizeOf24 isAgg24))) isAgg92 sizeOf92 (fQ (m:=6) (n:=6) underlying92 rfl rfl dc dc kr isAgg52 sizeOf52 (cL underlying52 rfl dc kr isAgg25 sizeOf25 (cr underlying25 underlying24 sizeOf24 isAgg24)) isAgg52 sizeOf52 (cL underlying52 rfl dc kr isAgg25 sizeOf25 (cr underlying25 underlying24 sizeOf24 isAgg24)))))⟩
def eqL:List (Nat×Nat):=[(25,1),(27,1),(37,1),(39,1),(41,2),(52,1),(92,2),(142,2),(288,6),(293,16),(307,12),(321,4),(322,16)]
theorem eqOk(t k:Nat)(h:(nu eqL t).isSome=true)(hk:nu szL t=some k):lZ t k:=by
 obtain ⟨q,hq⟩:=Option.isSome_iff_exists.1 h
 have h:=jB hq
 simp only[eqL,List.mem_cons,List.not_mem_nil,or_false,Prod.mk.injEq]at h
 rcases h with ⟨rfl,rfl⟩|⟨rfl,rfl⟩|⟨rfl,rfl⟩|⟨rfl,rfl⟩|⟨rfl,rfl⟩|⟨rfl,rfl⟩|⟨rfl,rfl⟩|⟨rfl,rfl⟩|⟨rfl,rfl⟩|⟨rfl,rfl⟩|⟨rfl,rfl⟩|⟨rfl,rfl⟩|⟨rfl,rfl⟩
 ·cases hk;exact Sc
 ·cases hk;exact Su
 ·cases hk;exact UA
 ·cases hk;exact Vo
 ·cases hk;exact R9
 ·cases hk;exact TX
 ·cases hk;exact TO
 ·cases hk;exact OW
 ·cases hk;exact Nw
 ·cases hk;exact M7
 ·cases hk;exact P6
 ·cases hk;exact O1
 ·cases hk;exact PZ
def arL:List (Nat×Nat):=[(288,2),(293,1),(307,2),(322,4)]
theorem arOk(t m:Nat)(h:nu arL t=some m): ∃n e,prog.underlying t=some (.array n e)∧∀w,(sizeOf e).run prog w=.ok (6*m) w:=by
 have h:=jB h
 simp only[arL,List.mem_cons,List.not_mem_nil,or_false,Prod.mk.injEq]at h
 rcases h with ⟨rfl,rfl⟩|⟨rfl,rfl⟩|⟨rfl,rfl⟩|⟨rfl,rfl⟩
 ·exact ⟨_,92,underlying288,sizeOf92⟩
 ·exact ⟨_,52,underlying293,sizeOf52⟩
 ·exact ⟨_,92,underlying307,sizeOf92⟩
 ·exact ⟨_,321,underlying322,sizeOf321⟩
theorem boOk(t:Nat)(h:[4].any (Nat.beq t)=true):prog.underlying t=some .bool:=by
 simp only[List.any_cons,List.any_nil,Bool.or_false]at h
 rw[Nat.eq_of_beq_eq_true h];exact underlying4
def TB:Tb prog Gt:=⟨nu szL,nu fsL,[],szOk,fsOk,(fun _ h=>by cases h),fun t=>(nu eqL t).isSome,eqOk,nu arL,arOk,fun t=>[4].any (Nat.beq t),boOk⟩
theorem Nn{P:Program}{G:Cls}(T:Tb P G){f:Nat}{c:List S0→Option S1}(h:Snd P G f c): ∀e∈(f,c)::T.ct,Snd P G e.1 e.2:=fun e he=>by
 rcases List.mem_cons.1 he with rfl|he
 ·exact h
 ·exact T.hct e he
def Tb.add{P:Program}{G:Cls}(T:Tb P G){f:Nat}{c:List S0→Option S1}(h:Snd P G f c):Tb P G:={T with ct:=(f,c)::T.ct,hct:=Nn T h}
theorem gtS(w:World)(h:Gt w):BOk Gt (pl w):=gt_low.plain h
end
section
open Go.RowKit
attribute [local simp] aT a9 aR aM aC bd aJ aI aA PLl cq cn N1l ck cp cm a5 bc aP aX a8
theorem ent239:ai prog 239:=fun _ _=>kr
theorem ent253:ai prog 253:=fun _ _=>kr
theorem ent197:ai prog 197:=fun _ _=>kr
theorem ent232:ai prog 232:=fun _ _=>kr
theorem ent203:ai prog 203:=fun _ _=>kr
theorem ent224:ai prog 224:=fun _ _=>kr
theorem ent198:ai prog 198:=fun _ _=>kr
theorem ent150:ai prog 150:=fun _ _=>kr
theorem ent149:ai prog 149:=fun _ _=>kr
theorem ent199:ai prog 199:=fun _ _=>kr
theorem ent278:ai prog 278:=fun _ _=>kr
theorem ent148:ai prog 148:=fun _ _=>kr
theorem ent200:ai prog 200:=fun _ _=>kr
theorem ent255:ai prog 255:=fun _ _=>kr
theorem ent256:ai prog 256:=fun _ _=>kr
theorem ent272:ai prog 272:=fun _ _=>kr
theorem ent97:ai prog 97:=fun _ _=>kr
abbrev EV2(x:W2):Value:=aQ (fe x.1++fe x.2)
theorem zf52(w:World):(zeroValue 52).run prog w=.ok (aQ (fe 0)) w:=by rw[kA];exact (zeroValue52 w).trans rr
theorem zv92(w:World):(zeroValue 92).run prog w=.ok (aQ (fe 0++fe 0)) w:=by rw[kA];exact (zeroValue92 w).trans rr
theorem eY:Two prog 92 ⟨ "C0",52,0,false, "", "",0⟩ ⟨ "C1",52,6,false, "", "",48⟩ 6 6 (fe 0) (fe 0):=⟨underlying92,rfl,rfl,sizeOf52,sizeOf52,zv92,aT 0,aT 0⟩
theorem e2{a b c d:Zp}(h1:a=c)(h2:b=d):Ending.returned (aQ (fe a++fe b))=.returned (aQ (fe c++fe d)):=by rw[h1,h2]
theorem rb{a b:Bool}(h:a=b):Ending.returned (.bool a)=.returned (.bool b):=by rw[h]
def q3:Sh (Zp×Zp×Zp):=q1.two (q1.two q1 1) 1
theorem pE{f:FuncId}{fn:Func}{c:Code}(T:Tb prog Gt)(hf:prog.funcs[f]? =some fn)(a:List S0)(v:S1)(vc:S1×CB)(p:Pa)(h:xF T fn c a p=some vc)(hc:Ok vc.2)(e:vc.1=v)(hb:fn.body=some c:=by rfl)(hn:Nat.ble a.length fn.ntmps=true:=by rfl):PUR f (a.map (dn rid)) (dn1 rid v):=by rw[←e];exact OI (v:=vc.1) (cs:=vc.2) T dR gtS hf hb h hc hn rid
theorem el2{a b c d:Zp}(h1:a=c)(h2:b=d):(Sum.inl (Sum.inl [a,b]):S1)=.inl (.inl [c,d]):=by rw[h1,h2]
theorem eb{a b:Bool}(h:a=b):(Sum.inl (.inr (.inl a)):S1)=.inl (.inr (.inl b)):=by rw[h]
theorem ei{a b:Int}(h:a=b):(Sum.inl (.inr (.inr (.inl (I a)))):S1)=.inl (.inr (.inr (.inl (I b)))):=by rw[h]
theorem eI{f:Nat}{g:Zp→Zp→Zp}(en:ai prog f)(h: ∀a b,PUR f [EV a,EV b] (EV (g a b))):Snd prog Gt f (c2 q1.ag q1.ag q1.rd g):=fS q1.ag q1.ag q1.rd en h
def TO1:Tb prog Gt:=TB.add (eI (g:=fun x y=>x*y) ent137 gt)
theorem zS{f:Nat}{g:BitVec 64→Zp}(en:ai prog f)(h: ∀a,PUR f [U64 a] (EV (g a))):Snd prog Gt f (c1 agU q1.rd g):=fV agU q1.rd en h
def TO2:Tb prog Gt:=TO1.add (zS (g:=fun n=>zp n.toNat) ent140 dC)
theorem qj{f:Nat}{g:Zp→Zp→Bool}(en:ai prog f)(h: ∀a b,PUR f [EV a,EV b] (.bool (g a b))):Snd prog Gt f (c2 q1.ag q1.ag rdB g):=fS q1.ag q1.ag rdB en h
def TO3:Tb prog Gt:=TO2.add (qj (g:=fun x y=>decide (x=y)) ent209 mZ)
theorem mu{f:Nat}{g:Zp→Bool}(en:ai prog f)(h: ∀a,PUR f [EV a] (.bool (g a))):Snd prog Gt f (c1 q1.ag rdB g):=fV q1.ag rdB en h
def TO4:Tb prog Gt:=TO3.add (mu (g:=fun x=>decide (x=0)) ent63 sp)
def TO5:Tb prog Gt:=TO4.add (eI (g:=fun x y=>x+y) ent201 qQ)
def TO6:Tb prog Gt:=TO5.add (eI (g:=fun x y=>x-y) ent191 mG)
theorem gz{f:Nat}{g:Zp→Zp}(en:ai prog f)(h: ∀a,PUR f [EV a] (EV (g a))):Snd prog Gt f (c1 q1.ag q1.rd g):=fV q1.ag q1.rd en h
def TO7:Tb prog Gt:=TO6.add (gz (g:=fun x=> -x) ent173 dr)
def TO8:Tb prog Gt:=TO7.add (gz (g:=fun x=>x*x) ent136 iY)
theorem wD{f:Nat}{g:Zp}(en:ai prog f)(h:PUR f [U64 1#64] (EV g)):Snd prog Gt f (c1 (agL 1) q1.rd (fun _=>g)):=fV (agL 1) q1.rd en (fun _=>h)
def TO9:Tb prog Gt:=TO8.add (wD (g:=1) ent140 qE)
def TO10:Tb prog Gt:=TO9.add (gz (g:=fun x=>x^(PP-2)) ent135 zU)
def TO11:Tb prog Gt:=TO10.add (mu (g:=fun x=>decide (x.val % 2=1)) ent289 AT)
def TO12:Tb prog Gt:=TO11.add (mu (g:=fun x=>decide (hf<x.val)) ent89 fR)
theorem tV{f:Nat}{g:Zp→Zp}{k:Zp→Bool}(en:ai prog f)(h: ∀a,PUR f [EV a] (.tuple #[EV (g a),.bool (k a)])):Snd prog Gt f (c1 q1.ag q1.rdB (fun a=>((g a),(k a)))):=fV q1.ag q1.rdB en h
def TO13:Tb prog Gt:=TO12.add (tV (g:=SQ) (k:=fun x=>decide (SQr x*SQr x=x)) ent172 kW)
theorem qY  :PUR 239 [] (EV2 on2):=pE TO13 func239 [] (.inl (.inl [on2.1,on2.2])) (.inl (.inl [1,0]),[]) [] kr aG rfl
theorem xj{f:Nat}{g:W2}(en:ai prog f)(h:PUR f [] (EV2 g)):Snd prog Gt f (c0 q2.rd g):=tJ q2.rd en h
def TO24:Tb prog Gt:=TO13.add (xj (g:=on2) ent239 qY)
theorem sO(x y:W2):PUR 253 [EV2 x,EV2 y] (.bool (decide (x=y))):=by
 by_cases h:x.1=y.1
 ·exact pE TO24 func253 [.inl [x.1,x.2],.inl [y.1,y.2]] (.inl (.inr (.inl (decide (x=y))))) (.inl (.inr (.inl (decide (x.2=y.2)))),[(decide (x.1=y.1),true)]) [some true] kr (au (decide_eq_true h) aG) (eb (BB h))
 ·exact pE TO24 func253 [.inl [x.1,x.2],.inl [y.1,y.2]] (.inl (.inr (.inl (decide (x=y))))) (.inl (.inr (.inl false)),[(decide (x.1=y.1),false)]) [some false] kr (au (decide_eq_false h) aG) (eb (Ei h))
theorem o7{f:Nat}{g:W2→W2→Bool}(en:ai prog f)(h: ∀a b,PUR f [EV2 a,EV2 b] (.bool (g a b))):Snd prog Gt f (c2 q2.ag q2.ag rdB g):=fS q2.ag q2.ag rdB en h
def TO25:Tb prog Gt:=TO24.add (o7 (g:=fun x y=>decide (x=y)) ent253 sO)
theorem ub(x:W2):PUR 197 [EV2 x] (.bool (decide (x=ze2))):=by
 by_cases h:x.1=0
 ·exact pE TO25 func197 [.inl [x.1,x.2]] (.inl (.inr (.inl (decide (x=ze2))))) (.inl (.inr (.inl (decide (x.2=0)))),[(decide (x.1=0),true)]) [some true] kr (au (decide_eq_true h) aG) (eb (BB (y:=ze2) h))
 ·exact pE TO25 func197 [.inl [x.1,x.2]] (.inl (.inr (.inl (decide (x=ze2))))) (.inl (.inr (.inl false)),[(decide (x.1=0),false)]) [some false] kr (au (decide_eq_false h) aG) (eb (Ei (y:=ze2) h))
theorem qR{f:Nat}{g:W2→Bool}(en:ai prog f)(h: ∀a,PUR f [EV2 a] (.bool (g a))):Snd prog Gt f (c1 q2.ag rdB g):=fV q2.ag rdB en h
def TO26:Tb prog Gt:=TO25.add (qR (g:=fun x=>decide (x=ze2)) ent197 ub)
theorem el(x y:W2):PUR 232 [EV2 x,EV2 y] (EV2 (ad2 x y)):=pE TO26 func232 [.inl [x.1,x.2],.inl [y.1,y.2]] (.inl (.inl [(ad2 x y).1,(ad2 x y).2])) (.inl (.inl [x.1+y.1,x.2+y.2]),[]) [] kr aG rfl
theorem eK{f:Nat}{g:W2→W2→W2}(en:ai prog f)(h: ∀a b,PUR f [EV2 a,EV2 b] (EV2 (g a b))):Snd prog Gt f (c2 q2.ag q2.ag q2.rd g):=fS q2.ag q2.ag q2.rd en h
def TO27:Tb prog Gt:=TO26.add (eK (g:=ad2) ent232 el)
theorem jZ(x y:W2):PUR 203 [EV2 x,EV2 y] (EV2 (sb2 x y)):=pE TO27 func203 [.inl [x.1,x.2],.inl [y.1,y.2]] (.inl (.inl [(sb2 x y).1,(sb2 x y).2])) (.inl (.inl [x.1-y.1,x.2-y.2]),[]) [] kr aG rfl
def TO28:Tb prog Gt:=TO27.add (eK (g:=sb2) ent203 jZ)
theorem E6(x:W2):PUR 224 [EV2 x] (EV2 (ng2 x)):=pE TO28 func224 [.inl [x.1,x.2]] (.inl (.inl [(ng2 x).1,(ng2 x).2])) (.inl (.inl [-x.1,-x.2]),[]) [] kr aG rfl
theorem eP{f:Nat}{g:W2→W2}(en:ai prog f)(h: ∀a,PUR f [EV2 a] (EV2 (g a))):Snd prog Gt f (c1 q2.ag q2.rd g):=fV q2.ag q2.rd en h
def TO29:Tb prog Gt:=TO28.add (eP (g:=ng2) ent224 E6)
theorem mE(x:W2):PUR 198 [EV2 x] (EV2 (cj2 x)):=pE TO29 func198 [.inl [x.1,x.2]] (.inl (.inl [(cj2 x).1,(cj2 x).2])) (.inl (.inl [x.1,-x.2]),[]) [] kr aG rfl
def TO30:Tb prog Gt:=TO29.add (eP (g:=cj2) ent198 mE)
theorem cY(x y:W2):PUR 150 [EV2 x,EV2 y] (EV2 (ml2 x y)):=pE TO30 func150 [.inl [x.1,x.2],.inl [y.1,y.2]] (.inl (.inl [(ml2 x y).1,(ml2 x y).2])) (let t0:=(x.1+x.2)*(y.1+y.2);let t1:=(x.1*y.1)-(x.2*y.2);let t2:=t0-(x.1*y.1);let t3:=t2-(x.2*y.2);(.inl (.inl [t1,t3]),[])) [] kr aG (el2 (by first|(simp only[ml2];done)|(simp only[ml2];grind)) (by first|(simp only[ml2];done)|(simp only[ml2];grind)))
def TO31:Tb prog Gt:=TO30.add (eK (g:=ml2) ent150 cY)
theorem gK(x:W2):PUR 149 [EV2 x] (EV2 (ml2 x x)):=pE TO31 func149 [.inl [x.1,x.2]] (.inl (.inl [(ml2 x x).1,(ml2 x x).2])) (let t0:=(x.1+x.2)*(x.1-x.2);let t1:=(x.1*x.2)+(x.1*x.2);(.inl (.inl [t0,t1]),[])) [] kr aG (el2 (by first|(simp only[ml2];done)|(simp only[ml2];grind)) (by first|(simp only[ml2];done)|(simp only[ml2];grind)))
def TO32:Tb prog Gt:=TO31.add (eP (g:=fun x=>ml2 x x) ent149 gK)
theorem IZ(x:W2)(c:Zp):PUR 199 [EV2 x,EV c] (EV2 (sc2 x c)):=pE TO32 func199 [.inl [x.1,x.2],.inl [c]] (.inl (.inl [(sc2 x c).1,(sc2 x c).2])) (.inl (.inl [x.1*c,x.2*c]),[]) [] kr aG rfl
theorem jk{f:Nat}{g:W2→Zp→W2}(en:ai prog f)(h: ∀a b,PUR f [EV2 a,EV b] (EV2 (g a b))):Snd prog Gt f (c2 q2.ag q1.ag q2.rd g):=fS q2.ag q1.ag q2.rd en h
def TO33:Tb prog Gt:=TO32.add (jk (g:=sc2) ent199 IZ)
theorem Aa(x:W2):PUR 278 [EV2 x] (EV2 (xi2 x)):=pE TO33 func278 [.inl [x.1,x.2]] (.inl (.inl [(xi2 x).1,(xi2 x).2])) (.inl (.inl [x.1-x.2,x.1+x.2]),[]) [] kr aG rfl
def TO34:Tb prog Gt:=TO33.add (eP (g:=xi2) ent278 Aa)
theorem QD(x:W2):PUR 200 [EV2 x] (EV (nm2 x)):=pE TO34 func200 [.inl [x.1,x.2]] (.inl (.inl [nm2 x])) (let t0:=(x.1*x.1)+(x.2*x.2);(.inl (.inl [t0]),[])) [] kr aG rfl
theorem vz{f:Nat}{g:W2→Zp}(en:ai prog f)(h: ∀a,PUR f [EV2 a] (EV (g a))):Snd prog Gt f (c1 q2.ag q1.rd g):=fV q2.ag q1.rd en h
def TO35:Tb prog Gt:=TO34.add (vz (g:=nm2) ent200 QD)
theorem Cg(x:W2):PUR 148 [EV2 x] (EV2 (iv2 x)):=pE TO35 func148 [.inl [x.1,x.2]] (.inl (.inl [(iv2 x).1,(iv2 x).2])) (let t0:=cj2 x;let t1:=(nm2 x)^(PP-2);let t2:=sc2 (t0.1,t0.2) t1;(.inl (.inl [t2.1,t2.2]),[])) [] kr aG rfl
def TO36:Tb prog Gt:=TO35.add (eP (g:=iv2) ent148 Cg)
end
end Go.Proofs.YtfgacclgjklgnaaGreatDoor
