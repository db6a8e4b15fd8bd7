/- L1 -/
import Derived.Test.YtjookodjbjabbaaGreatDoorL0
import Derived.Test.YtjookodjbjabbaaGreatDoorXW
import Derived.Test.YtjookodjbjabbaaGreatDoorX3
import Derived.Test.YtjookodjbjabbaaGreatDoorM0
import Derived.Test.YtjookodjbjabbaaGreatDoorQ1
import Derived.Test.YtjookodjbjabbaaGreatDoorX5
import Derived.Test.YtjookodjbjabbaaGreatDoorM1
set_option maxRecDepth 100000
set_option maxHeartbeats 1000000
namespace Go.Proofs.YtjookodjbjabbaaGreatDoor
open Go.Proofs.Tryz
section
open Go.RowKit
attribute [local simp] a7 bv aJ aB aQ a5 aT aK aO bf bC
theorem UZ(x:Zp)(b:Nat)(t:TypeId)(bs:L8)(h48:bs.length=48)(w:World)(hw:Gt w)(ho:OwnB w b (bs.map U8) t):
 CLS 204 [EV x,.slice (spt b) 48 48].toArray w (fun r w'=>r=.returned (EV (x^BN bs 48))∧Grow w w'):=by
 have h:=AK x (spt b) 48 bs om w hw (BytesAt.range ho.range)
 rw[h48]at h
 exact h
theorem ov(a:Option Addr)(len cap:Nat)(bs:L8)(hl:bs.length=len)(h:len≤48)(w:World)(hw:Gt w)(hby:BytesAt w a bs):
 CLS 28 [.slice a len cap].toArray w (fun e w'=>e=.returned (.tuple #[NV (FRs bs bs.length),.bool true])∧Grow w w'):=by
 subst hl
 exact (qZ a cap bs w hw hby).mono fun e w' ⟨he,hg⟩=>⟨by rw[he,if_neg om],hg⟩
theorem oH(x:Zp)(n:L6)(hn:n.length=6):PUR 167 [EV x,NV n] (EV (x^V n 6)):=by
 intro w hw
 refine Hf func167 rfl hw<|fun hGF=>Xp<|Bx 2 hGF rfl<|fun b2=>Bx 3 hGF rfl<|fun b3=>Al 4 hGF zv52<|fun b4=>aa<|Xp<|bY 3 rfl rfl isAgg25 sizeOf25 (by first|(simp;done)|simp[hn]) rfl rfl<|Ca rfl (kj _ (by first|(simp;done)|simp[hn]))<|Al 5 hGF zv29<|fun b5=>aw 5 hGF rfl rfl rfl sizeOf29 (by first|(simp;done)|simp[hn]) (by first|(simp;done)|simp[hn]) (bH _) rfl<|aa<|Xd []<|bY 2 rfl rfl isAgg52 sizeOf52 (by first|(simp;done)|simp[hn]) rfl rfl<|bD (l:=0) (h':=48) rfl underlying29 sizeOf5 rfl rfl om om rfl rfl<|Cc rfl ent204 (fun w hC hG=>UZ x _ _ (BYs n 48) (by first|(simp;done)|simp[hn]) w hG (hC.own 5 _ _ _ rfl).1)<|aw 4 hGF rfl rfl rfl sizeOf52 (by first|(simp;done)|simp[hn]) (by first|(simp;done)|simp[hn]) (be _) rfl<|aa<|am<|Rr<|?_
 exact av 4 rfl rfl rfl isAgg52 sizeOf52 (by first|(simp;done)|simp[hn]) (fun w hw=>⟨by rw[mK n hn 48 rfl],ac hw⟩)
theorem DL(x:Zp):PUR 115 [EV x] (EV (x^(PP-2))):=by
 intro w hw
 refine Hf func115 rfl hw<|fun hGF=>Xp<|Bx 1 hGF rfl<|fun b1=>Al 2 hGF zv52<|fun b2=>aa<|Xp<|La 1 rfl rfl bJ<|h9 hGF isAgg25 sizeOf25 sm (fun _ h=>h.g4) rfl rfl<|Ca rfl (oH _ _ sm)<|Sa 2 hGF rfl rfl rfl bJ<|aa<|am<|Rr<|?_
 exact av 2 rfl rfl rfl isAgg52 sizeOf52 sm (fun w hw=>⟨by rw[←M6],ac hw⟩)
theorem Ex(x:Zp):PUR 271 [EV x] (.bool (decide (x.val % 2=1))):=by
 intro w hw
 refine Hf func271 rfl hw<|fun hGF=>Xp<|Bx 1 hGF rfl<|fun b1=>Asg rfl<|aa<|Xp<|La 1 rfl rfl bJ<|Ca rfl (kE _)<|jo U64 0 (0) rfl rfl underlying25 sizeOf24 isAgg24 om om sm rfl rfl<|Bnr rfl rfl (fun _=>fb _ _ _ dc)<|Bnr rfl rfl (fun _=>bx _ _ _)<|Asg rfl<|aa<|am<|Rr<|?_
 exact aG rfl rfl (fun w hw=>⟨by rw[←Te]<;>rfl,ac hw⟩)
theorem ig(x:Zp):PUR 73 [EV x] (.bool (decide (hf<x.val))):=by
 intro w hw
 refine Hf func73 rfl hw<|fun hGF=>Xp<|Bx 1 hGF rfl<|fun b1=>Asg rfl<|aa<|Xd []<|h9 hGF isAgg25 sizeOf25 sm (fun _ h=>h.g2) rfl rfl<|La 1 rfl rfl bJ<|Ca rfl (kE _)<|Ca rfl (lY _ _ sm sm)<|Asg rfl<|aa<|am<|Rr<|?_
 exact aG rfl rfl (fun w hw=>⟨by rw[←HL],ac hw⟩)
theorem KM(x:Zp):PUR 167 [EV x,NV RTP] (EV (SQr x)):=by
 have h:=oH x RTP rfl
 rw[LZ]at h
 exact h
theorem mr(x:Zp):PUR 152 [EV x] (.tuple #[EV (SQ x),.bool (decide (SQr x*SQr x=x))]):=by
 intro w hw
 refine Hf func152 rfl hw<|fun hGF=>Xp<|Bx 1 hGF rfl<|fun b1=>Al 2 hGF zv52<|fun b2=>Asg rfl<|aa<|Xp<|La 1 rfl rfl bJ<|h9 hGF isAgg25 sizeOf25 sm (fun _ h=>h.g6) rfl rfl<|Ca rfl (KM x)<|Al 4 hGF zv52<|fun b4=>Sa 4 hGF rfl rfl rfl bJ<|aa<|ah<|Xd []<|La 4 rfl rfl bJ<|Ca rfl (kk _)<|La 1 rfl rfl bJ<|Ca rfl (oC _ _)<|bu rfl (fun _=>a9 _) rfl rfl<|aa<|?_
 refine bG rfl (fun hc=> ?_) (fun hc=> ?_)
 ·have hs: ¬SQr x*SQr x=x:=by simpa using hc
  refine Xp<|eM zv52 underlying52 (mx sizeOf25) rfl rfl<|Sa 2 hGF rfl rfl rfl bJ<|Asg rfl<|aa<|am<|Rr<|?_
  exact a8 2 rfl rfl rfl rfl isAgg52 sizeOf52 sm (fun w hw=>⟨by rw[SQ,if_neg hs,decide_eq_false hs,←jw]<;>rfl,ac hw⟩)
 ·have hs:SQr x*SQr x=x:=by simpa using hc
  clear hc
  refine aq<|ah<|Xp<|La 4 rfl rfl bJ<|Ca rfl (ig _)<|aa<|?_
  refine bG rfl (fun hc=> ?_) (fun hc=> ?_)
  ·simp only[decide_eq_true_eq]at hc
   refine Xq<|La 4 rfl rfl bJ<|Ca rfl (eo _)<|Sa 4 hGF rfl rfl rfl bJ<|aa<|Xp<|La 4 rfl rfl bJ<|Sa 2 hGF rfl rfl rfl bJ<|Asg rfl<|aa<|am<|Rr<|?_
   exact a8 2 rfl rfl rfl rfl isAgg52 sizeOf52 sm (fun w hw=>⟨by rw[SQ,if_pos hs,SQn,if_pos hc,decide_eq_true hs]<;>rfl,ac hw⟩)
  ·simp only[decide_eq_false_iff_not]at hc
   refine aq<|Xp<|La 4 rfl rfl bJ<|Sa 2 hGF rfl rfl rfl bJ<|Asg rfl<|aa<|am<|Rr<|?_
   exact a8 2 rfl rfl rfl rfl isAgg52 sizeOf52 sm (fun w hw=>⟨by rw[SQ,if_pos hs,SQn,if_neg hc,decide_eq_true hs]<;>rfl,ac hw⟩)
theorem eB(e:Option Addr)(cap:Nat)(bs:L8)(w:World)(hw:Gt w)(hby:BytesAt w e bs):
 CLS 74 [.slice e bs.length cap].toArray w (fun r w'=>r=.returned (.tuple #[EV (FV bs),.bool (FO bs)])∧Grow w w'):=by
 refine Hf func74 rfl hw<|fun hGF=>Xp<|Al 2 hGF zv52<|fun b2=>Asg rfl<|aa<|ah<|Xp<|Mv rfl<|bi rfl (fun _=>aI underlying22 _ _ _ _) rfl rfl<|Bnr rfl rfl (fun _=>bF _ _ _)<|aa<|?_
 refine bG rfl (fun hc=> ?_) (fun hc=> ?_)
 ·have hc: ¬bs.length=48:=by simp at hc;omega
  refine Xp<|eM zv52 underlying52 (mx sizeOf25) rfl rfl<|Sa 2 hGF rfl rfl rfl bJ<|Asg rfl<|aa<|am<|Rr<|?_
  exact a8 2 rfl rfl rfl rfl isAgg52 sizeOf52 sm (fun w hw=>⟨by rw[FV,FO,if_neg (fun h=>hc h.1),decide_eq_false (fun h=>hc h.1),←jw]<;>rfl,ac hw⟩)
 ·have h48:bs.length=48:=by simp at hc;omega
  clear hc
  refine aq<|Xp<|Mv rfl<|Cc rfl ent28 (fun w' hC hG=>ov e bs.length cap bs rfl om w' hG (hby.grow (ac hC)))<|Mv rfl<|Ext rfl rfl<|Ext rfl rfl<|Al 4 hGF zv25<|fun b4=>Sa 4 hGF rfl rfl rfl ci<|Asg rfl<|aa<|ah<|Xp<|Mv rfl<|bu rfl (fun _=>a9 _) rfl rfl<|Mv rfl<|La 4 rfl rfl ci<|h9 hGF isAgg25 sizeOf25 sm (fun _ h=>h.g3) rfl rfl<|Ca rfl (lY _ _ sm sm)<|bu rfl (fun _=>a9 _) rfl rfl<|Pk rfl rfl rfl<|aa<|?_
  refine bG rfl (fun hc=> ?_) (fun hc=> ?_)
  ·have e0:V (FRs bs bs.length) 6=BN bs 48:=by rw[oh bs om,h48]
   have hl: ¬BN bs 48<PP:=by rw[qc,iE,e0]at hc;simpa using hc
   clear hc
   refine Xp<|eM zv52 underlying52 (mx sizeOf25) rfl rfl<|Sa 2 hGF rfl rfl rfl bJ<|Asg rfl<|aa<|am<|Rr<|?_
   exact a8 2 rfl rfl rfl rfl isAgg52 sizeOf52 sm (fun w hw=>⟨by rw[FV,FO,if_neg (fun h=>hl h.2),decide_eq_false (fun h=>hl h.2),←jw]<;>rfl,ac hw⟩)
  ·have e0:V (FRs bs bs.length) 6=BN bs 48:=by rw[oh bs om,h48]
   have hl:BN bs 48<PP:=by rw[qc,iE,e0]at hc;simpa using hc
   clear hc
   refine aq<|Xp<|La 4 rfl rfl ci<|Ca rfl (mu _ sm)<|Sa 2 hGF rfl rfl rfl bJ<|Asg rfl<|aa<|am<|Rr<|?_
   exact a8 2 rfl rfl rfl rfl isAgg52 sizeOf52 sm (fun w hw=>⟨by rw[FV,FO,if_pos ⟨h48,hl⟩,decide_eq_true ⟨h48,hl⟩,oh bs om,h48]<;>rfl,ac hw⟩)
structure WSt(w:World)(bs:L8) where
 (k:Nat) (a:Option Addr) (c:Nat)
 hk:k≤bs.length
 hc:bs.length-k≤c
 hb:BytesAt w a (bs.drop k)
 hm:k=0∨(bs.length-k) % 48=0
theorem n6(bs:L8)(k cut:Nat)(h:cut≤bs.length-k):((bs.drop k).take cut).length=cut:=by
 rw[List.length_take,List.length_drop];omega
theorem zO(y:Zp):PUR 117 [EV y,NV TWO] (EV (y*RZ)):=QR▸iT y RZ
theorem xk(bs:L8)(h:bs.length≤48):PUR 119 [NV (FRs bs bs.length)] (EV (zp (BN bs bs.length))):=oh bs h▸mu (FRs bs bs.length) (aT _ _)
theorem xq(e:Option Addr)(cap:Nat)(bs:L8)(hlen:bs.length≤1000000)(hcap:bs.length≤cap)(w:World)(hw:Gt w)(hby:BytesAt w e bs):
 CLS 241 [.slice e bs.length cap].toArray w (fun r w'=>r=.returned (EV (ZB bs))∧Grow w w'):=by
 refine Hf func241 rfl hw<|fun hGF=>Xp<|Al 2 hGF zv52<|fun b2=>aa<|Xp<|Al 3 hGF zv52<|fun b3=>aa<|ah<|ai<|bL (ι:=WSt w bs) (fun x=>[(0,.slice x.a (bs.length-x.k) x.c),(2,pnt b2),(3,pnt b3)]) (fun x=>[(2,b2,(List.replicate 6 0#64).map U64,52),(3,b3,(fe (zp (BN bs x.k))).map U64,52)]) (fun x=>(bs.length-x.k)) ⟨0,e,cap,Nat.zero_le _,hcap,hby,.inl rfl⟩ hGF trv ⟨rfl,by rw[BN,Lo,jw];rfl,trivial⟩<|fun x=>ah<|Xp<|Mv rfl<|bi rfl (fun _=>aI underlying22 _ _ _ _) rfl rfl<|Bnr rfl rfl (fun _=>bc _ _ _)<|aa<|?_
 refine bG rfl (fun hc=> ?_) (fun hc=> ?_)
 ·have hn:0<(bs.length-x.k):=by simp at hc;omega
  clear hc
  have hlenx:=x.hk
  have hcut:=Fw hn
  have hnext:BytesAt w (if x.c=(((bs.length-x.k)-1) % 48+1)then x.a else x.a.map (·.add ((((bs.length-x.k)-1) % 48+1)*1))) (bs.drop (x.k+(((bs.length-x.k)-1) % 48+1))):=by
   have:=x.hb.drop (cap:=x.c) (l:=(((bs.length-x.k)-1) % 48+1)) (by rw[List.length_drop];exact x.hc) om
   rw[List.drop_drop]at this
   exact this
  have hstep:zp (BN bs x.k)*RZ+zp (BN ((bs.drop x.k).take (((bs.length-x.k)-1) % 48+1)) ((bs.drop x.k).take (((bs.length-x.k)-1) % 48+1)).length)=zp (BN bs (x.k+(((bs.length-x.k)-1) % 48+1))):=by
   rw[n6 bs x.k _ hcut.2.1,Ng]
   exact DM bs x.k _ (kC id (VG hn) x.hm)
  refine aq<|ai<|Xp<|Mv rfl<|bi rfl (fun _=>aI underlying22 _ _ _ _) rfl rfl<|Bnr (v:=I (((bs.length-x.k)-1:Nat):Int)) rfl rfl (fun _=>(aX _ _ _ oi).trans (by rw[show ((bs.length-x.k:Nat):Int)-1=((bs.length-x.k-1:Nat):Int) by omega]))<|cy (v:=I ((((bs.length-x.k)-1) % 48:Nat):Int)) rfl rfl (fun _=>rfl) (fun _=>cV _ _ _ dc) rfl rfl<|cy (v:=I (((((bs.length-x.k)-1) % 48+1):Nat):Int)) rfl rfl (fun _=>rfl) (fun _=>au _ _ _ oi) rfl rfl<|Asg rfl<|aa<|Xp<|Mv rfl<|Mv rfl<|fw (l:=0) (h':=(((bs.length-x.k)-1) % 48+1)) rfl underlying22 sizeOf5 rfl rfl ⟨Nat.zero_le _,Nat.le_trans hcut.2.1 x.hc⟩ rfl rfl<|kV rfl rfl ent28 (fun w' hC hG=>ov _ (((bs.length-x.k)-1) % 48+1) _ ((bs.drop x.k).take (((bs.length-x.k)-1) % 48+1)) (n6 bs x.k _ hcut.2.1) hcut.2.2 w' hG ((x.hb.cut 0 (((bs.length-x.k)-1) % 48+1) (by rw[List.length_drop];exact x.hc)).grow (ac hC))) rfl rfl<|Mv rfl<|Ext rfl rfl<|Ext rfl rfl<|Al 5 hGF zv25<|fun b5=>Sa 5 hGF rfl rfl rfl ci<|Asg rfl<|aa<|Xd []<|La 3 rfl rfl bJ<|h9 hGF isAgg25 sizeOf25 sm (fun _ h=>h.g5) rfl rfl<|ck rfl sm underlying52 rfl sizeOf25 zv52 rfl rfl<|Ca rfl (zO _)<|La 5 rfl rfl ci<|Ca rfl (xk ((bs.drop x.k).take (((bs.length-x.k)-1) % 48+1)) (by rw[n6 bs x.k _ hcut.2.1];exact hcut.2.2))<|Ca rfl (tg _ _)<|Sa 3 hGF rfl rfl rfl bJ<|aa<|Xq<|Mv rfl<|Mv rfl<|fw (l:=(((bs.length-x.k)-1) % 48+1)) (h':=(bs.length-x.k)) rfl underlying22 sizeOf5 rfl rfl ⟨hcut.2.1,x.hc⟩ rfl rfl<|Asg rfl<|aa<|?_
  repeat (refine aP ?_)
  exact aD<|⟨rfl,⟨x.k+(((bs.length-x.k)-1) % 48+1),_,x.c-(((bs.length-x.k)-1) % 48+1),by have:=x.hk;omega,by have:=x.hc;omega,hnext,.inr (by rw[Nat.sub_add_eq];exact hcut.1)⟩,_,by show bs.length-(x.k+(((bs.length-x.k)-1) % 48+1))<bs.length-x.k;omega,rfl,⟨congrArg (fun n=>some (Value.slice _ n _)) (Nat.sub_sub bs.length x.k (((bs.length-x.k)-1) % 48+1)),rfl,rfl,trivial⟩,⟨rfl,by rw[←hstep];rfl,trivial⟩⟩
 ·have hn:x.k=bs.length:=by simp at hc;have:=x.hk;omega
  clear hc
  refine aW<|Xp<|La 3 rfl rfl bJ<|Sa 2 hGF rfl rfl rfl bJ<|aa<|am<|Rr<|?_
  exact av 2 rfl rfl rfl isAgg52 sizeOf52 sm (fun w hw=>⟨by rw[hn];rfl,ac hw⟩)
end
section
open Go.RowKit
attribute [local simp] a7 bv aJ aB aQ a5 aT aK aO bf bC
theorem PT:fe 0=List.replicate 6 (0:BitVec 64):=jw
theorem Mr(x y:Zp):DH (fe x) (fe y)=fe (x+y):=by
 unfold DH
 split
 ·rename_i h;exact yc h.2
 ·rename_i h
  refine Cp ?_
  by_cases h1:1873798617647539866#64≤(AS (fe x) (fe y) 6).1.getD 5 0
  ·exact E6 (LL (o4 _ _ _) (fun h0=>h ⟨h1,h0⟩))
  ·exact LI _ h1
theorem Lg(x y:Zp):Fi (fe x) (fe y)=fe (x-y):=by
 unfold Fi
 split
 ·rename_i h;exact Cw h
 ·rename_i h;exact wp (uv (o4 _ _ _) h)
theorem Lu(x:Zp):Ja (fe x)=fe (-x):=by
 unfold Ja
 rw[←PT]
 split
 ·rename_i h
  rw[pT.1 h]
  exact congrArg fe (by grind)
 ·rename_i h;exact IQ (fun e=>h (by rw[e]))
def BTn(bs:L8):Nat→Nat
 |0=>0
 |i+1=>2*BTn bs i+(dU bs i).toNat
theorem Im(bs:L8)(k j:Nat)(hj:j<8):(dU bs (8*k+j)).toNat=(bs.getD k 0).toNat / 2^(7-j) % 2:=by
 rw[dU,show (8*k+j) / 8=k by omega,show (8*k+j) % 8=j by omega,BitVec.toNat_and,BitVec.toNat_ushiftRight,show (1#8).toNat=1 from rfl,Nat.and_one_is_mod,Nat.shiftRight_eq_div_pow]
theorem L9{B b q r X:Nat}(hr:r=2*q)(hX:X=B+b / r):2*X+b / q % 2=2*B+b / q:=by
 have e:b / r=b / q / 2:=by rw[hr,Nat.mul_comm,Nat.div_div_eq_div_mul]
 rw[hX,e]
 omega
theorem xY(bs:L8)(k:Nat): ∀j,j≤8→BTn bs (8*k+j)=BTn bs (8*k)*2^j+(bs.getD k 0).toNat / 2^(8-j)
 |0,_=>by
  have h:=(bs.getD k 0).isLt
  rw[Nat.add_zero,Nat.pow_zero,Nat.mul_one,Nat.div_eq_of_lt h,Nat.add_zero]
 |j+1,h=>by
  have ih:=xY bs k j om
  rw[←Nat.add_assoc,BTn,Im bs k j om,show 8-(j+1)=7-j by omega,L9 (r:=2^(8-j)) (by rw[show 8-j=7-j+1 by omega,Nat.pow_succ,Nat.mul_comm]) ih,Nat.pow_succ,Nat.mul_left_comm,Nat.mul_comm 2 (2^j)]
theorem gM(bs:L8): ∀k,BTn bs (8*k)=BN bs k
 |0=>rfl
 |k+1=>by
  rw[Nat.mul_add,xY bs k 8 (Nat.le_refl _),gM bs k,BN,Nat.sub_self,Nat.pow_zero,Nat.div_one,Nat.mul_comm]
theorem np(bs:L8)(i:Nat):dU bs i=1#8∧(dU bs i).toNat=1∨¬dU bs i=1#8∧(dU bs i).toNat=0:=by
 by_cases h:dU bs i=1#8
 ·exact .inl ⟨h,by rw[h];rfl⟩
 ·refine .inr ⟨h, ?_⟩
  have e:(dU bs i).toNat≤1:=by
   rw[dU,BitVec.toNat_and,show (1#8).toNat=1 from rfl,Nat.and_one_is_mod]
   omega
  have:(dU bs i).toNat≠1:=fun e1=>h (BitVec.eq_of_toNat_eq (by rw[e1];rfl))
  omega
theorem F9(x:Zp)(bs:L8): ∀i,RP (fe x) bs i=fe (x^BTn bs i)
 |0=>by rw[RP,BTn,p0,QE]
 |i+1=>by
  have ih:=F9 x bs i
  rcases np bs i with ⟨h,e⟩|⟨h,e⟩
  ·rw[QP _ _ _ h,ih,Dg,Dg,BTn,e,Nat.two_mul,ps,oW]
  ·rw[Qm _ _ _ h,ih,Dg,BTn,e,Nat.two_mul,Nat.add_zero,oW]
theorem RL(x:Zp)(bs:L8):RP (fe x) bs (8*bs.length)=fe (x^BN bs bs.length):=by rw[F9,gM]
theorem K2:BN EX2 48=PP-2:=by
 rw[EX2,mK _ (by rw[dp,aB]) 48 rfl]
 decide+kernel
theorem Li:BN EX1 48=hf:=by
 rw[EX1,mK _ (by rw[dp,aB]) 48 rfl]
 decide+kernel
theorem NC:BN EX4 48=rg:=by
 rw[EX4,mK _ (by rw[dp,aJ]) 48 rfl]
 decide+kernel
theorem Sc(x:Zp):RP (fe x) EX2 384=fe (x^(PP-2)):=by rw[F9,show 384=8*48 from rfl,gM,K2]
theorem EB(x:Zp):decide ((SS (FRs EX1 48) (RM (fe x) N1) 6).2=1)=decide (hf<x.val):=by
 apply decide_eq_decide.2
 have e:=oh EX1 (by rw[uO];exact Nat.le_refl _)
 rw[uO,Li]at e
 rw[z9]
 rcases oO (FRs EX1 48) (nm x)with ⟨h,h'⟩|⟨h,_,h'⟩
 ·rw[e,vM]at h'
  exact ⟨fun e'=>(by rw[h]at e';exact absurd e' dc),fun _=>om⟩
 ·rw[e,vM]at h'
  exact ⟨fun _=>h',fun _=>h⟩
/-! ### The reference's numbers of many bytes -/
theorem Gz(t:L6)(n k:Nat)(hk:k<t.length)(hn:k<n)(x:BitVec 64):V (t.set k x) n+(t.getD k 0).toNat*2^(64*k)=V t n+x.toNat*2^(64*k):=qK t k x hk n hn
theorem He{v0 v1 x y a W q c:Nat}(h:v1+a*q=v0+x*q)(e:x+y*W=a+c):v1+y*(q*W)=v0+c*q:=by
 have:(x+y*W)*q=(a+c)*q:=by rw[e]
 rw[Nat.add_mul,Nat.add_mul,Nat.mul_assoc,Nat.mul_comm W]at this
 omega
theorem EP(t:L6)(c:BitVec 64)(n:Nat)(ht:t.length=n): ∀j,j<n→V (AB t c j).1 n+(AB t c j).2.toNat*2^(64*(j+1))=V t n+c.toNat
 |0,h=>by
  have h1:=Gz t n 0 om h (ADC (t.getD 0 0) c 0).1
  have h2:=pO (t.getD 0 0) c 0
  rw[show (0:BitVec 64).toNat=0 from rfl,Nat.add_zero]at h2
  have h3:=He (W:=18446744073709551616) h1 h2
  rw[Nat.mul_zero,Nat.pow_zero,Nat.one_mul,Nat.mul_one]at h3
  rw[AB,show 64*(0+1)=64 from rfl]
  exact h3
 |j+1,h=>by
  have ih:=EP t c n ht j om
  have h1:=Gz (AB t c j).1 n (j+1) (by rw[n9];omega) h (ADC ((AB t c j).1.getD (j+1) 0) 0 (AB t c j).2).1
  have h2:=pO ((AB t c j).1.getD (j+1) 0) 0 (AB t c j).2
  rw[show (0:BitVec 64).toNat=0 from rfl,Nat.add_zero]at h2
  have h3:=He (W:=18446744073709551616) h1 h2
  rw[AB,iH (j+1)]
  simp only[]
  rw[h3,ih]
theorem n256:V (256#64::List.replicate 5 0) 6=256:=pz 256#64
theorem Na{v y q m c:Nat}(h:v+y*q=m+c)(hm:m+c<q):v=m+c:=by
 rcases Nat.eq_zero_or_pos y with rfl|hy
 ·omega
 ·have:q≤y*q:=Nat.le_mul_of_pos_left q hy
  omega
theorem Z8:PL≠List.replicate 6 0:=dc
theorem Kz{k:Nat}(h:R6=2^k)(hk:64*12=k+k):2^(64*12)=R6*R6:=by rw[hk,Nat.pow_add,h]
theorem uP(bs:L8): ∀i,V (WDs bs PL i) 6=BN bs i % PP
 |0=>(i8 6 6).trans (Nat.zero_mod _).symm
 |i+1=>by
  have ih:=uP bs i
  have hlt:V (WDs bs PL i) 6<PP:=by rw[ih];exact Nat.mod_lt _ Aa
  have hb:=(bs.getD i 0).isLt
  have e0:((bs.getD i 0).setWidth 64).toNat=(bs.getD i 0).toNat:=by
   rw[BitVec.toNat_setWidth];exact Nat.mod_eq_of_lt om
  have h1:=EP (MU (WDs bs PL i) (256#64::List.replicate 5 0) 6) ((bs.getD i 0).setWidth 64) 12 (iz _ _ _) 11 dc
  rw[JY _ _ 6 (Nat.le_refl _),n256,e0]at h1
  have h2:V (AB (MU (WDs bs PL i) (256#64::List.replicate 5 0) 6) ((bs.getD i 0).setWidth 64) 11).1 12=V (WDs bs PL i) 6*256+(bs.getD i 0).toNat:=by
   refine Na h1 ?_
   have hR:=wl
   have hbig:1000*R6≤R6*R6:=Nat.mul_le_mul_right _ (Nat.le_of_lt (Nat.lt_trans mw hR))
   rw[show 64*(11+1)=64*12 from rfl,Kz eH rfl]
   omega
  rw[xo,Cj _ PL rfl Z8,h2,iE,ih,BN,Nat.add_mod,Nat.mod_mul_mod,←Nat.add_mod,Nat.mul_comm]
theorem Sg(bs:L8):RM (WDs bs PL bs.length) TWO=fe (ZB bs):=by
 rw[zK _ (by rw[uP];exact Nat.mod_lt _ Aa),uP,uy];rfl
theorem HU(x y:Zp):PUR 147 [EV x,EV y] (EV (x*y)):=by
 have h:=n8 (fe x) (fe y) sm sm
 rw[Dg]at h
 exact h
theorem Yw(x y:Zp):PUR 149 [EV x,EV y] (EV (x+y)):=by
 have h:=zF (fe x) (fe y) sm sm
 rw[Mr]at h
 exact h
theorem Zk(x y:Zp):PUR 148 [EV x,EV y] (EV (x-y)):=by
 have h:=At (fe x) (fe y) sm sm
 rw[Lg]at h
 exact h
theorem xB(x:Zp):PUR 141 [EV x] (EV (-x)):=by
 have h:=D5 (fe x) sm
 rw[Lu]at h
 exact h
theorem Zq(x:Zp):PUR 155 [EV x] (EV (x^(PP-2))):=by
 have h:=Ej (fe x) sm
 rw[Sc]at h
 exact h
theorem ia(x:Zp):PUR 48 [EV x] (NV (nm x)):=by
 have h:=kg (fe x) sm
 rw[z9]at h
 exact h
theorem Kt(x:Zp):PUR 98 [EV x] (.bool (decide (x=0))):=by
 have h:=kd (fe x) sm
 rw[←PT,gN]at h
 exact h
theorem Ys(x:Zp):PUR 185 [EV x] (.bool (decide (x.val % 2=1))):=by
 have h:=DZ (fe x) sm
 rw[z9,Mw]at h
 exact h
theorem un(x:Zp):PUR 99 [EV x] (.bool (decide (hf<x.val))):=by
 have h:=xH (fe x) sm
 rw[EB]at h
 exact h
theorem MC(x:Zp):PUR 134 [NV (nm x)] (EV x):=by
 have h:=r4 (nm x) sm
 rw[DR]at h
 exact h
theorem Xz(bs:L8):PUR 134 [NV (WDs bs PL bs.length)] (EV (ZB bs)):=by
 have h:=r4 (WDs bs PL bs.length) (gA _ _ _)
 rw[Sg]at h
 exact h
theorem ZT:18446744073709551616<PP:=by decide+kernel
theorem iM(n:BitVec 64):PUR 100 [U64 n] (EV (zp n.toNat)):=by
 have h:=wH n
 have hn:=n.isLt
 have hp:=ZT
 rw[zK _ (by rw[pz];omega),pz]at h
 exact h
theorem jt(x:Zp):PUR 42 [NV (nm x)] (.agg ((ch x).map U8).toArray):=fS (nm x) sm
theorem ZM(x:Zp)(e:Option Addr)(cap:Nat)(bs:L8)(hlen:bs.length≤4096)(w:World)(hw:Gt w)(hby:BytesAt w e bs):
 CLS 189 [EV x,.slice e bs.length cap].toArray w (fun r w'=>r=.returned (EV (x^BN bs bs.length))∧Grow w w'):=by
 have h:=rJ (fe x) sm e cap bs hlen w hw hby
 rw[RL]at h
 exact h
end
section
open Go.RowKit
attribute [local simp] a7 bv aJ aB aQ a5 aT aK aO bf bC
theorem ent158:ak prog 158:=fun _ _=>kr
theorem P8(op:BinOp)(x y:Operand)(xs ys:Array Value)(w:World):(eqGuard op 39 x y (.agg xs) (.agg ys)).run prog w=.ok () w:=eqgF op x y xs ys w
theorem OH(xs ys:L6)(h:xs.length=6)(h':ys.length=6)(w:World):(binOp .neq 39 (aM xs) (aM ys)).run prog w=.ok (.bool (!decide (xs=ys))) w:=LV underlying39 rfl dc kr isAgg37 sizeOf37 underlying37 underlying24 sizeOf24 isAgg24 xs ys h h' w
theorem Nh(x:Zp)(b:Nat)(t:TypeId)(bs:L8)(h48:bs.length=48)(w:World)(hw:Gt w)(ho:OwnB w b (bs.map U8) t):
 CLS 189 [EV x,.slice (spt b) 48 48].toArray w (fun r w'=>r=.returned (EV (x^BN bs 48))∧Grow w w'):=by
 have h:=ZM x (spt b) 48 bs om w hw (BytesAt.range ho.range)
 rw[h48]at h
 exact h
theorem A2(x:Zp)(b:Nat)(t:TypeId)(w:World)(hw:Gt w)(ho:OwnB w b (EX4.map U8) t):
 CLS 189 [EV x,.slice (spt b) 48 48].toArray w (fun r w'=>r=.returned (EV (SQr x))∧Grow w w'):=by
 have h:=Nh x b t EX4 NA w hw ho
 rw[NC]at h
 exact h
theorem UV(x:Zp):PUR 158 [EV x] (.tuple #[EV (SQ x),.bool (decide (SQr x*SQr x=x))]):=by
 intro w hw
 refine Hf func158 rfl hw<|fun hGF=>Xp<|Bx 1 hGF rfl<|fun b1=>Al 2 hGF zv39<|fun b2=>Asg rfl<|aa<|ph (EE [156,2000156,2999999]) cL kr kr<|aU (m:=4) [0] kr<|La 1 rfl rfl dr<|aa<|eP (m:=3) [1,3] kr kr dc<|?_
 intro i hi
 simp only[List.mem_cons,List.not_mem_nil,or_false]at hi
 rcases hi with rfl|rfl
 ·refine bQ rfl rfl ent156 rfl rfl (fun w' hw'=>(qy w' (hGF.g _ _ _ hw')).mono fun e w'' h=> ?_)
  obtain ⟨bm,rfl,hg,hb,hob⟩:=h
  refine ⟨_,_,rfl,aA hGF,hw'.news ao hg [(6,bm,EX4.map U8,29)] ?_ bX,bU ao rfl, ?_⟩
  ·intro n' b' c' t' hl
   rcases aL hl with ⟨_,e⟩|⟨_,hl⟩
   ·cases e;exact ⟨hb,hob⟩
   ·cases hl
  clear hw' hg hb hob
  refine aa<|aU (m:=2) [2] kr<|Cc rfl ent189 (fun w' hw' hG=>A2 x bm _ w' hG (hw'.own 6 _ _ _ rfl).1)<|aa<|aU (m:=0) [3,4] kr<|bK 4 hGF zv39 rfl rfl rfl<|fun b4=>Sa 4 hGF rfl rfl rfl dr<|aa<|cK kr<|aD<|ah<|Xd []<|La 4 rfl rfl dr<|La 4 rfl rfl dr<|Ca rfl (HU _ _)<|La 1 rfl rfl dr<|cy rfl rfl (fun _=>P8 _ _ _ _ _ _) (fun w=>OH _ _ sm sm w) rfl rfl<|aa<|?_
  refine bG rfl (fun hc=> ?_) (fun hc=> ?_)
  ·have hs: ¬SQr x*SQr x=x:=by rw[gN]at hc;simpa using hc
   refine Xp<|eM zv39 underlying39 (mx sizeOf37) rfl rfl<|Sa 2 hGF rfl rfl rfl dr<|Asg rfl<|aa<|am<|Rr<|?_
   exact a8 2 rfl rfl rfl rfl isAgg39 sizeOf39 sm (fun w hw=>⟨by rw[SQ,if_neg hs,decide_eq_false hs,←jw]<;>rfl,ac hw⟩)
  ·have hs:SQr x*SQr x=x:=by rw[gN]at hc;simpa using hc
   clear hc
   refine aq<|ah<|Xp<|La 4 rfl rfl dr<|Ca rfl (un _)<|aa<|?_
   refine bG rfl (fun hc=> ?_) (fun hc=> ?_)
   ·simp only[decide_eq_true_eq]at hc
    refine Xq<|La 4 rfl rfl dr<|Ca rfl (xB _)<|Sa 4 hGF rfl rfl rfl dr<|aa<|Xp<|La 4 rfl rfl dr<|Sa 2 hGF rfl rfl rfl dr<|Asg rfl<|aa<|am<|Rr<|?_
    exact a8 2 rfl rfl rfl rfl isAgg39 sizeOf39 sm (fun w hw=>⟨by rw[SQ,if_pos hs,SQn,if_pos hc,decide_eq_true hs]<;>rfl,ac hw⟩)
   ·simp only[decide_eq_false_iff_not]at hc
    refine aq<|Xp<|La 4 rfl rfl dr<|Sa 2 hGF rfl rfl rfl dr<|Asg rfl<|aa<|am<|Rr<|?_
    exact a8 2 rfl rfl rfl rfl isAgg39 sizeOf39 sm (fun w hw=>⟨by rw[SQ,if_pos hs,SQn,if_neg hc,decide_eq_true hs]<;>rfl,ac hw⟩)
 ·refine bK 4 hGF zv39 rfl rfl rfl<|fun b4=>aa<|aU (m:=0) [1,2,4] kr<|?_
  refine bQ rfl rfl ent156 rfl rfl (fun w' hw'=>(qy w' (hGF.g _ _ _ hw')).mono fun e w'' h=> ?_)
  obtain ⟨bm,rfl,hg,hb,hob⟩:=h
  refine ⟨_,_,rfl,aA hGF,hw'.news ao hg [(6,bm,EX4.map U8,29)] ?_ bX,bU ao rfl, ?_⟩
  ·intro n' b' c' t' hl
   rcases aL hl with ⟨_,e⟩|⟨_,hl⟩
   ·cases e;exact ⟨hb,hob⟩
   ·cases hl
  clear hw' hg hb hob
  refine Cc rfl ent189 (fun w' hw' hG=>A2 x bm _ w' hG (hw'.own 6 _ _ _ rfl).1)<|Sa 4 hGF rfl rfl rfl dr<|aa<|cK kr<|aD<|ah<|Xd []<|La 4 rfl rfl dr<|La 4 rfl rfl dr<|Ca rfl (HU _ _)<|La 1 rfl rfl dr<|cy rfl rfl (fun _=>P8 _ _ _ _ _ _) (fun w=>OH _ _ sm sm w) rfl rfl<|aa<|?_
  refine bG rfl (fun hc=> ?_) (fun hc=> ?_)
  ·have hs: ¬SQr x*SQr x=x:=by rw[gN]at hc;simpa using hc
   refine Xp<|eM zv39 underlying39 (mx sizeOf37) rfl rfl<|Sa 2 hGF rfl rfl rfl dr<|Asg rfl<|aa<|am<|Rr<|?_
   exact a8 2 rfl rfl rfl rfl isAgg39 sizeOf39 sm (fun w hw=>⟨by rw[SQ,if_neg hs,decide_eq_false hs,←jw]<;>rfl,ac hw⟩)
  ·have hs:SQr x*SQr x=x:=by rw[gN]at hc;simpa using hc
   clear hc
   refine aq<|ah<|Xp<|La 4 rfl rfl dr<|Ca rfl (un _)<|aa<|?_
   refine bG rfl (fun hc=> ?_) (fun hc=> ?_)
   ·simp only[decide_eq_true_eq]at hc
    refine Xq<|La 4 rfl rfl dr<|Ca rfl (xB _)<|Sa 4 hGF rfl rfl rfl dr<|aa<|Xp<|La 4 rfl rfl dr<|Sa 2 hGF rfl rfl rfl dr<|Asg rfl<|aa<|am<|Rr<|?_
    exact a8 2 rfl rfl rfl rfl isAgg39 sizeOf39 sm (fun w hw=>⟨by rw[SQ,if_pos hs,SQn,if_pos hc,decide_eq_true hs]<;>rfl,ac hw⟩)
   ·simp only[decide_eq_false_iff_not]at hc
    refine aq<|Xp<|La 4 rfl rfl dr<|Sa 2 hGF rfl rfl rfl dr<|Asg rfl<|aa<|am<|Rr<|?_
    exact a8 2 rfl rfl rfl rfl isAgg39 sizeOf39 sm (fun w hw=>⟨by rw[SQ,if_pos hs,SQn,if_neg hc,decide_eq_true hs]<;>rfl,ac hw⟩)
end
section
theorem ve{a:Zp}(h:a≠0):(-a).val=PP-a.val:=by
 have h0:a.val≠0:=fun e=>h (Fin.ext e)
 have hl:=a.isLt
 have e:zp (PP-a.val)+a=0:=by
  have:zp (PP-a.val)+zp a.val=0:=by rw[←gC,show PP-a.val+a.val=PP by omega,mW]
  rw[td]at this
  exact this
 have e2: -a=zp (PP-a.val):=by grind
 rw[e2,fQ,Nat.mod_eq_of_lt om]
theorem Dl{a:Zp}(h: ¬a=0):(decide (hf<a.val) !=decide (hf<(-a).val))=true:=by
 have hl:=a.isLt
 have hp:=mO
 rw[ve h]
 by_cases h1:hf<a.val
 ·rw[decide_eq_true h1,decide_eq_false om];rfl
 ·rw[decide_eq_false h1,decide_eq_true om];rfl
theorem uA{a:Zp}(h:a≠0):a^hf*a^hf=1:=by
 rw[←oW,show hf+hf=PP-1 by have:=mO;omega,fermat h]
theorem Cq{a:Zp}(h:a≠0):a^hf=1∨a^hf= -1:=by
 have e:=uA h
 have:(a^hf-1)*(a^hf+1)=0:=by grind
 rcases k5 this with h|h
 ·left;grind
 ·right;grind
theorem uF: ¬(1:Zp)= -1:=fun h=>by
 have h2:(1:Zp)+1=0:=(congrArg (fun z=>z+(1:Zp)) h).trans (by grind)
 have h3:=congrArg Fin.val h2
 rw[Fin.val_add,show (1:Zp).val=1 % PP from rfl,Nat.mod_eq_of_lt pr_p.1,Nat.mod_eq_of_lt (by have:=mw;omega)]at h3
 cases h3
theorem Ci(a:Zp):SQr a*SQr a=a^hf*a:=by rw[SQr,←oW,←Nat.two_mul,ZJ,ps]
theorem jp{a:Zp}(h:SQr a*SQr a=a):SQ a*SQ a=a:=by
 rw[SQ,if_pos h,SQn]
 split
 ·grind
 ·exact h
theorem lh{a:Zp}(h:SQr a*SQr a=a): ¬hf<(SQ a).val:=by
 rw[SQ,if_pos h,SQn]
 split
 ·rename_i h1
  have h0:SQr a≠0:=fun e=>by rw[e]at h1;exact absurd h1 (Nat.not_lt_zero _)
  rw[ve h0]
  have:=mO
  omega
 ·rename_i h1;exact h1
theorem Af(a:Zp):SQr (a*a)*SQr (a*a)=a*a:=by
 rw[Ci]
 by_cases h:a=0
 ·rw[h];grind
 ·rw[Nz,uA h];grind
theorem Y6{x y:Zp}(h:x*x=y*y):x=y∨x= -y:=by
 have:(x-y)*(x+y)=0:=by grind
 rcases k5 this with h|h
 ·left;grind
 ·right;grind
theorem Ym(a:Zp):SQ (a*a)=a∨SQ (a*a)= -a:=Y6 (jp (Af a))
theorem MF(a:Zp)(n:Nat):(-a)^(2*n+1)= -(a^(2*n+1)):=by
 rw[ps,ps,G7,G7,show (-a)^2=a^2 by grind];grind
theorem yV(a:Zp):(-a)^hf= -(a^hf):=by
 obtain ⟨n,hn⟩: ∃n,hf=2*n+1:=⟨hf / 2,by have:=TV;omega⟩
 rw[hn];exact MF a n
theorem rE:zp 2≠0:=fun h=>by
 have:=congrArg Fin.val h
 rw[fQ,Nat.mod_eq_of_lt (by have:=mw;omega)]at this
 cases this
theorem Hh:zp 4=zp 2*zp 2∧zp 2=1+1:=⟨jH 2 2,gC 1 1⟩
end
section
abbrev W2:=Zp×Zp
def ad2(x y:W2):W2:=(x.1+y.1,x.2+y.2)
def ng2(x:W2):W2:=(-x.1,-x.2)
def sb2(x y:W2):W2:=(x.1-y.1,x.2-y.2)
def ml2(x y:W2):W2:=(x.1*y.1-x.2*y.2,x.1*y.2+x.2*y.1)
def cj2(x:W2):W2:=(x.1,-x.2)
def sc2(x:W2)(c:Zp):W2:=(x.1*c,x.2*c)
def xi2(x:W2):W2:=(x.1-x.2,x.1+x.2)
def nm2(x:W2):Zp:=x.1*x.1+x.2*x.2
def iv2(x:W2):W2:=(x.1*nm2 x^(PP-2),-x.2*nm2 x^(PP-2))
def on2:W2:=(1,0)
def ze2:W2:=(0,0)
theorem bO{x y:W2}(h1:x.1=y.1)(h2:x.2=y.2):x=y:=Prod.ext h1 h2
def R2:Rg W2 where
 zero:=ze2
 one:=on2
 add:=ad2
 mul:=ml2
 neg:=ng2
 add_assoc:=fun a b c=>bO (by simp only[ad2];grind) (by simp only[ad2];grind)
 add_comm:=fun a b=>bO (by simp only[ad2];grind) (by simp only[ad2];grind)
 add_zero:=fun a=>bO (by simp only[ad2,ze2];grind) (by simp only[ad2,ze2];grind)
 add_neg:=fun a=>bO (by simp only[ad2,ng2,ze2];grind) (by simp only[ad2,ng2,ze2];grind)
 mul_assoc:=fun a b c=>bO (by simp only[ml2];grind) (by simp only[ml2];grind)
 mul_comm:=fun a b=>bO (by simp only[ml2];grind) (by simp only[ml2];grind)
 mul_one:=fun a=>bO (by simp only[ml2,on2];grind) (by simp only[ml2,on2];grind)
 mul_add:=fun a b c=>bO (by simp only[ml2,ad2];grind) (by simp only[ml2,ad2];grind)
theorem nT(x y:W2):sb2 x y=ad2 x (ng2 y):=bO (by simp only[sb2,ad2,ng2];grind) (by simp only[sb2,ad2,ng2];grind)
theorem I0(x:W2):xi2 x=ml2 x (1,1):=bO (by simp only[xi2,ml2];grind) (by simp only[xi2,ml2];grind)
theorem g8(x y:W2):nm2 (ml2 x y)=nm2 x*nm2 y:=by simp only[nm2,ml2];grind
theorem Sv(x:W2):ml2 x (cj2 x)=(nm2 x,0):=bO (by simp only[ml2,cj2,nm2];grind) (by simp only[ml2,cj2];grind)
theorem gx(x y:W2):cj2 (ml2 x y)=ml2 (cj2 x) (cj2 y):=bO (by simp only[ml2,cj2];grind) (by simp only[ml2,cj2];grind)
theorem Mx(x y:W2):cj2 (ad2 x y)=ad2 (cj2 x) (cj2 y):=bO (by simp only[ad2,cj2]) (by simp only[ad2,cj2];grind)
/-! ### -1 is no square -/
theorem uL{a:Zp}(h:a≠0):(a*a)^hf=1:=by rw[Nz,uA h]
theorem Dm{a:Zp}(h:0= -a):a=0:=by grind
theorem ss(a:Zp):a*1=a:=by grind
theorem A0(a:Zp): -(-a)=a:=by grind
theorem i1(a:Zp):a*0=0:=by grind
theorem DX{a b:Zp}(h:a*a+b*b=0):b=0:=by
 by_cases hb:b=0
 ·exact hb
 ·exfalso
  have e:a*a= -(b*b):=by grind
  have e2:(a*a)^hf= -1:=by rw[e,yV,uL hb]
  by_cases ha:a=0
  ·obtain ⟨n,hn⟩:=TZ
   rw[ha,i1,hn,Oy]at e2
   exact ko (Dm e2)
  ·rw[uL ha]at e2
   exact uF e2
theorem r9{x:W2}(h:nm2 x=0):x=ze2:=by
 have h1:=DX h
 have h2:=DX (a:=x.2) (b:=x.1) (by rw[←h];simp only[nm2];grind)
 exact bO h2 h1
theorem Y3:(0:Zp)+0=0:=sm
theorem VB:nm2 ze2=0:=by simp only[nm2,ze2];rw[i1,Y3]
theorem Vx{x:W2}(h:x≠ze2):nm2 x≠0:=fun e=>h (r9 e)
theorem dh{x:W2}(h:x≠ze2):ml2 x (iv2 x)=on2:=by
 have hz:=oe (Vx h)
 have e:nm2 x=x.1*x.1+x.2*x.2:=rfl
 have k: ∀j:Zp,nm2 x*j=1→ml2 x (x.1*j,-x.2*j)=on2:=fun j hj=>by
  rw[e]at hj
  refine bO ?_ ?_
  ·simp only[ml2,on2];grind
  ·simp only[ml2,on2];grind
 exact k _ hz
theorem ij{x y:W2}(h:ml2 x y=ze2):x=ze2∨y=ze2:=by
 have e:=g8 x y
 rw[h,VB]at e
 rcases k5 e.symm with h|h
 ·exact .inl (r9 h)
 ·exact .inr (r9 h)
/-! ### Powers -/
def pw2(x:W2)(n:Nat):W2:=R2.pw x n
theorem ou(x:W2)(n:Nat):pw2 x (n+1)=ml2 (pw2 x n) x:=rfl
theorem uJ(x:W2)(m n:Nat):pw2 x (m+n)=ml2 (pw2 x m) (pw2 x n):=R2.pw_add x m n
theorem CK(x:W2)(m n:Nat):pw2 x (m*n)=pw2 (pw2 x m) n:=R2.pw_mul x m n
theorem Nr(x y:W2)(n:Nat):pw2 (ml2 x y) n=ml2 (pw2 x n) (pw2 y n):=R2.mul_pw x y n
theorem qz(a:Zp):0*a=0:=by grind
theorem Mc:(0:Zp)+0=0:=sm
theorem nU(a b:Zp):ml2 (a,0) (b,0)=(a*b,0):=bO (by simp only[ml2];grind) (by simp only[ml2];rw[i1,qz,Mc])
theorem R4(a b:Zp):ml2 (a,0) (0,b)=(0,a*b):=bO (by simp only[ml2];rw[i1,qz];simp) (by simp only[ml2];grind)
theorem uK(a b:Zp):ml2 (0,a) (0,b)=(-(a*b),0):=bO (by simp only[ml2];grind) (by simp only[ml2];rw[i1,qz,Mc])
theorem oU:(1:Zp)*1=1:=ss 1
theorem z_nn(a:Zp): -a* -a=a*a:=by grind
theorem yB(a:Zp): ∀n,pw2 (a,0) n=(a^n,0)
 |0=>bO (p0 a).symm rfl
 |n+1=>by rw[ou,yB a n,nU,ps]
theorem V7:pw2 (0,1) PP=(0,-1):=by
 have h1:pw2 (0,1) 1=(0,1):=R2.pw_one _
 have h2:pw2 (0,1) 2=(-1,0):=by rw[ou,h1,uK,oU]
 have h3:pw2 (0,1) 3=(0,-1):=by rw[ou,h2,R4,ss]
 have h4:pw2 (0,1) 4=on2:=by rw[ou,h3,uK,ss,A0];rfl
 obtain ⟨k,hk⟩: ∃k,PP=4*k+3:=⟨PP / 4,by have:=vQ;omega⟩
 have e:pw2 (0,1) PP=pw2 (0,1) (4*k+3):=congrArg (fun n=>pw2 (0,1) n) hk
 have h5:pw2 on2 k=on2:=R2.one_pw k
 rw[e,uJ,CK,h4,h3,h5]
 exact R2.one_mul _
theorem Id(a:Zp):a^PP=a:=by
 by_cases h:a=0
 ·rw[h];exact Oy PQ
 ·have e:a^PP=a^(PP-1+1):=congrArg (fun n=>a^n) (show PQ+1=PQ+1-1+1 from rfl)
  rw[e,ps,fermat h];grind
theorem Au: ∀n,R2.nat n=(zp n,0)
 |0=>rfl
 |n+1=>by
  show ad2 (R2.nat n) on2=_
  rw[Au n]
  exact bO (by simp only[ad2,on2];rw[gC,aa1]) Mc
theorem Fq(x:W2):pw2 x PP=cj2 x:=by
 have e:x=ad2 (x.1,0) (ml2 (x.2,0) (0,1)):=bO (by simp only[ad2,ml2];grind) (by simp only[ad2,ml2];grind)
 have hf:=R2.frob pr_p ((Au PP).trans (by rw[mW];rfl)) (x.1,0) (ml2 (x.2,0) (0,1))
 have h2:pw2 x PP=ad2 (pw2 (x.1,0) PP) (pw2 (ml2 (x.2,0) (0,1)) PP):=(congrArg (fun y=>pw2 y PP) e).trans hf
 rw[h2,Nr,yB,yB,V7,Id,Id]
 exact bO (by simp only[ad2,ml2,cj2];grind) (by simp only[ad2,ml2,cj2];grind)
/-! ### Roots -/
theorem Ud{x y:W2}(h:ml2 x x=ml2 y y):x=y∨x=ng2 y:=by
 have hk:ml2 (sb2 x y) (ad2 x y)=ze2:=by
  have h1:=congrArg Prod.fst h
  have h2:=congrArg Prod.snd h
  simp only[ml2]at h1 h2
  refine bO ?_ ?_
  ·simp only[ml2,sb2,ad2,ze2];grind
  ·simp only[ml2,sb2,ad2,ze2];grind
 rcases ij hk with h|h
 ·left
  have h1:=congrArg Prod.fst h
  have h2:=congrArg Prod.snd h
  simp only[sb2,ze2]at h1 h2
  exact bO (by grind) (by grind)
 ·right
  have h1:=congrArg Prod.fst h
  have h2:=congrArg Prod.snd h
  simp only[ad2,ze2]at h1 h2
  exact bO (by simp only[ng2];grind) (by simp only[ng2];grind)
def LG2(x:W2):Bool:=if x.2=0 then decide (hf<x.1.val)else decide (hf<x.2.val)
theorem tI{a:Zp}(h:a≠0):decide (hf<(-a).val)= !decide (hf<a.val):=by
 have:=Dl h
 cases h1:decide (hf<a.val)<;>cases h2:decide (hf<(-a).val)<;>rw[h1,h2]at this<;>first|rfl|cases this
theorem m6{a:Zp}: -a=0↔a=0:=⟨fun h=>by grind,fun h=>by rw[h];grind⟩
theorem pG{x:W2}(h:x≠ze2):LG2 (ng2 x)= !LG2 x:=by
 unfold LG2 ng2
 by_cases h2:x.2=0
 ·rw[if_pos (m6.2 h2),if_pos h2]
  exact tI fun e=>h (bO e h2)
 ·rw[if_neg (fun e=>h2 (m6.1 e)),if_neg h2]
  exact tI h2
theorem uN:LG2 ze2=false:=by decide+kernel
theorem Gw:ng2 ze2=ze2:=bO (by simp only[ng2,ze2];grind) (by simp only[ng2,ze2];grind)
theorem EY(x:W2):ml2 (ng2 x) (ng2 x)=ml2 x x:=bO (by simp only[ml2,ng2];grind) (by simp only[ml2,ng2];grind)
theorem DO{x y:W2}(h:ml2 x x=ml2 y y)(hx:LG2 x=false)(hy:LG2 y=false):x=y:=by
 rcases Ud h with e|e
 ·exact e
 ·by_cases h0:y=ze2
  ·rw[e,h0,Gw]
  ·rw[e,pG h0,hy]at hx;cases hx
def IsQ(a:Zp):Prop:=SQr a*SQr a=a
theorem qV{a s:Zp}(h:s*s=a):IsQ a:=by rw[←h];exact Af s
theorem jn(a:Zp):IsQ a↔a=0∨a^hf=1:=by
 unfold IsQ
 rw[Ci]
 constructor
 ·intro h
  by_cases h0:a=0
  ·exact .inl h0
  ·right
   have:(a^hf-1)*a=0:=by grind
   rcases k5 this with h|h
   ·grind
   ·exact absurd h h0
 ·rintro (h|h)
  ·rw[h];grind
  ·rw[h];grind
theorem vr(a:Zp):IsQ a∨IsQ (-a):=by
 by_cases h:a=0
 ·exact .inl ((jn a).2 (.inl h))
 ·rcases Cq h with h1|h1
  ·exact .inl ((jn a).2 (.inr h1))
  ·right
   refine (jn (-a)).2 (.inr ?_)
   rw[yV,h1];grind
theorem lv{a b c:Zp}(h:a*b= -(c*c))(hc:c≠0):(IsQ a∧¬IsQ b)∨(¬IsQ a∧IsQ b):=by
 have ha:a≠0:=fun e=>hc (DX (a:=0) (b:=c) (by rw[e]at h;grind))
 have hb:b≠0:=fun e=>hc (DX (a:=0) (b:=c) (by rw[e]at h;grind))
 have e:a^hf*b^hf= -1:=by rw[←Nz,h,yV,uL hc]
 rcases Cq ha with h1|h1
 ·left
  refine ⟨(jn a).2 (.inr h1),fun k=> ?_⟩
  rcases (jn b).1 k with k|k
  ·exact hb k
  ·rw[h1,k]at e;exact uF (by grind)
 ·right
  refine ⟨fun k=> ?_,(jn b).2 (.inr (by rw[h1]at e;grind))⟩
  rcases (jn a).1 k with k|k
  ·exact ha k
  ·rw[h1]at k;exact uF k.symm
theorem oP(a:Zp):IsQ (a*a):=qV rfl
theorem fM{x s:W2}(h:ml2 s s=x):IsQ (nm2 x):=by rw[←h,g8];exact oP _
theorem mQ{x:W2}{n s t h2:Zp}(hn:n*n=nm2 x)(h2e:(1+1)*h2=1)(hs:s*s=(x.1+n)*h2∨s*s=(x.1-n)*h2)(ht:s*t=1):ml2 (s,x.2*h2*t) (s,x.2*h2*t)=x:=by
 have e:nm2 x=x.1*x.1+x.2*x.2:=rfl
 rw[e]at hn
 have key:s*s-x.2*h2*t*(x.2*h2*t)=x.1:=by
  have e1:x.2*h2*t*(x.2*h2*t)=(x.2*x.2)*(h2*h2)*(t*t):=by grind
  have e2:x.2*x.2=n*n-x.1*x.1:=by grind
  rcases hs with hs|hs
  ·have e3:(n*n-x.1*x.1)*(h2*h2)=s*s*((n-x.1)*h2):=by grind
   have e4:s*s*((n-x.1)*h2)*(t*t)=(n-x.1)*h2:=by
    have:s*s*(t*t)=1:=by grind
    grind
   rw[e1,e2,e3,e4,hs]
   grind
  ·have e3:(n*n-x.1*x.1)*(h2*h2)=s*s*(-(n+x.1)*h2):=by grind
   have e4:s*s*(-(n+x.1)*h2)*(t*t)= -(n+x.1)*h2:=by
    have:s*s*(t*t)=1:=by grind
    grind
   rw[e1,e2,e3,e4,hs]
   grind
 refine bO key ?_
 simp only[ml2]
 have e5:s*(x.2*h2*t)+x.2*h2*t*s=x.2*((1+1)*h2)*(s*t):=by grind
 rw[e5,h2e,ht]
 grind
theorem CL: ∃j:Zp,(1+1)*j=1:=⟨zp 2^(PP-2),by have h:=oe rE;rw[show (1+1:Zp)=zp 2 from Hh.2.symm];exact h⟩
theorem Di{x:W2}{n j:Zp}(hn:n*n=nm2 x):((x.1+n)*j)*((x.1-n)*j)= -(x.2*j*(x.2*j)):=by
 have hn':n*n=x.1*x.1+x.2*x.2:=hn
 grind
theorem AT{x:W2}{j:Zp}(hj:(1+1)*j=1)(h2:x.2≠0):x.2*j≠0:=fun e=>by
 rcases k5 e with e|e
 ·exact h2 e
 ·rw[e]at hj;exact ko (hj.symm.trans (i1 _))
theorem Bb{a b c:Zp}(h:a*b= -(c*c))(hc:c≠0):a≠0∧b≠0:=
 ⟨fun e=>hc (DX (a:=0) (b:=c) (by rw[e]at h;grind)),fun e=>hc (DX (a:=0) (b:=c) (by rw[e]at h;grind))⟩
theorem I6{a:Zp}(h:IsQ a)(h0:a≠0):SQr a≠0:=fun e=>h0 (by
 have h':SQr a*SQr a=a:=h
 rw[e,i1]at h'
 exact h'.symm)
theorem jJ(x:W2):(∃s,ml2 s s=x)↔IsQ (nm2 x):=by
 refine ⟨fun ⟨s,h⟩=>fM h,fun h=> ?_⟩
 by_cases h2:x.2=0
 ·rcases vr x.1 with hq|hq
  ·exact ⟨(SQr x.1,0),by rw[nU,show SQr x.1*SQr x.1=x.1 from hq];exact bO rfl h2.symm⟩
  ·exact ⟨(0,SQr (-x.1)),by rw[uK,show SQr (-x.1)*SQr (-x.1)= -x.1 from hq,A0];exact bO rfl h2.symm⟩
 ·obtain ⟨j,hj⟩:=CL
  have hp:=Di (x:=x) (j:=j) (n:=SQr (nm2 x)) h
  have hb:=AT hj h2
  have hne:=Bb hp hb
  rcases lv hp hb with ⟨hq,_⟩|⟨_,hq⟩
  ·exact ⟨_,mQ h hj (.inl hq) (oe (I6 hq hne.1))⟩
  ·exact ⟨_,mQ h hj (.inr hq) (oe (I6 hq hne.2))⟩
end
section
/-! ### Equality, signs -/
theorem Av{x y:W2}(h:x.1=y.1):decide (x.2=y.2)=decide (x=y):=decide_eq_decide.2 ⟨fun h'=>bO h h',fun h'=>by rw[h']⟩
theorem zB{x y:W2}(h: ¬x.1=y.1):false=decide (x=y):=(decide_eq_false fun h'=>h (by rw[h'])).symm
theorem M2{x y:W2}:fe x.1++fe x.2=fe y.1++fe y.2↔x=y:=by
 constructor
 ·intro h
  have:=List.append_inj h (by rw[a7,a7])
  exact bO (pT.1 this.1) (pT.1 this.2)
 ·intro h;rw[h]
theorem K7(x y:W2):decide (fe x.1++fe x.2=fe y.1++fe y.2)=decide (x=y):=decide_eq_decide.2 M2
def SG2(x:W2):Int:=if x.1.val % 2=1 then 1 else if x.1=0 then (if x.2.val % 2=1 then 1 else 0)else 0
/-! ### Powers by digits -/
def fe2(x:W2):L6:=fe x.1++fe x.2
theorem a6(x:W2):(fe2 x).length=12:=by rw[fe2,List.length_append,a7,a7]
/-! ### Roots -/
theorem Pv{a:Zp}(h: ¬hf<a.val):LG2 (a,0)=false:=by
 show (if (0:Zp)=0 then decide (hf<a.val)else decide (hf<(0:Zp).val))=false
 rw[if_pos rfl];exact decide_eq_false h
theorem ZP{a:Zp}(h: ¬hf<a.val):LG2 (0,a)=false:=by
 show (if a=0 then decide (hf<(0:Zp).val)else decide (hf<a.val))=false
 split
 ·exact decide_eq_false (Nat.not_lt_zero _)
 ·exact decide_eq_false h
def RO(c:Zp):W2:=if SQr c*SQr c=c then (SQ c,0)else (0,SQ (-c))
theorem uS{c:Zp}(h: ¬SQr c*SQr c=c):SQr (-c)*SQr (-c)= -c:=(vr c).resolve_left h
theorem Oe(c:Zp):ml2 (RO c) (RO c)=(c,0):=by
 unfold RO
 split
 ·rename_i h
  rw[nU,jp h]
 ·rename_i h
  rw[uK,jp (uS h),A0]
theorem Iw(c:Zp):LG2 (RO c)=false:=by
 unfold RO
 split
 ·rename_i h
  exact Pv (lh h)
 ·rename_i h
  exact ZP (lh (uS h))
theorem rb_a{s t j a b n:Zp}(ht:t*t=s+s)(hj:t*j=1)(hs:s=a+n)(hn:n*n=a*a+b*b):s*j*(s*j)-b*j*(b*j)=a:=by
 have e:(s+s)*(j*j)=1:=by
  rw[←ht]
  have:t*t*(j*j)=(t*j)*(t*j):=by grind
  rw[this,hj,oU]
 have e2:s*s-b*b=(s+s)*a:=by
  subst hs
  grind
 have e3:s*j*(s*j)-b*j*(b*j)=(s*s-b*b)*(j*j):=by grind
 have e4:(s+s)*a*(j*j)=(s+s)*(j*j)*a:=by grind
 rw[e3,e2,e4,e]
 grind
theorem rb_b{s t j b:Zp}(ht:t*t=s+s)(hj:t*j=1):s*j*(b*j)+b*j*(s*j)=b:=by
 have e:(s+s)*(j*j)=1:=by
  rw[←ht]
  have:t*t*(j*j)=(t*j)*(t*j):=by grind
  rw[this,hj,oU]
 have e3:s*j*(b*j)+b*j*(s*j)=(s+s)*(j*j)*b:=by grind
 rw[e3,e]
 grind
theorem rb_c{s t j a b n:Zp}(ht:t*t= -(s+s))(hj:t*j=1)(hs:s=a+n)(hn:n*n=a*a+b*b):b*j*(b*j)- -s*j*(-s*j)=a:=by
 have e: -(s+s)*(j*j)=1:=by
  rw[←ht]
  have:t*t*(j*j)=(t*j)*(t*j):=by grind
  rw[this,hj,oU]
 have e2:b*b-s*s= -(s+s)*a:=by
  subst hs
  grind
 have e3:b*j*(b*j)- -s*j*(-s*j)=(b*b-s*s)*(j*j):=by grind
 have e4: -(s+s)*a*(j*j)= -(s+s)*(j*j)*a:=by grind
 rw[e3,e2,e4,e]
 grind
theorem rb_d{s t j b:Zp}(ht:t*t= -(s+s))(hj:t*j=1):b*j*(-s*j)+ -s*j*(b*j)=b:=by
 have e: -(s+s)*(j*j)=1:=by
  rw[←ht]
  have:t*t*(j*j)=(t*j)*(t*j):=by grind
  rw[this,hj,oU]
 have e3:b*j*(-s*j)+ -s*j*(b*j)= -(s+s)*(j*j)*b:=by grind
 rw[e3,e]
 grind
theorem Vp{s:Zp}(h:s≠0):s+s≠0:=fun e=>by
 obtain ⟨j,hj⟩:=CL
 have:s=(s+s)*j:=by
  have e1:(s+s)*j=s*((1+1)*j):=by grind
  rw[e1,hj,ss]
 rw[e,qz]at this
 exact h this
theorem Rx{a b n:Zp}(hn:n*n=a*a+b*b)(hb:b≠0):a+n≠0:=fun e=>by
 have:b*b=(a+n)*(n-a):=by grind
 rw[e,qz]at this
 exact hb ((k5 this).elim id id)
theorem Bh{a t:Zp}(h:t*t=a)(ha:a≠0):t≠0:=fun e=>ha (by rw[←h,e,i1])
def RBs(x:W2)(n:Zp):Zp:=x.1+n+(x.1+n)
def RB(x:W2)(n:Zp):W2:=
 if SQr (RBs x n)*SQr (RBs x n)=RBs x n then ((x.1+n)*SQ (RBs x n)^(PP-2),x.2*SQ (RBs x n)^(PP-2))
 else (x.2*SQ (-RBs x n)^(PP-2),-(x.1+n)*SQ (-RBs x n)^(PP-2))
theorem V9{x:W2}{n:Zp}(hn:n*n=nm2 x)(h2:x.2≠0):ml2 (RB x n) (RB x n)=x:=by
 have hd:RBs x n≠0:=Vp (Rx hn h2)
 have hm: -RBs x n≠0:=fun e=>hd (m6.1 e)
 unfold RB
 split
 ·rename_i h
  have e:=jp h
  have hj:=oe (Bh e hd)
  generalize SQ (RBs x n)^(PP-2)=j at*
  generalize SQ (RBs x n)=t at*
  exact bO (rb_a e hj rfl hn) (rb_b e hj)
 ·rename_i h
  have e:=jp (uS h)
  have hj:=oe (Bh e hm)
  generalize SQ (-RBs x n)^(PP-2)=j at*
  generalize SQ (-RBs x n)=t at*
  exact bO (rb_c e hj rfl hn) (rb_d e hj)
def RF(x:W2)(n h:Zp):W2:=
 if SQr ((x.1+n)*h)*SQr ((x.1+n)*h)=(x.1+n)*h then (SQ ((x.1+n)*h),x.2*h*SQ ((x.1+n)*h)^(PP-2))
 else (SQ ((x.1-n)*h),x.2*h*SQ ((x.1-n)*h)^(PP-2))
theorem wW{x:W2}{n h:Zp}(hn:n*n=nm2 x)(hh:(1+1)*h=1)(h2:x.2≠0):ml2 (RF x n h) (RF x n h)=x:=by
 have hs:=Di (j:=h) hn
 have hc:=AT hh h2
 have hne:=Bb hs hc
 have hq:=lv hs hc
 unfold RF
 split
 ·rename_i q
  have e:=jp q
  exact mQ hn hh (.inl e) (oe (Bh e hne.1))
 ·rename_i q
  have q2:IsQ ((x.1-n)*h):=by
   rcases hq with ⟨a,_⟩|⟨_,b⟩
   ·exact absurd a q
   ·exact b
  have e:=jp q2
  exact mQ hn hh (.inr e) (oe (Bh e hne.2))
def NL(x:W2):W2:=if LG2 x=true then ng2 x else x
theorem Bv(x:W2):ml2 (NL x) (NL x)=ml2 x x:=by
 unfold NL
 split
 ·exact EY x
 ·rfl
theorem nF(x:W2):LG2 (NL x)=false:=by
 unfold NL
 split
 ·rename_i h
  have hx:x≠ze2:=fun e=>by rw[e,uN]at h;cases h
  rw[pG hx,h];rfl
 ·rename_i h
  exact Bool.eq_false_iff.2 h
theorem jL{x r q:W2}(hr:ml2 r r=x)(hl:LG2 r=false)(hq:ml2 q q=x)(hl':LG2 q=false):q=r:=DO (hq.trans hr.symm) hl' hl
theorem uI{x r:W2}(hr:ml2 r r=x)(hl:LG2 r=false)(h:x.2=0):RO x.1=r:=jL hr hl ((Oe x.1).trans (bO rfl h.symm)) (Iw _)
theorem B7{x r:W2}(hr:ml2 r r=x)(hl:LG2 r=false)(h:x.2≠0):NL (RB x (SQ (nm2 x)))=r:=jL hr hl ((Bv _).trans (V9 (jp (fM hr)) h)) (nF _)
theorem pJ{x r:W2}{j:Zp}(hr:ml2 r r=x)(hl:LG2 r=false)(hj:(1+1)*j=1)(h:x.2≠0):NL (RF x (SQ (nm2 x)) j)=r:=jL hr hl ((Bv _).trans (wW (jp (fM hr)) hj h)) (nF _)
theorem Ow{x:W2}(h: ¬IsQ (nm2 x)):x.2≠0:=fun e=>h ((jJ x).1 ⟨RO x.1,(Oe x.1).trans (bO rfl e.symm)⟩)
theorem ik:(1+1)*zp 2^(PP-2)=(1:Zp):=by
 have h:=oe rE
 rw[show (1+1:Zp)=zp 2 from Hh.2.symm];exact h
end
section
open Go.RowKit
theorem rj: ∀k,cel (List.replicate k 0)=List.replicate (6*k) 0#64
 |0=>rfl
 |k+1=>by rw[List.replicate_succ,jK,rj k,jw,List.replicate_append_replicate];congr 1;omega
theorem jB{t k:Nat}(h: ∀w,(zeroValue t).run prog w=.ok (aM (List.replicate (6*k) 0#64)) w): ∀w,(zeroValue t).run prog w=.ok (.agg (clv (List.replicate k 0)).toArray) w:=fun w=>by rw[clv,rj];exact h w
def szL:List (Nat×Nat):=[(25,1),(27,1),(37,1),(39,1),(41,2),(43,6),(52,1),(54,3),(78,2),(80,6),(117,2),(169,9),(209,6),(211,12),(238,6),(240,12),(264,6),(269,16),(283,12),(297,4),(298,16)]
def fsL:List (Nat×List (Nat×Nat)):=[(27,[(0,1)]),(39,[(0,1)]),(41,[(0,1),(1,1)]),(43,[(0,2),(2,2),(4,2)]),(52,[(0,1)]),(54,[(0,1),(1,1),(2,1)]),(78,[(0,1),(1,1)]),(80,[(0,2),(2,2),(4,2)]),(169,[(0,3),(3,6)]),(209,[(0,2),(2,2),(4,2)]),(211,[(0,6),(6,6)]),(238,[(0,2),(2,2),(4,2)]),(240,[(0,1),(1,1),(2,2),(4,2),(6,2),(8,2),(10,2)]),(297,[(0,2),(2,2)])]
abbrev je(t k:Nat):Prop:=(∀w,(isAgg t).run prog w=.ok true w)∧(∀w,(sizeOf t).run prog w=.ok (6*k) w)∧∀w,(zeroValue t).run prog w=.ok (.agg (clv (List.replicate k 0)).toArray) w
theorem sz25:je 25 1:=⟨isAgg25,sizeOf25,jB fun w=>(zeroValue25 w).trans rr⟩
theorem sz27:je 27 1:=⟨isAgg27,sizeOf27,jB fun w=>(zeroValue27 w).trans rr⟩
theorem sz37:je 37 1:=⟨isAgg37,sizeOf37,jB fun w=>(zeroValue37 w).trans rr⟩
theorem sz39:je 39 1:=⟨isAgg39,sizeOf39,jB fun w=>(zeroValue39 w).trans rr⟩
theorem sz41:je 41 2:=⟨isAgg41,sizeOf41,jB fun w=>(zeroValue41 w).trans rr⟩
theorem sz43:je 43 6:=⟨isAgg43,sizeOf43,jB fun w=>(zeroValue43 w).trans rr⟩
theorem sz52:je 52 1:=⟨isAgg52,sizeOf52,jB fun w=>(zeroValue52 w).trans rr⟩
theorem sz54:je 54 3:=⟨isAgg54,sizeOf54,jB fun w=>(zeroValue54 w).trans rr⟩
theorem sz78:je 78 2:=⟨isAgg78,sizeOf78,jB fun w=>(zeroValue78 w).trans rr⟩
theorem sz80:je 80 6:=⟨isAgg80,sizeOf80,jB fun w=>(zeroValue80 w).trans rr⟩
theorem Wn:je 117 2:=⟨isAgg117,sizeOf117,jB fun w=>(zeroValue117 w).trans rr⟩
theorem XD:je 169 9:=⟨isAgg169,sizeOf169,jB fun w=>(zeroValue169 w).trans rr⟩
theorem XA:je 209 6:=⟨isAgg209,sizeOf209,jB fun w=>(zeroValue209 w).trans rr⟩
theorem XQ:je 211 12:=⟨isAgg211,sizeOf211,jB fun w=>(zeroValue211 w).trans rr⟩
theorem Y7:je 238 6:=⟨isAgg238,sizeOf238,jB fun w=>(zeroValue238 w).trans rr⟩
theorem ZD:je 240 12:=⟨isAgg240,sizeOf240,jB fun w=>(zeroValue240 w).trans rr⟩
theorem aa6:je 264 6:=⟨isAgg264,sizeOf264,jB fun w=>(zeroValue264 w).trans rr⟩
theorem aaS:je 269 16:=⟨isAgg269,sizeOf269,jB fun w=>(zeroValue269 w).trans rr⟩
theorem Zb:je 283 12:=⟨isAgg283,sizeOf283,jB fun w=>(zeroValue283 w).trans rr⟩
theorem V4:je 297 4:=⟨isAgg297,sizeOf297,jB fun w=>(zeroValue297 w).trans rr⟩
theorem aaZ:je 298 16:=⟨isAgg298,sizeOf298,jB fun w=>(zeroValue298 w).trans rr⟩
theorem szOk(t k:Nat)(h:o8 szL t=some k):je t k:=by
 have h:=lw h
 simp only[szL,List.mem_cons,List.not_mem_nil,or_false,Prod.mk.injEq]at h
 rcases h with ⟨rfl,rfl⟩|⟨rfl,rfl⟩|⟨rfl,rfl⟩|⟨rfl,rfl⟩|⟨rfl,rfl⟩|⟨rfl,rfl⟩|⟨rfl,rfl⟩|⟨rfl,rfl⟩|⟨rfl,rfl⟩|⟨rfl,rfl⟩|⟨rfl,rfl⟩|⟨rfl,rfl⟩|⟨rfl,rfl⟩|⟨rfl,rfl⟩|⟨rfl,rfl⟩|⟨rfl,rfl⟩|⟨rfl,rfl⟩|⟨rfl,rfl⟩|⟨rfl,rfl⟩|⟨rfl,rfl⟩|⟨rfl,rfl⟩
 ·exact sz25
 ·exact sz27
 ·exact sz37
 ·exact sz39
 ·exact sz41
 ·exact sz43
 ·exact sz52
 ·exact sz54
 ·exact sz78
 ·exact sz80
 ·exact Wn
 ·exact XD
 ·exact XA
 ·exact XQ
 ·exact Y7
 ·exact ZD
 ·exact aa6
 ·exact aaS
 ·exact Zb
 ·exact V4
 ·exact aaZ
abbrev mt(t:Nat)(l:List (Nat×Nat)):Prop:= ∃fields,prog.underlying t=some (.struct fields)∧(∀w,(Array.mapM (fun f=>Prod.mk f.offset<$>sizeOf f.type) fields:Sem _).run prog w=.ok (l.map (fun p=>(6*p.1,6*p.2))).toArray w)∧∀(i:Nat) (p:Nat×Nat),l[i]? =some p→∃(fd:Field) (m:Nat),fields[i]? =some fd∧fd.offset=6*p.1∧m≠0∧∀w,(sizeOf fd.type).run prog w=.ok m w
theorem fs27:mt 27 [(0,1)]:=by
 refine ⟨_,underlying27,fun w=>by simp[sizeOf25],fun i p h=> ?_⟩
 match i,h with
 |0,h=>cases h;exact ⟨_,6,rfl,rfl,dc,sizeOf25⟩
 |n+1,h=>simp at h
theorem fs39:mt 39 [(0,1)]:=by
 refine ⟨_,underlying39,fun w=>by simp[sizeOf37],fun i p h=> ?_⟩
 match i,h with
 |0,h=>cases h;exact ⟨_,6,rfl,rfl,dc,sizeOf37⟩
 |n+1,h=>simp at h
theorem fs41:mt 41 [(0,1),(1,1)]:=by
 refine ⟨_,underlying41,fun w=>by simp[sizeOf39],fun i p h=> ?_⟩
 match i,h with
 |0,h=>cases h;exact ⟨_,6,rfl,rfl,dc,sizeOf39⟩
 |1,h=>cases h;exact ⟨_,6,rfl,rfl,dc,sizeOf39⟩
 |n+2,h=>simp at h
theorem fs43:mt 43 [(0,2),(2,2),(4,2)]:=by
 refine ⟨_,underlying43,fun w=>by simp[sizeOf41],fun i p h=> ?_⟩
 match i,h with
 |0,h=>cases h;exact ⟨_,12,rfl,rfl,dc,sizeOf41⟩
 |1,h=>cases h;exact ⟨_,12,rfl,rfl,dc,sizeOf41⟩
 |2,h=>cases h;exact ⟨_,12,rfl,rfl,dc,sizeOf41⟩
 |n+3,h=>simp at h
theorem fs52:mt 52 [(0,1)]:=by
 refine ⟨_,underlying52,fun w=>by simp[sizeOf25],fun i p h=> ?_⟩
 match i,h with
 |0,h=>cases h;exact ⟨_,6,rfl,rfl,dc,sizeOf25⟩
 |n+1,h=>simp at h
theorem fs54:mt 54 [(0,1),(1,1),(2,1)]:=by
 refine ⟨_,underlying54,fun w=>by simp[sizeOf52],fun i p h=> ?_⟩
 match i,h with
 |0,h=>cases h;exact ⟨_,6,rfl,rfl,dc,sizeOf52⟩
 |1,h=>cases h;exact ⟨_,6,rfl,rfl,dc,sizeOf52⟩
 |2,h=>cases h;exact ⟨_,6,rfl,rfl,dc,sizeOf52⟩
 |n+3,h=>simp at h
theorem fs78:mt 78 [(0,1),(1,1)]:=by
 refine ⟨_,underlying78,fun w=>by simp[sizeOf52],fun i p h=> ?_⟩
 match i,h with
 |0,h=>cases h;exact ⟨_,6,rfl,rfl,dc,sizeOf52⟩
 |1,h=>cases h;exact ⟨_,6,rfl,rfl,dc,sizeOf52⟩
 |n+2,h=>simp at h
theorem fs80:mt 80 [(0,2),(2,2),(4,2)]:=by
 refine ⟨_,underlying80,fun w=>by simp[sizeOf78],fun i p h=> ?_⟩
 match i,h with
 |0,h=>cases h;exact ⟨_,12,rfl,rfl,dc,sizeOf78⟩
 |1,h=>cases h;exact ⟨_,12,rfl,rfl,dc,sizeOf78⟩
 |2,h=>cases h;exact ⟨_,12,rfl,rfl,dc,sizeOf78⟩
 |n+3,h=>simp at h
theorem aa2:mt 169 [(0,3),(3,6)]:=by
 refine ⟨_,underlying169,fun w=>by simp[sizeOf54,sizeOf80],fun i p h=> ?_⟩
 match i,h with
 |0,h=>cases h;exact ⟨_,18,rfl,rfl,dc,sizeOf54⟩
 |1,h=>cases h;exact ⟨_,36,rfl,rfl,dc,sizeOf80⟩
 |n+2,h=>simp at h
theorem V3:mt 209 [(0,2),(2,2),(4,2)]:=by
 refine ⟨_,underlying209,fun w=>by simp[sizeOf78],fun i p h=> ?_⟩
 match i,h with
 |0,h=>cases h;exact ⟨_,12,rfl,rfl,dc,sizeOf78⟩
 |1,h=>cases h;exact ⟨_,12,rfl,rfl,dc,sizeOf78⟩
 |2,h=>cases h;exact ⟨_,12,rfl,rfl,dc,sizeOf78⟩
 |n+3,h=>simp at h
theorem aaM:mt 211 [(0,6),(6,6)]:=by
 refine ⟨_,underlying211,fun w=>by simp[sizeOf209],fun i p h=> ?_⟩
 match i,h with
 |0,h=>cases h;exact ⟨_,36,rfl,rfl,dc,sizeOf209⟩
 |1,h=>cases h;exact ⟨_,36,rfl,rfl,dc,sizeOf209⟩
 |n+2,h=>simp at h
theorem WF:mt 238 [(0,2),(2,2),(4,2)]:=by
 refine ⟨_,underlying238,fun w=>by simp[sizeOf78],fun i p h=> ?_⟩
 match i,h with
 |0,h=>cases h;exact ⟨_,12,rfl,rfl,dc,sizeOf78⟩
 |1,h=>cases h;exact ⟨_,12,rfl,rfl,dc,sizeOf78⟩
 |2,h=>cases h;exact ⟨_,12,rfl,rfl,dc,sizeOf78⟩
 |n+3,h=>simp at h
theorem Yh:mt 240 [(0,1),(1,1),(2,2),(4,2),(6,2),(8,2),(10,2)]:=by
 refine ⟨_,underlying240,fun w=>by simp[sizeOf52,sizeOf78],fun i p h=> ?_⟩
 match i,h with
 |0,h=>cases h;exact ⟨_,6,rfl,rfl,dc,sizeOf52⟩
 |1,h=>cases h;exact ⟨_,6,rfl,rfl,dc,sizeOf52⟩
 |2,h=>cases h;exact ⟨_,12,rfl,rfl,dc,sizeOf78⟩
 |3,h=>cases h;exact ⟨_,12,rfl,rfl,dc,sizeOf78⟩
 |4,h=>cases h;exact ⟨_,12,rfl,rfl,dc,sizeOf78⟩
 |5,h=>cases h;exact ⟨_,12,rfl,rfl,dc,sizeOf78⟩
 |6,h=>cases h;exact ⟨_,12,rfl,rfl,dc,sizeOf78⟩
 |n+7,h=>simp at h
theorem XC:mt 297 [(0,2),(2,2)]:=by
 refine ⟨_,underlying297,fun w=>by simp[sizeOf78],fun i p h=> ?_⟩
 match i,h with
 |0,h=>cases h;exact ⟨_,12,rfl,rfl,dc,sizeOf78⟩
 |1,h=>cases h;exact ⟨_,12,rfl,rfl,dc,sizeOf78⟩
 |n+2,h=>simp at h
theorem fsOk(t:Nat)(l:List (Nat×Nat))(h:o8 fsL t=some l):mt t l:=by
 have h:=lw h
 simp only[fsL,List.mem_cons,List.not_mem_nil,or_false,Prod.mk.injEq]at h
 rcases h with ⟨rfl,rfl⟩|⟨rfl,rfl⟩|⟨rfl,rfl⟩|⟨rfl,rfl⟩|⟨rfl,rfl⟩|⟨rfl,rfl⟩|⟨rfl,rfl⟩|⟨rfl,rfl⟩|⟨rfl,rfl⟩|⟨rfl,rfl⟩|⟨rfl,rfl⟩|⟨rfl,rfl⟩|⟨rfl,rfl⟩|⟨rfl,rfl⟩
 ·exact fs27
 ·exact fs39
 ·exact fs41
 ·exact fs43
 ·exact fs52
 ·exact fs54
 ·exact fs78
 ·exact fs80
 ·exact aa2
 ·exact V3
 ·exact aaM
 ·exact WF
 ·exact Yh
 ·exact XC
abbrev nI(t k:Nat):Prop:=(∀(op:BinOp) (x y:Operand) (xs ys:Array Value) (w:World),(eqGuard op t x y (.agg xs) (.agg ys)).run prog w=.ok () w)∧∃d0,d0≤100∧EqF prog t (6*k) d0
theorem ZF:nI 25 1:=⟨fun op x y xs ys w=>run_eqGuard_agg w op 25 x y xs ys kr,2,dc,(cI underlying25 underlying24 sizeOf24 isAgg24)⟩
theorem Xt:nI 27 1:=⟨fun op x y xs ys w=>run_eqGuard_agg w op 27 x y xs ys kr,3,dc,(cY underlying27 rfl dc kr isAgg25 sizeOf25 (cI underlying25 underlying24 sizeOf24 isAgg24))⟩
theorem WU:nI 37 1:=⟨fun op x y xs ys w=>run_eqGuard_agg w op 37 x y xs ys kr,2,dc,(cI underlying37 underlying24 sizeOf24 isAgg24)⟩
theorem aa3:nI 39 1:=⟨fun op x y xs ys w=>run_eqGuard_agg w op 39 x y xs ys kr,3,dc,(cY underlying39 rfl dc kr isAgg37 sizeOf37 (cI underlying37 underlying24 sizeOf24 isAgg24))⟩
theorem Yb:nI 41 2:=⟨fun op x y xs ys w=>run_eqGuard_agg w op 41 x y xs ys kr,4,dc,(gD (m:=6) (n:=6) underlying41 rfl rfl dc dc kr isAgg39 sizeOf39 (cY underlying39 rfl dc kr isAgg37 sizeOf37 (cI underlying37 underlying24 sizeOf24 isAgg24)) isAgg39 sizeOf39 (cY underlying39 rfl dc kr isAgg37 sizeOf37 (cI underlying37 underlying24 sizeOf24 isAgg24)))⟩
theorem Zd:nI 52 1:=⟨fun op x y xs ys w=>run_eqGuard_agg w op 52 x y xs ys kr,3,dc,(cY underlying52 rfl dc kr isAgg25 sizeOf25 (cI underlying25 underlying24 sizeOf24 isAgg24))⟩
theorem Wv:nI 78 2:=⟨fun op x y xs ys w=>run_eqGuard_agg w op 78 x y xs ys kr,4,dc,(gD (m:=6) (n:=6) underlying78 rfl rfl dc dc kr isAgg52 sizeOf52 (cY underlying52 rfl dc kr isAgg25 sizeOf25 (cI underlying25 underlying24 sizeOf24 isAgg24)) isAgg52 sizeOf52 (cY underlying52 rfl dc kr isAgg25 sizeOf25 (cI underlying25 underlying24 sizeOf24 isAgg24)))⟩
theorem Uz:nI 117 2:=⟨fun op x y xs ys w=>run_eqGuard_agg w op 117 x y xs ys kr,2,dc,(cI underlying117 underlying24 sizeOf24 isAgg24)⟩
theorem Th:nI 264 6:=⟨fun op x y xs ys w=>run_eqGuard_agg w op 264 x y xs ys kr,5,dc,(nf (k:=3) (n:=12) dc underlying264 isAgg78 sizeOf78 (gD (m:=6) (n:=6) underlying78 rfl rfl dc dc kr isAgg52 sizeOf52 (cY underlying52 rfl dc kr isAgg25 sizeOf25 (cI underlying25 underlying24 sizeOf24 isAgg24)) isAgg52 sizeOf52 (cY underlying52 rfl dc kr isAgg25 sizeOf25 (cI underlying25 underlying24 sizeOf24 isAgg24))))⟩
theorem Sq:nI 269 16:=⟨fun op x y xs ys w=>run_eqGuard_agg w op 269 x y xs ys kr,4,dc,(nf (k:=16) (n:=6) dc underlying269 isAgg52 sizeOf52 (cY underlying52 rfl dc kr isAgg25 sizeOf25 (cI underlying25 underlying24 sizeOf24 isAgg24)))⟩
theorem VI:nI 283 12:=⟨fun op x y xs ys w=>run_eqGuard_agg w op 283 x y xs ys kr,5,dc,(nf (k:=6) (n:=12) dc underlying283 isAgg78 sizeOf78 (gD (m:=6) (n:=6) underlying78 rfl rfl dc dc kr isAgg52 sizeOf52 (cY underlying52 rfl dc kr isAgg25 sizeOf25 (cI underlying25 underlying24 sizeOf24 isAgg24)) isAgg52 sizeOf52 (cY underlying52 rfl dc kr isAgg25 sizeOf25 (cI underlying25 underlying24 sizeOf24 isAgg24))))⟩
theorem UA:nI 297 4:=⟨fun op x y xs ys w=>run_eqGuard_agg w op 297 x y xs ys kr,5,dc,(gD (m:=12) (n:=12) underlying297 rfl rfl dc dc kr isAgg78 sizeOf78 (gD (m:=6) (n:=6) underlying78 rfl rfl dc dc kr isAgg52 sizeOf52 (cY underlying52 rfl dc kr isAgg25 sizeOf25 (cI underlying25 underlying24 sizeOf24 isAgg24)) isAgg52 sizeOf52 (cY underlying52 rfl dc kr isAgg25 sizeOf25 (cI underlying25 underlying24 sizeOf24 isAgg24))) isAgg78 sizeOf78 (gD (m:=6) (n:=6) underlying78 rfl rfl dc dc kr isAgg52 sizeOf52 (cY underlying52 rfl dc kr isAgg25 sizeOf25 (cI underlying25 underlying24 sizeOf24 isAgg24)) isAgg52 sizeOf52 (cY underlying52 rfl dc kr isAgg25 sizeOf25 (cI underlying25 underlying24 sizeOf24 isAgg24))))⟩
theorem TF:nI 298 16:=⟨fun op x y xs ys w=>run_eqGuard_agg w op 298 x y xs ys kr,6,dc,(nf (k:=4) (n:=24) dc underlying298 isAgg297 sizeOf297 (gD (m:=12) (n:=12) underlying297 rfl rfl dc dc kr isAgg78 sizeOf78 (gD (m:=6) (n:=6) underlying78 rfl rfl dc dc kr isAgg52 sizeOf52 (cY underlying52 rfl dc kr isAgg25 sizeOf25 (cI underlying25 underlying24 sizeOf24 isAgg24)) isAgg52 sizeOf52 (cY underlying52 rfl dc kr isAgg25 sizeOf25 (cI underlying25 underlying24 sizeOf24 isAgg24))) isAgg78 sizeOf78 (gD (m:=6) (n:=6) underlying78 rfl rfl dc dc kr isAgg52 sizeOf52 (cY underlying52 rfl dc kr isAgg25 sizeOf25 (cI underlying25 underlying24 sizeOf24 isAgg24)) isAgg52 sizeOf52 (cY underlying52 rfl dc kr isAgg25 sizeOf25 (cI underlying25 underlying24 sizeOf24 isAgg24)))))⟩
def eqL:List (Nat×Nat):=[(25,1),(27,1),(37,1),(39,1),(41,2),(52,1),(78,2),(117,2),(264,6),(269,16),(283,12),(297,4),(298,16)]
theorem eqOk(t k:Nat)(h:(o8 eqL t).isSome=true)(hk:o8 szL t=some k):nI t k:=by
 obtain ⟨q,hq⟩:=Option.isSome_iff_exists.1 h
 have h:=lw hq
 simp only[eqL,List.mem_cons,List.not_mem_nil,or_false,Prod.mk.injEq]at h
 rcases h with ⟨rfl,rfl⟩|⟨rfl,rfl⟩|⟨rfl,rfl⟩|⟨rfl,rfl⟩|⟨rfl,rfl⟩|⟨rfl,rfl⟩|⟨rfl,rfl⟩|⟨rfl,rfl⟩|⟨rfl,rfl⟩|⟨rfl,rfl⟩|⟨rfl,rfl⟩|⟨rfl,rfl⟩|⟨rfl,rfl⟩
 ·cases hk;exact ZF
 ·cases hk;exact Xt
 ·cases hk;exact WU
 ·cases hk;exact aa3
 ·cases hk;exact Yb
 ·cases hk;exact Zd
 ·cases hk;exact Wv
 ·cases hk;exact Uz
 ·cases hk;exact Th
 ·cases hk;exact Sq
 ·cases hk;exact VI
 ·cases hk;exact UA
 ·cases hk;exact TF
def arL:List (Nat×Nat):=[(264,2),(269,1),(283,2),(298,4)]
theorem arOk(t m:Nat)(h:o8 arL t=some m): ∃n e,prog.underlying t=some (.array n e)∧∀w,(sizeOf e).run prog w=.ok (6*m) w:=by
 have h:=lw h
 simp only[arL,List.mem_cons,List.not_mem_nil,or_false,Prod.mk.injEq]at h
 rcases h with ⟨rfl,rfl⟩|⟨rfl,rfl⟩|⟨rfl,rfl⟩|⟨rfl,rfl⟩
 ·exact ⟨_,78,underlying264,sizeOf78⟩
 ·exact ⟨_,52,underlying269,sizeOf52⟩
 ·exact ⟨_,78,underlying283,sizeOf78⟩
 ·exact ⟨_,297,underlying298,sizeOf297⟩
theorem boOk(t:Nat)(h:[4].any (Nat.beq t)=true):prog.underlying t=some .bool:=by
 simp only[List.any_cons,List.any_nil,Bool.or_false]at h
 rw[Nat.eq_of_beq_eq_true h];exact underlying4
def TB:Tb prog Gt:=⟨o8 szL,o8 fsL,[],szOk,fsOk,(fun _ h=>by cases h),fun t=>(o8 eqL t).isSome,eqOk,o8 arL,arOk,fun t=>[4].any (Nat.beq t),boOk⟩
theorem SM{P:Program}{G:Cls}(T:Tb P G){f:Nat}{c:List S0→Option S1}(h:Snd P G f c): ∀e∈(f,c)::T.ct,Snd P G e.1 e.2:=fun e he=>by
 rcases List.mem_cons.1 he with rfl|he
 ·exact h
 ·exact T.hct e he
def Tb.add{P:Program}{G:Cls}(T:Tb P G){f:Nat}{c:List S0→Option S1}(h:Snd P G f c):Tb P G:={T with ct:=(f,c)::T.ct,hct:=SM T h}
theorem gtS(w:World)(h:Gt w):BOk Gt (pl w):=gt_low.plain h
end
section
open Go.RowKit
attribute [local simp] a7 bv aJ aB aQ a5 aT aK aO bf bC a6 bz
theorem ent221:ak prog 221:=fun _ _=>kr
theorem ent235:ak prog 235:=fun _ _=>kr
theorem ent175:ak prog 175:=fun _ _=>kr
theorem ent210:ak prog 210:=fun _ _=>kr
theorem ent181:ak prog 181:=fun _ _=>kr
theorem ent214:ak prog 214:=fun _ _=>kr
theorem ent176:ak prog 176:=fun _ _=>kr
theorem ent130:ak prog 130:=fun _ _=>kr
theorem ent129:ak prog 129:=fun _ _=>kr
theorem ent177:ak prog 177:=fun _ _=>kr
theorem ent260:ak prog 260:=fun _ _=>kr
theorem ent128:ak prog 128:=fun _ _=>kr
theorem ent178:ak prog 178:=fun _ _=>kr
theorem ent253:ak prog 253:=fun _ _=>kr
theorem ent254:ak prog 254:=fun _ _=>kr
theorem ent251:ak prog 251:=fun _ _=>kr
theorem ent81:ak prog 81:=fun _ _=>kr
theorem ent51:ak prog 51:=fun _ _=>kr
theorem ent57:ak prog 57:=fun _ _=>kr
theorem ent101:ak prog 101:=fun _ _=>kr
theorem ent90:ak prog 90:=fun _ _=>kr
theorem ent105:ak prog 105:=fun _ _=>kr
theorem ent89:ak prog 89:=fun _ _=>kr
theorem ent154:ak prog 154:=fun _ _=>kr
theorem ent96:ak prog 96:=fun _ _=>kr
theorem ent49:ak prog 49:=fun _ _=>kr
theorem ent146:ak prog 146:=fun _ _=>kr
abbrev EV2(x:W2):Value:=aM (fe x.1++fe x.2)
theorem zf52(w:World):(zeroValue 52).run prog w=.ok (aM (fe 0)) w:=by rw[jw];exact (zeroValue52 w).trans rr
theorem zv78(w:World):(zeroValue 78).run prog w=.ok (aM (fe 0++fe 0)) w:=by rw[jw];exact (zeroValue78 w).trans rr
theorem gg:Two prog 78 ⟨ "C0",52,0,false, "", "",0⟩ ⟨ "C1",52,6,false, "", "",48⟩ 6 6 (fe 0) (fe 0):=⟨underlying78,rfl,rfl,sizeOf52,sizeOf52,zv78,a7 0,a7 0⟩
theorem zv41(w:World):(zeroValue 41).run prog w=.ok (aM (fe 0++fe 0)) w:=by rw[jw];exact (zeroValue41 w).trans rr
theorem s7:Two prog 41 ⟨ "A",39,0,false, "", "",0⟩ ⟨ "B",39,6,false, "", "",48⟩ 6 6 (fe 0) (fe 0):=⟨underlying41,rfl,rfl,sizeOf39,sizeOf39,zv41,a7 0,a7 0⟩
theorem Wg:EqF prog 41 12 4:=
 have h:EqF prog 39 6 3:=cY underlying39 rfl dc kr isAgg37 sizeOf37 (cI underlying37 underlying24 sizeOf24 isAgg24)
 gD underlying41 rfl rfl dc dc kr isAgg39 sizeOf39 h isAgg39 sizeOf39 h
theorem PV(op:BinOp)(x y:Operand)(xs ys:Array Value)(w:World):(eqGuard op 41 x y (.agg xs) (.agg ys)).run prog w=.ok () w:=run_eqGuard_agg w op 41 x y xs ys kr
theorem Pp(xs ys:L6)(h:xs.length=12)(h':ys.length=12)(w:World):(binOp .eql 41 (aM xs) (aM ys)).run prog w=.ok (.bool (decide (xs=ys))) w:=BB Wg dc xs ys h h' w
theorem e2{a b c d:Zp}(h1:a=c)(h2:b=d):Ending.returned (aM (fe a++fe b))=.returned (aM (fe c++fe d)):=by rw[h1,h2]
theorem rb{a b:Bool}(h:a=b):Ending.returned (.bool a)=.returned (.bool b):=by rw[h]
def q3:Sh (Zp×Zp×Zp):=q1.two (q1.two q1 1) 1
theorem pE{f:FuncId}{fn:Func}{c:Code}(T:Tb prog Gt)(hf:prog.funcs[f]? =some fn)(a:List S0)(v:S1)(vc:S1×CB)(p:Pa)(h:xF T fn c a p=some vc)(hc:Ok vc.2)(e:vc.1=v)(hb:fn.body=some c:=by rfl)(hn:Nat.ble a.length fn.ntmps=true:=by rfl):PUR f (a.map (dn rid)) (dn1 rid v):=by rw[←e];exact SO (v:=vc.1) (cs:=vc.2) T cL gtS hf hb h hc hn rid
theorem el2{a b c d:Zp}(h1:a=c)(h2:b=d):(Sum.inl (Sum.inl [a,b]):S1)=.inl (.inl [c,d]):=by rw[h1,h2]
theorem eb{a b:Bool}(h:a=b):(Sum.inl (.inr (.inl a)):S1)=.inl (.inr (.inl b)):=by rw[h]
theorem ei{a b:Int}(h:a=b):(Sum.inl (.inr (.inr (.inl (I a)))):S1)=.inl (.inr (.inr (.inl (I b)))):=by rw[h]
theorem dq{f:Nat}{g:Zp→Zp→Zp}(en:ak prog f)(h: ∀a b,PUR f [EV a,EV b] (EV (g a b))):Snd prog Gt f (c2 q1.ag q1.ag q1.rd g):=gK q1.ag q1.ag q1.rd en h
def TO1:Tb prog Gt:=TB.add (dq (g:=fun x y=>x*y) ent117 iT)
theorem te{f:Nat}{g:BitVec 64→Zp}(en:ak prog f)(h: ∀a,PUR f [U64 a] (EV (g a))):Snd prog Gt f (c1 agU q1.rd g):=gI agU q1.rd en h
def TO2:Tb prog Gt:=TO1.add (te (g:=fun n=>zp n.toNat) ent120 fk)
theorem qx{f:Nat}{g:Zp→Zp→Bool}(en:ak prog f)(h: ∀a b,PUR f [EV a,EV b] (.bool (g a b))):Snd prog Gt f (c2 q1.ag q1.ag rdB g):=gK q1.ag q1.ag rdB en h
def TO3:Tb prog Gt:=TO2.add (qx (g:=fun x y=>decide (x=y)) ent188 oC)
theorem iS{f:Nat}{g:Zp→Bool}(en:ak prog f)(h: ∀a,PUR f [EV a] (.bool (g a))):Snd prog Gt f (c1 q1.ag rdB g):=gI q1.ag rdB en h
def TO4:Tb prog Gt:=TO3.add (iS (g:=fun x=>decide (x=0)) ent53 tP)
def TO5:Tb prog Gt:=TO4.add (dq (g:=fun x y=>x+y) ent179 tg)
def TO6:Tb prog Gt:=TO5.add (dq (g:=fun x y=>x-y) ent169 nY)
theorem gX{f:Nat}{g:Zp→Zp}(en:ak prog f)(h: ∀a,PUR f [EV a] (EV (g a))):Snd prog Gt f (c1 q1.ag q1.rd g):=gI q1.ag q1.rd en h
def TO7:Tb prog Gt:=TO6.add (gX (g:=fun x=> -x) ent153 eo)
def TO8:Tb prog Gt:=TO7.add (gX (g:=fun x=>x*x) ent116 kk)
theorem q8{f:Nat}{g:Zp}(en:ak prog f)(h:PUR f [U64 1#64] (EV g)):Snd prog Gt f (c1 (agL 1) q1.rd (fun _=>g)):=gI (agL 1) q1.rd en (fun _=>h)
def TO9:Tb prog Gt:=TO8.add (q8 (g:=1) ent120 sU)
def TO10:Tb prog Gt:=TO9.add (gX (g:=fun x=>x^(PP-2)) ent115 DL)
def TO11:Tb prog Gt:=TO10.add (iS (g:=fun x=>decide (x.val % 2=1)) ent271 Ex)
def TO12:Tb prog Gt:=TO11.add (iS (g:=fun x=>decide (hf<x.val)) ent73 ig)
theorem oK{f:Nat}{g:Zp→Zp}{k:Zp→Bool}(en:ak prog f)(h: ∀a,PUR f [EV a] (.tuple #[EV (g a),.bool (k a)])):Snd prog Gt f (c1 q1.ag q1.rdB (fun a=>((g a),(k a)))):=gI q1.ag q1.rdB en h
def TO13:Tb prog Gt:=TO12.add (oK (g:=SQ) (k:=fun x=>decide (SQr x*SQr x=x)) ent152 mr)
def TO14:Tb prog Gt:=TO13.add (dq (g:=fun x y=>x*y) ent147 HU)
def TO15:Tb prog Gt:=TO14.add (dq (g:=fun x y=>x+y) ent149 Yw)
def TO16:Tb prog Gt:=TO15.add (dq (g:=fun x y=>x-y) ent148 Zk)
def TO17:Tb prog Gt:=TO16.add (gX (g:=fun x=> -x) ent141 xB)
def TO18:Tb prog Gt:=TO17.add (gX (g:=fun x=>x^(PP-2)) ent155 Zq)
def TO19:Tb prog Gt:=TO18.add (iS (g:=fun x=>decide (x=0)) ent98 Kt)
def TO20:Tb prog Gt:=TO19.add (iS (g:=fun x=>decide (x.val % 2=1)) ent185 Ys)
def TO21:Tb prog Gt:=TO20.add (iS (g:=fun x=>decide (hf<x.val)) ent99 un)
def TO22:Tb prog Gt:=TO21.add (te (g:=fun n=>zp n.toNat) ent100 iM)
def TO23:Tb prog Gt:=TO22.add (oK (g:=SQ) (k:=fun x=>decide (SQr x*SQr x=x)) ent158 UV)
theorem s4  :PUR 221 [] (EV2 on2):=pE TO23 func221 [] (.inl (.inl [on2.1,on2.2])) (.inl (.inl [1,0]),[]) [] kr aE rfl
theorem oM{f:Nat}{g:W2}(en:ak prog f)(h:PUR f [] (EV2 g)):Snd prog Gt f (c0 q2.rd g):=wh q2.rd en h
def TO24:Tb prog Gt:=TO23.add (oM (g:=on2) ent221 s4)
theorem uM(x y:W2):PUR 235 [EV2 x,EV2 y] (.bool (decide (x=y))):=by
 by_cases h:x.1=y.1
 ·exact pE TO24 func235 [.inl [x.1,x.2],.inl [y.1,y.2]] (.inl (.inr (.inl (decide (x=y))))) (.inl (.inr (.inl (decide (x.2=y.2)))),[(decide (x.1=y.1),true)]) [some true] kr (ap (decide_eq_true h) aE) (eb (Av h))
 ·exact pE TO24 func235 [.inl [x.1,x.2],.inl [y.1,y.2]] (.inl (.inr (.inl (decide (x=y))))) (.inl (.inr (.inl false)),[(decide (x.1=y.1),false)]) [some false] kr (ap (decide_eq_false h) aE) (eb (zB h))
theorem pS{f:Nat}{g:W2→W2→Bool}(en:ak prog f)(h: ∀a b,PUR f [EV2 a,EV2 b] (.bool (g a b))):Snd prog Gt f (c2 q2.ag q2.ag rdB g):=gK q2.ag q2.ag rdB en h
def TO25:Tb prog Gt:=TO24.add (pS (g:=fun x y=>decide (x=y)) ent235 uM)
theorem wT(x:W2):PUR 175 [EV2 x] (.bool (decide (x=ze2))):=by
 by_cases h:x.1=0
 ·exact pE TO25 func175 [.inl [x.1,x.2]] (.inl (.inr (.inl (decide (x=ze2))))) (.inl (.inr (.inl (decide (x.2=0)))),[(decide (x.1=0),true)]) [some true] kr (ap (decide_eq_true h) aE) (eb (Av (y:=ze2) h))
 ·exact pE TO25 func175 [.inl [x.1,x.2]] (.inl (.inr (.inl (decide (x=ze2))))) (.inl (.inr (.inl false)),[(decide (x.1=0),false)]) [some false] kr (ap (decide_eq_false h) aE) (eb (zB (y:=ze2) h))
theorem lR{f:Nat}{g:W2→Bool}(en:ak prog f)(h: ∀a,PUR f [EV2 a] (.bool (g a))):Snd prog Gt f (c1 q2.ag rdB g):=gI q2.ag rdB en h
def TO26:Tb prog Gt:=TO25.add (lR (g:=fun x=>decide (x=ze2)) ent175 wT)
theorem fI(x y:W2):PUR 210 [EV2 x,EV2 y] (EV2 (ad2 x y)):=pE TO26 func210 [.inl [x.1,x.2],.inl [y.1,y.2]] (.inl (.inl [(ad2 x y).1,(ad2 x y).2])) (.inl (.inl [x.1+y.1,x.2+y.2]),[]) [] kr aE rfl
theorem cR{f:Nat}{g:W2→W2→W2}(en:ak prog f)(h: ∀a b,PUR f [EV2 a,EV2 b] (EV2 (g a b))):Snd prog Gt f (c2 q2.ag q2.ag q2.rd g):=gK q2.ag q2.ag q2.rd en h
def TO27:Tb prog Gt:=TO26.add (cR (g:=ad2) ent210 fI)
theorem lz(x y:W2):PUR 181 [EV2 x,EV2 y] (EV2 (sb2 x y)):=pE TO27 func181 [.inl [x.1,x.2],.inl [y.1,y.2]] (.inl (.inl [(sb2 x y).1,(sb2 x y).2])) (.inl (.inl [x.1-y.1,x.2-y.2]),[]) [] kr aE rfl
def TO28:Tb prog Gt:=TO27.add (cR (g:=sb2) ent181 lz)
theorem Gn(x:W2):PUR 214 [EV2 x] (EV2 (ng2 x)):=pE TO28 func214 [.inl [x.1,x.2]] (.inl (.inl [(ng2 x).1,(ng2 x).2])) (.inl (.inl [-x.1,-x.2]),[]) [] kr aE rfl
theorem ej{f:Nat}{g:W2→W2}(en:ak prog f)(h: ∀a,PUR f [EV2 a] (EV2 (g a))):Snd prog Gt f (c1 q2.ag q2.rd g):=gI q2.ag q2.rd en h
def TO29:Tb prog Gt:=TO28.add (ej (g:=ng2) ent214 Gn)
theorem ob(x:W2):PUR 176 [EV2 x] (EV2 (cj2 x)):=pE TO29 func176 [.inl [x.1,x.2]] (.inl (.inl [(cj2 x).1,(cj2 x).2])) (.inl (.inl [x.1,-x.2]),[]) [] kr aE rfl
def TO30:Tb prog Gt:=TO29.add (ej (g:=cj2) ent176 ob)
theorem dQ(x y:W2):PUR 130 [EV2 x,EV2 y] (EV2 (ml2 x y)):=pE TO30 func130 [.inl [x.1,x.2],.inl [y.1,y.2]] (.inl (.inl [(ml2 x y).1,(ml2 x y).2])) (let t0:=(x.1+x.2)*(y.1+y.2);let t1:=(x.1*y.1)-(x.2*y.2);let t2:=t0-(x.1*y.1);let t3:=t2-(x.2*y.2);(.inl (.inl [t1,t3]),[])) [] kr aE (el2 (by first|(simp only[ml2];done)|(simp only[ml2];grind)) (by first|(simp only[ml2];done)|(simp only[ml2];grind)))
def TO31:Tb prog Gt:=TO30.add (cR (g:=ml2) ent130 dQ)
theorem i4(x:W2):PUR 129 [EV2 x] (EV2 (ml2 x x)):=pE TO31 func129 [.inl [x.1,x.2]] (.inl (.inl [(ml2 x x).1,(ml2 x x).2])) (let t0:=(x.1+x.2)*(x.1-x.2);let t1:=(x.1*x.2)+(x.1*x.2);(.inl (.inl [t0,t1]),[])) [] kr aE (el2 (by first|(simp only[ml2];done)|(simp only[ml2];grind)) (by first|(simp only[ml2];done)|(simp only[ml2];grind)))
def TO32:Tb prog Gt:=TO31.add (ej (g:=fun x=>ml2 x x) ent129 i4)
theorem NK(x:W2)(c:Zp):PUR 177 [EV2 x,EV c] (EV2 (sc2 x c)):=pE TO32 func177 [.inl [x.1,x.2],.inl [c]] (.inl (.inl [(sc2 x c).1,(sc2 x c).2])) (.inl (.inl [x.1*c,x.2*c]),[]) [] kr aE rfl
theorem kJ{f:Nat}{g:W2→Zp→W2}(en:ak prog f)(h: ∀a b,PUR f [EV2 a,EV b] (EV2 (g a b))):Snd prog Gt f (c2 q2.ag q1.ag q2.rd g):=gK q2.ag q1.ag q2.rd en h
def TO33:Tb prog Gt:=TO32.add (kJ (g:=sc2) ent177 NK)
theorem Eb(x:W2):PUR 260 [EV2 x] (EV2 (xi2 x)):=pE TO33 func260 [.inl [x.1,x.2]] (.inl (.inl [(xi2 x).1,(xi2 x).2])) (.inl (.inl [x.1-x.2,x.1+x.2]),[]) [] kr aE rfl
def TO34:Tb prog Gt:=TO33.add (ej (g:=xi2) ent260 Eb)
theorem VJ(x:W2):PUR 178 [EV2 x] (EV (nm2 x)):=pE TO34 func178 [.inl [x.1,x.2]] (.inl (.inl [nm2 x])) (let t0:=(x.1*x.1)+(x.2*x.2);(.inl (.inl [t0]),[])) [] kr aE rfl
theorem qM{f:Nat}{g:W2→Zp}(en:ak prog f)(h: ∀a,PUR f [EV2 a] (EV (g a))):Snd prog Gt f (c1 q2.ag q1.rd g):=gI q2.ag q1.rd en h
def TO35:Tb prog Gt:=TO34.add (qM (g:=nm2) ent178 VJ)
theorem GN(x:W2):PUR 128 [EV2 x] (EV2 (iv2 x)):=pE TO35 func128 [.inl [x.1,x.2]] (.inl (.inl [(iv2 x).1,(iv2 x).2])) (let t0:=cj2 x;let t1:=(nm2 x)^(PP-2);let t2:=sc2 (t0.1,t0.2) t1;(.inl (.inl [t2.1,t2.2]),[])) [] kr aE rfl
def TO36:Tb prog Gt:=TO35.add (ej (g:=iv2) ent128 GN)
end
section
open Go.RowKit
attribute [local simp] a7 bv aJ aB aQ a5 aT aK aO bf bC a6 bz
theorem Jy{x:W2}(h:x.2=0):decide (hf<x.1.val)=LG2 x:=by rw[LG2,if_pos h]
theorem G0{x:W2}(h: ¬x.2=0):decide (hf<x.2.val)=LG2 x:=by rw[LG2,if_neg h]
theorem Xg{x:W2}(h:hf<x.2.val):true=LG2 x:=by
 have h0: ¬x.2=0:=fun e=>by rw[e]at h;exact Nat.not_lt_zero _ h
 rw[←G0 h0,decide_eq_true h]
theorem aaY{x:W2}(h: ¬hf<x.2.val)(h0: ¬x.2=0):false=LG2 x:=by rw[←G0 h0,decide_eq_false h]
theorem Oh{x:W2}(h:x.1.val % 2=1):1=SG2 x:=by rw[SG2,if_pos h]
theorem Qc{x:W2}(h: ¬x.1.val % 2=1)(h0:x.1=0)(h2:x.2.val % 2=1):1=SG2 x:=by rw[SG2,if_neg h,if_pos h0,if_pos h2]
theorem Ox{x:W2}(h: ¬x.1.val % 2=1)(h0:x.1=0)(h2: ¬x.2.val % 2=1):0=SG2 x:=by rw[SG2,if_neg h,if_pos h0,if_neg h2]
theorem N3{x:W2}(h: ¬x.1.val % 2=1)(h0: ¬x.1=0):0=SG2 x:=by rw[SG2,if_neg h,if_neg h0]
theorem NF:PUR 100 [U64 1#64] (EV 1):=iM 1#64
theorem MX:PUR 100 [U64 2#64] (EV (zp 2)):=iM 2#64
def TO37:Tb prog Gt:=TO36.add (q8 (g:=1) ent100 NF)
theorem y3{f:Nat}{g:Zp}(en:ak prog f)(h:PUR f [U64 2#64] (EV g)):Snd prog Gt f (c1 (agL 2) q1.rd (fun _=>g)):=gI (agL 2) q1.rd en (fun _=>h)
def TO38:Tb prog Gt:=TO37.add (y3 (g:=zp 2) ent100 MX)
theorem pq(x:W2):PUR 81 [EV2 x] (.bool (LG2 x)):=by
 by_cases h:hf<x.2.val
 ·exact pE TO38 func81 [.inl [x.1,x.2]] (.inl (.inr (.inl (LG2 x)))) (.inl (.inr (.inl true)),[(decide (hf<x.2.val),true)]) [some true] kr (ap (decide_eq_true h) aE) (eb (Xg h))
 ·by_cases h0:x.2=0
  ·exact pE TO38 func81 [.inl [x.1,x.2]] (.inl (.inr (.inl (LG2 x)))) (.inl (.inr (.inl (decide (hf<x.1.val)))),[(decide (hf<x.2.val),false),(decide (x.2=0),true)]) [some false,some true] kr (ap (decide_eq_false h) (ap (decide_eq_true h0) aE)) (eb (Jy h0))
  ·exact pE TO38 func81 [.inl [x.1,x.2]] (.inl (.inr (.inl (LG2 x)))) (.inl (.inr (.inl false)),[(decide (hf<x.2.val),false),(decide (x.2=0),false)]) [some false,some false] kr (ap (decide_eq_false h) (ap (decide_eq_false h0) aE)) (eb (aaY h h0))
def TO39:Tb prog Gt:=TO38.add (lR (g:=LG2) ent81 pq)
theorem xp(x:W2):PUR 251 [EV2 x] (I (SG2 x)):=by
 by_cases h:x.1.val % 2=1
 ·exact pE TO39 func251 [.inl [x.1,x.2]] (.inl (.inr (.inr (.inl (I (SG2 x)))))) (.inl (.inr (.inr (.inl (I 1)))),[(decide (x.1.val % 2=1),true)]) [some true] kr (ap (decide_eq_true h) aE) (ei (Oh h))
 ·by_cases h0:x.1=0
  ·by_cases h2:x.2.val % 2=1
   ·exact pE TO39 func251 [.inl [x.1,x.2]] (.inl (.inr (.inr (.inl (I (SG2 x)))))) (.inl (.inr (.inr (.inl (I 1)))),[(decide (x.1.val % 2=1),false),(decide (x.1=0),true),(decide (x.2.val % 2=1),true)]) [some false,some true,some true] kr (ap (decide_eq_false h) (ap (decide_eq_true h0) (ap (decide_eq_true h2) aE))) (ei (Qc h h0 h2))
   ·exact pE TO39 func251 [.inl [x.1,x.2]] (.inl (.inr (.inr (.inl (I (SG2 x)))))) (.inl (.inr (.inr (.inl (I 0)))),[(decide (x.1.val % 2=1),false),(decide (x.1=0),true),(decide (x.2.val % 2=1),false)]) [some false,some true,some false] kr (ap (decide_eq_false h) (ap (decide_eq_true h0) (ap (decide_eq_false h2) aE))) (ei (Ox h h0 h2))
  ·exact pE TO39 func251 [.inl [x.1,x.2]] (.inl (.inr (.inr (.inl (I (SG2 x)))))) (.inl (.inr (.inr (.inl (I 0)))),[(decide (x.1.val % 2=1),false),(decide (x.1=0),false)]) [some false,some false] kr (ap (decide_eq_false h) (ap (decide_eq_false h0) aE)) (ei (N3 h h0))
theorem sY{f:Nat}{g:W2→Value}(en:ak prog f)(h: ∀a,PUR f [EV2 a] ((g a))):Snd prog Gt f (c1 q2.ag rdV g):=gI q2.ag rdV en h
def TO40:Tb prog Gt:=TO39.add (sY (g:=fun x=>I (SG2 x)) ent251 xp)
theorem xW(x:W2):PUR 146 [EV2 x] (I (SG2 x)):=by
 by_cases h:x.1.val % 2=1
 ·exact pE TO40 func146 [.inl [x.1,x.2]] (.inl (.inr (.inr (.inl (I (SG2 x)))))) (.inl (.inr (.inr (.inl (I 1)))),[(decide (x.1.val % 2=1),true)]) [some true] kr (ap (decide_eq_true h) aE) (ei (Oh h))
 ·by_cases h0:x.1=0
  ·by_cases h2:x.2.val % 2=1
   ·exact pE TO40 func146 [.inl [x.1,x.2]] (.inl (.inr (.inr (.inl (I (SG2 x)))))) (.inl (.inr (.inr (.inl (I 1)))),[(decide (x.1.val % 2=1),false),(decide (x.1=0),true),(decide (x.2.val % 2=1),true)]) [some false,some true,some true] kr (ap (decide_eq_false h) (ap (decide_eq_true h0) (ap (decide_eq_true h2) aE))) (ei (Qc h h0 h2))
   ·exact pE TO40 func146 [.inl [x.1,x.2]] (.inl (.inr (.inr (.inl (I (SG2 x)))))) (.inl (.inr (.inr (.inl (I 0)))),[(decide (x.1.val % 2=1),false),(decide (x.1=0),true),(decide (x.2.val % 2=1),false)]) [some false,some true,some false] kr (ap (decide_eq_false h) (ap (decide_eq_true h0) (ap (decide_eq_false h2) aE))) (ei (Ox h h0 h2))
  ·exact pE TO40 func146 [.inl [x.1,x.2]] (.inl (.inr (.inr (.inl (I (SG2 x)))))) (.inl (.inr (.inr (.inl (I 0)))),[(decide (x.1.val % 2=1),false),(decide (x.1=0),false)]) [some false,some false] kr (ap (decide_eq_false h) (ap (decide_eq_false h0) aE)) (ei (N3 h h0))
def TO41:Tb prog Gt:=TO40.add (sY (g:=fun x=>I (SG2 x)) ent146 xW)
theorem ow  :PUR 51 [] (EV2 on2):=pE TO41 func51 [] (.inl (.inl [on2.1,on2.2])) (.inl (.inl [1,0]),[]) [] kr aE rfl
def TO42:Tb prog Gt:=TO41.add (oM (g:=on2) ent51 ow)
theorem k9(x:W2):PUR 57 [EV2 x] (.bool (decide (x=ze2))):=by
 by_cases h:x.1=0
 ·exact pE TO42 func57 [.inl [x.1,x.2]] (.inl (.inr (.inl (decide (x=ze2))))) (.inl (.inr (.inl (decide (x.2=0)))),[(decide (x.1=0),true)]) [some true] kr (ap (decide_eq_true h) aE) (eb (Av (y:=ze2) h))
 ·exact pE TO42 func57 [.inl [x.1,x.2]] (.inl (.inr (.inl (decide (x=ze2))))) (.inl (.inr (.inl false)),[(decide (x.1=0),false)]) [some false] kr (ap (decide_eq_false h) aE) (eb (zB (y:=ze2) h))
def TO43:Tb prog Gt:=TO42.add (lR (g:=fun x=>decide (x=ze2)) ent57 k9)
theorem s9(x y:W2):PUR 101 [EV2 x,EV2 y] (EV2 (ad2 x y)):=pE TO43 func101 [.inl [x.1,x.2],.inl [y.1,y.2]] (.inl (.inl [(ad2 x y).1,(ad2 x y).2])) (.inl (.inl [x.1+y.1,x.2+y.2]),[]) [] kr aE rfl
def TO44:Tb prog Gt:=TO43.add (cR (g:=ad2) ent101 s9)
theorem Pd(x y:W2):PUR 90 [EV2 x,EV2 y] (EV2 (sb2 x y)):=pE TO44 func90 [.inl [x.1,x.2],.inl [y.1,y.2]] (.inl (.inl [(sb2 x y).1,(sb2 x y).2])) (.inl (.inl [x.1-y.1,x.2-y.2]),[]) [] kr aE rfl
def TO45:Tb prog Gt:=TO44.add (cR (g:=sb2) ent90 Pd)
theorem tL(x:W2):PUR 105 [EV2 x] (EV2 (ng2 x)):=pE TO45 func105 [.inl [x.1,x.2]] (.inl (.inl [(ng2 x).1,(ng2 x).2])) (.inl (.inl [-x.1,-x.2]),[]) [] kr aE rfl
def TO46:Tb prog Gt:=TO45.add (ej (g:=ng2) ent105 tL)
theorem eU(x y:W2):PUR 89 [EV2 x,EV2 y] (EV2 (ml2 x y)):=by
 by_cases h:x.2=0
 ·by_cases h2:y.2=0
  ·exact pE TO46 func89 [.inl [x.1,x.2],.inl [y.1,y.2]] (.inl (.inl [(ml2 x y).1,(ml2 x y).2])) (.inl (.inl [x.1*y.1,0]),[(decide (x.2=0),true),(decide (y.2=0),true)]) [some true,some true] kr (ap (decide_eq_true h) (ap (decide_eq_true h2) aE)) (el2 (by simp only[ml2];rw[h];grind) (by simp only[ml2];rw[h,h2,i1,qz,Mc]))
  ·exact pE TO46 func89 [.inl [x.1,x.2],.inl [y.1,y.2]] (.inl (.inl [(ml2 x y).1,(ml2 x y).2])) (let t0:=(x.1*y.1)-(x.2*y.2);let t1:=(x.1+x.2)*(y.1+y.2);let t2:=t1-(x.1*y.1);let t3:=t2-(x.2*y.2);(.inl (.inl [t0,t3]),[(decide (x.2=0),true),(decide (y.2=0),false)])) [some true,some false] kr (ap (decide_eq_true h) (ap (decide_eq_false h2) aE)) (el2 (by first|(simp only[ml2];done)|(simp only[ml2];grind)) (by first|(simp only[ml2];done)|(simp only[ml2];grind)))
 ·exact pE TO46 func89 [.inl [x.1,x.2],.inl [y.1,y.2]] (.inl (.inl [(ml2 x y).1,(ml2 x y).2])) (let t0:=(x.1*y.1)-(x.2*y.2);let t1:=(x.1+x.2)*(y.1+y.2);let t2:=t1-(x.1*y.1);let t3:=t2-(x.2*y.2);(.inl (.inl [t0,t3]),[(decide (x.2=0),false)])) [some false] kr (ap (decide_eq_false h) aE) (el2 (by first|(simp only[ml2];done)|(simp only[ml2];grind)) (by first|(simp only[ml2];done)|(simp only[ml2];grind)))
def TO47:Tb prog Gt:=TO46.add (cR (g:=ml2) ent89 eU)
theorem Ts(x:W2):PUR 154 [EV2 x] (EV (nm2 x)):=pE TO47 func154 [.inl [x.1,x.2]] (.inl (.inl [nm2 x])) (let t0:=(x.1*x.1)+(x.2*x.2);(.inl (.inl [t0]),[])) [] kr aE rfl
def TO48:Tb prog Gt:=TO47.add (qM (g:=nm2) ent154 Ts)
theorem mg(x:W2):PUR 96 [EV2 x] (EV2 (iv2 x)):=pE TO48 func96 [.inl [x.1,x.2]] (.inl (.inl [(iv2 x).1,(iv2 x).2])) (let t0:=(nm2 x)^(PP-2);(.inl (.inl [x.1*t0,(-x.2)*t0]),[])) [] kr aE rfl
def TO49:Tb prog Gt:=TO48.add (ej (g:=iv2) ent96 mg)
theorem nJ(x:W2):PUR 49 [EV2 x] (.bool (LG2 x)):=by
 by_cases h:x.2=0
 ·exact pE TO49 func49 [.inl [x.1,x.2]] (.inl (.inr (.inl (LG2 x)))) (.inl (.inr (.inl (decide (hf<x.1.val)))),[(decide (x.2=0),true)]) [some true] kr (ap (decide_eq_true h) aE) (eb (Jy h))
 ·exact pE TO49 func49 [.inl [x.1,x.2]] (.inl (.inr (.inl (LG2 x)))) (.inl (.inr (.inl (decide (hf<x.2.val)))),[(decide (x.2=0),false)]) [some false] kr (ap (decide_eq_false h) aE) (eb (G0 h))
def TO50:Tb prog Gt:=TO49.add (lR (g:=LG2) ent49 nJ)
theorem ub(c:Zp):PUR 253 [EV c] (EV2 (RO c)):=by
 by_cases h:SQr c*SQr c=c
 ·exact pE TO50 func253 [.inl [c]] (.inl (.inl [(RO c).1,(RO c).2])) (.inl (.inl [SQ c,0]),[(decide (SQr c*SQr c=c),true)]) [some true] kr (ap (decide_eq_true h) aE) (by rw[show RO c=(SQ c,0)from if_pos h]<;>exact rfl)
 ·exact pE TO50 func253 [.inl [c]] (.inl (.inl [(RO c).1,(RO c).2])) (.inl (.inl [0,SQ (-c)]),[(decide (SQr c*SQr c=c),false)]) [some false] kr (ap (decide_eq_false h) aE) (by rw[show RO c=(0,SQ (-c))from if_neg h]<;>exact rfl)
theorem y5{f:Nat}{g:Zp→W2}(en:ak prog f)(h: ∀a,PUR f [EV a] (EV2 (g a))):Snd prog Gt f (c1 q1.ag q2.rd g):=gI q1.ag q2.rd en h
def TO51:Tb prog Gt:=TO50.add (y5 (g:=RO) ent253 ub)
theorem Ks(x:W2)(n:Zp):PUR 254 [EV2 x,EV n] (EV2 (RB x n)):=by
 by_cases h:SQr (RBs x n)*SQr (RBs x n)=RBs x n
 ·exact pE TO51 func254 [.inl [x.1,x.2],.inl [n]] (.inl (.inl [(RB x n).1,(RB x n).2])) (let t0:=(x.1+n)+(x.1+n);let t1:=(SQ t0)^(PP-2);let t2:=(x.1+n)*t1;(.inl (.inl [t2,x.2*t1]),[(decide (SQr t0*SQr t0=t0),true)])) [some true] kr (ap (decide_eq_true h) aE) (by rw[show RB x n=_ from if_pos h]<;>exact rfl)
 ·exact pE TO51 func254 [.inl [x.1,x.2],.inl [n]] (.inl (.inl [(RB x n).1,(RB x n).2])) (let t0:=(x.1+n)+(x.1+n);let t1:=(SQ (-t0))^(PP-2);let t2:=(-(x.1+n))*t1;(.inl (.inl [x.2*t1,t2]),[(decide (SQr t0*SQr t0=t0),false)])) [some false] kr (ap (decide_eq_false h) aE) (by rw[show RB x n=_ from if_neg h]<;>exact rfl)
def TO52:Tb prog Gt:=TO51.add (kJ (g:=RB) ent254 Ks)
theorem Qx{α:Type}(f:W2→α)(x:W2):f (x.1,x.2)=f x:=rfl
theorem pt(x r:W2)(hr:ml2 r r=x)(hl:LG2 r=false):PUR 213 [EV2 x] (.tuple #[EV2 r,.bool true]):=by
 by_cases h:x.2=0
 ·exact pE TO52 func213 [.inl [x.1,x.2]] (.inr [.inl [r.1,r.2],.inr (.inl true)]) (let t0:=RO x.1;(.inr [.inl [t0.1,t0.2],.inr (.inl true)],[(decide (x.2=0),true)])) [some true] kr (ap (decide_eq_true h) aE) (by rw[←uI hr hl h]<;>exact rfl)
 ·by_cases hc:LG2 (RB x (SQ (nm2 x)))=true
  ·exact pE TO52 func213 [.inl [x.1,x.2]] (.inr [.inl [r.1,r.2],.inr (.inl true)]) (let t0:=RB x (SQ (nm2 x));let t1:=ng2 (t0.1,t0.2);(.inr [.inl [t1.1,t1.2],.inr (.inl true)],[(decide (x.2=0),false),(decide (SQr (nm2 x)*SQr (nm2 x)=(nm2 x)),true),(LG2 (t0.1,t0.2),true)])) [some false,some true,some true] kr (ap (decide_eq_false h) (ap (decide_eq_true (fM hr)) (ap ((Qx LG2 (RB x (SQ (nm2 x)))).trans hc) aE))) (by rw[←B7 hr hl h,NL,if_pos hc,←Qx ng2 (RB x (SQ (nm2 x)))]<;>exact rfl)
  ·exact pE TO52 func213 [.inl [x.1,x.2]] (.inr [.inl [r.1,r.2],.inr (.inl true)]) (let t0:=RB x (SQ (nm2 x));(.inr [.inl [t0.1,t0.2],.inr (.inl true)],[(decide (x.2=0),false),(decide (SQr (nm2 x)*SQr (nm2 x)=(nm2 x)),true),(LG2 (t0.1,t0.2),false)])) [some false,some true,some false] kr (ap (decide_eq_false h) (ap (decide_eq_true (fM hr)) (ap ((Qx LG2 (RB x (SQ (nm2 x)))).trans (Bool.eq_false_iff.2 hc)) aE))) (by rw[←B7 hr hl h,NL,if_neg hc]<;>exact rfl)
theorem uW(x:W2)(hq: ¬IsQ (nm2 x)):PUR 213 [EV2 x] (.tuple #[EV2 ze2,.bool false]):=by
 exact pE TO52 func213 [.inl [x.1,x.2]] (.inr [.inl [ze2.1,ze2.2],.inr (.inl false)]) (.inr [.inl [0,0],.inr (.inl false)],[(decide (x.2=0),false),(decide (SQr (nm2 x)*SQr (nm2 x)=(nm2 x)),false)]) [some false,some false] kr (ap (decide_eq_false (Ow hq)) (ap (decide_eq_false hq) aE)) rfl
theorem Zf{x:W2}(h:LG2 x=true):ng2 x=NL x:=by rw[NL,if_pos h]
theorem W8{x:W2}(h: ¬LG2 x=true):x=NL x:=by rw[NL,if_neg h]
theorem nf2{y x:W2}(h:y=x):(!decide ([y.1,y.2]=[x.1,x.2]))=false:=by rw[h,decide_eq_true rfl];rfl
theorem CR(x r:W2)(hr:ml2 r r=x)(hl:LG2 r=false):PUR 104 [EV2 x] (.tuple #[EV2 r,.bool true]):=by
 by_cases h:x.2=0
 ·by_cases q:SQr x.1*SQr x.1=x.1
  ·have e:r=(SQ x.1,0):=(uI hr hl h).symm.trans (if_pos q)
   exact pE TO52 func104 [.inl [x.1,x.2]] (.inr [.inl [r.1,r.2],.inr (.inl true)]) (let t0:=ml2 (SQ x.1,0) (SQ x.1,0);(.inr [.inl [SQ x.1,0],.inr (.inl true)],[(decide (x.2=0),true),(decide (SQr x.1*SQr x.1=x.1),true),(!decide ([t0.1,t0.2]=[x.1,x.2]),false),(LG2 (SQ x.1,0),false)])) [some true,some true,some false,some false] kr (ap (decide_eq_true h) (ap (decide_eq_true q) (ap (nf2 (y:=ml2 (SQ x.1,0) (SQ x.1,0)) (x:=x) (e▸hr)) (ap (e▸hl) aE)))) (by rw[e]<;>exact rfl)
  ·have e:r=(0,SQ (-x.1)):=(uI hr hl h).symm.trans (if_neg q)
   exact pE TO52 func104 [.inl [x.1,x.2]] (.inr [.inl [r.1,r.2],.inr (.inl true)]) (let t0:=ml2 (0,SQ (-x.1)) (0,SQ (-x.1));(.inr [.inl [0,SQ (-x.1)],.inr (.inl true)],[(decide (x.2=0),true),(decide (SQr x.1*SQr x.1=x.1),false),(!decide ([t0.1,t0.2]=[x.1,x.2]),false),(LG2 (0,SQ (-x.1)),false)])) [some true,some false,none,some false,some false] kr (ap (decide_eq_true h) (ap (decide_eq_false q) (ap (nf2 (y:=ml2 (0,SQ (-x.1)) (0,SQ (-x.1))) (x:=x) (e▸hr)) (ap (e▸hl) aE)))) (by rw[e]<;>exact rfl)
 ·by_cases q:SQr ((x.1+(SQ (nm2 x)))*(zp 2^(PP-2)))*SQr ((x.1+(SQ (nm2 x)))*(zp 2^(PP-2)))=(x.1+(SQ (nm2 x)))*(zp 2^(PP-2))
  ·by_cases hc:LG2 (SQ ((x.1+(SQ (nm2 x)))*(zp 2^(PP-2))),x.2*(zp 2^(PP-2))*SQ ((x.1+(SQ (nm2 x)))*(zp 2^(PP-2)))^(PP-2))=true
   ·have e1:RF x (SQ (nm2 x)) (zp 2^(PP-2))=(SQ ((x.1+(SQ (nm2 x)))*(zp 2^(PP-2))),x.2*(zp 2^(PP-2))*SQ ((x.1+(SQ (nm2 x)))*(zp 2^(PP-2)))^(PP-2)):=if_pos q
    have e:NL (SQ ((x.1+(SQ (nm2 x)))*(zp 2^(PP-2))),x.2*(zp 2^(PP-2))*SQ ((x.1+(SQ (nm2 x)))*(zp 2^(PP-2)))^(PP-2))=r:=e1▸pJ hr hl ik h
    have e0:ml2 (SQ ((x.1+(SQ (nm2 x)))*(zp 2^(PP-2))),x.2*(zp 2^(PP-2))*SQ ((x.1+(SQ (nm2 x)))*(zp 2^(PP-2)))^(PP-2)) (SQ ((x.1+(SQ (nm2 x)))*(zp 2^(PP-2))),x.2*(zp 2^(PP-2))*SQ ((x.1+(SQ (nm2 x)))*(zp 2^(PP-2)))^(PP-2))=x:=e1▸wW (jp (fM hr)) ik h
    exact pE TO52 func104 [.inl [x.1,x.2]] (.inr [.inl [r.1,r.2],.inr (.inl true)]) (let t0:=(zp 2)^(PP-2);let t1:=x.1+(SQ (nm2 x));let t2:=(SQ (t1*t0))^(PP-2);let t3:=(x.2*t0)*t2;let t4:=ml2 (SQ (t1*t0),t3) (SQ (t1*t0),t3);let t5:=ng2 (SQ (t1*t0),t3);(.inr [.inl [t5.1,t5.2],.inr (.inl true)],[(decide (x.2=0),false),(decide (SQr (nm2 x)*SQr (nm2 x)=(nm2 x)),true),(decide (SQr (t1*t0)*SQr (t1*t0)=(t1*t0)),true),(!decide ([t4.1,t4.2]=[x.1,x.2]),false),(LG2 (SQ (t1*t0),t3),true)])) [some false,some true,some true,some false,some true] kr (ap (decide_eq_false h) (ap (decide_eq_true (fM hr)) (ap (decide_eq_true q) (ap (nf2 (y:=ml2 (SQ ((x.1+(SQ (nm2 x)))*(zp 2^(PP-2))),x.2*(zp 2^(PP-2))*SQ ((x.1+(SQ (nm2 x)))*(zp 2^(PP-2)))^(PP-2)) (SQ ((x.1+(SQ (nm2 x)))*(zp 2^(PP-2))),x.2*(zp 2^(PP-2))*SQ ((x.1+(SQ (nm2 x)))*(zp 2^(PP-2)))^(PP-2))) (x:=x) e0) (ap (hc) aE))))) (by rw[←e,←Zf hc]<;>exact rfl)
   ·have e1:RF x (SQ (nm2 x)) (zp 2^(PP-2))=(SQ ((x.1+(SQ (nm2 x)))*(zp 2^(PP-2))),x.2*(zp 2^(PP-2))*SQ ((x.1+(SQ (nm2 x)))*(zp 2^(PP-2)))^(PP-2)):=if_pos q
    have e:NL (SQ ((x.1+(SQ (nm2 x)))*(zp 2^(PP-2))),x.2*(zp 2^(PP-2))*SQ ((x.1+(SQ (nm2 x)))*(zp 2^(PP-2)))^(PP-2))=r:=e1▸pJ hr hl ik h
    have e0:ml2 (SQ ((x.1+(SQ (nm2 x)))*(zp 2^(PP-2))),x.2*(zp 2^(PP-2))*SQ ((x.1+(SQ (nm2 x)))*(zp 2^(PP-2)))^(PP-2)) (SQ ((x.1+(SQ (nm2 x)))*(zp 2^(PP-2))),x.2*(zp 2^(PP-2))*SQ ((x.1+(SQ (nm2 x)))*(zp 2^(PP-2)))^(PP-2))=x:=e1▸wW (jp (fM hr)) ik h
    exact pE TO52 func104 [.inl [x.1,x.2]] (.inr [.inl [r.1,r.2],.inr (.inl true)]) (let t0:=(zp 2)^(PP-2);let t1:=x.1+(SQ (nm2 x));let t2:=(SQ (t1*t0))^(PP-2);let t3:=(x.2*t0)*t2;let t4:=ml2 (SQ (t1*t0),t3) (SQ (t1*t0),t3);(.inr [.inl [SQ (t1*t0),t3],.inr (.inl true)],[(decide (x.2=0),false),(decide (SQr (nm2 x)*SQr (nm2 x)=(nm2 x)),true),(decide (SQr (t1*t0)*SQr (t1*t0)=(t1*t0)),true),(!decide ([t4.1,t4.2]=[x.1,x.2]),false),(LG2 (SQ (t1*t0),t3),false)])) [some false,some true,some true,some false,some false] kr (ap (decide_eq_false h) (ap (decide_eq_true (fM hr)) (ap (decide_eq_true q) (ap (nf2 (y:=ml2 (SQ ((x.1+(SQ (nm2 x)))*(zp 2^(PP-2))),x.2*(zp 2^(PP-2))*SQ ((x.1+(SQ (nm2 x)))*(zp 2^(PP-2)))^(PP-2)) (SQ ((x.1+(SQ (nm2 x)))*(zp 2^(PP-2))),x.2*(zp 2^(PP-2))*SQ ((x.1+(SQ (nm2 x)))*(zp 2^(PP-2)))^(PP-2))) (x:=x) e0) (ap (Bool.eq_false_iff.2 hc) aE))))) (by rw[←e,←W8 hc]<;>exact rfl)
  ·by_cases hc:LG2 (SQ ((x.1-(SQ (nm2 x)))*(zp 2^(PP-2))),x.2*(zp 2^(PP-2))*SQ ((x.1-(SQ (nm2 x)))*(zp 2^(PP-2)))^(PP-2))=true
   ·have e1:RF x (SQ (nm2 x)) (zp 2^(PP-2))=(SQ ((x.1-(SQ (nm2 x)))*(zp 2^(PP-2))),x.2*(zp 2^(PP-2))*SQ ((x.1-(SQ (nm2 x)))*(zp 2^(PP-2)))^(PP-2)):=if_neg q
    have e:NL (SQ ((x.1-(SQ (nm2 x)))*(zp 2^(PP-2))),x.2*(zp 2^(PP-2))*SQ ((x.1-(SQ (nm2 x)))*(zp 2^(PP-2)))^(PP-2))=r:=e1▸pJ hr hl ik h
    have e0:ml2 (SQ ((x.1-(SQ (nm2 x)))*(zp 2^(PP-2))),x.2*(zp 2^(PP-2))*SQ ((x.1-(SQ (nm2 x)))*(zp 2^(PP-2)))^(PP-2)) (SQ ((x.1-(SQ (nm2 x)))*(zp 2^(PP-2))),x.2*(zp 2^(PP-2))*SQ ((x.1-(SQ (nm2 x)))*(zp 2^(PP-2)))^(PP-2))=x:=e1▸wW (jp (fM hr)) ik h
    exact pE TO52 func104 [.inl [x.1,x.2]] (.inr [.inl [r.1,r.2],.inr (.inl true)]) (let t0:=(zp 2)^(PP-2);let t1:=x.1+(SQ (nm2 x));let t2:=x.1-(SQ (nm2 x));let t3:=(SQ (t2*t0))^(PP-2);let t4:=(x.2*t0)*t3;let t5:=ml2 (SQ (t2*t0),t4) (SQ (t2*t0),t4);let t6:=ng2 (SQ (t2*t0),t4);(.inr [.inl [t6.1,t6.2],.inr (.inl true)],[(decide (x.2=0),false),(decide (SQr (nm2 x)*SQr (nm2 x)=(nm2 x)),true),(decide (SQr (t1*t0)*SQr (t1*t0)=(t1*t0)),false),(!decide ([t5.1,t5.2]=[x.1,x.2]),false),(LG2 (SQ (t2*t0),t4),true)])) [some false,some true,some false,none,some false,some true] kr (ap (decide_eq_false h) (ap (decide_eq_true (fM hr)) (ap (decide_eq_false q) (ap (nf2 (y:=ml2 (SQ ((x.1-(SQ (nm2 x)))*(zp 2^(PP-2))),x.2*(zp 2^(PP-2))*SQ ((x.1-(SQ (nm2 x)))*(zp 2^(PP-2)))^(PP-2)) (SQ ((x.1-(SQ (nm2 x)))*(zp 2^(PP-2))),x.2*(zp 2^(PP-2))*SQ ((x.1-(SQ (nm2 x)))*(zp 2^(PP-2)))^(PP-2))) (x:=x) e0) (ap (hc) aE))))) (by rw[←e,←Zf hc]<;>exact rfl)
   ·have e1:RF x (SQ (nm2 x)) (zp 2^(PP-2))=(SQ ((x.1-(SQ (nm2 x)))*(zp 2^(PP-2))),x.2*(zp 2^(PP-2))*SQ ((x.1-(SQ (nm2 x)))*(zp 2^(PP-2)))^(PP-2)):=if_neg q
    have e:NL (SQ ((x.1-(SQ (nm2 x)))*(zp 2^(PP-2))),x.2*(zp 2^(PP-2))*SQ ((x.1-(SQ (nm2 x)))*(zp 2^(PP-2)))^(PP-2))=r:=e1▸pJ hr hl ik h
    have e0:ml2 (SQ ((x.1-(SQ (nm2 x)))*(zp 2^(PP-2))),x.2*(zp 2^(PP-2))*SQ ((x.1-(SQ (nm2 x)))*(zp 2^(PP-2)))^(PP-2)) (SQ ((x.1-(SQ (nm2 x)))*(zp 2^(PP-2))),x.2*(zp 2^(PP-2))*SQ ((x.1-(SQ (nm2 x)))*(zp 2^(PP-2)))^(PP-2))=x:=e1▸wW (jp (fM hr)) ik h
    exact pE TO52 func104 [.inl [x.1,x.2]] (.inr [.inl [r.1,r.2],.inr (.inl true)]) (let t0:=(zp 2)^(PP-2);let t1:=x.1+(SQ (nm2 x));let t2:=x.1-(SQ (nm2 x));let t3:=(SQ (t2*t0))^(PP-2);let t4:=(x.2*t0)*t3;let t5:=ml2 (SQ (t2*t0),t4) (SQ (t2*t0),t4);(.inr [.inl [SQ (t2*t0),t4],.inr (.inl true)],[(decide (x.2=0),false),(decide (SQr (nm2 x)*SQr (nm2 x)=(nm2 x)),true),(decide (SQr (t1*t0)*SQr (t1*t0)=(t1*t0)),false),(!decide ([t5.1,t5.2]=[x.1,x.2]),false),(LG2 (SQ (t2*t0),t4),false)])) [some false,some true,some false,none,some false,some false] kr (ap (decide_eq_false h) (ap (decide_eq_true (fM hr)) (ap (decide_eq_false q) (ap (nf2 (y:=ml2 (SQ ((x.1-(SQ (nm2 x)))*(zp 2^(PP-2))),x.2*(zp 2^(PP-2))*SQ ((x.1-(SQ (nm2 x)))*(zp 2^(PP-2)))^(PP-2)) (SQ ((x.1-(SQ (nm2 x)))*(zp 2^(PP-2))),x.2*(zp 2^(PP-2))*SQ ((x.1-(SQ (nm2 x)))*(zp 2^(PP-2)))^(PP-2))) (x:=x) e0) (ap (Bool.eq_false_iff.2 hc) aE))))) (by rw[←e,←W8 hc]<;>exact rfl)
theorem K1(x:W2)(hq: ¬IsQ (nm2 x)):PUR 104 [EV2 x] (.tuple #[EV2 ze2,.bool false]):=by
 exact pE TO52 func104 [.inl [x.1,x.2]] (.inr [.inl [ze2.1,ze2.2],.inr (.inl false)]) (.inr [.inl [0,0],.inr (.inl false)],[(decide (x.2=0),false),(decide (SQr (nm2 x)*SQr (nm2 x)=(nm2 x)),false)]) [some false,some false] kr (ap (decide_eq_false (Ow hq)) (ap (decide_eq_false hq) aE)) rfl
end
section
def XI:W2:=(1,1)
abbrev W6:=W2×W2×W2
def K6:Rg W6:=Rg.cub R2 XI
def VV:W6:=(ze2,on2,ze2)
abbrev W12:=W6×W6
def K12:Rg W12:=Rg.quad K6 VV
theorem fd2:Fd R2:=fun a h=>⟨iv2 a,dh h⟩
theorem BR(a:Nat): ∀n:Nat,zp a^n=zp (a^n)
 |0=>p0 _
 |n+1=>by rw[ps,BR a n,Nat.pow_succ,jH]
theorem Cz(a n f:Nat)(h:n<2^f):zp a^n=zp (pm a PP f n):=by rw[Dk _ _ _ _ h,uy,BR]
theorem GI{k n:Nat}(hk:R6=2^k)(h:n<PP):n<2^k:=hk▸Nat.lt_trans h wl
def th:Nat:=(PP-1) / 3
def sx:Nat:=(PP-1) / 6
theorem GX:3*th=PP-1:=by decide+kernel
theorem sx_val:6*sx+1=PP:=by decide+kernel
theorem CI{n:Nat}(h:zp n=1)(hn:n<PP):n=1:=by
 have:=congrArg Fin.val h
 rw[fQ,Nat.mod_eq_of_lt hn,show (1:Zp).val=1 % PP from rfl,Nat.mod_eq_of_lt pr_p.1]at this
 exact this
theorem PA:pm 2 PP (64*6) th≠1∧pm 2 PP (64*6) th<PP:=by decide+kernel
theorem Od:pm 2 PP (64*6) hf≠1∧pm 2 PP (64*6) hf<PP:=by decide+kernel
theorem UX:zp 2^th≠1:=fun h=>by
 rw[Cz 2 th (64*6) (GI eH (by have:=GX;have:=mw;omega))]at h
 exact PA.1 (CI h PA.2)
theorem GT:zp 2^hf≠1:=fun h=>by
 rw[Cz 2 hf (64*6) (GI eH (by have:=mO;have:=mw;omega))]at h
 exact Od.1 (CI h Od.2)
theorem Gc:nm2 XI=zp 2:=by
 simp only[nm2,XI];rw[oU];exact Hh.2.symm
theorem CY(s:W2):R2.mul s (R2.mul s s)≠XI:=fun h=>by
 have e:nm2 s*(nm2 s*nm2 s)=zp 2:=by rw[←g8,←g8,←Gc];exact congrArg nm2 h
 have e3:nm2 s^3=zp 2:=by rw[←e];grind
 have hn:nm2 s≠0:=fun h0=>rE (by rw[←e,h0,i1,i1])
 exact UX (by rw[←e3,←G7,GX,fermat hn])
theorem aae(s:W2):R2.mul s s≠XI:=fun h=>by
 have e:IsQ (zp 2):=by rw[←Gc];exact fM h
 rcases (jn _).1 e with h|h
 ·exact rE h
 ·exact GT h
theorem fd6:Fd K6:=QT fd2 CY
theorem YO:cnm R2 XI VV=XI:=by decide+kernel
theorem UP(s:W6):K6.mul s s≠VV:=fun h=>by
 have e:=MB R2 XI s s
 rw[show IE R2 XI s s=VV from h,YO]at e
 exact aae _ e.symm
/-! ### The power of p -/
theorem My:K12.nat PP=K12.zero:=by
 have e2:R2.nat PP=R2.zero:=(Au PP).trans (by rw[mW];rfl)
 have e6:K6.nat PP=K6.zero:=(Mk (R:=R2) (z:=XI) PP).trans (by rw[e2];rfl)
 exact (JN (R:=K6) (z:=VV) PP).trans (by rw[e6];rfl)
theorem jX(x y:W12):K12.pw (K12.add x y) PP=K12.add (K12.pw x PP) (K12.pw y PP):=K12.frob pr_p My x y
def em(c:W2):W12:=((c,ze2,ze2),(ze2,ze2,ze2))
def wk(k:Nat):W12:=K12.pw ((ze2,ze2,ze2),(on2,ze2,ze2)) k
theorem fL(a b:W2):K12.mul (em a) (em b)=em (ml2 a b):=Prod.ext (Prod.ext (zx R2 [a,b,XI] 0x4456758451151145145115845115115845244511511511514451151158511 0x567) (Prod.ext (zx R2 [a,b,XI] 0x4445615175851144514451151158511524511584511511585144511511511 0x1) (zx R2 [a,b,XI] 0x444561511517445144511511511524451151158511514511584511511 0x1))) (Prod.ext (zx R2 [a,b,XI] 0x445615845115114517584511511 0x1) (Prod.ext (zx R2 [a,b,XI] 0x444561511585114451151758511 0x1) (zx R2 [a,b,XI] 0x44456151151144511511517 0x1)))
theorem xe(c:W2): ∀n,K12.pw (em c) n=em (pw2 c n)
 |0=>rfl
 |n+1=>by
  rw[Rg.pw,xe c n,fL,ou]
theorem wk0:wk 0=((on2,ze2,ze2),(ze2,ze2,ze2)):=by decide+kernel
theorem wk1:wk 1=((ze2,ze2,ze2),(on2,ze2,ze2)):=by decide+kernel
theorem wk2:wk 2=((ze2,on2,ze2),(ze2,ze2,ze2)):=by decide+kernel
theorem wk3:wk 3=((ze2,ze2,ze2),(ze2,on2,ze2)):=by decide+kernel
theorem wk4:wk 4=((ze2,ze2,on2),(ze2,ze2,ze2)):=by decide+kernel
theorem wk5:wk 5=((ze2,ze2,ze2),(ze2,ze2,on2)):=by decide+kernel
theorem wk6:wk 6=em XI:=by decide+kernel
theorem tE(c0 c1 c2 c3 c4 c5:W2):K12.add (K12.add (K12.add (K12.add (K12.add (K12.mul (em c0) (wk 0)) (K12.mul (em c1) (wk 1))) (K12.mul (em c2) (wk 2))) (K12.mul (em c3) (wk 3))) (K12.mul (em c4) (wk 4))) (K12.mul (em c5) (wk 5))=((c0,c2,c4),(c1,c3,c5)):=by
 rw[wk0,wk1,wk2,wk3,wk4,wk5]
 exact Prod.ext (Prod.ext (zx R2 [c0,c1,c2,c3,c4,c5,XI] 0x44444445625c451151145145115c45115115c4524451151151151445115115c511445715c451151145145125c45115115c4524451151151251445115125c511445815c451151245145115c45115115c4524451151151151445115115c511445915c451151145145115c45115125c4524451151251151445125115c511445a15c451251145145115c45115115c4524451151151151445115115c511445b15c451151145145115c45125115c4524451251151151445115115c512 0x6) (Prod.ext (zx R2 [c0,c1,c2,c3,c4,c5,XI] 0x444444445615125c5114451445115115c5115245115c45115115c51445115115114445715115c5114451445115125c5115245125c45115115c51445115115124445825115c5114451445115115c5115245115c45115115c51445115115114445915115c5114451445125115c5115245115c45115125c51445115125114445a15115c5124451445115115c5115245115c45115115c51445115115114445b15115c5114451445115115c5125245115c45125115c5144512511511 0x8) (zx R2 [c0,c1,c2,c3,c4,c5,XI] 0x4444444456151151244514451151151152445115115c5115145115c451151144457151151144514451151151252445115125c5115145125c451151144458151251144514451151151152445115115c5115145115c451151144459151151144514451151251152445125115c5115145115c45115124445a251151144514451151151152445115115c5115145115c45115114445b151151144514451251151152445115115c5125145115c4512511 0xa))) (Prod.ext (zx R2 [c0,c1,c2,c3,c4,c5,XI] 0x44444445615c451151145125c4511511445725c451151145115c4511511445815c451151145115c4511512445915c451151245115c4511511445a15c451151145115c4512511445b15c451251145115c4511511 0x7) (Prod.ext (zx R2 [c0,c1,c2,c3,c4,c5,XI] 0x444444445615115c511445115125c5114445715125c511445115115c5114445815115c511445125115c5114445925115c511445115115c5114445a15115c511445115115c5124445b15115c512445115115c511 0x9) (zx R2 [c0,c1,c2,c3,c4,c5,XI] 0x44444444561511511445115115124445715115124451151151144458151151144511512511444591512511445115115114445a1511511445125115114445b251151144511511511 0xb)))
def GA:W2:=pw2 XI sx
theorem OC:K12.pw (wk 1) PP=K12.mul (em GA) (wk 1):=by
 have e:K12.pw (wk 1) PP=K12.pw (wk 1) (6*sx+1):=congrArg (fun n=>K12.pw (wk 1) n) sx_val.symm
 have e1:wk 1=((ze2,ze2,ze2),(on2,ze2,ze2)):=wk1
 have e6:K12.pw (wk 1) 6=em XI:=by rw[e1];exact wk6
 rw[e,K12.pw_add,K12.pw_mul,e6,xe,K12.pw_one];rfl
theorem ZG(k:Nat):K12.pw (wk k) PP=K12.mul (em (pw2 GA k)) (wk k):=by
 have e1:wk 1=((ze2,ze2,ze2),(on2,ze2,ze2)):=wk1
 have e:wk k=K12.pw (wk 1) k:=by rw[e1];rfl
 rw[e,←K12.pw_mul,Nat.mul_comm,K12.pw_mul,OC,K12.mul_pw,xe]
theorem lT(c:W2)(k:Nat):K12.pw (K12.mul (em c) (wk k)) PP=K12.mul (em (ml2 (cj2 c) (pw2 GA k))) (wk k):=by
 rw[K12.mul_pw,xe,Fq,ZG,←K12.mul_assoc,fL]
def cD(x:W12):W12:=((ml2 (cj2 x.1.1) (pw2 GA 0),ml2 (cj2 x.1.2.1) (pw2 GA 2),ml2 (cj2 x.1.2.2) (pw2 GA 4)),(ml2 (cj2 x.2.1) (pw2 GA 1),ml2 (cj2 x.2.2.1) (pw2 GA 3),ml2 (cj2 x.2.2.2) (pw2 GA 5)))
theorem gU(x:W12):K12.pw x PP=cD x:=by
 have h:=tE x.1.1 x.2.1 x.1.2.1 x.2.2.1 x.1.2.2 x.2.2.2
 have e:K12.pw x PP=K12.pw ((x.1.1,x.1.2.1,x.1.2.2),(x.2.1,x.2.2.1,x.2.2.2)) PP:=rfl
 rw[e,←h,jX,jX,jX,jX,jX,lT,lT,lT,lT,lT,lT,tE]
 rfl
/-! ### Six parts, as the reference multiplies them -/
def tq(f:Nat→W2):W12:=((f 0,f 2,f 4),(f 1,f 3,f 5))
theorem txi{ρ:Nat→W2}{p:Po}{a:W2}(k:Nat)(ha:R2.d ρ p=a)(hk:ρ k=XI):R2.d ρ (kM p (pv k))=xi2 a:=by rw[R2.d_mul,ha,R2.d_var,hk];exact (I0 a).symm
theorem tsb{ρ:Nat→W2}{p q:Po}{a b:W2}(ha:R2.d ρ p=a)(hb:R2.d ρ q=b):R2.d ρ (iG p (mp q))=sb2 a b:=by rw[R2.d_add,R2.d_neg,ha,hb,nT];rfl
end
section
section
variable {α:Type} [DecidableEq α] (C:Ec α)
def Ec.jm(J:α×α×α):List Bool→α×α×α→α×α×α
 |[],A=>A
 |b::r,A=>Ec.jm J r (if b then C.jaF (C.jdF A) J else C.jdF A)
def ls:List Bool→Nat→Nat
 |[],n=>n
 |b::r,n=>ls r (2*n+(if b then 1 else 0))
theorem Ec.jr_m{J:α×α×α}{P:Pt α}(hP:C.onP P)(h:C.jr J P): ∀(l:List Bool) (A:α×α×α) (n:Nat),C.jr A (C.times P n)→C.jr (C.jm J l A) (C.times P (ls l n))
 |[],_,_,hA=>hA
 |b::r,A,n,hA=>by
  have hd:=C.jr_d (C.times_on hP n) hA
  rw[←C.times_add hP,←Nat.two_mul]at hd
  cases b with
  |false=>exact Ec.jr_m hP h r _ _ hd
  |true=>
   have ha:=C.jr_a (C.times_on hP (2*n)) hP hd h
   exact Ec.jr_m hP h r _ (2*n+1) ha
end
/-! ### Over p -/
def RZp:Rg Zp where
 zero:=0
 one:=1
 add:=fun a b=>a+b
 mul:=fun a b=>a*b
 neg:=fun a=> -a
 add_assoc:=fun a b c=>by grind
 add_comm:=fun a b=>by grind
 add_zero:=fun a=>by grind
 add_neg:=fun a=>by grind
 mul_assoc:=fun a b c=>by grind
 mul_comm:=fun a b=>by grind
 mul_one:=fun a=>by grind
 mul_add:=fun a b c=>by grind
def E1:Ec Zp where
 R:=RZp
 iv:=fun a=>a^(PP-2)
 b:=zp 4
 hi:=fun _ h=>oe h
 h2:=by decide+kernel
 h3:=by decide+kernel
 hb:=by decide+kernel
def E1w:Ec W2 where
 R:=R2
 iv:=iv2
 b:=(zp 4,0)
 hi:=fun _ h=>dh h
 h2:=by decide+kernel
 h3:=by decide+kernel
 hb:=by decide+kernel
def E2w:Ec W2 where
 R:=R2
 iv:=iv2
 b:=(zp 4,zp 4)
 hi:=fun _ h=>dh h
 h2:=by decide+kernel
 h3:=by decide+kernel
 hb:=by decide+kernel
def G1x:Nat:=0x17f1d3a73197d7942695638c4fa9ac0fc3688c4f9774b905a14e3a3f171bac586c55e83ff97a1aeffb3af00adb22c6bb
def G1y:Nat:=0x8b3f481e3aaa0f1a09e30ed741d8ae4fcf5e095d5d00af600db18cb2c04b3edd03cc744a2888ae40caa232946c5e7e1
def G1p:Zp×Zp:=(zp G1x,zp G1y)
theorem qb:E1.on G1p:=by
 unfold Ec.on
 decide+kernel
def ORD:Nat:=0x73eda753299d7d483339d80809a1d80553bda402fffe5bfeffffffff00000001
def cU:Nat→Nat→List Bool→List Bool
 |0,_,l=>l
 |f+1,n,l=>cU f (n / 2) ((n % 2==1)::l)
theorem CJ:ls (cU 255 ORD []) 0=ORD:=by decide+kernel
theorem g1_z:(E1.jm (zp G1x,zp G1y,1) (cU 255 ORD []) (0,0,0)).2.2=0:=by decide+kernel
theorem wD:E1.jr (zp G1x,zp G1y,1) (some G1p):=⟨ko,by decide+kernel,by decide+kernel⟩
theorem Nm{α:Type}(C:Ec α){J:α×α×α}{P:Pt α}(h:C.jr J P)(hz:J.2.2=C.R.zero):P=none:=by
 cases P with
 |none=>rfl
 |some p=>exact absurd hz h.1
theorem CC{α:Type} [DecidableEq α](C:Ec α){J:α×α×α}{P:Pt α}(hP:C.onP P)(h:C.jr J P)(l:List Bool){n:Nat}(hn:ls l 0=n)(hz:(C.jm J l (C.R.zero,C.R.zero,C.R.zero)).2.2=C.R.zero):C.times P n=none:=by
 have k:=C.jr_m hP h l (C.R.zero,C.R.zero,C.R.zero) 0 (show C.R.zero=C.R.zero from rfl)
 rw[hn]at k
 exact Nm C k hz
theorem lH:E1.times (some G1p) ORD=none:=CC E1 (P:=some G1p) qb wD (cU 255 ORD []) CJ g1_z
end
section
structure Em{α β:Type}(C:Ec α)(D:Ec β) where
 f:α→β
 h0:f C.R.zero=D.R.zero
 ha: ∀a b,f (C.R.add a b)=D.R.add (f a) (f b)
 hm: ∀a b,f (C.R.mul a b)=D.R.mul (f a) (f b)
 hn: ∀a,f (C.R.neg a)=D.R.neg (f a)
 hi: ∀a b,f a=f b→a=b
 hb:f C.b=D.b
section
variable {α β:Type} {C:Ec α} {D:Ec β} (e:Em C D)
def Em.q(p:α×α):β×β:=(e.f p.1,e.f p.2)
def Em.p:Pt α→Pt β
 |none=>none
 |some p=>some (e.q p)
theorem Em.sub(a b:α):e.f (C.sub a b)=D.sub (e.f a) (e.f b):=by rw[Ec.sub,Ec.sub,e.ha,e.hn]
theorem Em.on{p:α×α}(h:C.on p):D.on (e.q p):=by
 have:=congrArg e.f h
 rw[e.hm,e.ha,e.hm,e.hm,e.hb]at this
 exact this
theorem Em.onP{P:Pt α}(h:C.onP P):D.onP (e.p P):=by
 cases P with
 |none=>trivial
 |some p=>exact e.on h
theorem Em.sl{p q:α×α}{s:α}(h:C.Sl p q s):D.Sl (e.q p) (e.q q) (e.f s):=by
 have h1:=congrArg e.f h.1
 have h2:=congrArg e.f h.2
 rw[e.hm,e.sub,e.sub]at h1
 rw[e.hm,e.ha,e.ha,e.ha,e.hm,e.hm,e.hm]at h2
 exact ⟨h1,h2⟩
theorem Em.opp{p q:α×α}:D.opp (e.q p) (e.q q)↔C.opp p q:=
 ⟨fun h=>⟨e.hi _ _ h.1,e.hi _ _ (by rw[e.ha,e.h0];exact h.2)⟩,fun h=>⟨congrArg e.f h.1,by
  have:=congrArg e.f h.2
  rw[e.ha,e.h0]at this
  exact this⟩⟩
theorem Em.th(p q:α×α)(s:α):D.th (e.q p) (e.q q) (e.f s)=e.q (C.th p q s):=by
 have hx:D.x3 (e.q p) (e.q q) (e.f s)=e.f (C.x3 p q s):=by rw[Ec.x3,Ec.x3,e.sub,e.sub,e.hm];rfl
 refine Prod.ext hx ?_
 show D.sub (D.R.mul (e.f s) (D.sub (e.f p.1) (D.x3 (e.q p) (e.q q) (e.f s)))) (e.f p.2)=e.f (C.sub (C.R.mul s (C.sub p.1 (C.x3 p q s))) p.2)
 rw[hx,e.sub,e.hm,e.sub]
end
section
variable {α β:Type} [DecidableEq α] [DecidableEq β] {C:Ec α} {D:Ec β} (e:Em C D)
theorem Em.ad{P Q:Pt α}(hP:C.onP P)(hQ:C.onP Q):e.p (C.ad P Q)=D.ad (e.p P) (e.p Q):=by
 cases P with
 |none=>rfl
 |some p=>
  cases Q with
  |none=>rw[C.ad_nr];exact (D.ad_nr _).symm
  |some q=>
   by_cases ho:C.opp p q
   ·rw[C.ad_opp ho];exact (D.ad_opp (e.opp.2 ho)).symm
   ·obtain ⟨s,hs⟩:=C.sl_is hP hQ ho
    rw[C.ad_sl hP hQ ho hs]
    exact ((D.ad_sl (e.on hP) (e.on hQ) (fun h=>ho (e.opp.1 h)) (e.sl hs)).trans (congrArg some (e.th p q s))).symm
theorem Em.times{P:Pt α}(hP:C.onP P): ∀n,e.p (C.times P n)=D.times (e.p P) n
 |0=>rfl
 |n+1=>by
  show e.p (C.ad (C.times P n) P)=D.ad (D.times (e.p P) n) (e.p P)
  rw[e.ad (C.times_on hP n) hP,Em.times hP n]
end
theorem Pj(a:Zp):a-0=a:=by grind
theorem wR(a:Zp):a+0=a:=by grind
theorem z_n0': -(0:Zp)=0:=m6.2 rfl
theorem zz(a b:Zp):ml2 (a,0) (b,0)=(a*b,0):=Prod.ext (by simp only[ml2];rw[i1,Pj]) (by simp only[ml2];rw[i1,qz,wR])
def em1:Em E1 E1w where
 f:=fun a=>(a,0)
 h0:=rfl
 ha:=fun _ _=>Prod.ext rfl (wR 0).symm
 hm:=fun a b=>(zz a b).symm
 hn:=fun _=>Prod.ext rfl z_n0'.symm
 hi:=fun _ _ h=>congrArg Prod.fst h
 hb:=rfl
end
section
section
variable {α:Type} (C:Ec α)
theorem Ec.jr_z{J:α×α×α}{P:Pt α}(h:C.jr J P):J.2.2=C.R.zero↔P=none:=by
 cases P with
 |none=>exact ⟨fun _=>rfl,fun _=>h⟩
 |some p=>exact ⟨fun e=>absurd e h.1,fun e=>by cases e⟩
theorem Ec.sc2(a z c:α):C.R.mul (C.R.mul a (C.z2 z)) (C.z2 c)=C.R.mul a (C.z2 (C.R.mul z c)):=zx C.R [a,z,c] 0x556577588 0x565578578
theorem Ec.sc3(a z c:α):C.R.mul (C.R.mul a (C.z3 z)) (C.z3 c)=C.R.mul a (C.z3 (C.R.mul z c)):=zx C.R [a,z,c] 0x5565577755888 0x5655578578578
theorem Ec.jr_at(p:α×α)(h1:C.R.one≠C.R.zero):C.jr (p.1,p.2,C.R.one) (some p):=by
 refine ⟨h1, ?_, ?_⟩
 ·show p.1=C.R.mul p.1 (C.R.mul C.R.one C.R.one)
  rw[C.R.mul_one,C.R.mul_one]
 ·show p.2=C.R.mul p.2 (C.R.mul (C.R.mul C.R.one C.R.one) C.R.one)
  rw[C.R.mul_one,C.R.mul_one,C.R.mul_one]
theorem Ec.jr_xy{J:α×α×α}{p:α×α}(h:C.jr J (some p)):C.R.mul J.1 (C.z2 (C.iv J.2.2))=p.1∧C.R.mul J.2.1 (C.z3 (C.iv J.2.2))=p.2:=by
 have e:=C.hi _ h.1
 refine ⟨?_, ?_⟩
 ·rw[h.2.1,C.sc2,e,Ec.z2,C.R.mul_one,C.R.mul_one]
 ·rw[h.2.2,C.sc3,e,Ec.z3,C.R.mul_one,C.R.mul_one,C.R.mul_one]
end
section
variable {α:Type} [DecidableEq α] (C:Ec α)
theorem Ec.times_comm{P:Pt α}(hP:C.onP P)(m n:Nat):C.times (C.times P m) n=C.times (C.times P n) m:=by
 rw[←C.times_mul hP,←C.times_mul hP,Nat.mul_comm]
theorem Ec.times_ord{P:Pt α}(hP:C.onP P){r:Nat}(h:C.times P r=none)(k:Nat):C.times (C.times P k) r=none:=by
 rw[C.times_comm hP,h,C.times_none]
theorem Ec.dbl_times{P:Pt α}(hP:C.onP P)(n:Nat):C.ad (C.times P n) (C.times P n)=C.times P (2*n):=by rw[←C.times_add hP,Nat.two_mul]
end
def RJ:Pt Zp→W6
 |none=>(ze2,ze2,ze2)
 |some p=>((p.1,0),(p.2,0),on2)
theorem Yx(P:Pt Zp):E1w.jr (RJ P) (em1.p P):=by
 cases P with
 |none=>rfl
 |some p=> 
  refine ⟨fun h=>absurd (congrArg Prod.fst h) ko, ?_, ?_⟩
  ·show ((p.1,0):W2)=R2.mul (p.1,0) (R2.mul R2.one R2.one)
   rw[R2.mul_one,R2.mul_one]
  ·show ((p.2,0):W2)=R2.mul (p.2,0) (R2.mul (R2.mul R2.one R2.one) R2.one)
   rw[R2.mul_one,R2.mul_one,R2.mul_one]
end
section
open Go.RowKit
attribute [local simp] a7 bv aJ aB aQ a5 aT aK aO bf bC a6 bz
theorem ent22:ak prog 22:=fun _ _=>kr
theorem ent106:ak prog 106:=fun _ _=>kr
theorem ent52:ak prog 52:=fun _ _=>kr
theorem ent40:ak prog 40:=fun _ _=>kr
theorem ent18:ak prog 18:=fun _ _=>kr
theorem ent157:ak prog 157:=fun _ _=>kr
abbrev EV6(x:W6):Value:=aM ((fe (x.1).1++fe (x.1).2)++((fe (x.2.1).1++fe (x.2.1).2)++(fe (x.2.2).1++fe (x.2.2).2)))
theorem zv43(w:World):(zeroValue 43).run prog w=.ok (aM ((fe 0++fe 0)++((fe 0++fe 0)++(fe 0++fe 0)))) w:=by rw[jw];exact (zeroValue43 w).trans rr
theorem ND:Three prog 43 ⟨ "X",41,0,false, "", "",0⟩ ⟨ "Y",41,12,false, "", "",96⟩ ⟨ "Z",41,24,false, "", "",192⟩ 12 (fe 0++fe 0) (fe 0++fe 0) (fe 0++fe 0):=⟨underlying43,rfl,rfl,rfl,sizeOf41,sizeOf41,sizeOf41,zv43,sm,sm,sm⟩
def q6:Sh W6:=q2.two (q2.two q2 2) 2
theorem V6(x:W6):EV6 x=dn rid (.inl [x.1.1,x.1.2,x.2.1.1,x.2.1.2,x.2.2.1,x.2.2.2]):=by
 show Value.agg _=Value.agg _
 rw[clv,show cel [x.1.1,x.1.2,x.2.1.1,x.2.1.2,x.2.2.1,x.2.2.2]=fe x.1.1++(fe x.1.2++(fe x.2.1.1++(fe x.2.1.2++(fe x.2.2.1++fe x.2.2.2))))from rfl]
 rw[List.append_assoc,List.append_assoc]
theorem bZ{f:Nat}{a a':List Value}{v v':Value}(ha:a=a')(hv:v=v')(h:PUR f a' v'):PUR f a v:=by rw[ha,hv];exact h
theorem l1{a b:Value}(h:a=b):[a]=[b]:=by rw[h]
theorem l2{a b c d:Value}(h:a=b)(k:c=d):[a,c]=[b,d]:=by rw[h,k]
theorem t2{a b c:Value}(h:a=b):Value.tuple #[a,c]=.tuple #[b,c]:=by rw[h]
theorem Re(x y:W2):PUR 90 [EV2 x,EV2 y] (EV2 (E1w.sub x y)):=by
 have h:=Pd x y
 rw[nT]at h
 exact h
def sm2(a b:BitVec 64):W2:=(zp a.toNat,zp b.toNat)
def TO53:Tb prog Gt:=TO52.add (cR (g:=E1w.sub) ent90 Re)
theorem CA(a b:BitVec 64):PUR 157 [U64 a,U64 b] (EV2 (sm2 a b)):=by
 intro w hw
 refine Hf func157 rfl hw<|fun hGF=>Xp<|Al 4 hGF zv41<|fun b4=>aa<|Xp<|Mv rfl<|Ca rfl (iM _)<|Mv rfl<|Ca rfl (iM _)<|cv s7 rfl rfl sm sm rfl rfl<|Sa 4 hGF rfl rfl rfl bI<|aa<|am<|Rr<|?_
 exact av 4 rfl rfl rfl isAgg41 sizeOf41 sm (fun w hw=>⟨rfl,ac hw⟩)
theorem sn{f:Nat}{g:BitVec 64→BitVec 64→W2}(en:ak prog f)(h: ∀a b,PUR f [U64 a,U64 b] (EV2 (g a b))):Snd prog Gt f (c2 agU agU q2.rd g):=gK agU agU q2.rd en h
def TO54:Tb prog Gt:=TO53.add (sn (g:=sm2) ent157 CA)
theorem mE(x:W6):PUR 22 [EV6 x] (.bool (decide (x.2.2=ze2))):=(bZ (l1 (V6 _)) rfl (pE TO54 func22 [.inl [x.1.1,x.1.2,x.2.1.1,x.2.1.2,x.2.2.1,x.2.2.2]] (.inl (.inr (.inl (decide (x.2.2=ze2))))) (.inl (.inr (.inl (decide ((x.2.2.1,x.2.2.2)=ze2)))),[]) [] kr aE rfl))
theorem tK{f:Nat}{g:W6→Bool}(en:ak prog f)(h: ∀a,PUR f [EV6 a] (.bool (g a))):Snd prog Gt f (c1 q6.ag rdB g):=gI q6.ag rdB en (fun a=>bZ (l1 (V6 _).symm) rfl (h a))
def TO55:Tb prog Gt:=TO54.add (tK (g:=fun x=>decide (x.2.2=ze2)) ent22 mE)
theorem WJ(a b:W2):PUR 106 [EV2 a,EV2 b] (EV6 (a,b,on2)):=(bZ rfl (V6 _) (pE TO55 func106 [.inl [a.1,a.2],.inl [b.1,b.2]] (.inl (.inl [(a,b,on2).1.1,(a,b,on2).1.2,(a,b,on2).2.1.1,(a,b,on2).2.1.2,(a,b,on2).2.2.1,(a,b,on2).2.2.2])) (let t0:=on2;(.inl (.inl [a.1,a.2,b.1,b.2,t0.1,t0.2]),[])) [] kr aE rfl))
theorem kQ{f:Nat}{g:W2→W2→W6}(en:ak prog f)(h: ∀a b,PUR f [EV2 a,EV2 b] (EV6 (g a b))):Snd prog Gt f (c2 q2.ag q2.ag q6.rd g):=gK q2.ag q2.ag q6.rd en (fun a b=>bZ rfl (V6 _).symm (h a b))
def TO56:Tb prog Gt:=TO55.add (kQ (g:=fun a b=>(a,b,on2)) ent106 WJ)
theorem cO{f:Nat}{g:W6→W6}(en:ak prog f)(h: ∀a,PUR f [EV6 a] (EV6 (g a))):Snd prog Gt f (c1 q6.ag q6.rd g):=gI q6.ag q6.rd en (fun a=>bZ (l1 (V6 _).symm) (V6 _).symm (h a))
theorem wL(x:W6):PUR 52 [EV6 x] (EV6 (E1w.jdF x)):=by
 by_cases h:x.2.2=ze2
 ·exact (bZ (l1 (V6 _)) (V6 _) (pE TO56 func52 [.inl [x.1.1,x.1.2,x.2.1.1,x.2.1.2,x.2.2.1,x.2.2.2]] (.inl (.inl [(E1w.jdF x).1.1,(E1w.jdF x).1.2,(E1w.jdF x).2.1.1,(E1w.jdF x).2.1.2,(E1w.jdF x).2.2.1,(E1w.jdF x).2.2.2])) (.inl (.inl [0,0,0,0,0,0]),[(decide (x.2.2=ze2),true)]) [some true] kr (ap (decide_eq_true h) aE) (by rw[show E1w.jdF x=(ze2,ze2,ze2)from if_pos (.inl h)]<;>exact rfl)))
 ·by_cases h2:x.2.1=ze2
  ·exact (bZ (l1 (V6 _)) (V6 _) (pE TO56 func52 [.inl [x.1.1,x.1.2,x.2.1.1,x.2.1.2,x.2.2.1,x.2.2.2]] (.inl (.inl [(E1w.jdF x).1.1,(E1w.jdF x).1.2,(E1w.jdF x).2.1.1,(E1w.jdF x).2.1.2,(E1w.jdF x).2.2.1,(E1w.jdF x).2.2.2])) (.inl (.inl [0,0,0,0,0,0]),[(decide (x.2.2=ze2),false),(decide ((x.2.1.1,x.2.1.2)=ze2),true)]) [some false,some true] kr (ap (decide_eq_false h) (ap (decide_eq_true h2) aE)) (by rw[show E1w.jdF x=(ze2,ze2,ze2)from if_pos (.inr h2)]<;>exact rfl)))
  ·exact (bZ (l1 (V6 _)) (V6 _) (pE TO56 func52 [.inl [x.1.1,x.1.2,x.2.1.1,x.2.1.2,x.2.2.1,x.2.2.2]] (.inl (.inl [(E1w.jdF x).1.1,(E1w.jdF x).1.2,(E1w.jdF x).2.1.1,(E1w.jdF x).2.1.2,(E1w.jdF x).2.2.1,(E1w.jdF x).2.2.2])) (let t0:=ml2 (x.1.1,x.1.2) (x.1.1,x.1.2);let t1:=ml2 (x.2.1.1,x.2.1.2) (x.2.1.1,x.2.1.2);let t2:=ml2 (x.1.1,x.1.2) (t1.1,t1.2);let t3:=ad2 (t2.1,t2.2) (t2.1,t2.2);let t4:=ad2 (t3.1,t3.2) (t3.1,t3.2);let t5:=ad2 (t0.1,t0.2) (t0.1,t0.2);let t6:=ad2 (t5.1,t5.2) (t0.1,t0.2);let t7:=ml2 (t6.1,t6.2) (t6.1,t6.2);let t8:=E1w.sub (t7.1,t7.2) (t4.1,t4.2);let t9:=E1w.sub (t8.1,t8.2) (t4.1,t4.2);let t10:=ml2 (t1.1,t1.2) (t1.1,t1.2);let t11:=ad2 (t10.1,t10.2) (t10.1,t10.2);let t12:=ad2 (t11.1,t11.2) (t11.1,t11.2);let t13:=ad2 (t12.1,t12.2) (t12.1,t12.2);let t14:=ml2 (x.2.1.1,x.2.1.2) (x.2.2.1,x.2.2.2);let t15:=E1w.sub (t4.1,t4.2) (t9.1,t9.2);let t16:=ml2 (t6.1,t6.2) (t15.1,t15.2);let t17:=E1w.sub (t16.1,t16.2) (t13.1,t13.2);let t18:=ad2 (t14.1,t14.2) (t14.1,t14.2);(.inl (.inl [t9.1,t9.2,t17.1,t17.2,t18.1,t18.2]),[(decide (x.2.2=ze2),false),(decide ((x.2.1.1,x.2.1.2)=ze2),false)])) [some false,some false] kr (ap (decide_eq_false h) (ap (decide_eq_false h2) aE)) (by rw[show E1w.jdF x=E1w.jd x.1 x.2.1 x.2.2 from if_neg (fun e=>e.elim h h2)]<;>exact rfl)))
def TO58:Tb prog Gt:=TO56.add (cO (g:=E1w.jdF) ent52 wL)
theorem JR(x y:W6):PUR 40 [EV6 x,EV6 y] (EV6 (E1w.jaF x y)):=by
 by_cases h1:x.2.2=ze2
 ·exact (bZ (l2 (V6 _) (V6 _)) (V6 _) (pE TO58 func40 [.inl [x.1.1,x.1.2,x.2.1.1,x.2.1.2,x.2.2.1,x.2.2.2],.inl [y.1.1,y.1.2,y.2.1.1,y.2.1.2,y.2.2.1,y.2.2.2]] (.inl (.inl [(E1w.jaF x y).1.1,(E1w.jaF x y).1.2,(E1w.jaF x y).2.1.1,(E1w.jaF x y).2.1.2,(E1w.jaF x y).2.2.1,(E1w.jaF x y).2.2.2])) (.inl (.inl [y.1.1,y.1.2,y.2.1.1,y.2.1.2,y.2.2.1,y.2.2.2]),[(decide (x.2.2=ze2),true)]) [some true] kr (ap (decide_eq_true h1) aE) (by rw[show E1w.jaF x y=y from if_pos h1]<;>exact rfl)))
 ·by_cases h2:y.2.2=ze2
  ·exact (bZ (l2 (V6 _) (V6 _)) (V6 _) (pE TO58 func40 [.inl [x.1.1,x.1.2,x.2.1.1,x.2.1.2,x.2.2.1,x.2.2.2],.inl [y.1.1,y.1.2,y.2.1.1,y.2.1.2,y.2.2.1,y.2.2.2]] (.inl (.inl [(E1w.jaF x y).1.1,(E1w.jaF x y).1.2,(E1w.jaF x y).2.1.1,(E1w.jaF x y).2.1.2,(E1w.jaF x y).2.2.1,(E1w.jaF x y).2.2.2])) (.inl (.inl [x.1.1,x.1.2,x.2.1.1,x.2.1.2,x.2.2.1,x.2.2.2]),[(decide (x.2.2=ze2),false),(decide (y.2.2=ze2),true)]) [some false,some true] kr (ap (decide_eq_false h1) (ap (decide_eq_true h2) aE)) (by rw[show E1w.jaF x y=x from (if_neg h1).trans (if_pos h2)]<;>exact rfl)))
  ·by_cases h3:E1w.jh x.1 x.2.2 y.1 y.2.2=ze2
   ·by_cases h4:E1w.jq x.2.1 x.2.2 y.2.1 y.2.2=ze2
    ·exact (bZ (l2 (V6 _) (V6 _)) (V6 _) (pE TO58 func40 [.inl [x.1.1,x.1.2,x.2.1.1,x.2.1.2,x.2.2.1,x.2.2.2],.inl [y.1.1,y.1.2,y.2.1.1,y.2.1.2,y.2.2.1,y.2.2.2]] (.inl (.inl [(E1w.jaF x y).1.1,(E1w.jaF x y).1.2,(E1w.jaF x y).2.1.1,(E1w.jaF x y).2.1.2,(E1w.jaF x y).2.2.1,(E1w.jaF x y).2.2.2])) (let t0:=ml2 (x.2.2.1,x.2.2.2) (x.2.2.1,x.2.2.2);let t1:=ml2 (y.2.2.1,y.2.2.2) (y.2.2.1,y.2.2.2);let t2:=ml2 (x.1.1,x.1.2) (t1.1,t1.2);let t3:=ml2 (y.1.1,y.1.2) (t0.1,t0.2);let t4:=ml2 (x.2.1.1,x.2.1.2) (t1.1,t1.2);let t5:=ml2 (t4.1,t4.2) (y.2.2.1,y.2.2.2);let t6:=ml2 (y.2.1.1,y.2.1.2) (t0.1,t0.2);let t7:=ml2 (t6.1,t6.2) (x.2.2.1,x.2.2.2);let t8:=E1w.sub (t3.1,t3.2) (t2.1,t2.2);let t9:=E1w.sub (t7.1,t7.2) (t5.1,t5.2);let t10:=E1w.jdF x;(.inl (.inl [t10.1.1,t10.1.2,t10.2.1.1,t10.2.1.2,t10.2.2.1,t10.2.2.2]),[(decide (x.2.2=ze2),false),(decide (y.2.2=ze2),false),(decide ((t8.1,t8.2)=ze2),true),(decide ((t9.1,t9.2)=ze2),true)])) [some false,some false,some true,some true] kr (ap (decide_eq_false h1) (ap (decide_eq_false h2) (ap (decide_eq_true h3) (ap (decide_eq_true h4) aE)))) (by rw[show E1w.jaF x y=E1w.jdF x from (if_neg h1).trans ((if_neg h2).trans ((if_pos h3).trans (if_pos h4)))]<;>exact rfl)))
    ·exact (bZ (l2 (V6 _) (V6 _)) (V6 _) (pE TO58 func40 [.inl [x.1.1,x.1.2,x.2.1.1,x.2.1.2,x.2.2.1,x.2.2.2],.inl [y.1.1,y.1.2,y.2.1.1,y.2.1.2,y.2.2.1,y.2.2.2]] (.inl (.inl [(E1w.jaF x y).1.1,(E1w.jaF x y).1.2,(E1w.jaF x y).2.1.1,(E1w.jaF x y).2.1.2,(E1w.jaF x y).2.2.1,(E1w.jaF x y).2.2.2])) (let t0:=ml2 (x.2.2.1,x.2.2.2) (x.2.2.1,x.2.2.2);let t1:=ml2 (y.2.2.1,y.2.2.2) (y.2.2.1,y.2.2.2);let t2:=ml2 (x.1.1,x.1.2) (t1.1,t1.2);let t3:=ml2 (y.1.1,y.1.2) (t0.1,t0.2);let t4:=ml2 (x.2.1.1,x.2.1.2) (t1.1,t1.2);let t5:=ml2 (t4.1,t4.2) (y.2.2.1,y.2.2.2);let t6:=ml2 (y.2.1.1,y.2.1.2) (t0.1,t0.2);let t7:=ml2 (t6.1,t6.2) (x.2.2.1,x.2.2.2);let t8:=E1w.sub (t3.1,t3.2) (t2.1,t2.2);let t9:=E1w.sub (t7.1,t7.2) (t5.1,t5.2);(.inl (.inl [0,0,0,0,0,0]),[(decide (x.2.2=ze2),false),(decide (y.2.2=ze2),false),(decide ((t8.1,t8.2)=ze2),true),(decide ((t9.1,t9.2)=ze2),false)])) [some false,some false,some true,some false] kr (ap (decide_eq_false h1) (ap (decide_eq_false h2) (ap (decide_eq_true h3) (ap (decide_eq_false h4) aE)))) (by rw[show E1w.jaF x y=(ze2,ze2,ze2)from (if_neg h1).trans ((if_neg h2).trans ((if_pos h3).trans (if_neg h4)))]<;>exact rfl)))
   ·exact (bZ (l2 (V6 _) (V6 _)) (V6 _) (pE TO58 func40 [.inl [x.1.1,x.1.2,x.2.1.1,x.2.1.2,x.2.2.1,x.2.2.2],.inl [y.1.1,y.1.2,y.2.1.1,y.2.1.2,y.2.2.1,y.2.2.2]] (.inl (.inl [(E1w.jaF x y).1.1,(E1w.jaF x y).1.2,(E1w.jaF x y).2.1.1,(E1w.jaF x y).2.1.2,(E1w.jaF x y).2.2.1,(E1w.jaF x y).2.2.2])) (let t0:=ml2 (x.2.2.1,x.2.2.2) (x.2.2.1,x.2.2.2);let t1:=ml2 (y.2.2.1,y.2.2.2) (y.2.2.1,y.2.2.2);let t2:=ml2 (x.1.1,x.1.2) (t1.1,t1.2);let t3:=ml2 (y.1.1,y.1.2) (t0.1,t0.2);let t4:=ml2 (x.2.1.1,x.2.1.2) (t1.1,t1.2);let t5:=ml2 (t4.1,t4.2) (y.2.2.1,y.2.2.2);let t6:=ml2 (y.2.1.1,y.2.1.2) (t0.1,t0.2);let t7:=ml2 (t6.1,t6.2) (x.2.2.1,x.2.2.2);let t8:=E1w.sub (t3.1,t3.2) (t2.1,t2.2);let t9:=E1w.sub (t7.1,t7.2) (t5.1,t5.2);let t10:=ml2 (t8.1,t8.2) (t8.1,t8.2);let t11:=ml2 (t10.1,t10.2) (t8.1,t8.2);let t12:=ml2 (t2.1,t2.2) (t10.1,t10.2);let t13:=ml2 (t9.1,t9.2) (t9.1,t9.2);let t14:=E1w.sub (t13.1,t13.2) (t11.1,t11.2);let t15:=E1w.sub (t14.1,t14.2) (t12.1,t12.2);let t16:=E1w.sub (t15.1,t15.2) (t12.1,t12.2);let t17:=E1w.sub (t12.1,t12.2) (t16.1,t16.2);let t18:=ml2 (t9.1,t9.2) (t17.1,t17.2);let t19:=ml2 (t5.1,t5.2) (t11.1,t11.2);let t20:=E1w.sub (t18.1,t18.2) (t19.1,t19.2);let t21:=ml2 (x.2.2.1,x.2.2.2) (y.2.2.1,y.2.2.2);let t22:=ml2 (t21.1,t21.2) (t8.1,t8.2);(.inl (.inl [t16.1,t16.2,t20.1,t20.2,t22.1,t22.2]),[(decide (x.2.2=ze2),false),(decide (y.2.2=ze2),false),(decide ((t8.1,t8.2)=ze2),false)])) [some false,some false,some false] kr (ap (decide_eq_false h1) (ap (decide_eq_false h2) (ap (decide_eq_false h3) aE))) (by rw[show E1w.jaF x y=E1w.ja x.1 x.2.1 x.2.2 y.1 y.2.1 y.2.2 from (if_neg h1).trans ((if_neg h2).trans (if_neg h3))]<;>exact rfl)))
theorem cC{f:Nat}{g:W6→W6→W6}(en:ak prog f)(h: ∀a b,PUR f [EV6 a,EV6 b] (EV6 (g a b))):Snd prog Gt f (c2 q6.ag q6.ag q6.rd g):=gK q6.ag q6.ag q6.rd en (fun a b=>bZ (l2 (V6 _).symm (V6 _).symm) (V6 _).symm (h a b))
def TO59:Tb prog Gt:=TO58.add (cC (g:=E1w.jaF) ent40 JR)
theorem r3{f:Nat}{g:W6→W6→Bool}(en:ak prog f)(h: ∀a b,PUR f [EV6 a,EV6 b] (.bool (g a b))):Snd prog Gt f (c2 q6.ag q6.ag rdB g):=gK q6.ag q6.ag rdB en (fun a b=>bZ (l2 (V6 _).symm (V6 _).symm) rfl (h a b))
end
section
open Go.RowKit
attribute [local simp] a7 bv aJ aB aQ a5 aT aK aO bf bC a6 bz
def RMJ(x:W6)(bs:L8):Nat→W6
 |0=>(ze2,ze2,ze2)
 |i+1=>if dU bs i=1#8 then E1w.jaF (E1w.jdF (RMJ x bs i)) x else E1w.jdF (RMJ x bs i)
theorem Dd{x:W6}{bs:L8}{i:Nat}(h:dU bs i=1#8):RMJ x bs (i+1)=E1w.jaF (E1w.jdF (RMJ x bs i)) x:=if_pos h
theorem CV{x:W6}{bs:L8}{i:Nat}(h: ¬dU bs i=1#8):RMJ x bs (i+1)=E1w.jdF (RMJ x bs i):=if_neg h
theorem E5{x:W6}{P:Pt W2}(hP:E1w.onP P)(hx:E1w.jr x P)(bs:L8): ∀i,E1w.jr (RMJ x bs i) (E1w.times P (BTn bs i))
 |0=>rfl
 |i+1=>by
  have hd:=E1w.jr_d (E1w.times_on hP _) (E5 hP hx bs i)
  rw[E1w.dbl_times hP]at hd
  rcases np bs i with ⟨h,e⟩|⟨h,e⟩
  ·rw[Dd h,BTn,e]
   exact E1w.jr_a (E1w.times_on hP _) hP hd hx
  ·rw[CV h,BTn,e]
   exact hd
theorem VX:nm (zp G1x)=[18103045581585958587#64,7806400890582735599#64,11623291730934869080#64,14080658508445169925#64,2780237799254240271#64,1725392847304644500#64]:=by decide+kernel
theorem Wt:nm (zp G1y)=[912580534683953121#64,15005087156090211044#64,61670280795567085#64,18227722000993880822#64,11573741888802228964#64,627113611842199793#64]:=by decide+kernel
theorem nm_ze:nm 0=List.replicate 6 0#64:=by decide+kernel
theorem abc(a b:Zp):PUR 84 [NV (nm a),NV (nm b)] (EV2 (a,b)):=by
 intro w hw
 refine Hf func84 rfl hw<|fun hGF=>Xp<|Bx 2 hGF rfl<|fun b2=>Bx 3 hGF rfl<|fun b3=>Al 4 hGF zv41<|fun b4=>aa<|Xd []<|La 2 rfl rfl cb<|Ca rfl (MC _)<|La 3 rfl rfl cb<|Ca rfl (MC _)<|cv s7 rfl rfl sm sm rfl rfl<|Sa 4 hGF rfl rfl rfl bI<|aa<|am<|Rr<|?_
 exact av 4 rfl rfl rfl isAgg41 sizeOf41 sm (fun w hw=>⟨rfl,ac hw⟩)
theorem Pf(a b:Zp):PUR 50 [NV (nm a),NV (nm b)] (EV2 (a,b)):=by
 intro w hw
 refine Hf func50 rfl hw<|fun hGF=>Xp<|Bx 2 hGF rfl<|fun b2=>Bx 3 hGF rfl<|fun b3=>Al 4 hGF zv41<|fun b4=>aa<|Xp<|La 2 rfl rfl cb<|La 3 rfl rfl cb<|Ca rfl (abc _ _)<|Sa 4 hGF rfl rfl rfl bI<|aa<|am<|Rr<|?_
 exact av 4 rfl rfl rfl isAgg41 sizeOf41 sm (fun w hw=>⟨rfl,ac hw⟩)
theorem UN:PUR 50 [NV [18103045581585958587#64,7806400890582735599#64,11623291730934869080#64,14080658508445169925#64,2780237799254240271#64,1725392847304644500#64],NV (List.replicate 6 0#64)] (EV2 (zp G1x,0)):=by
 have h:=Pf (zp G1x) 0
 rw[VX,nm_ze]at h
 exact h
theorem Rn:PUR 50 [NV [912580534683953121#64,15005087156090211044#64,61670280795567085#64,18227722000993880822#64,11573741888802228964#64,627113611842199793#64],NV (List.replicate 6 0#64)] (EV2 (zp G1y,0)):=by
 have h:=Pf (zp G1y) 0
 rw[Wt,nm_ze]at h
 exact h
theorem Ik  :PUR 17 [.bool false] (EV6 (RJ (some G1p))):=by
 intro w hw
 refine Hf func17 rfl hw<|fun hGF=>Xp<|Al 2 hGF zv43<|fun b2=>aa<|ah<|Xp<|Mv rfl<|aa<|aC rfl<|aq<|Xp<|bV (n:=6) rfl rfl underlying37 sizeOf24 zeroValue37 rfl rfl rfl rfl<|el zv37 underlying37 sizeOf24 rfl rfl<|Ca rfl (UN)<|bV (n:=6) rfl rfl underlying37 sizeOf24 zeroValue37 rfl rfl rfl rfl<|el zv37 underlying37 sizeOf24 rfl rfl<|Ca rfl (Rn)<|Ca rfl (ow)<|ew ND rfl rfl rfl sm sm sm rfl rfl<|Sa 2 hGF rfl rfl rfl iD<|aa<|am<|Rr<|?_
 exact av 2 rfl rfl rfl isAgg43 sizeOf43 sm (fun w hw=>⟨rfl,ac hw⟩)
theorem wc(x:W6)(e:Option Addr)(cap:Nat)(bs:L8)(hlen:bs.length≤4096)(w:World)(hw:Gt w)(hby:BytesAt w e bs):
 CLS 18 [EV6 x,.slice e bs.length cap].toArray w (fun r w'=>r=.returned (EV6 (RMJ x bs (8*bs.length)))∧Grow w w'):=by
 refine Hf func18 rfl hw<|fun hGF=>Xp<|Bx 2 hGF rfl<|fun b2=>Al 4 hGF zv43<|fun b4=>aa<|Xp<|Al 5 hGF zv43<|fun b5=>aa<|ah<|Xp<|Asg rfl<|aa<|ai<|bL (ι:={i:Nat // i≤8*bs.length}) (fun y=>[(1,.slice e bs.length cap),(2,pnt b2),(4,pnt b4),(5,pnt b5),(6,I (y.1:Int))]) (fun y=>[(2,b2,((fe ((x).1).1++fe ((x).1).2)++((fe ((x).2.1).1++fe ((x).2.1).2)++(fe ((x).2.2).1++fe ((x).2.2).2))).map U64,43),(4,b4,((fe 0++fe 0)++((fe 0++fe 0)++(fe 0++fe 0))).map U64,43),(5,b5,((fe ((RMJ x bs y.1).1).1++fe ((RMJ x bs y.1).1).2)++((fe ((RMJ x bs y.1).2.1).1++fe ((RMJ x bs y.1).2.1).2)++(fe ((RMJ x bs y.1).2.2).1++fe ((RMJ x bs y.1).2.2).2))).map U64,43)]) (fun y=>8*bs.length-y.1) ⟨0,Nat.zero_le _⟩ hGF trv trv<|?_
 rintro ⟨i,hi⟩
 dsimp only
 refine ah<|Xp<|Mv rfl<|Mv rfl<|bi rfl (fun _=>aI underlying22 _ _ _ _) rfl rfl<|Bnr (v:=I ((8*bs.length:Nat):Int)) rfl rfl (fun _=>(bB _ _ _ oi).trans (by rw[show (8:Int)*(bs.length:Int)=((8*bs.length:Nat):Int) by omega]))<|Bnr rfl rfl (fun _=>az _ _ _)<|aa<|?_
 refine bG rfl (fun hc=> ?_) (fun hc=> ?_)
 ·simp only[decide_eq_true_eq]at hc
  refine aq<|ah<|ai<|Xp<|La 5 rfl rfl iD<|Ca rfl (wL _)<|Sa 5 hGF rfl rfl rfl iD<|aa<|Xp<|Mv rfl<|Mv rfl<|Bnr (v:=I ((i / 8:Nat):Int)) rfl rfl (fun _=>fG _ _ _ dc (show inI ((i / 8:Nat):Int) by unfold inI;omega))<|?_
  obtain ⟨ad,rfl,_⟩:=hby (i / 8) _ (gm U8 bs 0 (i / 8) om)
  refine gY (i / 8) rfl rfl underlying22 sizeOf5 rfl om rfl rfl<|bT rfl isAgg5 (fun w' h=>by obtain ⟨ad',e,hc⟩:=(hby.grow (ac h)) (i / 8) _ (gm U8 bs 0 (i / 8) om);cases e;exact hc) rfl rfl<|Mv rfl<|Bnr (v:=I ((i % 8:Nat):Int)) rfl rfl (fun _=>cV _ _ _ dc)<|Bnr (v:=I ((7-i % 8:Nat):Int)) rfl rfl (fun _=>(aX _ _ _ oi).trans (by rw[show ((7:Int)-((i % 8:Nat):Int))=((7-i % 8:Nat):Int) by omega]))<|Bnr (v:=U8 (bs.getD (i / 8) 0>>>(7-i % 8))) rfl rfl (fun _=>fA _ _ _ om)<|Bnr (v:=U8 (dU bs i)) rfl rfl (fun _=>cE _ _ 1#8)<|Bnr (v:=.bool (decide (dU bs i=1#8))) rfl rfl (fun _=>(cP _ _ 1#8).trans rfl)<|aa<|?_
  refine bG rfl (fun hc=> ?_) (fun hc=> ?_)
  ·have hq:dU bs i=1#8:=of_decide_eq_true hc
   refine Xq<|La 5 rfl rfl iD<|La 2 rfl rfl iD<|Ca rfl (JR _ _)<|Sa 5 hGF rfl rfl rfl iD<|aa<|Xq<|Mv rfl<|Bnr rfl rfl (fun _=>au _ _ _ oi)<|Asg rfl<|aa<|?_
   repeat (refine aP ?_)
   exact aD<|⟨rfl,⟨i+1,om⟩,_,by show 8*bs.length-(i+1)<8*bs.length-i;omega,rfl,trv,⟨rfl,rfl,by first|(rw[Dd hq];rfl)|(rw[CV hq];rfl),trivial⟩⟩
  ·have hq: ¬dU bs i=1#8:=of_decide_eq_false hc
   refine aq<|Xq<|Mv rfl<|Bnr rfl rfl (fun _=>au _ _ _ oi)<|Asg rfl<|aa<|?_
   repeat (refine aP ?_)
   exact aD<|⟨rfl,⟨i+1,om⟩,_,by show 8*bs.length-(i+1)<8*bs.length-i;omega,rfl,trv,⟨rfl,rfl,by first|(rw[Dd hq];rfl)|(rw[CV hq];rfl),trivial⟩⟩
 ·obtain rfl:i=8*bs.length:=by simp at hc;omega
  refine aW<|Xp<|La 5 rfl rfl iD<|Sa 4 hGF rfl rfl rfl iD<|aa<|am<|Rr<|?_
  exact av 4 rfl rfl rfl isAgg43 sizeOf43 sm (fun w hw=>⟨rfl,ac hw⟩)
end
section
section
variable {α:Type} [DecidableEq α] {C:Ec α} (T:Tw C)
theorem Tw.in_of{P:Pt α}(hP:C.onP P)(line:C.ad (C.ad P (T.p P)) (T.p (T.p P))=none){U r:Nat}(hU:r+U*U=(U*U)*(U*U)+1)(h:C.ne (C.times (C.times P U) U)=T.p P):C.times P r=none:=by
 rw[←C.times_mul hP]at h
 generalize U*U=V at h hU
 have hQ:=C.times_on hP V
 have e2:T.p (T.p P)=C.times P (V*V):=by
  rw[←h,T.p_ne,T.p_times hP,←h,C.times_ne hQ,C.ne_ne,C.times_mul hP]
 have hS:=C.times_on hP (V*V)
 rw[e2,←h]at line
 have e3:C.ad (C.times P r) (C.times P V)=C.ad (C.times P (V*V)) P:=by rw[←C.times_add hP,hU];rfl
 have e4:C.ad (C.ad (C.times P r) (C.times P V)) (C.ne (C.times P V))=C.times P r:=by
  rw[C.ad_assoc (C.times_on hP r) hQ (C.ne_on hQ),C.ad_ne,C.ad_nr]
 rw[←e4,e3,C.ad_assoc hS hP (C.ne_on hQ),C.ad_comm hS (C.ad_on hP (C.ne_on hQ)),line]
theorem Tw.out_of{G:Pt α}(hG:C.onP G){U:Nat}(h:C.ne (C.times (C.times G U) U)=T.p G)(e:Nat):C.ne (C.times (C.times (C.times G e) U) U)=T.p (C.times G e):=by
 have h1:=C.times_on hG U
 rw[T.p_times hG,←h,C.times_ne (C.times_on h1 U),C.times_swap h1 U e,C.times_swap hG U e]
end
theorem PF{α:Type}(C:Ec α){J:α×α×α}{P:Pt α}{x y:α}(h:C.jr J P)(hz:J.2.2≠C.R.zero)(hx:J.1=C.R.mul x (C.z2 J.2.2))(hy:J.2.1=C.R.mul y (C.z3 J.2.2)):P=some (x,y):=by
 cases P with
 |none=>exact absurd h hz
 |some p=>
  refine congrArg some (Prod.ext ?_ ?_)
  ·exact C.mul_can (C.z2_ne hz) (h.2.1.symm.trans hx)
  ·exact C.mul_can (C.z3_ne hz) (h.2.2.symm.trans hy)
theorem Oq{α:Type} [DecidableEq α](C:Ec α){J K:α×α×α}{P:Pt α}(hP:C.onP P)(h:C.jr J P)(l:List Bool){n:Nat}(hn:ls l 0=n)(hK:C.jm J l (C.R.zero,C.R.zero,C.R.zero)=K){x y:α}(hz:K.2.2≠C.R.zero)(hx:K.1=C.R.mul x (C.z2 K.2.2))(hy:K.2.1=C.R.mul y (C.z3 K.2.2)):C.times P n=some (x,y):=by
 have k:=C.jr_m hP h l (C.R.zero,C.R.zero,C.R.zero) 0 (show C.R.zero=C.R.zero from rfl)
 rw[hn,hK]at k
 exact PF C k hz hx hy
theorem uR{p:Nat}(hp:Pr p){d:Nat}(h0:0<d)(h1:d<p): ∃e,(d*e) % p=1:=by
 refine ⟨d^(p-2), ?_⟩
 have h2:1<p:=hp.1
 rw[←Nat.pow_succ',show (p-2).succ=p-1 from by omega]
 exact hp.fermat1 fun h=>absurd (Nat.le_of_dvd h0 h) om
/-! ### The first curve -/
def TRN:Nat:=0x5f19672fdf76ce51ba69c6076a0f77eaddb3a93be6f89688de17d813620a00022e01fffffffefffe
theorem Ra:zp TRN*zp TRN*(zp TRN*zp TRN)=zp TRN:=by decide+kernel
theorem TP:zp TRN*zp TRN*(zp TRN*zp TRN*(zp TRN*zp TRN))=1:=by decide+kernel
theorem KL:zp TRN*zp TRN+zp TRN+1=0:=by decide+kernel
theorem UY:zp TRN*zp TRN≠0:=by decide+kernel
def TW1:Tw E1 where
 f:=fun a=>a
 w:=zp TRN*zp TRN
 fa:=fun _ _=>rfl
 fm:=fun _ _=>rfl
 fn:=fun _=>rfl
 f0:=rfl
 fi:=fun _ h=>h
 wn:=UY
 wb:=by decide+kernel
theorem wU(q:Zp×Zp):TW1.m q=(zp TRN*q.1,q.2):=by
 refine Prod.ext ?_ ?_
 ·show zp TRN*zp TRN*(zp TRN*zp TRN)*q.1=zp TRN*q.1
  rw[Ra]
 ·show zp TRN*zp TRN*(zp TRN*zp TRN*(zp TRN*zp TRN))*q.2=q.2
  rw[TP]
  generalize q.2=y
  grind
theorem Ty{c x y:Zp}(hc:c*c+c+1=0)(hp:E1.on (x,y))(hq:E1.on (c*x,y)):E1.ad (E1.ad (some (x,y)) (some (c*x,y))) (some (c*(c*x),y))=none:=by
 have ho: ¬E1.opp (x,y) (c*x,y):=by
  intro h
  have h1:x=c*x:=h.1
  have hy:y=0:=E1.dbl0 h.2
  have h3:(1+1+1)*x=0:=by
   have e:(c*c+c+1)*x=c*(c*x)+c*x+x:=by grind
   rw[hc,←h1,←h1]at e
   grind
  have hx:x=0:=(k5 h3).resolve_left E1.h3
  subst hx hy
  have k:(0:Zp)*0=0*(0*0)+zp 4:=hp
  exact absurd k (by decide+kernel)
 have hs:E1.Sl (x,y) (c*x,y) 0:=by
  refine ⟨?_, ?_⟩
  ·show (0:Zp)*(x+ -(c*x))=y+ -y
   grind
  ·show (0:Zp)*(y+y)=x*x+x*(c*x)+c*x*(c*x)
   have e:x*x+x*(c*x)+c*x*(c*x)=(c*c+c+1)*(x*x):=by grind
   rw[e,hc]
   grind
 rw[E1.ad_sl hp hq ho hs]
 refine E1.ad_opp ⟨?_, ?_⟩
 ·show (0:Zp)*0+ -x+ -(c*x)=c*(c*x)
  have e:c*(c*x)-((0:Zp)*0+ -x+ -(c*x))=(c*c+c+1)*x:=by grind
  rw[hc]at e
  grind
 ·show (0:Zp)*(x+ -((0:Zp)*0+ -x+ -(c*x)))+ -y+y=0
  grind
theorem Iy{P:Pt Zp}(hP:E1.onP P):E1.ad (E1.ad P (TW1.p P)) (TW1.p (TW1.p P))=none:=by
 cases P with
 |none=>rfl
 |some q=>
  have e:TW1.p (some q)=some (zp TRN*q.1,q.2):=congrArg some (wU q)
  have e':TW1.p (some (zp TRN*q.1,q.2))=some (zp TRN*(zp TRN*q.1),q.2):=congrArg some (wU _)
  have hq:E1.onP (TW1.p (some q)):=TW1.p_on hP
  rw[e]at hq
  rw[e,e']
  exact Ty KL hP hq
def UG:Nat:=0xd201000000010000
theorem Jt:ORD+UG*UG=(UG*UG)*(UG*UG)+1:=by decide+kernel
def UGJ:Zp×Zp×Zp:=E1.jm (zp G1x,zp G1y,1) (cU 128 (UG*UG) []) (0,0,0)
theorem Vy:E1.jm (zp G1x,zp G1y,1) (cU 128 (UG*UG) []) (E1.R.zero,E1.R.zero,E1.R.zero)=UGJ:=by unfold UGJ;rfl
theorem LG:ls (cU 128 (UG*UG) []) 0=UG*UG:=by decide+kernel
theorem ugj:UGJ.2.2≠0∧UGJ.1=zp TRN*zp G1x*(UGJ.2.2*UGJ.2.2)∧UGJ.2.1= -(zp G1y)*(UGJ.2.2*UGJ.2.2*UGJ.2.2):=by decide+kernel
theorem YI:E1.times (some G1p) (UG*UG)=some (zp TRN*zp G1x,-(zp G1y)):=Oq E1 (P:=some G1p) qb wD (cU 128 (UG*UG) []) LG Vy ugj.1 ugj.2.1 ugj.2.2
theorem kG:E1.onP (some G1p):=qb
theorem NZ:E1.ne (E1.times (E1.times (some G1p) UG) UG)=TW1.p (some G1p):=by
 rw[←E1.times_mul kG,YI]
 refine congrArg some ((Prod.ext rfl ?_:_=(zp TRN*zp G1x,zp G1y)).trans (wU G1p).symm)
 show- -(zp G1y)=zp G1y
 generalize zp G1y=y
 grind
def cdP:Pt Zp→Nat
 |none=>0
 |some p=>1+(2*p.1.val+p.2.val % 2)
theorem aax(S:Pt Zp):cdP S<2*PP+1:=by
 cases S with
 |none=>exact Nat.succ_pos _
 |some p=>
  show 1+(2*p.1.val+p.2.val % 2)<2*PP+1
  have:=p.1.isLt
  omega
theorem cd_y{a b:Zp}(h:a*a=b*b)(k:a.val % 2=b.val % 2):a=b:=by
 have e:(a-b)*(a+b)=0:=by grind
 rcases k5 e with h1|h1
 ·grind
 ·have e2:a= -b:=by grind
  by_cases hb:b=0
  ·rw[e2,hb];decide+kernel
  ·exfalso
   rw[e2,ve hb]at k
   have h2:=b.isLt
   have h3:PP % 2=1:=by decide+kernel
   omega
theorem QV{S S':Pt Zp}(h:E1.onP S)(h':E1.onP S')(e:cdP S=cdP S'):S=S':=by
 cases S with
 |none=>
  cases S' with
  |none=>rfl
  |some q=>exact absurd (show 0=1+(2*q.1.val+q.2.val % 2)from e) om
 |some p=>
  cases S' with
  |none=>exact absurd (show 1+(2*p.1.val+p.2.val % 2)=0 from e) om
  |some q=>
   have e:1+(2*p.1.val+p.2.val % 2)=1+(2*q.1.val+q.2.val % 2):=e
   have ex:p.1=q.1:=Fin.ext om
   have k1:p.2*p.2=p.1*(p.1*p.1)+zp 4:=h
   have k2:q.2*q.2=q.1*(q.1*q.1)+zp 4:=h'
   refine congrArg some (Prod.ext ex (cd_y (k1.trans ?_) om))
   rw[k2,ex]
theorem tU:Pr ORD:=by
 have e:ORD=RR:=by decide+kernel
 rw[e];exact pr_r
theorem IP:(some G1p:Pt Zp)≠none:=fun h=>by cases h
theorem QI{P:Pt Zp}(hP:E1.onP P)(h:E1.times P ORD=none): ∃e,P=E1.times (some G1p) e:=
 E1.cyc kG hP (fun _ h0 h1=>uR tU h0 h1) lH h IP (2*PP+1) cdP (fun S _=>aax S) (fun _ _ h h' e=>QV h h' e) (by decide+kernel)
theorem Zg{P:Pt Zp}(hP:E1.onP P):E1.ne (E1.times (E1.times P UG) UG)=TW1.p P↔E1.times P ORD=none:=by
 constructor
 ·exact fun h=>TW1.in_of hP (Iy hP) Jt h
 ·intro h
  obtain ⟨e,rfl⟩:=QI hP h
  exact TW1.out_of kG NZ e
end
end Go.Proofs.YtjookodjbjabbaaGreatDoor
