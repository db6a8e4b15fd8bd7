/-
 Pairs; the document's pairs of numbers.
 The document's Fields.
 What the program and the document are asked for.
 A known message's numbers. Nothing here names a program.
-/
import Derived.Test.YtodgbdcjjhmnkaaGreatDoorQ7
import Derived.Test.YtodgbdcjjhmnkaaGreatDoorQ6
import Derived.Test.YtodgbdcjjhmnkaaGreatDoorX7
import Derived.Test.YtodgbdcjjhmnkaaGreatDoorX3
import Derived.Test.YtodgbdcjjhmnkaaGreatDoorXW
import Derived.Test.YtodgbdcjjhmnkaaGreatDoorP3
import Derived.Test.YtodgbdcjjhmnkaaGreatDoorXJ
set_option maxRecDepth 100000
set_option maxHeartbeats 1000000
namespace Go.Proofs.YtodgbdcjjhmnkaaGreatDoor
open Go.Proofs.Tryz
section
open Go.RowKit
attribute [local simp] bp bQ aI aB bj bc aX aW bv PLl eK eI N1l eP eU eW bJ bV bY bX cH List.length_append eD
theorem ent26:am Tryz.prog 26:=fun _ _=>by kernel_rfl
namespace Xm
theorem rnum(p1 p2:List (BitVec 8)):Pure Tryz.prog Gt 61 [NV (WDs p1 PL p1.length),NV (WDs p2 PL p2.length)] (EV2 (ZB p1,ZB p2)):=by
 intro w hw
 refine Hf func61 rfl hw<|fun hGF=>Xp<|Bx 2 hGF rfl<|fun b2=>Bx 3 hGF rfl<|fun b3=>Al 4 hGF zv39<|fun b4=>aa<|Xd []<|La 2 rfl rfl bu<|Ca rfl (Nq p1)<|La 3 rfl rfl bu<|Ca rfl (Nq p2)<|cq n8 rfl rfl (by simp) (by simp) rfl rfl<|Sa 4 hGF rfl rfl rfl bw<|aa<|aq<|Rr<|?_
 exact aw 4 rfl rfl rfl isAgg39 sizeOf39 (by simp) (fun w hw=>⟨rfl,ac hw⟩)
end Xm
end
section
open Go.RowKit
attribute [local simp] bp bQ aI aB bj bc aX aW bv PLl eK eI N1l eP eU eW bJ bV bY bX cH List.length_append eD cb
namespace Xm
attribute [local simp] Sh.eX iw my ic dW ez Sh.iC g9
theorem RW_s{s:Nat}(f:Nat→List (BitVec 64))(k:Nat)(h:(f k).length=s):RW s f (k+1)=RW s f k++f k:=List.ext_getElem? fun m=>by
 rcases Nat.eq_zero_or_pos s with h0|h0
 ·subst h0
  rw[List.length_eq_zero_iff.1 h,List.append_nil,List.length_eq_zero_iff.1 (show (RW 0 f (k+1)).length=0 by rw[cb];omega),List.length_eq_zero_iff.1 (show (RW 0 f k).length=0 by rw[cb];omega)]
 by_cases h1:m<s*k
 ·rw[jp f (k+1) m (by rw[Nat.mul_succ];omega),List.getElem?_append_left (by rw[cb];exact h1),jp f k m h1]
 ·by_cases h2:m<s*(k+1)
  ·have e:m=s*k+(m-s*k):=by omega
   have hlt:m-s*k<s:=by rw[Nat.mul_succ]at h2;omega
   have d1:m / s=k:=by rw[e,Nat.mul_add_div h0,Nat.div_eq_of_lt hlt,Nat.add_zero]
   have d2:m % s=m-s*k:=by conv=>lhs;rw[e,Nat.mul_add_mod,Nat.mod_eq_of_lt hlt]
   rw[jp f (k+1) m h2,List.getElem?_append_right (by rw[cb];omega),cb,d1,d2,List.getD_eq_getElem?_getD,List.getElem?_eq_getElem (by rw[h];exact hlt)];rfl
  ·rw[List.getElem?_eq_none (by rw[cb];omega),List.getElem?_eq_none (by rw[List.length_append,cb,h];rw[Nat.mul_succ]at h2;omega)]
theorem C8{own L:Hl}{n:Nat}{e:TypeId}{s:Nat}{a0:Option Addr}{cap nx:Nat}{xs:List Value}(h:OwnW own n e s a0 cap nx xs)(hl:lkB L n=lkB own n):OwnW L n e s a0 cap nx xs:=by
 unfold OwnW at*
 rw[hl]
 exact h
theorem tiE:TI Tryz.prog 39 (.agg ((List.replicate 12 (0#64)).map U64).toArray) 12 96:=wB (by kernel_rfl)
def N2(bs:List (BitVec 8))(i:Nat):W2:=(ZB ((bs.drop (128*i)).take 64),ZB ((bs.drop (128*i+64)).take 64))
def N2r(bs:List (BitVec 8))(i:Nat):List (BitVec 64):=fe (N2 bs i).1++fe (N2 bs i).2
theorem N2r_len(bs:List (BitVec 8))(i:Nat):(N2r bs i).length=12:=by rw[N2r,List.length_append,bp,bp]
theorem Ct(e:Option Addr)(cap len:Nat)(bs:List (BitVec 8))(hb:bs.length=len)(hlen:len≤1000)(w:World)(hw:Gt w)(hby:BytesAt w e bs):Calls Tryz.prog 62 [.slice e len cap,NV PL].toArray w (fun r w'=>r=.returned (NV (WDs bs PL bs.length))∧Grow w w'):=by
 subst hb
 exact rM e cap bs PL rfl (by omega) w hw hby
def At2(w0 w:World)(a:Option Addr)(n:Nat)(f:Nat→List (BitVec 64)):Prop:=n=0∨∃b,a=some ⟨b,0,none⟩∧w0.heap.size≤b∧w.rangeAt b 0 ((RW 12 (f) n).map U64)
def FBad(msg dst:List (BitVec 8))(z:Int):Prop:=z<0∨32<z∨255<dst.length∨65536<msg.length
structure RFt(msg dst:List (BitVec 8))(z:Int)(w0 w:World)(v:Value):Prop where
 bad:FBad msg dst z→v=.tuple #[.slice none 0 0,I 130]
 ok: ¬FBad msg dst z→∃a cap,v=.tuple #[.slice a z.toNat cap,I 0]∧At2 w0 w a z.toNat (N2r (E msg dst (128*z.toNat)))
structure LfV(f:Nat→List (BitVec 64))(m:Nat) where
 (k:Nat) (a0:Option Addr) (cap:Nat) (own:Hl)
 hk:k≤m
 hs:OwnW own 50 39 12 a0 cap k ((RW 12 (f) k).map U64)
 ho:own=[]∨∃z,own=[(50,z)]
attribute [local simp] N2r_len
theorem N5(bm:Nat)(a1:Option Addr)(cap1:Nat)(msg:List (BitVec 8))(a2:Option Addr)(cap2:Nat)(dst:List (BitVec 8))(z:Int)(h:z<0)(w:World)(hw:Gt w):Calls Tryz.prog 26 [.pointer (some ⟨bm,0,none⟩),.slice a1 msg.length cap1,.slice a2 dst.length cap2,I z].toArray w (fun e w'=>e=.returned (.tuple #[.slice none 0 0,I 130])∧Grow w w'):=by
 refine Hf func26 rfl hw<|fun hGF=>ae (E:=EE [60])<|Asg rfl<|Asg rfl<|aa<|ah<|ae (E:=EE [60])<|Mv rfl<|Bnb true rfl rfl (fun _=>av _ _ _) (decide_eq_true (by omega))<|Mv rfl<|Sk<|Sk<|Pk rfl rfl rfl<|aa<|bf rfl<|ae (E:=EE [60])<|Asg rfl<|Asg rfl<|aa<|aq<|Rr<|?_
 exact bL rfl rfl rfl (fun w hw=>⟨rfl,ac hw⟩)
theorem Oc(bm:Nat)(a1:Option Addr)(cap1:Nat)(msg:List (BitVec 8))(a2:Option Addr)(cap2:Nat)(dst:List (BitVec 8))(z:Int)(h:32<z)(w:World)(hw:Gt w):Calls Tryz.prog 26 [.pointer (some ⟨bm,0,none⟩),.slice a1 msg.length cap1,.slice a2 dst.length cap2,I z].toArray w (fun e w'=>e=.returned (.tuple #[.slice none 0 0,I 130])∧Grow w w'):=by
 refine Hf func26 rfl hw<|fun hGF=>ae (E:=EE [60])<|Asg rfl<|Asg rfl<|aa<|ah<|ae (E:=EE [60])<|Mv rfl<|Bnb false rfl rfl (fun _=>av _ _ _) (decide_eq_false (by omega))<|Mv rfl<|Mv rfl<|Bnb true rfl rfl (fun _=>aP _ _ _) (decide_eq_true (by omega))<|Pk rfl rfl rfl<|aa<|bf rfl<|ae (E:=EE [60])<|Asg rfl<|Asg rfl<|aa<|aq<|Rr<|?_
 exact bL rfl rfl rfl (fun w hw=>⟨rfl,ac hw⟩)
theorem Kz(bm:Nat)(a1:Option Addr)(cap1:Nat)(msg:List (BitVec 8))(a2:Option Addr)(cap2:Nat)(dst:List (BitVec 8))(z:Int)(h0: ¬z<0)(h1: ¬32<z)(hl:255<dst.length∨65536<msg.length)(w:World)(hw:Gt w)(ho:OwnB w bm (Sh.MK.map U32) 77)(hb1:BytesAt w a1 msg)(hb2:BytesAt w a2 dst):Calls Tryz.prog 26 [.pointer (some ⟨bm,0,none⟩),.slice a1 msg.length cap1,.slice a2 dst.length cap2,I z].toArray w (fun e w'=>e=.returned (.tuple #[.slice none 0 0,I 130])∧Grow w w'):=by
 have hGF:BOk Gt (pl w):=gt_low.plain hw
 have hgw:Grow w w:=Grow.refl w
 refine Hd func26 rfl hGF<|ae (E:=EE [60])<|Asg rfl<|Asg rfl<|aa<|ah<|ae (E:=EE [60])<|Mv rfl<|Bnb false rfl rfl (fun _=>av _ _ _) (decide_eq_false (by omega))<|Mv rfl<|Mv rfl<|Bnb false rfl rfl (fun _=>aP _ _ _) (decide_eq_false (by omega))<|Pk rfl rfl rfl<|aa<|aV rfl<|au<|ae (E:=EE [60])<|Mv rfl<|Mv rfl<|Mv rfl<|Mv rfl<|Bnr rfl rfl (fun _=>aT _ _ _ (by unfold inI;omega))<|?_
 refine gE rfl rfl ent60 rfl rfl gt_low (az hGF) (fun w' hC hG=>u1 bm a1 cap1 msg a2 cap2 dst (128*z) w' hG (own_grow ho (hgw.trans (ac hC))) (hb1.grow (hgw.trans (ac hC))) (hb2.grow (hgw.trans (ac hC)))) (fun w0 w1 v h0 hg hG1 hq=> ?_)
 replace hgw:=hgw.trans ((ac h0).trans hg)
 clear h0 hg hGF
 have hGF:BOk Gt (pl w1):=gt_low.plain hG1
 obtain rfl:=hq.bad (hl.elim (fun h=>.inr (.inr (.inl h))) fun h=>.inr (.inr (.inr h)))
 refine Mv rfl<|Ext rfl rfl<|Ext rfl rfl<|Asg rfl<|Asg rfl<|aa<|ah<|ae (E:=EE [60])<|Mv rfl<|Bnb true rfl rfl (fun _=>bK _ _ _) (rfl)<|aa<|bf rfl<|ae (E:=EE [60])<|Mv rfl<|Asg rfl<|Asg rfl<|aa<|aq<|Rr<|?_
 exact bL rfl rfl rfl (fun w hw=>⟨rfl,hgw.trans (ac hw)⟩)
theorem Hn(bm:Nat)(a1:Option Addr)(cap1:Nat)(msg:List (BitVec 8))(a2:Option Addr)(cap2:Nat)(dst:List (BitVec 8))(n:Nat)(hn:n≤32)(hd:dst.length≤255)(hm:msg.length≤65536)(w:World)(hw:Gt w)(ho:OwnB w bm (Sh.MK.map U32) 77)(hb1:BytesAt w a1 msg)(hb2:BytesAt w a2 dst):Calls Tryz.prog 26 [.pointer (some ⟨bm,0,none⟩),.slice a1 msg.length cap1,.slice a2 dst.length cap2,I (n:Int)].toArray w (fun e w'=> ∃a cap,e=.returned (.tuple #[.slice a n cap,I 0])∧Grow w w'∧At2 w w' a n (N2r (E msg dst (128*n)))):=by
 have hGF:BOk Gt (pl w):=gt_low.plain hw
 have hgw:Grow w w:=Grow.refl w
 refine Hd func26 rfl hGF<|ae (E:=EE [60])<|Asg rfl<|Asg rfl<|aa<|ah<|ae (E:=EE [60])<|Mv rfl<|Bnb false rfl rfl (fun _=>av _ _ _) (decide_eq_false (by omega))<|Mv rfl<|Mv rfl<|Bnb false rfl rfl (fun _=>aP _ _ _) (decide_eq_false (by omega))<|Pk rfl rfl rfl<|aa<|aV rfl<|au<|ae (E:=EE [60])<|Mv rfl<|Mv rfl<|Mv rfl<|Mv rfl<|Bnr rfl rfl (fun _=>aT _ _ _ (by unfold inI;omega))<|?_
 refine gE rfl rfl ent60 rfl rfl gt_low (az hGF) (fun w' hC hG=>u1 bm a1 cap1 msg a2 cap2 dst (128*(n:Int)) w' hG (own_grow ho (hgw.trans (ac hC))) (hb1.grow (hgw.trans (ac hC))) (hb2.grow (hgw.trans (ac hC)))) (fun w0 w1 v h0 hg hG1 hq=> ?_)
 replace hgw:=hgw.trans ((ac h0).trans hg)
 clear h0 hg hGF
 have hGF:BOk Gt (pl w1):=gt_low.plain hG1
 obtain ⟨xa,xc,rfl,hx,hle⟩:=hq.ok (by rintro (h|h|h|h)<;>omega)
 rw[show ((128:Int)*(n:Int)).toNat=128*n by omega]at*
 have hxc:128*n≤xc:=by rw[h9]at hle;exact hle
 refine Mv rfl<|Ext rfl rfl<|Ext rfl rfl<|Asg rfl<|Asg rfl<|aa<|ah<|ae (E:=EE [60])<|Mv rfl<|Bnb false rfl rfl (fun _=>bK _ _ _) (rfl)<|aa<|aV rfl<|au<|ae (E:=EE [60])<|Asg rfl<|aa<|ah<|ae (E:=EE [60])<|Asg rfl<|aa<|ai<|bg (ι:=LfV (N2r (E msg dst (128*n))) n) (fun z=>[(3,I (n:Int)),(10,.slice xa (E msg dst (128*n)).length xc),(12,.slice z.a0 z.k z.cap),(13,I (z.k:Int))]) (fun z=>z.own) (fun z=>n-z.k) ⟨0,none,0,[],by omega,zD _ _ _ _,.inl rfl⟩ hGF ⟨rfl,rfl,rfl,rfl,trivial⟩ trivial<|?_
 rintro ⟨k,a0,cap,own,hk,hs,hown⟩
 dsimp only at hs hown⊢
 refine ah<|ae (E:=EE [60])<|Mv rfl<|Mv rfl<|Bnr rfl rfl (fun _=>av _ _ _)<|aa<|?_
 refine ba rfl (fun hc=> ?_) (fun hc=> ?_)
 ·have hlt:k<n:=by simp at hc;omega
  clear hc
  refine au<|ah<|ai<|Xe [60]<|Mv rfl<|Mv rfl<|Mv rfl<|Bnr (v:=I ((128*k:Nat):Int)) rfl rfl (fun _=>(aT _ _ _ (by unfold inI;omega)).trans (by rw[show (128:Int)*(k:Int)=((128*k:Nat):Int) by omega]))<|Mv rfl<|Bnr (v:=I ((128*k:Nat):Int)) rfl rfl (fun _=>(aT _ _ _ (by unfold inI;omega)).trans (by rw[show (128:Int)*(k:Int)=((128*k:Nat):Int) by omega]))<|Bnr (v:=I ((128*k+64:Nat):Int)) rfl rfl (fun _=>(ap _ _ _ (by unfold inI;omega)).trans (by rfl))<|iP (l:=128*k) (h':=128*k+64) rfl underlying22 sizeOf5 rfl rfl (by omega) rfl rfl<|Ca rfl (er)<|Cc rfl ent62 (fun w' hC hG=>Ct _ _ _ (((E msg dst (128*n)).drop (128*k)).take 64) (by rw[List.length_take,List.length_drop,h9];omega) (by omega) w' hG ((hx.cut (128*k) 64 hle).grow (ac hC)))<|Mv rfl<|Mv rfl<|Bnr (v:=I ((128*k:Nat):Int)) rfl rfl (fun _=>(aT _ _ _ (by unfold inI;omega)).trans (by rw[show (128:Int)*(k:Int)=((128*k:Nat):Int) by omega]))<|Bnr (v:=I ((128*k+64:Nat):Int)) rfl rfl (fun _=>(ap _ _ _ (by unfold inI;omega)).trans (by rfl))<|Mv rfl<|Bnr (v:=I ((128*k:Nat):Int)) rfl rfl (fun _=>(aT _ _ _ (by unfold inI;omega)).trans (by rw[show (128:Int)*(k:Int)=((128*k:Nat):Int) by omega]))<|Bnr (v:=I ((128*k+128:Nat):Int)) rfl rfl (fun _=>(ap _ _ _ (by unfold inI;omega)).trans (by rfl))<|iP (l:=128*k+64) (h':=128*k+128) rfl underlying22 sizeOf5 rfl rfl (by omega) rfl rfl<|Ca rfl (er)<|Cc rfl ent62 (fun w' hC hG=>Ct _ _ _ (((E msg dst (128*n)).drop (128*k+64)).take 64) (by rw[List.length_take,List.length_drop,h9];omega) (by omega) w' hG ((hx.cut (128*k+64) 64 hle).grow (ac hC)))<|Ca rfl (rnum (((E msg dst (128*n)).drop (128*k)).take 64) (((E msg dst (128*n)).drop (128*k+64)).take 64))<|Ba 58 ((N2r (E msg dst (128*n)) k).map U64) hGF rfl (by simp) (by decide) (by decide) underlying69 sizeOf39 zv39 rfl rfl<|?_
  intro b58
  refine sR (s:=12) (nx:=k) (ny:=1) (xs:=(RW 12 ((N2r (E msg dst (128*n)))) k).map U64) (ys:=(N2r (E msg dst (128*n)) k).map U64) 50 hGF rfl rfl underlying69 underlying69 tiE rfl (C8 hs rfl) (by simp) (fun w' h=>aU (n:=58) rfl w' h) (bq _) (by decide) (by omega) (by omega) rfl rfl (fun bA cA capA eA lA tA=> ?_)
  refine Asg rfl<|aa<|bM (E:=EE [60])<|Mv rfl<|Bnr (v:=I ((k+1:Nat):Int)) rfl rfl (fun _=>(ap _ _ _ (by unfold inI;omega)).trans (by rfl))<|Asg rfl<|aa<|?_
  repeat (first|refine aJ ?_|refine dw ?_)
  refine aA ?_
  have eR:(RW 12 ((N2r (E msg dst (128*n)))) (k+1)).map U64=(RW 12 ((N2r (E msg dst (128*n)))) k).map U64++(N2r (E msg dst (128*n)) k).map U64:=by rw[RW_s _ k (N2r_len _ _),List.map_append]
  exact ⟨rfl,⟨k+1,some ⟨bA,0,none⟩,capA,[(50,bA,cA,39)],by omega,.inr ⟨bA,cA,rfl,rfl,eA,by omega,by simp;omega,by rw[eR];exact tA⟩,.inr ⟨_,rfl⟩⟩,_,by show n-(k+1)<n-k;omega,rfl,⟨rfl,rfl,rfl,rfl,trivial⟩,⟨rfl,trivial⟩⟩
 ·obtain rfl:k=n:=by simp at hc;omega
  clear hc
  refine aM<|ae (E:=EE [60])<|Mv rfl<|Asg rfl<|Asg rfl<|aa<|aq<|?_
  repeat (first|refine ck ?_|refine cn ?_|refine iR ?_)
  rcases hs with ⟨rfl,_,rfl,_⟩|⟨b,c,rfl,hl,_,_,_,ht⟩
  ·exact bL rfl rfl rfl (fun w hw=>⟨_,_,rfl,hgw.trans (ac hw),.inl rfl⟩)
  ·refine bL rfl rfl rfl (fun w hw=>⟨_,_,rfl,hgw.trans (ac hw),.inr ⟨b,rfl,(hw.own _ b c _ hl).2.elim (fun h=>Nat.le_trans hgw.size h) False.elim,fun j v hv=> ?_⟩⟩)
   rw[Nat.zero_add]
   refine cg hl ?_ w hw
   rw[←ht,List.getElem?_take]at hv
   split at hv
   ·exact hv
   ·cases hv
end Xm
end
section
open Go.RowKit
attribute [local simp] bp bQ aI aB bj bc aX aW bv PLl eK eI N1l eP eU eW bJ bV bY bX cH List.length_append eD cb
namespace Xm
attribute [local simp] Sh.eX iw my ic dW ez Sh.iC g9
attribute [local simp] N2r_len
theorem rfields(bm:Nat)(a1:Option Addr)(cap1:Nat)(msg:List (BitVec 8))(a2:Option Addr)(cap2:Nat)(dst:List (BitVec 8))(z:Int)(w:World)(hw:Gt w)(ho:OwnB w bm (Sh.MK.map U32) 77)(hb1:BytesAt w a1 msg)(hb2:BytesAt w a2 dst):Calls Tryz.prog 26 [.pointer (some ⟨bm,0,none⟩),.slice a1 msg.length cap1,.slice a2 dst.length cap2,I z].toArray w (fun e w'=> ∃v,e=.returned v∧Grow w w'∧RFt msg dst z w w' v):=by
 have err:FBad msg dst z→∀{e:Ending} {w':World},e=.returned (.tuple #[.slice none 0 0,I 130])∧Grow w w'→∃v,e=.returned v∧Grow w w'∧RFt msg dst z w w' v:=fun hb _ _ h=>⟨_,h.1,h.2,fun _=>rfl,fun hn=>absurd hb hn⟩
 by_cases h0:z<0
 ·exact (N5 bm a1 cap1 msg a2 cap2 dst z h0 w hw).mono fun _ _ h=>err (.inl h0) h
 by_cases h1:32<z
 ·exact (Oc bm a1 cap1 msg a2 cap2 dst z h1 w hw).mono fun _ _ h=>err (.inr (.inl h1)) h
 by_cases h2:255<dst.length∨65536<msg.length
 ·exact (Kz bm a1 cap1 msg a2 cap2 dst z h0 h1 h2 w hw ho hb1 hb2).mono fun _ _ h=>err (.inr (.inr h2)) h
 obtain ⟨n,rfl⟩: ∃n:Nat,z=(n:Int):=⟨z.toNat,by omega⟩
 refine (Hn bm a1 cap1 msg a2 cap2 dst n (by omega) (by omega) (by omega) w hw ho hb1 hb2).mono fun e w' ⟨a,cap,he,hg,hc⟩=>⟨_,he,hg,fun hb=>absurd hb ?_,fun _=>⟨a,cap,rfl,hc⟩⟩
 rintro (h|h|h|h)<;>omega
theorem jv{w w':World}{b:Nat}{cs:List Value}(h:w.rangeAt b 0 cs)(hg:Grow w w'):w'.rangeAt b 0 cs:=fun j v hv=>(hg.cell (block_lt_of_cell (h j v hv))).trans (h j v hv)
def PFC:Prop:= ∀(a1:Option Addr) (cap1:Nat) (msg:List (BitVec 8)) (a2:Option Addr) (cap2:Nat) (dst:List (BitVec 8)) (z:Int) (w:World),msg.length≤100000→msg.length≤cap1→dst.length≤100000→dst.length≤cap2→Gt w→BytesAt w a1 msg→BytesAt w a2 dst→Calls Tryz.prog 56 [.slice a1 msg.length cap1,.slice a2 dst.length cap2,I z].toArray w (fun e w'=> ∃v,e=.returned v∧Grow w w'∧RFt msg dst z w w' v)
end Xm
end
section
namespace Xm
def qxm:List (BitVec 8):=[]
def qxd:List (BitVec 8):=[81#8,85#8,85#8,88#8,45#8,86#8,48#8,49#8,45#8,67#8,83#8,48#8,50#8,45#8,119#8,105#8,116#8,104#8,45#8,66#8,76#8,83#8,49#8,50#8,51#8,56#8,49#8,71#8,50#8,95#8,88#8,77#8,68#8,58#8,83#8,72#8,65#8,45#8,50#8,53#8,54#8,95#8,83#8,83#8,87#8,85#8,95#8,82#8,79#8,95#8]
def qxb:List (BitVec 8):=[103#8,240#8,10#8,193#8,82#8,52#8,177#8,211#8,159#8,81#8,236#8,175#8,73#8,145#8,57#8,167#8,238#8,148#8,212#8,136#8,93#8,152#8,42#8,78#8,152#8,248#8,225#8,145#8,207#8,246#8,124#8,94#8]
def qxl:Nat→List (BitVec 8)
 |0=>[0#8,0#8,0#8,0#8,0#8,0#8,0#8,0#8,0#8,0#8,0#8,0#8,0#8,0#8,0#8,0#8,0#8,0#8,0#8,0#8,0#8,0#8,0#8,0#8,0#8,0#8,0#8,0#8,0#8,0#8,0#8,0#8]
 |1=>[76#8,183#8,123#8,242#8,216#8,85#8,172#8,59#8,49#8,27#8,155#8,23#8,12#8,143#8,253#8,16#8,109#8,83#8,179#8,173#8,153#8,107#8,116#8,70#8,250#8,170#8,25#8,7#8,61#8,171#8,143#8,230#8]
 |2=>[67#8,185#8,189#8,48#8,231#8,242#8,250#8,214#8,22#8,241#8,42#8,196#8,47#8,100#8,89#8,73#8,189#8,76#8,195#8,43#8,1#8,118#8,43#8,207#8,152#8,181#8,155#8,30#8,213#8,237#8,104#8,177#8]
 |3=>[125#8,184#8,30#8,232#8,61#8,202#8,77#8,164#8,37#8,196#8,108#8,129#8,99#8,141#8,58#8,76#8,25#8,243#8,17#8,193#8,250#8,15#8,53#8,124#8,96#8,242#8,120#8,13#8,88#8,240#8,101#8,66#8]
 |4=>[36#8,31#8,70#8,177#8,4#8,22#8,219#8,0#8,209#8,136#8,82#8,15#8,68#8,28#8,103#8,78#8,78#8,221#8,208#8,210#8,143#8,219#8,112#8,188#8,12#8,83#8,110#8,101#8,194#8,169#8,2#8,202#8]
 |5=>[209#8,213#8,108#8,18#8,206#8,92#8,175#8,148#8,109#8,100#8,1#8,197#8,86#8,132#8,26#8,211#8,146#8,185#8,4#8,26#8,24#8,79#8,129#8,96#8,45#8,171#8,77#8,19#8,194#8,137#8,242#8,53#8]
 |6=>[174#8,96#8,17#8,35#8,161#8,5#8,157#8,84#8,147#8,32#8,87#8,147#8,237#8,34#8,79#8,190#8,105#8,208#8,194#8,25#8,221#8,226#8,109#8,96#8,37#8,72#8,7#8,52#8,52#8,12#8,14#8,31#8]
 |7=>[68#8,125#8,217#8,109#8,234#8,70#8,187#8,217#8,207#8,18#8,92#8,30#8,155#8,148#8,124#8,122#8,199#8,222#8,40#8,241#8,10#8,9#8,245#8,7#8,153#8,166#8,215#8,92#8,81#8,60#8,22#8,67#8]
 |_=>[74#8,161#8,153#8,245#8,73#8,167#8,81#8,243#8,210#8,205#8,112#8,247#8,205#8,66#8,235#8,114#8,235#8,113#8,230#8,212#8,28#8,153#8,172#8,163#8,80#8,117#8,224#8,212#8,127#8,209#8,218#8,108#8]
theorem qx_b:B0 qxm qxd 256=qxb:=Sh.kt _ _ (by decide+kernel)
theorem Lb:Xk qxb (D qxd) 0=qxl 0:=by decide+kernel
theorem Fv:Xk qxb (D qxd) 1=qxl 1:=by
 show Xk qxb (D qxd) (0+1)=_
 rw[Xk,Lb]
 exact Sh.kt _ _ (by decide+kernel)
theorem EZ:Xk qxb (D qxd) 2=qxl 2:=by
 show Xk qxb (D qxd) (1+1)=_
 rw[Xk,Fv]
 exact Sh.kt _ _ (by decide+kernel)
theorem EP:Xk qxb (D qxd) 3=qxl 3:=by
 show Xk qxb (D qxd) (2+1)=_
 rw[Xk,EZ]
 exact Sh.kt _ _ (by decide+kernel)
theorem FH:Xk qxb (D qxd) 4=qxl 4:=by
 show Xk qxb (D qxd) (3+1)=_
 rw[Xk,EP]
 exact Sh.kt _ _ (by decide+kernel)
theorem F6:Xk qxb (D qxd) 5=qxl 5:=by
 show Xk qxb (D qxd) (4+1)=_
 rw[Xk,FH]
 exact Sh.kt _ _ (by decide+kernel)
theorem FF:Xk qxb (D qxd) 6=qxl 6:=by
 show Xk qxb (D qxd) (5+1)=_
 rw[Xk,F6]
 exact Sh.kt _ _ (by decide+kernel)
theorem Gw:Xk qxb (D qxd) 7=qxl 7:=by
 show Xk qxb (D qxd) (6+1)=_
 rw[Xk,FF]
 exact Sh.kt _ _ (by decide+kernel)
theorem Lc:Xk qxb (D qxd) 8=qxl 8:=by
 show Xk qxb (D qxd) (7+1)=_
 rw[Xk,Gw]
 exact Sh.kt _ _ (by decide+kernel)
theorem Lt:E qxm qxd 256=qxl 1++qxl 2++qxl 3++qxl 4++qxl 5++qxl 6++qxl 7++qxl 8:=by
 rw[E,qx_b,show (256+31) / 32=8 from rfl]
 simp only[O,List.nil_append]
 rw[Fv,EZ,EP,FH,F6,FF,Gw,Lc]
 decide+kernel
theorem qx_0:N2 (E qxm qxd 256) 0=sk:=by rw[Lt];decide+kernel
theorem qx_1:N2 (E qxm qxd 256) 1=qB:=by rw[Lt];decide+kernel
end Xm
end
end Go.Proofs.YtodgbdcjjhmnkaaGreatDoor
