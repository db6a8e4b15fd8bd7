/- L5 -/
import Derived.Test.YtjookodjbjabbaaGreatDoorL4
import Derived.Lib.BufferMore
set_option maxRecDepth 100000
set_option maxHeartbeats 1000000
namespace Go.Proofs.YtjookodjbjabbaaGreatDoor
open Go.Proofs.Tryz
section
open Go.RowKit
attribute [local simp] fT aH aB aP aQ aJ jM P4 be
abbrev RV(x:Zr):Value:=aL (nr x)
theorem zv27(w:World):(zeroValue 27).run prog w=.ok (aL (List.replicate 6 (0#64))) w:=(zeroValue27 w).trans rr
theorem zv98(w:World):(zeroValue 98).run prog w=.ok (.agg ((List.replicate 32 (0#8)).map U8).toArray) w:=(zeroValue98 w).trans rr
theorem DA(x y:Zr):decide (nr x=nr y)=decide (x=y):=decide_eq_decide.2 T9
theorem RC{x y:BitVec 64}(h:(x==y)=true):x=y:=beq_iff_eq.1 h
theorem Qo{x y:BitVec 64}(h:(x==y)=false): ¬x=y:=beq_eq_false_iff_ne.1 h
theorem ent6:ak prog 6:=λ_ _=>kr
theorem ent77:ak prog 77:=λ_ _=>kr
theorem yM(a b:L6)(ha:a.length=6)(hb:b.length=6):PUR 69 [NV a,NV b] (NV (iB (iB a b ML) LIFT ML)):=by
 intro w hw;refine Hf func69 O hw<|λhGF=>Xp<|Bx 2 hGF O<|λb2=>Bx 3 hGF O<|λb3=>Al 4 hGF zv25<|λb4=>aa<|Xd []<|bU 2 O O isAgg25 sizeOf25 (by first|(simp;done)|exact ha|exact hb|(rw[List.length_map];exact ha)|(rw[List.length_map];exact hb)) O O<|bU 3 O O isAgg25 sizeOf25 (by first|(simp;done)|exact ha|exact hb|(rw[List.length_map];exact ha)|(rw[List.length_map];exact hb)) O O<|ij hGF isAgg25 sizeOf25 (by first|(simp;done)|exact ha|exact hb|(rw[List.length_map];exact ha)|(rw[List.length_map];exact hb)) (λ_ h=>h.g1) O O<|Ca O (iJ _ _ _ (by first|(simp;done)|exact ha|exact hb|(rw[List.length_map];exact ha)|(rw[List.length_map];exact hb)) (by first|(simp;done)|exact ha|exact hb|(rw[List.length_map];exact ha)|(rw[List.length_map];exact hb)) (by first|(simp;done)|exact ha|exact hb|(rw[List.length_map];exact ha)|(rw[List.length_map];exact hb)))<|ij hGF isAgg25 sizeOf25 (by first|(simp;done)|exact ha|exact hb|(rw[List.length_map];exact ha)|(rw[List.length_map];exact hb)) (λ_ h=>h.g0) O O<|ij hGF isAgg25 sizeOf25 (by first|(simp;done)|exact ha|exact hb|(rw[List.length_map];exact ha)|(rw[List.length_map];exact hb)) (λ_ h=>h.g1) O O<|Ca O (iJ _ _ _ (by first|(simp;done)|exact ha|exact hb|(rw[List.length_map];exact ha)|(rw[List.length_map];exact hb)) (by first|(simp;done)|exact ha|exact hb|(rw[List.length_map];exact ha)|(rw[List.length_map];exact hb)) (by first|(simp;done)|exact ha|exact hb|(rw[List.length_map];exact ha)|(rw[List.length_map];exact hb)))<|aA 4 hGF O O O sizeOf25 (by first|(simp;done)|exact ha|exact hb|(rw[List.length_map];exact ha)|(rw[List.length_map];exact hb)) (by first|(simp;done)|exact ha|exact hb|(rw[List.length_map];exact ha)|(rw[List.length_map];exact hb)) (bc _) O<|aa<|am<|Rr<|?_
 exact av 4 O O O isAgg25 sizeOf25 (by first|(simp;done)|exact ha|exact hb|(rw[List.length_map];exact ha)|(rw[List.length_map];exact hb)) (λw hw=>⟨rfl,ac hw⟩)
theorem yS(n:L6)(hn:n.length=6):PUR 30 [NV n] (RV (zr (V n 6))):=by
 intro w hw;refine Hf func30 O hw<|λhGF=>Xp<|Bx 1 hGF O<|λb1=>Al 2 hGF zv27<|λb2=>aa<|Xp<|eD 1 O underlying25 sizeOf24 zv25 O O<|bU 1 O O isAgg25 sizeOf25 (by first|(simp;done)|simp[hn]) O O<|Ca O (yM _ _ (by first|(simp;done)|simp[hn]) (by first|(simp;done)|simp[hn]))<|ci O (by first|(simp;done)|simp[hn]) underlying27 O sizeOf25 zv27 O O<|aA 2 hGF O O O sizeOf27 (by first|(simp;done)|simp[hn]) (by first|(simp;done)|simp[hn]) (bc _) O<|aa<|am<|Rr<|?_
 exact av 2 O O O isAgg27 sizeOf27 (by first|(simp;done)|simp[hn]) (λw hw=>⟨congrArg (λl=>Ending.returned (NV l)) (Ek n),ac hw⟩)
theorem pQ(n:BitVec 64):PUR 23 [U64 n] (RV (zr n.toNat)):=by
 intro w hw;refine Hf func23 O hw<|λhGF=>Xp<|Al 2 hGF zv27<|λb2=>aa<|Xp<|Mv O<|eD n O underlying25 sizeOf24 zv25 O O<|ci O sm underlying27 O sizeOf25 zv27 O O<|Sa 2 hGF O O O iH<|aa<|am<|Rr<|?_;exact av 2 O O O isAgg27 sizeOf27 sm (λw hw=>⟨congrArg (λl=>Ending.returned (NV l)) (ID n),ac hw⟩)
theorem vK(x:Zr):PUR 19 [RV x] (.bool (decide (x=0))):=by
 intro w hw;refine Hf func19 O hw<|λhGF=>Xp<|Bx 1 hGF O<|λb1=>Asg O<|aa<|Xp<|Fa 0 O underlying27 O sizeOf25<|La 1 O O cg<|ec zv25 underlying25 sizeOf24 O O<|cu O O (λ_=>H7 _ _ _ _ _ _) (λw=>Gx _ _ sm sm w) O O<|Asg O<|aa<|am<|Rr<|?_;exact aF O O (λw hw=>⟨by rw[<-Sz,DA],ac hw⟩)
theorem tk(x y:Zr):PUR 24 [RV x,RV y] (RV (x+y)):=by
 intro w hw;refine Hf func24 O hw<|λhGF=>Xp<|Bx 2 hGF O<|λb2=>Bx 3 hGF O<|λb3=>Al 4 hGF zv27<|λb4=>aa<|Xp<|Fa 0 O underlying27 O sizeOf25<|La 2 O O cg<|Fa 0 O underlying27 O sizeOf25<|La 3 O O cg<|Ca O (m6 _ _ sm sm)<|Mv O<|Ext O O<|Ext O O<|Al 5 hGF zv25<|λb5=>Sa 5 hGF O O O cg<|Asg O<|aa<|Xp<|La 5 O O cg<|ij hGF isAgg25 sizeOf25 sm (λ_ h=>h.g1) O O<|Ca O (jK _ _ sm sm)<|Mv O<|Ext O O<|Ext O O<|Al 7 hGF zv25<|λb7=>Sa 7 hGF O O O cg<|Asg O<|aa<|ah<|Xp<|Mv O<|Bnr O O (λ_=>bu _ _ _)<|aa<|?_;refine bD O (λhc=> ?_) (λhc=> ?_)
 ·refine Xp<|La 5 O O cg<|ci O sm underlying27 O sizeOf25 zv27 O O<|Sa 4 hGF O O O iH<|aa<|am<|Rr<|?_
  exact av 4 O O O isAgg27 sizeOf27 sm (λw hw=>⟨by rw[EN (RC hc)],ac hw⟩)
 ·refine aq<|Xp<|La 7 O O cg<|ci O sm underlying27 O sizeOf25 zv27 O O<|Sa 4 hGF O O O iH<|aa<|am<|Rr<|?_
  exact av 4 O O O isAgg27 sizeOf27 sm (λw hw=>⟨by rw[Dz (vH (oU _ _ _) (Qo hc))],ac hw⟩)
theorem vP(x:Zr):PUR 43 [RV x] (.agg ((qm x).map U8).toArray):=by
 intro w hw;refine Hf func43 O hw<|λhGF=>Xp<|Bx 1 hGF O<|λb1=>Al 2 hGF zv98<|λb2=>aa<|Xp<|Fa 0 O underlying27 O sizeOf25<|La 1 O O cg<|Ca O (kk _ sm)<|Al 3 hGF zv29<|λb3=>aA 3 hGF O O O sizeOf29 sm sm (bZ _) O<|aa<|Xp<|bR (l:=16) (h':=48) O underlying29 sizeOf5 O O om om O O<|QV O underlying98 dc O O<|ay 3 ((qm x).map U8) O O isAgg98 sizeOf98 sm (DT x) O O<|aA 2 hGF O O O sizeOf98 sm sm (bZ _) O<|aa<|am<|Rr<|?_;exact av 2 O O O isAgg98 sizeOf98 sm (λw hw=>⟨rfl,ac hw⟩)
theorem uR(a:Option Addr)(len cap:Nat)(bs:L8)(hl:bs.length=len)(h:len<=48)(w:World)(hw:Gt w)(hby:BytesAt w a bs):
 CLS 28 [.slice a len cap].toArray w (λe w'=>e=.returned (.tuple #[NV (FRs bs bs.length),.bool true])/\Grow w w'):=by
 subst hl;exact (qH a cap bs w hw hby).mono λe w' ⟨he,hg⟩=>⟨by rw[he,if_neg om],hg⟩
structure QSt(w:World)(bs:L8) where
 (k:Nat) (a:Option Addr) (c:Nat)
 hk:k<=bs.length
 hc:bs.length-k<=c
 hb:BytesAt w a (bs.drop k)
 hm:k=0\/(bs.length-k) % 48=0
theorem Ak(y:Zr):PUR 29 [NV LIFT,RV y,NV ML] (RV (y*qRZ)):=by
 have h:=iJ LIFT (nr y) ML O (fT y) O;rw[Dt]at h;exact h
theorem xt(bs:L8)(h:bs.length<=48):PUR 30 [NV (FRs bs bs.length)] (RV (zr (BN bs bs.length))):=oJ bs h▸yS (FRs bs bs.length) (aQ _ _)
theorem xT(e:Option Addr)(cap:Nat)(bs:L8)(hlen:bs.length<=1000000)(hcap:bs.length<=cap)(w:World)(hw:Gt w)(hby:BytesAt w e bs):
 CLS 6 [.slice e bs.length cap].toArray w (λr w'=>r=.returned (RV (QB bs))/\Grow w w'):=by
 refine Hf func6 O hw<|λhGF=>Xp<|Al 2 hGF zv27<|λb2=>aa<|Xp<|Al 3 hGF zv27<|λb3=>aa<|ah<|ai<|bH (ι:=QSt w bs) (λx=>[(0,.slice x.a (bs.length-x.k) x.c),(2,pnt b2),(3,pnt b3)]) (λx=>[(2,b2,(List.replicate 6 0#64).map U64,27),(3,b3,(nr (zr (BN bs x.k))).map U64,27)]) (λx=>(bs.length-x.k)) ⟨0,e,cap,Nat.zero_le _,hcap,hby,.inl O⟩ hGF trv ⟨rfl,by rw[BN,Sd,Sz];rfl,trivial⟩<|λx=>ah<|Xp<|Mv O<|bf O (λ_=>aG underlying22 _ _ _ _) O O<|Bnr O O (λ_=>ba _ _ _)<|aa<|?_
 refine bD O (λhc=> ?_) (λhc=> ?_)
 ·have hn:0<(bs.length-x.k):=by simp at hc;omega
  clear hc;have hlenx:=x.hk;have hcut:=Dv hn;have hnext:BytesAt w (if x.c=(((bs.length-x.k)-1) % 48+1)then x.a else x.a.map (·.add ((((bs.length-x.k)-1) % 48+1)*1))) (bs.drop (x.k+(((bs.length-x.k)-1) % 48+1))):=by
   have:=x.hb.drop (cap:=x.c) (l:=(((bs.length-x.k)-1) % 48+1)) (by rw[List.length_drop];exact x.hc) om
   rw[List.drop_drop]at this;exact this
  have hstep:zr (BN bs x.k)*qRZ+zr (BN ((bs.drop x.k).take (((bs.length-x.k)-1) % 48+1)) ((bs.drop x.k).take (((bs.length-x.k)-1) % 48+1)).length)=zr (BN bs (x.k+(((bs.length-x.k)-1) % 48+1))):=by
   rw[mF bs x.k _ hcut.2.1,Gq];exact yv bs x.k _ (j8 id (Nn hn) x.hm)
  refine aq<|ai<|Xp<|Mv O<|bf O (λ_=>aG underlying22 _ _ _ _) O O<|Bnr (v:=I (((bs.length-x.k)-1:Nat):Int)) O O (λ_=>(aW _ _ _ oi).trans (by rw[show ((bs.length-x.k:Nat):Int)-1=((bs.length-x.k-1:Nat):Int) by omega]))<|cu (v:=I ((((bs.length-x.k)-1) % 48:Nat):Int)) O O (λ_=>rfl) (λ_=>cU _ _ _ dc) O O<|cu (v:=I (((((bs.length-x.k)-1) % 48+1):Nat):Int)) O O (λ_=>rfl) (λ_=>au _ _ _ oi) O O<|Asg O<|aa<|Xp<|Mv O<|Mv O<|gh (l:=0) (h':=(((bs.length-x.k)-1) % 48+1)) O underlying22 sizeOf5 O O ⟨Nat.zero_le _,Nat.le_trans hcut.2.1 x.hc⟩ O O<|lr O O ent28 (λw' hC hG=>uR _ (((bs.length-x.k)-1) % 48+1) _ ((bs.drop x.k).take (((bs.length-x.k)-1) % 48+1)) (mF bs x.k _ hcut.2.1) hcut.2.2 w' hG ((x.hb.cut 0 (((bs.length-x.k)-1) % 48+1) (by rw[List.length_drop];exact x.hc)).grow (ac hC))) O O<|Mv O<|Ext O O<|Ext O O<|Al 5 hGF zv25<|λb5=>Sa 5 hGF O O O cg<|Asg O<|aa<|Xd []<|ij hGF isAgg25 sizeOf25 sm (λ_ h=>h.g0) O O<|Fa 0 O underlying27 O sizeOf25<|La 3 O O cg<|ij hGF isAgg25 sizeOf25 sm (λ_ h=>h.g1) O O<|Ca O (Ak _)<|ci O sm underlying27 O sizeOf25 zv27 O O<|La 5 O O cg<|Ca O (xt ((bs.drop x.k).take (((bs.length-x.k)-1) % 48+1)) (by rw[mF bs x.k _ hcut.2.1];exact hcut.2.2))<|Ca O (tk _ _)<|Sa 3 hGF O O O iH<|aa<|Xq<|Mv O<|Mv O<|gh (l:=(((bs.length-x.k)-1) % 48+1)) (h':=(bs.length-x.k)) O underlying22 sizeOf5 O O ⟨hcut.2.1,x.hc⟩ O O<|Asg O<|aa<|?_
  repeat (refine aO ?_)
  exact aC<|⟨rfl,⟨x.k+(((bs.length-x.k)-1) % 48+1),_,x.c-(((bs.length-x.k)-1) % 48+1),by have:=x.hk;omega,by have:=x.hc;omega,hnext,.inr (by rw[Nat.sub_add_eq];exact hcut.1)⟩,_,by show bs.length-(x.k+(((bs.length-x.k)-1) % 48+1))<bs.length-x.k;omega,rfl,⟨congrArg (λn=>some (Value.slice _ n _)) (Nat.sub_sub bs.length x.k (((bs.length-x.k)-1) % 48+1)),rfl,rfl,trivial⟩,⟨rfl,by rw[<-hstep];rfl,trivial⟩⟩
 ·have hn:x.k=bs.length:=by simp at hc;have:=x.hk;omega
  clear hc;refine aV<|Xp<|La 3 O O iH<|Sa 2 hGF O O O iH<|aa<|am<|Rr<|?_;exact av 2 O O O isAgg27 sizeOf27 sm (λw hw=>⟨by rw[hn];rfl,ac hw⟩)
end
section
open Go.RowKit
theorem ent123:ak prog 123:=λ_ _=>kr
theorem ent170:ak prog 170:=λ_ _=>kr
theorem Ap(a:L6)(_ha:a.length=6)(w:World)(hw:Gt w):CLS 123 [aL (a)].toArray w (λe w'=> ∃b1,e=.returned (.func (.func 170) #[] #[pnt b1])/\Grow w w'/\w.heap.size<=b1/\OwnB w' b1 (a.map U64) 25):=by
 refine Hf func123 O hw<|λhGF=>Xp<|Bx 1 hGF O<|λb1=>Asg O<|aa<|Xp<|go O O O O<|Asg O<|aa<|am<|Rr<|?_;exact aF O O (λw hw=>⟨b1,rfl,ac hw,(hw.own 1 b1 _ _ O).2.elim id False.elim,(hw.own 1 b1 _ _ O).1⟩)
theorem wp(bb:Nat)(a:L6)(ha:a.length=6):fP prog Gt 170 [pnt bb] (BT a) (λW=>W.rangeAt bb 0 (a.map U64)):=by
 intro l J Jx hJ hJx hRd hGx hY w hj;have okJ: ∀k,BOk Gt (Bi w (λY=>J Y k)):=λk=>⟨λ_ _ _ h=>(hRd _ _ _ h.rid).1,hJ k⟩;have okX: ∀k,BOk Gt (Bi w (λY=>Jx Y k)):=λk=>⟨λ_ _ _ h=>hGx _ _ _ h.rid,hJx k⟩;refine cw (G:=Gt) func170 O O (Hp (Bi w (λY=>J Y 0)) []) (cj (Bi w _) hj (hJ 0)) (az (okJ 0))<|ae (E:=EE [113])<|i3 2 (okJ _) O O O<|λb2=>aa<|ae (E:=EE [113])<|bR (l:=0) (h':=6) O underlying25 sizeOf24 O O om om O O<|?_;refine dw O O ent113 O O (λw' hw'=>(nH _ O w' ((okJ _).g _ _ _ hw')).mono λe w'' h=> ?_);obtain ⟨c2,rfl,hgr,h2,hc2⟩:=h;refine ⟨_,_,rfl,az (okJ _),hw'.news (hJ _) hgr [(33,c2,[.slice (spt bb) 6 6],118)] ?_ bS, ?_⟩
 ·intro n' b' c' t' hl
  rcases aK hl with ⟨_,e⟩|⟨_,hl⟩
  ·cases e;exact ⟨h2,hc2⟩
  ·cases hl
 clear hw' hgr h2 hc2;refine aa<|ai<|?_;refine fq (λk=>(Bi w (λY=>J Y (gA a k).length))) (λ_ k=>Bi w (λY=>Jx Y (gA a k).length)) (λ_=>okJ _) (λ_ _=>okX _) (λ_=>rfl) (λ_ _=>rfl) O O ent166 (qa c2 bb a 6 dc ha) (λx hx=>by obtain ⟨k,hk,rfl⟩:=List.mem_map.1 hx;rfl) O (λ_=>[(2,b2,[.func (.yield l) #[] #[]],217),(33,c2,[.slice (spt bb) 6 6],118)]) (λc _ _=>c=.ret) trv (λk Y w' h=>⟨cB (n:=33) O O w' h,(hRd _ _ _ h.rid).2⟩) ?_ ?_ ?_
 ·intro k x hx R hR
  obtain ⟨hk,rfl⟩:=NG a 6 k x hx;rw[show 64*6-1-k=383-k from O];refine ae (E:=EE [113])<|Asg O<|aa<|bG (E:=EE [113])<|Asg O<|aa<|?_;refine ⟨rfl,_,rfl, ?_⟩;rcases Decidable.em (dig a (383-k)=1)with h1|h1
  ·refine ai<|ae (E:=EE [113])<|Mv O<|Bnr (v:=.bool true) O O (λw=>(bu _ _ _).trans (congrArg (λb=>Result.ok (Value.bool b) w) (beq_iff_eq.2 h1)))<|Mv O<|cS 2 O O O isAgg217 O O<|Mv O<|?_
   refine dB ((hY.b (k:=(gA a k).length) (WU a k om h1) w).br R.l R.D R.rb R.Y R.W) (hR (Bi w (λY=>J Y ((gA a k).length+1))) O (okJ _)).2.1 (hR (Bi w (λY=>Jx Y ((gA a k).length+1))) O (okX _)).2.1 O O O O O ?_ ?_
   ·refine bp O (λ_=>a8 _) O O<|Pk O O O<|aa<|aD O<|aq<|?_
    show∃L',_=Hp (R.b (Bi w (λY=>J Y (gA a (k+1)).length))) L'/\jZ L' [(2,b2,[.func (.yield l) #[] #[]],217),(33,c2,[.slice (spt bb) 6 6],118)];rw[xX a k h1];exact ⟨_,rfl,trv⟩
   ·refine bp O (λ_=>a8 _) O O<|Pk O O O<|aa<|aT O<|am<|Rr<|?_
    show∃L',_=Hp (R.b (Bi w (λY=>Jx Y (gA a (k+1)).length))) L'/\Code.ret=Code.ret;rw[xX a k h1];exact ⟨_,rfl,rfl⟩
  ·refine ai<|ae (E:=EE [113,3000000])<|Mv O<|Bnr (v:=.bool false) O O (λw=>(bu _ _ _).trans (congrArg (λb=>Result.ok (Value.bool b) w) (beq_eq_false_iff_ne.2 h1)))<|Mv O<|Sk<|Sk<|Sk<|Sk<|Pk O O O<|aa<|aD O<|aq<|?_
   show∃L',_=Hp (R.b (Bi w (λY=>J Y (gA a (k+1)).length))) L'/\jZ L' [(2,b2,[.func (.yield l) #[] #[]],217),(33,c2,[.slice (spt bb) 6 6],118)];rw[Ku a k h1];exact ⟨_,rfl,trv⟩
 ·intro D _
  refine dX (.inr O) (hJ _) (du O (λw hw=>⟨⟨_,rfl⟩,.inl ?_⟩));have:=ca (hJ _) hw.rid;rw[fD]at this;rw[Q7];exact this
 ·intro D c j L' _ hc
  subst hc;exact dX (.inl O) (hJx _) (du O (λw hw=>⟨⟨_,rfl⟩,.inr ⟨_,ca (hJx _) hw.rid⟩⟩))
end
section
open Go.RowKit
attribute [local simp] a6 bj aH aB aP aZ aQ aJ aM be bz a5 bv J1.bB J2.bB Q6.gc
attribute [local simp] fT jM
theorem oc(k:Zr)(w:World)(hw:Gt w):CLS 77 [RV k].toArray w (λe w'=> ∃b1,e=.returned (.func (.func 170) #[] #[pnt b1])/\Grow w w'/\w.heap.size<=b1/\OwnB w' b1 ((nr k).map U64) 25):=by
 refine Hf func77 O hw<|λhGF=>ae (E:=EE [123])<|Bx 1 hGF O<|λb1=>Asg O<|aa<|ae (E:=EE [123])<|Fa 0 O underlying27 O sizeOf25<|La 1 O O cg<|?_;refine dw O O ent123 O O (λw' hw'=>(Ap (nr k) sm w' (hGF.g _ _ _ hw')).mono λe' w'' h=> ?_);obtain ⟨c1,rfl,hg,h1,ho⟩:=h;refine ⟨_,_,rfl,az hGF,hw'.news ao hg [(33,c1,(nr k).map U64,25)] ?_ bS, ?_⟩
 ·intro n' b' c' t' hl
  rcases aK hl with ⟨_,e⟩|⟨_,hl⟩
  ·cases e;exact ⟨h1,ho⟩
  ·cases hl
 clear hw' hg h1 ho;refine Asg O<|aa<|am<|Rr<|?_;exact aF O O (λw hw=>⟨c1,rfl,ac hw,(hw.own 33 c1 _ _ O).2.elim id False.elim,(hw.own 33 c1 _ _ O).1⟩)
def dg(a:L6)(m:Nat):Bool:=decide (dig a (383-m)=1)
theorem C8(a:L6): ∀m,gA a m=oL (dg a) 384 m
 |0=>rfl
 |m+1=>by
  rw[gA,oL,C8 a m];by_cases h:dig a (383-m)=1
  ·rw[if_pos h,if_pos (show dg a m=true from decide_eq_true h)]
  ·rw[if_neg h,if_neg (show¬dg a m=true from λe=>h (of_decide_eq_true e))]
theorem U7(a:L6)(m:Nat)(hm:m<384):dg a m=true↔V a 6 / 2^(384-1-m) % 2=1:=by
 have e:=ug a 6 (383-m) om;rw[show 384-1-m=383-m from by omega,<-e]
 constructor
 ·intro h
  have h2:dig a (383-m)=1:=of_decide_eq_true h;rw[h2];rfl
 ·intro h
  refine decide_eq_true (BitVec.eq_of_toNat_eq ?_);rw[h];rfl
theorem HR{a:L6}{N:Nat}(hN:N=384)(h:V a 6<2^N):SOg (oL (dg a) N N)=V a 6:=by
 rw[zd];exact SW h (λm hm=>by subst hN;exact U7 a m hm)
def onK(k:Zr):List Nat:=gA (nr k) 384
theorem Fv(k:Zr){N:Nat}(hN:N=384):onK k=oL (dg (nr k)) N N:=by
 subst hN;exact C8 (nr k) 384
theorem T7(k:Zr){N:Nat}(hN:N=384):V (nr k) 6<2^N:=by
 have h:=sp (nr k) 6;rw[show 64*6=N from hN.symm]at h;exact h
theorem BX(k:Zr){N:Nat}(hN:N=384):SOg (onK k)=k.val:=by rw[Fv k hN,HR hN (T7 k hN),vV]
theorem I2(k:Zr){N:Nat}(hN:N=384):(onK k).Pairwise (λa b=>b<=a):=by rw[Fv k hN];exact w9 _ _ _ (Nat.le_refl _)
theorem Gp(k:Zr){N:Nat}(hN:N=384){b:Nat}(h:b∈onK k):b<100000000:=by
 rw[Fv k hN]at h;have:=IE h (Nat.le_refl _);omega
theorem xA{b:Nat}{c:List Value}{w w':World}(h:w.rangeAt b 0 c)(hg:Grow w w'):w'.rangeAt b 0 c:=λj v hv=>(hg.cell (block_lt_of_cell (h j v hv))).trans (h j v hv)
namespace J1
theorem ut(c1:Nat)(k:Zr){L:List Nat}(hL:onK k=L):fP prog Gt 170 [pnt c1] (NLs L) (λW=>W.rangeAt c1 0 ((nr k).map U64)):=by
 subst hL;exact wp c1 (nr k) (fT k)
theorem Av(p:GP)(k:Zr){L:List Nat}(hL:onK k=L)(hb: ∀b∈L,b<100000000):PUR 33 [PtV p,RV k] (JV (tmF p.J L)):=by
 intro w hw;refine Hf func33 O hw<|λhGF=>ae (E:=EE [77,2000077])<|Bx 2 hGF O<|λb2=>Bx 3 hGF O<|λb3=>Al 4 hGF zv54<|λb4=>aa<|Xd [77,2000077]<|La 2 O O ck<|La 3 O O iH<|?_;refine bK O O ent77 O O (λw' hw'=>(oc k w' (hGF.g _ _ _ hw')).mono λe' w'' h=> ?_);obtain ⟨c1,rfl,hg,h1,ho⟩:=h;refine ⟨_,_,rfl,az hGF,hw'.news ao hg [(33,c1,(nr k).map U64,25)] ?_ bS,bQ ao O, ?_⟩
 ·intro n' b' c' t' hl
  rcases aK hl with ⟨_,e⟩|⟨_,hl⟩
  ·cases e;exact ⟨h1,ho⟩
  ·cases hl
 clear hw' hg h1 ho;refine Cc O ent76 (λw' hC hG=>gq p.J 170 [pnt c1] L (λW=>W.rangeAt c1 0 ((nr k).map U64)) ent170 (ut c1 k hL) hb w' hG (λw'' hg=>xA (aI (n:=33) O w' hC) hg))<|Sa 4 hGF O O O ck<|aa<|am<|Rr<|?_;exact av 4 O O O isAgg54 sizeOf54 sm (λw hw=>⟨rfl,ac hw⟩)
theorem Ad{x:Zp×Zp×Zp}{P:Pt Zp}(hP:E1.onP P)(hx:E1.jr x P)(k:Zr):E1.jr (tmF x (onK k)) (E1.times P k.val):=by
 rw[<-BX k O];exact tmF_jr hP hx (I2 k O)
def sN(p:GP)(k:Zr):GP:=⟨tmF p.J (onK k),E1.times p.P k.val,E1.times_on p.on _,Ad p.on p.jr k⟩
theorem uc(p:GP)(k:Zr):PUR 33 [PtV p,RV k] (PtV (sN p k)):=Av p k O (λ_ h=>Gp k O h)
end J1
namespace J2
theorem ut(c1:Nat)(k:Zr){L:List Nat}(hL:onK k=L):fP prog Gt 170 [pnt c1] (NLs L) (λW=>W.rangeAt c1 0 ((nr k).map U64)):=by
 subst hL;exact wp c1 (nr k) (fT k)
theorem Av(p:GP)(k:Zr){L:List Nat}(hL:onK k=L)(hb: ∀b∈L,b<100000000):PUR 36 [PtV p,RV k] (EV6 (E2w.tmF p.J L)):=by
 intro w hw;refine Hf func36 O hw<|λhGF=>ae (E:=EE [77,2000077])<|Bx 2 hGF O<|λb2=>Bx 3 hGF O<|λb3=>Al 4 hGF zv80<|λb4=>aa<|Xd [77,2000077]<|La 2 O O cn<|La 3 O O iH<|?_;refine bK O O ent77 O O (λw' hw'=>(oc k w' (hGF.g _ _ _ hw')).mono λe' w'' h=> ?_);obtain ⟨c1,rfl,hg,h1,ho⟩:=h;refine ⟨_,_,rfl,az hGF,hw'.news ao hg [(33,c1,(nr k).map U64,25)] ?_ bS,bQ ao O, ?_⟩
 ·intro n' b' c' t' hl
  rcases aK hl with ⟨_,e⟩|⟨_,hl⟩
  ·cases e;exact ⟨h1,ho⟩
  ·cases hl
 clear hw' hg h1 ho;refine Cc O ent82 (λw' hC hG=>gq p.J 170 [pnt c1] L (λW=>W.rangeAt c1 0 ((nr k).map U64)) ent170 (ut c1 k hL) hb w' hG (λw'' hg=>xA (aI (n:=33) O w' hC) hg))<|Sa 4 hGF O O O cn<|aa<|am<|Rr<|?_;exact av 4 O O O isAgg80 sizeOf80 sm (λw hw=>⟨rfl,ac hw⟩)
theorem Ad{x:W6}{P:Pt W2}(hP:E2w.onP P)(hx:E2w.jr x P)(k:Zr):E2w.jr (E2w.tmF x (onK k)) (E2w.times P k.val):=by
 rw[<-BX k O];exact E2w.tmF_jr hP hx (I2 k O)
def sN(p:GP)(k:Zr):GP:=⟨E2w.tmF p.J (onK k),E2w.times p.P k.val,E2w.times_on p.on _,Ad p.on p.jr k⟩
theorem uc(p:GP)(k:Zr):PUR 36 [PtV p,RV k] (PtV (sN p k)):=Av p k O (λ_ h=>Gp k O h)
end J2
end
section
open Go.RowKit
theorem ent133:ak prog 133:=λ_ _=>kr
theorem ent182:ak prog 182:=λ_ _=>kr
theorem ent264:ak prog 264:=λ_ _=>kr
theorem ent265:ak prog 265:=λ_ _=>kr
theorem ent278:ak prog 278:=λ_ _=>kr
theorem ent275:ak prog 275:=λ_ _=>kr
theorem ent279:ak prog 279:=λ_ _=>kr
theorem ent285:ak prog 285:=λ_ _=>kr
theorem ent10:ak prog 10:=λ_ _=>kr
namespace Sh
theorem zv92(w:World):(zeroValue 92).run prog w=.ok (.agg ((List.replicate 64 (0#32)).map U32).toArray) w:=(zeroValue92 w).trans rr
theorem zv91(w:World):(zeroValue 91).run prog w=.ok (.agg ((List.replicate 8 (0#32)).map U32).toArray) w:=(zeroValue91 w).trans rr
theorem zv289(w:World):(zeroValue 289).run prog w=.ok (.agg ((List.replicate 64 (0#8)).map U8).toArray) w:=(zeroValue289 w).trans rr
theorem zv98(w:World):(zeroValue 98).run prog w=.ok (.agg ((List.replicate 32 (0#8)).map U8).toArray) w:=(zeroValue98 w).trans rr
def lW(x:BitVec 32)(k:Int):BitVec 32:=(x<<<(BitVec.ofInt 64 k &&& 31#64).toNat)|||(x>>>(32#64-(BitVec.ofInt 64 k &&& 31#64)).toNat)
theorem eE(x:BitVec 32)(k:Int):PUR 288 [U32 x,I k] (U32 (lW x k)):=by
 intro w hw;refine Hf func288 O hw<|λhGF=>Xp<|Asg O<|aa<|Xp<|Mv O<|bX O O (λ_=>fW underlying3 underlying191 _) O O<|Bnr O O (λ_=>ek _ _ _)<|Asg O<|aa<|Xp<|Mv O<|Mv O<|Bnr O O (λ_=>h9 _ _ _)<|Mv O<|Mv O<|Bnr O O (λ_=>g9 _ _ _)<|Bnr O O (λ_=>ej _ _ _)<|Bnr O O (λ_=>gI _ _ _)<|Asg O<|aa<|am<|Rr<|?_;exact aF O O (λw hw=>⟨rfl,ac hw⟩)
def turn(x:BitVec 32)(n:Nat):BitVec 32:=(x>>>n)|||(x<<<(32-n))
theorem ez(x:BitVec 32)(n:Int)(h0:0<=n)(h1:n<=32):PUR 183 [U32 x,I n] (U32 (turn x n.toNat)):=by
 intro w hw;refine Hf func183 O hw<|λhGF=>Xp<|Asg O<|aa<|Xd []<|Mv O<|Mv O<|Bnr O O (λ_=>mc _ _ _ om)<|Mv O<|Mv O<|Bnr O O (λ_=>aW _ _ _ oi)<|Bnr O O (λ_=>sy _ _ _ om)<|Bnr O O (λ_=>gI _ _ _)<|Asg O<|aa<|am<|Rr<|?_;exact aF O O (λw hw=>⟨by rw[show (32-n).toNat=32-n.toNat from by omega];rfl,ac hw⟩)
def q8(x:BitVec 32):BitVec 32:=lW x (-6)^^^lW x (-11)^^^lW x (-25)
theorem Dk(x:BitVec 32):PUR 283 [U32 x] (U32 (q8 x)):=by
 intro w hw;refine Hf func283 O hw<|λhGF=>Xp<|Asg O<|aa<|Xp<|Mv O<|Ca O (eE _ _)<|Mv O<|Ca O (eE _ _)<|Bnr O O (λ_=>bN _ _ _)<|Mv O<|Ca O (eE _ _)<|Bnr O O (λ_=>bN _ _ _)<|Asg O<|aa<|am<|Rr<|?_;exact aF O O (λw hw=>⟨rfl,ac hw⟩)
def yb(x:BitVec 32):BitVec 32:=lW x (-2)^^^lW x (-13)^^^lW x (-22)
theorem Ev(x:BitVec 32):PUR 284 [U32 x] (U32 (yb x)):=by
 intro w hw;refine Hf func284 O hw<|λhGF=>Xp<|Asg O<|aa<|Xp<|Mv O<|Ca O (eE _ _)<|Mv O<|Ca O (eE _ _)<|Bnr O O (λ_=>bN _ _ _)<|Mv O<|Ca O (eE _ _)<|Bnr O O (λ_=>bN _ _ _)<|Asg O<|aa<|am<|Rr<|?_;exact aF O O (λw hw=>⟨rfl,ac hw⟩)
def D6(x:BitVec 32):BitVec 32:=lW x (-7)^^^lW x (-18)^^^(x>>>3)
theorem DB(x:BitVec 32):PUR 287 [U32 x] (U32 (D6 x)):=by
 intro w hw;refine Hf func287 O hw<|λhGF=>Xp<|Asg O<|aa<|Xp<|Mv O<|Ca O (eE _ _)<|Mv O<|Ca O (eE _ _)<|Bnr O O (λ_=>bN _ _ _)<|Mv O<|Bnr O O (λ_=>ej _ _ _)<|Bnr O O (λ_=>bN _ _ _)<|Asg O<|aa<|am<|Rr<|?_;exact aF O O (λw hw=>⟨rfl,ac hw⟩)
def Ee(x:BitVec 32):BitVec 32:=lW x (-17)^^^lW x (-19)^^^(x>>>10)
theorem Ej(x:BitVec 32):PUR 286 [U32 x] (U32 (Ee x)):=by
 intro w hw;refine Hf func286 O hw<|λhGF=>Xp<|Asg O<|aa<|Xp<|Mv O<|Ca O (eE _ _)<|Mv O<|Ca O (eE _ _)<|Bnr O O (λ_=>bN _ _ _)<|Mv O<|Bnr O O (λ_=>ej _ _ _)<|Bnr O O (λ_=>bN _ _ _)<|Asg O<|aa<|am<|Rr<|?_;exact aF O O (λw hw=>⟨rfl,ac hw⟩)
end Sh
end
section
open Go.RowKit
namespace Sh
def w4(bl:L8)(i:Nat):BitVec 32:=((bl.getD (4*i) 0).setWidth 32<<<24)|||((bl.getD (4*i+1) 0).setWidth 32<<<16)|||((bl.getD (4*i+2) 0).setWidth 32<<<8)|||(bl.getD (4*i+3) 0).setWidth 32
def W1(bl:L8):Nat->L3
 |0=>List.replicate 64 0#32
 |k+1=>(W1 bl k).set k (w4 bl k)
theorem zg(bl:L8): ∀k,(W1 bl k).length=64
 |0=>by simp[W1]
 |k+1=>by simp[W1,zg bl k]
def w5(ws:L3)(i:Nat):BitVec 32:=Ee (ws.getD (i-2) 0)+ws.getD (i-7) 0+D6 (ws.getD (i-15) 0)+ws.getD (i-16) 0
def W2(bl:L8):Nat->L3
 |0=>W1 bl 16
 |k+1=>(W2 bl k).set (16+k) (w5 (W2 bl k) (16+k))
theorem im(bl:L8): ∀k,(W2 bl k).length=64
 |0=>zg bl 16
 |k+1=>by simp[W2,im bl k]
theorem zC(bl:L8)(hb:bl.length=64):PUR 282 [.agg (bl.map U8).toArray] (.agg ((W2 bl 48).map U32).toArray):=by
 intro w hw;refine Hf func282 O hw<|λhGF=>Xp<|Bx 1 hGF O<|λb1=>Al 2 hGF zv92<|λb2=>aa<|Xp<|Al 3 hGF zv92<|λb3=>aa<|ah<|Xp<|Mv O<|aa<|ai<|bH (ι:={i:Nat // i<=16}) (λx=>[(6,I (x.1:Int)),(1,pnt b1),(2,pnt b2),(3,pnt b3)]) (λx=>[(3,b3,(W1 bl x.1).map U32,92),(2,b2,(List.replicate 64 (0#32)).map U32,92),(1,b1,bl.map U8,289)]) (λx=>16-x.1) ⟨0,om⟩ hGF trv trv<|?_;rintro ⟨i,hi⟩;dsimp only;refine Xp<|Bnr O O (λ_=>aw _ _ _)<|aa<|ah<|?_;refine bD O (λhc=> ?_) (λhc=> ?_)
 ·simp only[decide_eq_true_eq]at hc
  refine aq<|ah<|ai<|Xp<|Mv O<|Asg O<|aa<|Xe []<|Mv O<|Mv O<|Bnr O O (λ_=>bx _ _ _ oi)<|Ia ((4*i)) O O underlying289 sizeOf5<|Lm 1 U8 0 O O isAgg5 (by rw[hb];omega)<|bX O O (λ_=>il underlying5 underlying90 _) O O<|Bnr O O (λ_=>h9 _ _ _)<|Mv O<|Bnr O O (λ_=>bx _ _ _ oi)<|Bnr O O (λ_=>au _ _ _ oi)<|Ia (((4*i)+1)) O O underlying289 sizeOf5<|Lm 1 U8 0 O O isAgg5 (by rw[hb];omega)<|bX O O (λ_=>il underlying5 underlying90 _) O O<|Bnr O O (λ_=>h9 _ _ _)<|Bnr O O (λ_=>gI _ _ _)<|Mv O<|Bnr O O (λ_=>bx _ _ _ oi)<|Bnr O O (λ_=>au _ _ _ oi)<|Ia (((4*i)+2)) O O underlying289 sizeOf5<|Lm 1 U8 0 O O isAgg5 (by rw[hb];omega)<|bX O O (λ_=>il underlying5 underlying90 _) O O<|Bnr O O (λ_=>h9 _ _ _)<|Bnr O O (λ_=>gI _ _ _)<|Mv O<|Bnr O O (λ_=>bx _ _ _ oi)<|Bnr O O (λ_=>au _ _ _ oi)<|Ia (((4*i)+3)) O O underlying289 sizeOf5<|Lm 1 U8 0 O O isAgg5 (by rw[hb];omega)<|bX O O (λ_=>il underlying5 underlying90 _) O O<|Bnr O O (λ_=>gI _ _ _)<|Ia (i) O O underlying92 sizeOf90<|aY 3 U32 hGF O O O sizeOf90 O (by rw[zg];omega) O<|?_
  exact aa<|Xq<|Bnr O O (λ_=>au _ _ _ oi)<|Mv O<|aa<|aC<|⟨rfl,⟨i+1,om⟩,_,by show 16-(i+1)<16-i;omega,rfl,trv,trv⟩
 ·obtain rfl:i=16:=by simp at hc;omega
  refine aV<|ah<|Xp<|Asg O<|aa<|ai<|bH (ι:={i:Nat // i<=48}) (λx=>[(5,I ((16+x.1:Nat):Int)),(2,pnt b2),(3,pnt b3)]) (λx=>[(3,b3,(W2 bl x.1).map U32,92),(2,b2,(List.replicate 64 (0#32)).map U32,92)]) (λx=>48-x.1) ⟨0,om⟩ hGF trv trv<|?_;rintro ⟨j,hj⟩;dsimp only;refine ah<|Xp<|Mv O<|Bnr O O (λ_=>aw _ _ _)<|aa<|?_;refine bD O (λhc=> ?_) (λhc=> ?_)
  ·simp only[decide_eq_true_eq]at hc
   exact aq<|ah<|ai<|Xe []<|Mv O<|Mv O<|Bnr O O (λ_=>aW _ _ _ oi)<|Ia (((16+j)-2)) O O underlying92 sizeOf90<|Lm 3 U32 0 O O isAgg90 (by rw[im];omega)<|Ca O (Ej _)<|Mv O<|Bnr O O (λ_=>aW _ _ _ oi)<|Ia (((16+j)-7)) O O underlying92 sizeOf90<|Lm 3 U32 0 O O isAgg90 (by rw[im];omega)<|Bnr O O (λ_=>bi _ _ _)<|Mv O<|Bnr O O (λ_=>aW _ _ _ oi)<|Ia (((16+j)-15)) O O underlying92 sizeOf90<|Lm 3 U32 0 O O isAgg90 (by rw[im];omega)<|Ca O (DB _)<|Bnr O O (λ_=>bi _ _ _)<|Mv O<|Bnr O O (λ_=>aW _ _ _ oi)<|Ia (((16+j)-16)) O O underlying92 sizeOf90<|Lm 3 U32 0 O O isAgg90 (by rw[im];omega)<|Bnr O O (λ_=>bi _ _ _)<|Ia ((16+j)) O O underlying92 sizeOf90<|aY 3 U32 hGF O O O sizeOf90 O (by rw[im];omega) O<|aa<|Xq<|Mv O<|Bnr O O (λ_=>au _ _ _ oi)<|Asg O<|aa<|aC<|⟨rfl,⟨j+1,om⟩,_,by show 48-(j+1)<48-j;omega,rfl,trv,trv⟩
  ·obtain rfl:j=48:=by simp at hc;omega
   refine aV<|Xp<|Lw 3 O O Nq (im _ _)<|Sx 2 hGF O O O Nq (im _ _) (eJ _)<|aa<|am<|Rr<|?_;exact av 2 O O O isAgg92 sizeOf92 (by rw[List.length_map,im]) (λw hw=>⟨rfl,ac hw⟩)
theorem gk{B:Bs}{L:Hl}{Y:Nat->Prop}(hw:Gt B.w0)(hM: ¬B.M 7)(k:Nat)(hk:k<64): ∀w,Hq B L Y w->w.cell? ⟨7,k,none⟩=some (U32 (KW.getD k 0)):=by
 have:=hw.g7 k _ (gm U32 KW 0 k hk);rw[Nat.zero_add]at this;exact my this hM
structure V8 where
 (a b c d e f g h:BitVec 32)
def rnd(v:V8)(k w:BitVec 32):V8:=
 ⟨(v.h+q8 v.e+(v.e &&& v.f^^^ ~~~v.e &&& v.g)+k+w)+(yb v.a+(v.a &&& v.b^^^v.a &&& v.c^^^v.b &&& v.c)),v.a,v.b,v.c,v.d+(v.h+q8 v.e+(v.e &&& v.f^^^ ~~~v.e &&& v.g)+k+w),v.e,v.f,v.g⟩
def mR(v:V8)(ws:L3):Nat->V8
 |0=>v
 |k+1=>rnd (mR v ws k) (KW.getD k 0) (ws.getD k 0)
def v8(st:L3):V8:=⟨st.getD 0 0,st.getD 1 0,st.getD 2 0,st.getD 3 0,st.getD 4 0,st.getD 5 0,st.getD 6 0,st.getD 7 0⟩
def R3(st:L3)(v:V8):L3:=[st.getD 0 0+v.a,st.getD 1 0+v.b,st.getD 2 0+v.c,st.getD 3 0+v.d,st.getD 4 0+v.e,st.getD 5 0+v.f,st.getD 6 0+v.g,st.getD 7 0+v.h]
def sC(st:L3)(bl:L8):L3:=R3 st (mR (v8 st) (W2 bl 48) 64)
theorem tC(st:L3)(bl:L8)(hs:st.length=8)(hb:bl.length=64):PUR 276 [.agg (st.map U32).toArray,.agg (bl.map U8).toArray] (.agg ((sC st bl).map U32).toArray):=by
 intro w hw;refine Hf func276 O hw<|λhGF=>Xp<|Bx 2 hGF O<|λb2=>Bx 3 hGF O<|λb3=>Al 4 hGF zv91<|λb4=>aa<|Xp<|Lw 3 O O BD hb<|Ca O (zC _ hb)<|Al 5 hGF zv92<|λb5=>Sx 5 hGF O O O Nq (im _ _) (eJ _)<|aa<|Xd []<|Ia (0) O O underlying91 sizeOf90<|Lm 2 U32 0 O O isAgg90 (by rw[hs];omega)<|Ia (1) O O underlying91 sizeOf90<|Lm 2 U32 0 O O isAgg90 (by rw[hs];omega)<|Ia (2) O O underlying91 sizeOf90<|Lm 2 U32 0 O O isAgg90 (by rw[hs];omega)<|Ia (3) O O underlying91 sizeOf90<|Lm 2 U32 0 O O isAgg90 (by rw[hs];omega)<|Asg O<|Asg O<|Asg O<|Asg O<|aa<|Xd []<|Ia (4) O O underlying91 sizeOf90<|Lm 2 U32 0 O O isAgg90 (by rw[hs];omega)<|Ia (5) O O underlying91 sizeOf90<|Lm 2 U32 0 O O isAgg90 (by rw[hs];omega)<|Ia (6) O O underlying91 sizeOf90<|Lm 2 U32 0 O O isAgg90 (by rw[hs];omega)<|Ia (7) O O underlying91 sizeOf90<|Lm 2 U32 0 O O isAgg90 (by rw[hs];omega)<|Asg O<|Asg O<|Asg O<|Asg O<|aa<|?_
 refine ah<|Xp<|Lw 5 O O Nq (im _ _)<|Mv O<|aa<|ai<|bH (ι:={i:Nat // i<=64}) (λx=>[(39,I (x.1:Int)),(2,pnt b2),(4,pnt b4),(6,U32 (mR (v8 st) (W2 bl 48) x.1).a),(7,U32 (mR (v8 st) (W2 bl 48) x.1).b),(8,U32 (mR (v8 st) (W2 bl 48) x.1).c),(9,U32 (mR (v8 st) (W2 bl 48) x.1).d),(10,U32 (mR (v8 st) (W2 bl 48) x.1).e),(11,U32 (mR (v8 st) (W2 bl 48) x.1).f),(12,U32 (mR (v8 st) (W2 bl 48) x.1).g),(13,U32 (mR (v8 st) (W2 bl 48) x.1).h),(38,.agg ((W2 bl 48).map U32).toArray)]) (λx=>[(2,b2,st.map U32,91),(4,b4,(List.replicate 8 (0#32)).map U32,91)]) (λx=>64-x.1) ⟨0,om⟩ hGF trv trv<|?_;rintro ⟨i,hi⟩;dsimp only;refine Xp<|Bnr O O (λ_=>aw _ _ _)<|aa<|ah<|?_;refine bD O (λhc=> ?_) (λhc=> ?_)
 ·simp only[decide_eq_true_eq]at hc
  refine aq<|ah<|ai<|Xp<|Mv O<|i9 U32 0 (i) O O underlying92 sizeOf90 isAgg90 om om (im _ _) O O<|Asg O<|Asg O<|aa<|Xp<|Mv O<|Mv O<|Bnr O O (λ_=>dr _ _ _)<|Mv O<|bp O (λ_=>rE _) O O<|Mv O<|Bnr O O (λ_=>dr _ _ _)<|Bnr O O (λ_=>bN _ _ _)<|Asg O<|aa<|Xd []<|Mv O<|Mv O<|Ca O (Dk _)<|Bnr O O (λ_=>bi _ _ _)<|Mv O<|Bnr O O (λ_=>bi _ _ _)<|Mv O<|Ia (i) O O underlying92 sizeOf90<|bP O isAgg90 (gk (B:=pl w) hw (λh=>h) (i) om) O O<|Bnr O O (λ_=>bi _ _ _)<|Mv O<|Bnr O O (λ_=>bi _ _ _)<|Asg O<|aa<|Xp<|Mv O<|Mv O<|Bnr O O (λ_=>dr _ _ _)<|Mv O<|?_;refine Mv O<|Bnr O O (λ_=>dr _ _ _)<|Bnr O O (λ_=>bN _ _ _)<|Mv O<|Mv O<|Bnr O O (λ_=>dr _ _ _)<|Bnr O O (λ_=>bN _ _ _)<|Asg O<|aa<|Xp<|Mv O<|Ca O (Ev _)<|Mv O<|Bnr O O (λ_=>bi _ _ _)<|Asg O<|aa<|Xp<|Mv O<|Mv O<|Mv O<|Mv O<|Mv O<|Bnr O O (λ_=>bi _ _ _)<|Asg O<|Asg O<|Asg O<|Asg O<|aa<|Xq<|Mv O<|Mv O<|Mv O<|Mv O<|Mv O<|Bnr O O (λ_=>bi _ _ _)<|Asg O<|Asg O<|Asg O<|Asg O<|aa<|?_;exact Xq<|Bnr O O (λ_=>au _ _ _ oi)<|Mv O<|aa<|aC<|⟨rfl,⟨i+1,om⟩,_,by show 64-(i+1)<64-i;omega,rfl,trv,trv⟩
 ·obtain rfl:i=64:=by simp at hc;omega
  refine aV<|Xp<|Ia (0) O O underlying91 sizeOf90<|Lm 2 U32 0 O O isAgg90 (by rw[hs];omega)<|Mv O<|Bnr O O (λ_=>bi _ _ _)<|Ia (1) O O underlying91 sizeOf90<|Lm 2 U32 0 O O isAgg90 (by rw[hs];omega)<|Mv O<|Bnr O O (λ_=>bi _ _ _)<|Ia (2) O O underlying91 sizeOf90<|Lm 2 U32 0 O O isAgg90 (by rw[hs];omega)<|Mv O<|Bnr O O (λ_=>bi _ _ _)<|Ia (3) O O underlying91 sizeOf90<|Lm 2 U32 0 O O isAgg90 (by rw[hs];omega)<|Mv O<|Bnr O O (λ_=>bi _ _ _)<|Ia (4) O O underlying91 sizeOf90<|Lm 2 U32 0 O O isAgg90 (by rw[hs];omega)<|Mv O<|Bnr O O (λ_=>bi _ _ _)<|Ia (5) O O underlying91 sizeOf90<|Lm 2 U32 0 O O isAgg90 (by rw[hs];omega)<|Mv O<|Bnr O O (λ_=>bi _ _ _)<|Ia (6) O O underlying91 sizeOf90<|Lm 2 U32 0 O O isAgg90 (by rw[hs];omega)<|Mv O<|Bnr O O (λ_=>bi _ _ _)<|Ia (7) O O underlying91 sizeOf90<|Lm 2 U32 0 O O isAgg90 (by rw[hs];omega)<|Mv O<|Bnr O O (λ_=>bi _ _ _)<|bT (n:=8) O O underlying91 sizeOf90 zeroValue91 O O O O<|aA 4 hGF O O O sizeOf91 O (by rw[List.length_map,List.length_replicate]) O O<|aa<|am<|Rr<|?_
  exact av 4 O O O isAgg91 sizeOf91 O (λw hw=>⟨rfl,ac hw⟩)
def IV:L3:=[0x6a09e667#32,0xbb67ae85#32,0x3c6ef372#32,0xa54ff53a#32,0x510e527f#32,0x9b05688c#32,0x1f83d9ab#32,0x5be0cd19#32]
theorem yH  :PUR 281 [] (.agg (IV.map U32).toArray):=by
 intro w hw;refine Hf func281 O hw<|λhGF=>Xp<|Al 0 hGF zv91<|λb0=>aa<|Xp<|bT (n:=8) O O underlying91 sizeOf90 zeroValue91 O O O O<|aA 0 hGF O O O sizeOf91 O (by rw[List.length_map,List.length_replicate]) O O<|aa<|am<|Rr<|?_
 exact av 0 O O O isAgg91 sizeOf91 O (λw hw=>⟨rfl,ac hw⟩)
def DG(st:L3):Nat->L8
 |0=>List.replicate 32 0#8
 |k+1=>((((DG st k).set (4*k) ((st.getD k 0>>>24).setWidth 8)).set (4*k+1) ((st.getD k 0>>>16).setWidth 8)).set (4*k+2) ((st.getD k 0>>>8).setWidth 8)).set (4*k+3) ((st.getD k 0).setWidth 8)
theorem fD(st:L3): ∀k,(DG st k).length=32
 |0=>by simp[DG]
 |k+1=>by simp[DG,fD st k]
theorem xz(st:L3)(hs:st.length=8):PUR 277 [.agg (st.map U32).toArray] (.agg ((DG st 8).map U8).toArray):=by
 intro w hw;refine Hf func277 O hw<|λhGF=>Xp<|Bx 1 hGF O<|λb1=>Al 2 hGF zv98<|λb2=>aa<|Xp<|Al 3 hGF zv98<|λb3=>aa<|ah<|Xp<|Lw 1 O O sr hs<|Mv O<|aa<|ai<|bH (ι:={i:Nat // i<=8}) (λx=>[(7,I (x.1:Int)),(2,pnt b2),(3,pnt b3),(6,.agg (st.map U32).toArray)]) (λx=>[(3,b3,(DG st x.1).map U8,98),(2,b2,(List.replicate 32 (0#8)).map U8,98)]) (λx=>8-x.1) ⟨0,om⟩ hGF trv trv<|?_;rintro ⟨i,hi⟩;dsimp only;refine Xp<|Bnr O O (λ_=>aw _ _ _)<|aa<|ah<|?_;refine bD O (λhc=> ?_) (λhc=> ?_)
 ·simp only[decide_eq_true_eq]at hc
  refine aq<|ah<|ai<|Xp<|Mv O<|i9 U32 0 (i) O O underlying91 sizeOf90 isAgg90 om om (hs) O O<|Asg O<|Asg O<|aa<|Xp<|Mv O<|Bnr O O (λ_=>bx _ _ _ oi)<|Mv O<|Bnr O O (λ_=>ej _ _ _)<|bX O O (λ_=>ic underlying90 underlying5 _) O O<|Ia ((4*i)) O O underlying98 sizeOf5<|aY 3 U8 hGF O O O sizeOf5 O (by simp[fD];omega) O<|aa<|Xp<|Mv O<|Bnr O O (λ_=>bx _ _ _ oi)<|Bnr O O (λ_=>au _ _ _ oi)<|Mv O<|Bnr O O (λ_=>ej _ _ _)<|bX O O (λ_=>ic underlying90 underlying5 _) O O<|Ia (((4*i)+1)) O O underlying98 sizeOf5<|aY 3 U8 hGF O O O sizeOf5 O (by simp[fD];omega) O<|aa<|Xp<|Mv O<|Bnr O O (λ_=>bx _ _ _ oi)<|Bnr O O (λ_=>au _ _ _ oi)<|Mv O<|Bnr O O (λ_=>ej _ _ _)<|bX O O (λ_=>ic underlying90 underlying5 _) O O<|Ia (((4*i)+2)) O O underlying98 sizeOf5<|aY 3 U8 hGF O O O sizeOf5 O (by simp[fD];omega) O<|aa<|Xq<|Mv O<|?_
  exact Bnr O O (λ_=>bx _ _ _ oi)<|Bnr O O (λ_=>au _ _ _ oi)<|Mv O<|bX O O (λ_=>ic underlying90 underlying5 _) O O<|Ia (((4*i)+3)) O O underlying98 sizeOf5<|aY 3 U8 hGF O O O sizeOf5 O (by simp[fD];omega) O<|aa<|Xq<|Bnr O O (λ_=>au _ _ _ oi)<|Mv O<|aa<|aC<|⟨rfl,⟨i+1,om⟩,_,by show 8-(i+1)<8-i;omega,rfl,trv,trv⟩
 ·obtain rfl:i=8:=by simp at hc;omega
  refine aV<|Xp<|Lw 3 O O wK (fD _ _)<|Sx 2 hGF O O O wK (fD _ _) (bZ _)<|aa<|am<|Rr<|?_;exact av 2 O O O isAgg98 sizeOf98 (by rw[List.length_map,fD]) (λw hw=>⟨rfl,ac hw⟩)
end Sh
end
section
open Go.RowKit
namespace Sh
theorem Iv:(prog.info? 5).map (·.size)=some 1:=kr
def e1(rs:L8):L8:=(rs++List.replicate (64-rs.length) 0#8).set rs.length 128#8
theorem yZ(rs:L8)(h:rs.length<=64):(e1 rs).length=64:=by simp[e1];omega
def LB(bl:L8)(n:BitVec 64):Nat->L8
 |0=>bl
 |k+1=>(LB bl n k).set (56+k) (((8#64*n)>>>(56-8*(k:Int)).toNat).setWidth 8)
theorem zE(bl:L8)(n:BitVec 64): ∀k,(LB bl n k).length=bl.length
 |0=>rfl
 |k+1=>by simp[LB,zE bl n k]
theorem un(rs:L8)(n:BitVec 64)(h:rs.length<=64)(k:Nat):(LB (e1 rs) n k).length=64:=by rw[zE,yZ rs h]
theorem uq(n:BitVec 64)(k:Nat):(LB (List.replicate 64 0#8) n k).length=64:=by rw[zE];simp
def vn(br bn:Nat)(a:Option Addr)(cap:Nat)(rs:L8)(n:BitVec 64):Cls:=λW=>W.cell? ⟨br,0,none⟩=some (.slice a rs.length cap)/\W.cell? ⟨bn,0,none⟩=some (U64 n)/\BytesAt W a rs
def enc(bl:L8):List Value:=[.agg (bl.map U8).toArray]
theorem ca{J:(Nat->Prop)->World->Prop}(h:Rides J){L:Hl}{w:World}(hj:J (λb=>Yof L b\/False) w):J (λ_=>False) w:=h.less _ _ _ (λ_ h=>h.elim) hj
theorem Du(br bn:Nat)(a:Option Addr)(cap:Nat)(rs:L8)(n:BitVec 64)(h:rs.length<56):fP prog Gt 285 [pnt br,pnt bn] [enc (LB (e1 rs) n 8)] (vn br bn a cap rs n):=by
 intro l J Jx hJ hJx hRd hGx hY w hj;have okJ: ∀k,BOk Gt (Bi w (λY=>J Y k)):=λk=>⟨λ_ _ _ h=>(hRd _ _ _ h.rid).1,hJ k⟩;have okX: ∀k,BOk Gt (Bi w (λY=>Jx Y k)):=λk=>⟨λ_ _ _ h=>hGx _ _ _ h.rid,hJx k⟩;have c1: ∀k L w',Hp (Bi w (λY=>J Y k)) L w'->vn br bn a cap rs n w':=λk L w' h=>(hRd _ _ _ h.rid).2;refine cv (G:=Gt) func285 O O (Hp (Bi w (λY=>J Y 0)) []) (cj (Bi w _) hj (hJ 0)) (az (okJ 0))<|Xp<|Al 4 (okJ _) zv289<|λb4=>aa<|Xd []<|bR (l:=0) (h':=64) O underlying289 sizeOf5 O O om om O O<|bP O isAgg22 (λw h=>(c1 _ _ w h).1) O O<|ib 4 (okJ _) O O O underlying22 Iv (by show rs.length=Nat.min rs.length 64;exact (Nat.min_eq_left om).symm) (λw h=>(c1 _ _ w h).2.2) (by simp;omega) O O<|?_
 rw[tQ rs 64 om];refine aa<|Xp<|bP O isAgg22 (λw h=>(c1 _ _ w h).1) O O<|bf O (λ_=>aG underlying22 _ _ _ _) O O<|Ia (rs.length) O O underlying289 sizeOf5<|aY 4 U8 (okJ _) O O O sizeOf5 O (by simp;omega) O<|aa<|ah<|Xp<|bP O isAgg22 (λw h=>(c1 _ _ w h).1) O O<|bf O (λ_=>aG underlying22 _ _ _ _) O O<|Bnr O O (λ_=>df _ _ _)<|aa<|aD (by show some (Value.bool (decide ((rs.length:Int)>=56)))=_;rw[decide_eq_false om])<|aq<|Xp<|bP O isAgg24 (λw h=>(c1 _ _ w h).2.1) O O<|Bnr O O (λ_=>cx _ _ _)<|Asg O<|aa<|ah<|Xp<|Mv O<|aa<|ai<|bH (ι:={i:Nat // i<=8}) (λx=>[(23,I (x.1:Int)),(0,.func (.yield l) #[] #[]),(4,pnt b4),(5,U64 (8#64*n))]) (λx=>[(4,b4,(LB (e1 rs) n x.1).map U8,289)]) (λx=>8-x.1) ⟨0,om⟩ (okJ _) trv trv<|?_
 rintro ⟨i,hi⟩;dsimp only;refine Xp<|Bnr O O (λ_=>aw _ _ _)<|aa<|ah<|?_;refine bD O (λhc=> ?_) (λhc=> ?_)
 ·simp only[decide_eq_true_eq]at hc
  exact aq<|ah<|ai<|Xp<|Mv O<|Asg O<|aa<|Xq<|Mv O<|Bnr O O (λ_=>au _ _ _ oi)<|Mv O<|Mv O<|Bnr O O (λ_=>bx _ _ _ oi)<|Bnr O O (λ_=>aW _ _ _ oi)<|Bnr O O (λ_=>cY _ _ _ om)<|bX O O (λ_=>eU underlying24 underlying5 _) O O<|Ia ((56+i)) O O underlying289 sizeOf5<|aY 4 U8 (okJ _) O O O sizeOf5 O (by rw[un rs n om];omega) O<|aa<|Xq<|Bnr O O (λ_=>au _ _ _ oi)<|Mv O<|aa<|aC<|⟨rfl,⟨i+1,om⟩,_,by show 8-(i+1)<8-i;omega,rfl,trv,trv⟩
 ·obtain rfl:i=8:=by simp at hc;omega
  refine aV<|Xq<|Mv O<|Lw 4 O O BD (by rw[un rs n om])<|?_
  refine dB (hY.b (k:=0) O w) (okJ _) (okX _) O O O O O ?_ ?_
  ·exact aa<|cP O (λw hw=>⟨⟨_,rfl⟩,.inl (ca (hJ _) hw.rid)⟩)
  ·exact aa<|cP O (λw hw=>⟨⟨_,rfl⟩,.inr ⟨_,ca (hJx _) hw.rid⟩⟩)
theorem Fj(br bn:Nat)(a:Option Addr)(cap:Nat)(rs:L8)(n:BitVec 64)(h:56<=rs.length)(h2:rs.length<64):fP prog Gt 285 [pnt br,pnt bn] [enc (e1 rs),enc (LB (List.replicate 64 0#8) n 8)] (vn br bn a cap rs n):=by
 intro l J Jx hJ hJx hRd hGx hY w hj;have okJ: ∀k,BOk Gt (Bi w (λY=>J Y k)):=λk=>⟨λ_ _ _ h=>(hRd _ _ _ h.rid).1,hJ k⟩;have okX: ∀k,BOk Gt (Bi w (λY=>Jx Y k)):=λk=>⟨λ_ _ _ h=>hGx _ _ _ h.rid,hJx k⟩;have c1: ∀k L w',Hp (Bi w (λY=>J Y k)) L w'->vn br bn a cap rs n w':=λk L w' h=>(hRd _ _ _ h.rid).2;refine cv (G:=Gt) func285 O O (Hp (Bi w (λY=>J Y 0)) []) (cj (Bi w _) hj (hJ 0)) (az (okJ 0))<|Xp<|Al 4 (okJ _) zv289<|λb4=>aa<|Xd []<|bR (l:=0) (h':=64) O underlying289 sizeOf5 O O om om O O<|bP O isAgg22 (λw h=>(c1 _ _ w h).1) O O<|ib 4 (okJ _) O O O underlying22 Iv (by show rs.length=Nat.min rs.length 64;exact (Nat.min_eq_left om).symm) (λw h=>(c1 _ _ w h).2.2) (by simp;omega) O O<|?_
 rw[tQ rs 64 om];refine aa<|Xp<|bP O isAgg22 (λw h=>(c1 _ _ w h).1) O O<|bf O (λ_=>aG underlying22 _ _ _ _) O O<|Ia (rs.length) O O underlying289 sizeOf5<|aY 4 U8 (okJ _) O O O sizeOf5 O (by simp;omega) O<|aa<|ah<|Xp<|bP O isAgg22 (λw h=>(c1 _ _ w h).1) O O<|bf O (λ_=>aG underlying22 _ _ _ _) O O<|Bnr O O (λ_=>df _ _ _)<|aa<|aT (by show some (Value.bool (decide ((rs.length:Int)>=56)))=_;rw[decide_eq_true om])<|ah<|Xp<|Mv O<|bU 4 O O isAgg289 sizeOf289 (by simp;omega) O O<|?_
 refine dB (hY.b (k:=0) O w) (okJ _) (okX _) O O O O O ?_ ?_
 ·refine bp O (λ_=>a8 _) O O<|aa<|aD O<|aq<|Xq<|ec zv289 underlying289 sizeOf5 O O<|aA 4 (okJ _) O O O sizeOf289 (by rw[List.length_map,List.length_replicate]) (by simp;omega) (bZ _) O<|aa<|Xp<|bP O isAgg24 (λw h=>(c1 _ _ w h).2.1) O O<|Bnr O O (λ_=>cx _ _ _)<|Asg O<|aa<|ah<|Xp<|Mv O<|aa<|ai<|bH (ι:={i:Nat // i<=8}) (λx=>[(23,I (x.1:Int)),(0,.func (.yield l) #[] #[]),(4,pnt b4),(5,U64 (8#64*n))]) (λx=>[(4,b4,(LB (List.replicate 64 0#8) n x.1).map U8,289)]) (λx=>8-x.1) ⟨0,om⟩ (okJ _) trv trv<|?_
  rintro ⟨i,hi⟩;dsimp only;refine Xp<|Bnr O O (λ_=>aw _ _ _)<|aa<|ah<|?_;refine bD O (λhc=> ?_) (λhc=> ?_)
  ·simp only[decide_eq_true_eq]at hc
   exact aq<|ah<|ai<|Xp<|Mv O<|Asg O<|aa<|Xq<|Mv O<|Bnr O O (λ_=>au _ _ _ oi)<|Mv O<|Mv O<|Bnr O O (λ_=>bx _ _ _ oi)<|Bnr O O (λ_=>aW _ _ _ oi)<|Bnr O O (λ_=>cY _ _ _ om)<|bX O O (λ_=>eU underlying24 underlying5 _) O O<|Ia ((56+i)) O O underlying289 sizeOf5<|aY 4 U8 (okJ _) O O O sizeOf5 O (by rw[uq];omega) O<|aa<|Xq<|Bnr O O (λ_=>au _ _ _ oi)<|Mv O<|aa<|aC<|⟨rfl,⟨i+1,om⟩,_,by show 8-(i+1)<8-i;omega,rfl,trv,trv⟩
  ·obtain rfl:i=8:=by simp at hc;omega
   refine aV<|Xq<|Mv O<|Lw 4 O O BD (uq _ _)<|?_;refine dB (hY.b (k:=1) O w) (okJ _) (okX _) O O O O O ?_ ?_
   ·exact aa<|cP O (λw hw=>⟨⟨_,rfl⟩,.inl (ca (hJ _) hw.rid)⟩)
   ·exact aa<|cP O (λw hw=>⟨⟨_,rfl⟩,.inr ⟨_,ca (hJx _) hw.rid⟩⟩)
 ·refine bp O (λ_=>a8 _) O O<|aa<|aT O<|am<|Rr<|?_
  exact du O (λw hw=>⟨⟨_,rfl⟩,.inr ⟨_,ca (hJx _) hw.rid⟩⟩)
end Sh
end
section
open Go.RowKit
namespace Sh
def fx(rs:L8)(n:BitVec 64):List L8:=if rs.length<56 then [LB (e1 rs) n 8]else [e1 rs,LB (List.replicate 64 0#8) n 8]
theorem ov(rs:L8)(n:BitVec 64)(h:rs.length<64): ∀bl∈fx rs n,bl.length=64:=by
 unfold fx;split
 ·intro bl hbl
  rcases List.mem_singleton.1 hbl with rfl
  exact un rs n om 8
 ·intro bl hbl
  rcases List.mem_cons.1 hbl with rfl|hbl
  ·exact yZ rs om
  ·rcases List.mem_singleton.1 hbl with rfl
   exact uq n 8
theorem MT(br bn:Nat)(a:Option Addr)(cap:Nat)(rs:L8)(n:BitVec 64)(h:rs.length<64):fP prog Gt 285 [pnt br,pnt bn] ((fx rs n).map enc) (vn br bn a cap rs n):=by
 unfold fx;split
 ·exact Du br bn a cap rs n (by assumption)
 ·exact Fj br bn a cap rs n om h
def iT(bs:L8):List L8:=(List.range (bs.length / 64)).map λk=>(bs.drop (64*k)).take 64
def rl(bs:L8):List L8:=iT bs++fx (bs.drop (64*(bs.length / 64))) (BitVec.ofInt 64 bs.length)
theorem DQ(bs:L8):(iT bs).length=bs.length / 64:=by simp[iT]
theorem vM(bs:L8):(bs.drop (64*(bs.length / 64))).length<64:=by simp;omega
theorem E2(bs:L8): ∀bl∈rl bs,bl.length=64:=by
 intro bl h;rcases List.mem_append.1 h with h|h
 ·obtain ⟨k,hk,rfl⟩:=List.mem_map.1 h
  have:=List.mem_range.1 hk;simp;omega
 ·exact ov _ _ (vM bs) bl h
theorem uM(sv:Value)(n:BitVec 64)(hs:sv.cells= #[sv])(w:World)(hw:Gt w):CLS 279 [sv,U64 n].toArray w (λe w'=> ∃b2 b3,e=.returned (.func (.func 285) #[] #[pnt b2,pnt b3])/\Grow w w'/\w.heap.size<=b2/\w.heap.size<=b3/\b2≠b3/\OwnB w' b2 [sv] 22/\OwnB w' b3 [U64 n] 24):=by
 refine Hf func279 O hw<|λhGF=>Xp<|i3 2 hGF O O O<|λb2=>i3 3 hGF O O O<|λb3=>Asg O<|aa<|Xp<|go O O O O<|Asg O<|aa<|am<|Rr<|?_;exact aF O O (λw hw=>⟨b2,b3,rfl,ac hw,(hw.own 2 b2 _ _ O).2.elim id False.elim,(hw.own 3 b3 _ _ O).2.elim id False.elim,(λe=>by subst e;exact absurd (hw.inj 2 3 _ _ _ _ _ O O) dc),(by have:=(hw.own 2 b2 _ _ O).1;rw[hs]at this;exact this),(hw.own 3 b3 _ _ O).1⟩)
theorem uP{n m:Nat}{b1 b2:Nat}{c1 c2:List Value}{t1 t2:TypeId}(hne:b1≠b2): ∀i j b c t c' t',lkB [(n,b1,c1,t1),(m,b2,c2,t2)] i=some (b,c,t)->lkB [(n,b1,c1,t1),(m,b2,c2,t2)] j=some (b,c',t')->i=j:=by
 intro i j b c t c' t' h1 h2;rcases aK h1 with ⟨e1,x1⟩|⟨_,h1⟩<;>rcases aK h2 with ⟨e2,x2⟩|⟨_,h2⟩
 ·exact e1.trans e2.symm
 ·rcases aK h2 with ⟨_,x2⟩|⟨_,h2⟩
  ·cases x1;cases x2;exact (hne O).elim
  ·cases h2
 ·rcases aK h1 with ⟨_,x1⟩|⟨_,h1⟩
  ·cases x1;cases x2;exact (hne O).elim
  ·cases h1
 ·rcases aK h1 with ⟨e1,x1⟩|⟨_,h1⟩
  ·rcases aK h2 with ⟨e2,x2⟩|⟨_,h2⟩
   ·exact e1.trans e2.symm
   ·cases h2
  ·cases h1
end Sh
end
section
open Go.RowKit
namespace Sh
def gZ(st:L3)(bls:List L8):Nat->L3
 |0=>st
 |k+1=>sC (gZ st bls k) (bls.getD k [])
theorem iY(st:L3)(bl:L8):(sC st bl).length=8:=rfl
theorem ie(st:L3)(bls:List L8)(h:st.length=8): ∀k,(gZ st bls k).length=8
 |0=>h
 |_+1=>iY _ _
theorem Dy(st:L3)(hs:st.length=8)(gf:Nat)(caps:List Value)(bls:List L8)(hb: ∀bl∈bls,bl.length=64)(Rd:Cls)(he:ak prog gf)(hseq:fP prog Gt gf caps (bls.map enc) Rd)(w:World)(hw:Gt w)(hRs: ∀w',Grow w w'->Rd w'):
 CLS 278 [.agg (st.map U32).toArray,.func (.func gf) #[] caps.toArray].toArray w (λe w'=>e=.returned (.agg ((gZ st bls bls.length).map U32).toArray)/\Grow w w'):=by
 have hGF:BOk Gt (pl w):=gt_low.plain hw;refine cw (G:=Gt) func278 O O (Hp (pl w) []) (cj (pl w) trivial ao) (az hGF)<|Xp<|Bx 2 hGF O<|λb2=>Al 4 hGF zv91<|λb4=>aa<|ah<|Xp<|Mv O<|aa<|ai<|?_;refine fq (λ_=>pl w) (λ_ _=>pl w) (λ_=>hGF) (λ_ _=>hGF) (λ_=>rfl) (λ_ _=>rfl) O O he hseq (by simp[enc]) O (λk=>[(2,b2,(gZ st bls k).map U32,91),(4,b4,(List.replicate 8 0#32).map U32,91)]) (λ_ _ _=>False) trv (λ_ _ w' h=>hRs w' (h.below (λ_ h=>h))) ?_ ?_ (λ_ _ _ _ _ h=>h.elim)
 ·intro k x hx R hR
  obtain ⟨hk,rfl⟩:k<bls.length/\enc (bls.getD k [])=x:=by
   rw[List.getElem?_map]at hx;rcases Nat.lt_or_ge k bls.length with h|h
   ·simp[h]at hx;exact ⟨h,by simpa [h]using hx⟩
   ·simp[h]at hx
  have hb64:(bls.getD k []).length=64:=hb _ (by rw[show bls.getD k []=bls[k]from by simp[hk]];exact List.getElem_mem hk)
  refine Xq<|dS 5 (hR (pl w) O hGF).1 zv289 O O<|λb5=>aA 5 (hR (pl w) O hGF).1 O O O sizeOf289 (by rw[List.length_map,hb64]) (by rw[List.length_map,List.length_replicate]) (bZ _) O<|aa<|?_
  refine ⟨rfl,_,rfl, ?_⟩;exact ai<|Xq<|Lw 2 O O sr (by rw[ie st bls hs])<|Lw 5 O O BD hb64<|Ca O (tC _ _ (ie _ _ hs _) hb64)<|aA 2 (hR (pl w) O hGF).2.1 O O O sizeOf91 (by rw[List.length_map,iY]) (by rw[List.length_map,ie st bls hs]) (eJ _) O<|aa<|⟨_,rfl,trv⟩
 ·intro D hD
  refine Xp<|Lw 2 O O sr (by rw[ie st bls hs])<|Sx 4 hD O O O sr (by rw[ie st bls hs]) (eJ _)<|aa<|am<|Rr<|?_
  refine dX (.inl O) ao (av 4 O O O isAgg91 sizeOf91 (by rw[List.length_map,ie st bls hs]) (λw hw=>⟨?_,ac hw⟩))
  rw[List.length_map]
def SHA(bs:L8):L8:=DG (gZ IV (rl bs) (rl bs).length) 8
theorem gV(bs:L8):(SHA bs).length=32:=fD _ 8
theorem bS{n:Nat}{b1:Nat}{c1:List Value}{t1:TypeId}: ∀i j b c t c' t',lkB [(n,b1,c1,t1)] i=some (b,c,t)->lkB [(n,b1,c1,t1)] j=some (b,c',t')->i=j:=by
 intro i j b c t c' t' h1 h2;rcases aK h1 with ⟨e1,x1⟩|⟨_,h1⟩
 ·rcases aK h2 with ⟨e2,x2⟩|⟨_,h2⟩
  ·exact e1.trans e2.symm
  ·cases h2
 ·cases h1
end Sh
end
section
open Go.RowKit
namespace Sh
def hc(st:L3)(rs:L8)(n:BitVec 64):List Value:=st.map U32++(rs.map U8++[U64 n])
section
variable {st st':L3} {rs rs':L8} {n m:BitVec 64}
theorem ul(h1:st.length=8)(h2:rs.length=64):(hc st rs n).length=73:=by simp[hc,h1,h2]
theorem te(h1:st.length=8)(h2:rs.length=64):(hc st rs n)[72]? =some (U64 n):=by
 unfold hc;rw[List.getElem?_append_right (by simp[h1]),List.getElem?_append_right (by simp[h1,h2])]
 simp[h1,h2]
theorem Z5: ∀j v,(st.map U32)[j]? =some v->(hc st rs n)[0+j]? =some v:=λj v hv=>by
 have:j<(st.map U32).length:=by
  rcases Nat.lt_or_ge j (st.map U32).length with h|h
  ·exact h
  ·rw[List.getElem?_eq_none h]at hv;cases hv
 unfold hc;rw[Nat.zero_add,List.getElem?_append_left this];exact hv
theorem NF(h1:st.length=8): ∀j v,(rs.map U8)[j]? =some v->(hc st rs n)[8+j]? =some v:=λj v hv=>by
 have:j<(rs.map U8).length:=by
  rcases Nat.lt_or_ge j (rs.map U8).length with h|h
  ·exact h
  ·rw[List.getElem?_eq_none h]at hv;cases hv
 unfold hc;rw[List.getElem?_append_right (by simp[h1]),List.getElem?_append_left (by simpa [h1]using this)]
 simpa [h1]using hv
theorem SY(h1:st.length=8)(h1':st'.length=8):lay 0 (st'.map U32) (hc st rs n)=hc st' rs n:=by
 rw[ji _ _ _ (by simp[hc,h1,h1'])]
 simp[hc,h1',h1]
theorem vO(h1:st.length=8)(o:Nat)(xs:L8)(h:o+xs.length<=rs.length):lay (8+o) (xs.map U8) (hc st rs n)=hc st (rs.take o++xs++rs.drop (o+xs.length)) n:=by
 rw[ji _ _ _ (by simp[hc,h1];omega)]
 simp only[hc,List.take_append,List.drop_append,List.length_map,h1,List.map_append,List.map_take,List.map_drop];rw[List.take_of_length_le (by simp[h1]),List.drop_eq_nil_of_le (by simp[h1];omega)]
 rw[show 8+o-8=o from by omega,show o-rs.length=0 from by omega,show 8+o+xs.length-8=o+xs.length from by omega,show o+xs.length-rs.length=0 from by omega]
 simp
theorem TT(h1:st.length=8)(h2:rs.length=64)(h2':rs'.length=64):lay 8 (rs'.map U8) (hc st rs n)=hc st rs' n:=by
 have:=vO (rs:=rs) (n:=n) h1 0 rs' om;rw[Nat.add_zero]at this;rw[this,Nat.zero_add,List.drop_eq_nil_of_le om];simp
theorem QP(h1:st.length=8)(h2:rs.length=64):(hc st rs n).set 72 (U64 m)=hc st rs m:=by
 unfold hc;rw[List.set_append_right _ _ (by simp[h1]),List.set_append_right _ _ (by simp[h1,h2])]
 simp[h1,h2]
end
def tl(T:L8):L8:=T.drop (64*(T.length / 64))
theorem mt(T:L8):(tl T).length=T.length % 64:=by simp[tl];omega
def oM(rs:L8):L8:=rs++List.replicate (64-rs.length) 0#8
theorem D7(rs:L8)(h:rs.length<=64):(oM rs).length=64:=by simp[oM];omega
def full(T:L8):L3:=gZ IV (iT T) (T.length / 64)
structure HInv(T:L8)(st:L3)(rs:L8)(n:BitVec 64):Prop where
 len:T.length<9223372036854775808
 st8:st.length=8
 rest:rs=oM (tl T)
 num:n=BitVec.ofNat 64 T.length
 state:64<=T.length->st=full T
theorem HInv.zero:HInv [] (List.replicate 8 0#32) (List.replicate 64 0#8) 0:=⟨sm,sm,by simp[oM,tl],rfl,λh=>by simp at h⟩
theorem HInv.rs64{T:L8}{st:L3}{rs:L8}{n:BitVec 64}(h:HInv T st rs n):rs.length=64:=by rw[h.rest];exact D7 _ (by rw[mt];omega)
theorem HInv.toNat{T:L8}{st:L3}{rs:L8}{n:BitVec 64}(h:HInv T st rs n):n.toNat=T.length:=by
 have:=h.len;rw[h.num,BitVec.toNat_ofNat];omega
def rch(st:L3)(n:BitVec 64):L3:=if n<64#64 then IV else st
theorem HInv.rch{T:L8}{st:L3}{rs:L8}{n:BitVec 64}(h:HInv T st rs n):rch st n=full T:=by
 unfold Sh.rch;by_cases hlt:n<64#64
 ·have:T.length<64:=by have h1:=BitVec.lt_def.1 hlt;rw[h.toNat]at h1;simpa using h1
  rw[if_pos hlt,full,Nat.div_eq_of_lt this];rfl
 ·have: ¬T.length<64:=λh'=>hlt (BitVec.lt_def.2 (by rw[h.toNat];simpa using h'))
  rw[if_neg hlt];exact h.state om
theorem m4{st:L3}{n:BitVec 64}(h:st.length=8):(rch st n).length=8:=by unfold rch;split;rfl;exact h
theorem ka(st:L3)(a b:List L8): ∀k,(∀i,i<k->a.getD i []=b.getD i [])->gZ st a k=gZ st b k
 |0,_=>rfl
 |k+1,h=>by rw[gZ,gZ,ka st a b k (λi hi=>h i om),h k om]
theorem oC(st:L3)(a b:List L8): ∀k,gZ st (a++b) (a.length+k)=gZ (gZ st a a.length) b k
 |0=>by
  show gZ st (a++b) a.length=gZ st a a.length;exact ka st _ _ _ (λi hi=>by simp[List.getElem?_append_left hi])
 |k+1=>by
  rw[<-Nat.add_assoc,gZ,oC st a b k,gZ];congr 1;simp only[List.getD_eq_getElem?_getD];rw[List.getElem?_append_right om,Nat.add_sub_cancel_left]
theorem E8(T:L8):SHA T=DG (gZ (full T) (fx (tl T) (BitVec.ofInt 64 T.length)) (fx (tl T) (BitVec.ofInt 64 T.length)).length) 8:=by
 have:=oC IV (iT T) (fx (tl T) (BitVec.ofInt 64 T.length)) (fx (tl T) (BitVec.ofInt 64 T.length)).length;unfold SHA;rw[show rl T=iT T++fx (tl T) (BitVec.ofInt 64 T.length)from O,List.length_append,this,DQ];rfl
theorem HInv.part{T:L8}{st:L3}{rs:L8}{n:BitVec 64}(h:HInv T st rs n)(xs:L8)(hx:T.length % 64+xs.length<64)(hl:(T++xs).length<9223372036854775808):
 HInv (T++xs) st (rs.take (T.length % 64)++xs++rs.drop (T.length % 64+xs.length)) (n+BitVec.ofInt 64 xs.length):=by
 have hd:(T++xs).length / 64=T.length / 64:=by simp;omega
 have ht:tl (T++xs)=tl T++xs:=by
  unfold tl;rw[hd,List.drop_append_of_le_length om]
 refine ⟨hl,h.st8, ?_, ?_,λh64=> ?_⟩
 ·have e:=mt T
  rw[h.rest,ht,oM,oM];rw[List.take_append_of_le_length om,List.take_of_length_le om,List.drop_append,List.drop_eq_nil_of_le om];simp only[List.nil_append,List.append_assoc,List.drop_replicate,List.length_append];congr 3;omega
 ·apply BitVec.eq_of_toNat_eq
  rw[BitVec.toNat_add,h.toNat,BitVec.ofInt_natCast,BitVec.toNat_ofNat,BitVec.toNat_ofNat];simp
 ·have h64':64<=T.length:=by simp at h64;omega
  rw[h.state h64',full,full,hd];refine ka _ _ _ _ (λi hi=> ?_);have h1:i<T.length / 64:=hi;have h2:i<(T++xs).length / 64:=om;have e1:(iT T).getD i []=(T.drop (64*i)).take 64:=by simp[iT,h1]
  have e2:(iT (T++xs)).getD i []=((T++xs).drop (64*i)).take 64:=by
   unfold iT;simp[-List.length_append,h2]
  rw[e1,e2,List.drop_append_of_le_length om,List.take_append_of_le_length (by simp;omega)]
theorem HInv.fill{T:L8}{st:L3}{rs:L8}{n:BitVec 64}(h:HInv T st rs n)(xs:L8)(hx:T.length % 64+xs.length=64)(hl:(T++xs).length<9223372036854775808):
 HInv (T++xs) (sC (full T) (rs.take (T.length % 64)++xs++rs.drop (T.length % 64+xs.length))) (List.replicate 64 0#8) (n+BitVec.ofInt 64 xs.length):=by
 have hd:(T++xs).length / 64=T.length / 64+1:=by simp;omega
 have ht:tl (T++xs)=[]:=by
  unfold tl;rw[hd];apply List.drop_eq_nil_of_le;simp;omega
 refine ⟨hl,iY _ _,by rw[ht];rfl, ?_,λ_=> ?_⟩
 ·apply BitVec.eq_of_toNat_eq
  rw[BitVec.toNat_add,h.toNat,BitVec.ofInt_natCast,BitVec.toNat_ofNat,BitVec.toNat_ofNat];simp
 ·rw[full,full,hd,gZ]
  have e2: ∀i,i<(T++xs).length / 64->(iT (T++xs)).getD i []=((T++xs).drop (64*i)).take 64:=λi hi=>by
   unfold iT;simp[-List.length_append,hi]
  congr 1
  ·refine ka _ _ _ _ (λi hi=> ?_)
   have e1:(iT T).getD i []=(T.drop (64*i)).take 64:=by simp[iT,hi]
   rw[e1,e2 i om,List.drop_append_of_le_length om,List.take_append_of_le_length (by simp;omega)]
  ·have e:=mt T
   rw[e2 _ om,h.rest,oM,List.take_append_of_le_length om,List.take_of_length_le om,List.drop_append,List.drop_eq_nil_of_le om];rw[List.drop_append_of_le_length om,show T.drop (64*(T.length / 64))=tl T from O,List.take_of_length_le (by simp;omega)]
   simp;omega
end Sh
end
section
open Go.RowKit
namespace Sh
theorem sY{w:World}{b:Nat}{c:List Value}{t:TypeId}(h:OwnB w b c t){o:Nat}{cs:List Value}(hc: ∀j v,cs[j]? =some v->c[o+j]? =some v):w.rangeAt b o cs:=λj v hv=>(h.cell (o+j)).trans (hc j v hv)
theorem mh(bh:Nat)(st:L3)(rs:L8)(n:BitVec 64)(h1:st.length=8)(h2:rs.length=64)(w:World)(hw:Gt w)(ho:OwnB w bh (hc st rs n) 291):
 CLS 275 [pnt bh].toArray w (λe w'=>e=.returned (.agg ((rch st n).map U32).toArray)/\Grow w w'):=by
 refine Hf func275 O hw<|λhGF=>Xp<|Al 2 hGF zv91<|λb2=>aa<|ah<|Xp<|Mv O<|dH O O O<|Fa 72 O underlying291 O sizeOf24<|bP O isAgg24 (my (B:=pl w) ((ho.cell 72).trans (te h1 h2)) (λh=>h)) O O<|Bnr O O (λ_=>ow _ _ _)<|aa<|?_;refine bD O (λhc=> ?_) (λhc=> ?_)
 ·simp only[decide_eq_true_eq]at hc
  refine Xp<|Ca O (yH)<|Sx 2 hGF O O O sr (by rw[(show IV.length=8 from O)]) (eJ _)<|aa<|am<|Rr<|?_
  exact av 2 O O O isAgg91 sizeOf91 O (λw hw=>⟨by rw[rch,if_pos hc],ac hw⟩)
 ·simp only[decide_eq_false_iff_not]at hc
  refine aq<|Xp<|Mv O<|dH O O O<|Fa 0 O underlying291 O sizeOf91<|da O isAgg91 sizeOf91 (by rw[List.length_map,h1]) (fb (B:=pl w) (sY ho Z5) (λh=>h)) O O<|Sx 2 hGF O O O sr h1 (eJ _)<|aa<|am<|Rr<|?_
  exact av 2 O O O isAgg91 sizeOf91 (by rw[List.length_map,h1]) (λw hw=>⟨by rw[rch,if_neg hc],ac hw⟩)
theorem AD(T:L8)(bh:Nat)(st:L3)(rs:L8)(n:BitVec 64)(hi:HInv T st rs n)(w:World)(hw:Gt w)(ho:OwnB w bh (hc st rs n) 291):
 CLS 265 [pnt bh].toArray w (λe w'=>e=.returned (.agg ((SHA T).map U8).toArray)/\Grow w w'):=by
 have hGF:BOk Gt (pl w):=gt_low.plain hw;have hmt:(n % 64#64).toNat=(tl T).length:=by rw[BitVec.toNat_umod,hi.toNat,mt];rfl
 have hm64:(n % 64#64).toNat<64:=by rw[hmt,mt];omega
 have hn:BitVec.ofInt 64 T.length=n:=by rw[hi.num,BitVec.ofInt_natCast]
 refine Hd func265 O hGF<|ae (E:=EE [279])<|Al 2 hGF zv98<|λb2=>aa<|Xd [279]<|Mv O<|Cc O ent275 (λw' hw' hG=>mh bh st rs n hi.st8 hi.rs64 w' hG (ho.of_same ((ac hw').block bh ho.lt)))<|Mv O<|dH O O O<|Fa 8 O underlying291 O sizeOf289<|Mv O<|dH O O O<|Fa 72 O underlying291 O sizeOf24<|bP O isAgg24 (my (B:=pl w) ((ho.cell 72).trans (te hi.st8 hi.rs64)) (λh=>h)) O O<|Bnr O O (λ_=>eV _ _ _ dc)<|Kr O underlying289 sizeOf5 O hm64 O O<|Mv O<|dH O O O<|Fa 72 O underlying291 O sizeOf24<|bP O isAgg24 (my (B:=pl w) ((ho.cell 72).trans (te hi.st8 hi.rs64)) (λh=>h)) O O<|?_;refine dw O O ent279 O O (λw' hw'=>(uM _ _ O w' (hGF.g _ _ _ hw')).mono λe w'' h=> ?_);obtain ⟨c2,c3,rfl,hgr,h2,h3,hne,hc2,hc3⟩:=h;refine ⟨_,_,rfl,az hGF,hw'.news ao hgr [(31,c2,[.slice (some ⟨bh,8,none⟩) (n % 64#64).toNat 64],22),(32,c3,[U64 n],24)] ?_ ?_, ?_⟩
 ·intro n' b c t hl
  rcases aK hl with ⟨_,e⟩|⟨_,hl⟩
  ·cases e;exact ⟨h2,hc2⟩
  ·rcases aK hl with ⟨_,e⟩|⟨_,hl⟩
   ·cases e;exact ⟨h3,hc3⟩
   ·cases hl
 ·exact uP hne
 refine Cc O ent278 (λw' hw' hG=>Dy (rch st n) (m4 hi.st8) 285 [pnt c2,pnt c3] (fx (tl T) n) (ov _ _ (by rw[mt];omega)) (vn c2 c3 (some ⟨bh,8,none⟩) 64 (tl T) n) ent285 (MT c2 c3 (some ⟨bh,8,none⟩) 64 (tl T) n (by rw[mt];omega)) w' hG (λw3 hg3=> ?_)) ?_
 ·have hx:=hw'.grow ao hg3
  refine ⟨by rw[<-hmt];exact cB (n:=31) O O w3 hx,cB (n:=32) O O w3 hx,BytesAt.range ?_⟩
  intro j v hv;refine my (B:=pl w) ((ho.cell (8+j)).trans ?_) (λh=>h) w3 hx;refine NF hi.st8 j v ?_;rw[hi.rest,oM,List.map_append];have hlt:j<((tl T).map U8).length:=by
   rcases Nat.lt_or_ge j ((tl T).map U8).length with h|h
   ·exact h
   ·rw[List.getElem?_eq_none h]at hv;cases hv
  rw[List.getElem?_append_left hlt];exact hv
 refine Ca O (xz _ (ie _ _ (m4 hi.st8) _))<|Sx 2 hGF O O O wK (fD _ _) (bZ _)<|aa<|am<|Rr<|?_;exact av 2 O O O isAgg98 sizeOf98 (by rw[List.length_map,fD]) (λw hw=>⟨by rw[E8 T,hi.rch,hn],ac hw⟩)
end Sh
end
section
open Go.RowKit
namespace Sh
structure WSt(T bs:L8)(w:World)(bh:Nat) where
 (c:Nat) (st:L3) (rs:L8) (n:BitVec 64) (a:Option Addr) (cap:Nat)
 hc:c<=bs.length
 hi:HInv (T++bs.take c) st rs n
 hb:BytesAt w a (bs.drop c)
 hcap:(bs.drop c).length<=cap
 hne:bs.drop c≠[]->∀ad,a=some ad->ad.block≠bh
theorem Do(bs:L8)(c m:Nat):bs.take c++(bs.drop c).take m=bs.take (c+m):=by rw[List.take_add]
theorem wY(T bs:L8)(bh:Nat)(st:L3)(rs:L8)(n:BitVec 64)(hi:HInv T st rs n)(hT:(T++bs).length<9223372036854775808)(a:Option Addr)(cap:Nat)(hcap:bs.length<=cap)(w:World)(hw:Gt w)(ho:OwnB w bh (hc st rs n) 291)(hbh:8<=bh)(hby:BytesAt w a bs)(hne:bs≠[]->∀ad,a=some ad->ad.block≠bh):
 CLS 264 [pnt bh,.slice a bs.length cap].toArray w (λe w'=>e=.returned (.tuple #[])/\Mod bh w w'/\∃st' rs' n',HInv (T++bs) st' rs' n'/\OwnB w' bh (hc st' rs' n') 291):=by
 have hGF:BOk Gt (plM w (λk=>k=bh)):=(gt_low.from (M:=λk=>k=bh) hw (λm hm=>by subst hm;exact hbh)).ok (B:=plM w (λk=>k=bh)) ao
 refine cv (G:=Gt) func264 O O (Hp (plM w (λk=>k=bh)) [(0,bh,hc st rs n,291)]) (Id ho) (az hGF)<|ai<|bH (ι:=WSt T bs w bh) (λx=>[(0,pnt bh),(1,.slice x.a (bs.drop x.c).length x.cap)]) (λx=>[(0,bh,hc x.st x.rs x.n,291)]) (λx=>bs.length-x.c) ⟨0,st,rs,n,a,cap,Nat.zero_le _,by simpa using hi,by simpa using hby,by simpa using hcap,hne⟩ hGF trv trv<|?_
 rintro x;have x8:=x.hi.st8;have x64:=x.hi.rs64;have hdl:(bs.drop x.c).length=bs.length-x.c:=List.length_drop;have hxc:=x.hc;refine ah<|Xp<|Mv O<|bf O (λ_=>aG underlying22 _ _ _ _) O O<|Bnr O O (λ_=>ba _ _ _)<|aa<|?_;refine bD O (λhc=> ?_) (λhc=> ?_)
 ·simp only[decide_eq_true_eq]at hc
  have hmod:(x.n % 64#64).toNat=(T++bs.take x.c).length % 64:=by rw[BitVec.toNat_umod,x.hi.toNat];rfl
  have hm64:(x.n % 64#64).toNat<64:=om;obtain ⟨xs,hxs⟩: ∃xs,(bs.drop x.c).take (64-(x.n % 64#64).toNat)=xs:=⟨_,rfl⟩;have hxl:xs.length=Nat.min (bs.drop x.c).length (64-(x.n % 64#64).toNat):=by rw[<-hxs,List.length_take];exact Nat.min_comm _ _
  have hx1:xs.length<=(bs.drop x.c).length:=by rw[hxl];exact Nat.min_le_left _ _
  have hx2:xs.length<=64-(x.n % 64#64).toNat:=by rw[hxl];exact Nat.min_le_right _ _
  have hx0:0<xs.length:=by rw[hxl];exact Nat.lt_min.2 ⟨om,om⟩
  have hdne:bs.drop x.c≠[]:=λe=>by rw[e]at hc;simp at hc
  have hbx:BytesAt w x.a xs:=hxs▸x.hb.take _;have hmx:(x.n % 64#64).toNat+xs.length<=x.rs.length:=by rw[x64];omega
  have hxt:T++bs.take (x.c+xs.length)=T++bs.take x.c++xs:=by
   rw[<-Do,<-List.append_assoc,<-List.prefix_iff_eq_take.1 (hxs▸List.take_prefix _ _)]
  have hdn:(bs.drop x.c).length-xs.length=(bs.drop (x.c+xs.length)).length:=by rw[List.length_drop,List.length_drop];omega
  have hroom:8+(x.n % 64#64).toNat+xs.length<=73:=om;have hlen2:(T++bs.take x.c++xs).length<9223372036854775808:=by simp at hT⊢;omega
  have hb3:BytesAt w (if x.cap=xs.length then x.a else x.a.map (·.add (xs.length*1))) (bs.drop (x.c+xs.length)):=by
   have:=x.hb.drop (cap:=x.cap) (l:=xs.length) x.hcap om
   rwa [List.drop_drop]at this
  have hc3:(bs.drop (x.c+xs.length)).length<=x.cap-xs.length:=by have:=x.hcap;simp at this⊢;omega
  have hn3:bs.drop (x.c+xs.length)≠[]->∀ad,(if x.cap=xs.length then x.a else x.a.map (·.add (xs.length*1)))=some ad->ad.block≠bh:=by
   intro _ ad had;split at had
   ·exact x.hne hdne ad had
   ·cases hxa:x.a with
    |none=>rw[hxa]at had;cases had
    |some ad0=>
     rw[hxa]at had
     cases had
     rw[tw];exact x.hne hdne ad0 hxa
  have hsum:(x.n+BitVec.ofInt 64 xs.length).toNat=(T++bs.take x.c).length+xs.length:=by
   rw[BitVec.toNat_add,x.hi.toNat,BitVec.ofInt_natCast,BitVec.toNat_ofNat];simp at hlen2⊢;omega
  have hsm:((x.n+BitVec.ofInt 64 xs.length) % 64#64).toNat=((T++bs.take x.c).length+xs.length) % 64:=by rw[BitVec.toNat_umod,hsum];rfl
  have hfl0:(((x.n+BitVec.ofInt 64 xs.length) % 64#64==0#64)=true->(T++bs.take x.c).length % 64+xs.length=64)/\(((x.n+BitVec.ofInt 64 xs.length) % 64#64==0#64)=false->(T++bs.take x.c).length % 64+xs.length<64):=by
   refine ⟨λh=> ?_,λh=> ?_⟩
   ·have:=congrArg BitVec.toNat (beq_iff_eq.1 h)
    rw[hsm]at this;have h0:(0#64).toNat=0:=rfl;omega
   ·have hne: ¬((x.n+BitVec.ofInt 64 xs.length) % 64#64).toNat=0:=λe=>(beq_eq_false_iff_ne.1 h) (BitVec.eq_of_toNat_eq (by rw[e];rfl))
    rw[hsm]at hne;omega
  refine aq<|ai<|Xp<|Mv O<|Cc O ent275 (λw' hw' hG=>mh bh x.st x.rs x.n x8 x64 w' hG (hw'.own 0 _ _ _ O).1)<|Al 4 hGF zv91<|λb4=>Sx 4 hGF O O O sr (m4 x.hi.st8) (eJ _)<|aa<|Xd []<|Mv O<|dH O O O<|Fa 8 O underlying291 O sizeOf289<|Mv O<|dH O O O<|Fa 72 O underlying291 O sizeOf24<|cS 0 O O (te x8 x64) isAgg24 O O<|Bnr O O (λ_=>eV _ _ _ dc)<|LK O underlying289 sizeOf5 O hm64 O O<|Mv O<|ib (cs:=xs) 0 hGF O O O underlying22 Iv hxl (λw' h=>EA hbx (yB h) (x.hne hdne)) (by rw[ul x8 x64];exact hroom) O O<|?_
  rw[vO x8 _ xs hmx];have x64:(x.rs.take (x.n % 64#64).toNat++xs++x.rs.drop ((x.n % 64#64).toNat+xs.length)).length=64:=by rw[List.length_append,List.length_append,List.length_take,List.length_drop,x64];omega
  obtain ⟨rs1,hrs1⟩: ∃rs1,x.rs.take (x.n % 64#64).toNat++xs++x.rs.drop ((x.n % 64#64).toNat+xs.length)=rs1:=⟨_,rfl⟩;rw[hrs1]at x64⊢;refine Asg O<|aa<|Xp<|Mv O<|dH O O O<|Fa 72 O underlying291 O sizeOf24<|cS 0 O O (te x8 x64) isAgg24 O O<|Mv O<|bX O O (λ_=>fW underlying3 underlying24 _) O O<|Bnr O O (λ_=>a9 _ _ _)<|dH O O O<|Fa 72 O underlying291 O sizeOf24<|dY 0 hGF O O O sizeOf24 O (by rw[ul x8 x64];decide) O<|?_
  rw[QP x8 x64];refine aa<|Xp<|Mv O<|Mv O<|gh (l:=xs.length) (h':=(bs.drop x.c).length) O underlying22 sizeOf5 O O ⟨om,x.hcap⟩ O O<|Asg O<|aa<|Xp<|Mv O<|dH O O O<|Fa 72 O underlying291 O sizeOf24<|cS 0 O O (te x8 x64) isAgg24 O O<|Bnr O O (λ_=>eV _ _ _ dc)<|Bnr O O (λ_=>bu _ _ _)<|aa<|?_;refine bD O (λhc=> ?_) (λhc=> ?_)
  ·have hfl:=hfl0.1 hc
   refine Xd []<|Mv O<|Lw 4 O O sr (m4 x.hi.st8)<|Mv O<|dH O O O<|Fa 8 O underlying291 O sizeOf289<|Jm 0 O O isAgg289 sizeOf289 (by rw[List.length_map,x64]) (NF x8) O O<|Ca O (tC _ _ (m4 x.hi.st8) x64)<|dH O O O<|Fa 0 O underlying291 O sizeOf91<|fY 0 hGF O O O sizeOf91 (by rw[List.length_map,iY]) (eJ _) (by rw[ul x8 x64,List.length_map,iY];decide) O<|?_
   rw[SY x8 (iY _ _)];have x8:=iY (rch x.st x.n) rs1;refine aa<|Xq<|Mv O<|ec zv289 underlying289 sizeOf5 O O<|dH O O O<|Fa 8 O underlying291 O sizeOf289<|fY 0 hGF O O O sizeOf289 (by rw[List.length_map,List.length_replicate]) (bZ _) (by rw[ul x8 x64,List.length_map,List.length_replicate];decide) O<|?_
   rw[TT x8 x64 List.length_replicate];refine aa ?_
   repeat (refine aO ?_)
   exact aC<|⟨rfl,⟨x.c+xs.length,sC (rch x.st x.n) rs1,List.replicate 64 0#8,x.n+BitVec.ofInt 64 xs.length,if x.cap=xs.length then x.a else x.a.map (·.add (xs.length*1)),x.cap-xs.length,om,(by rw[hxt,<-hrs1,hmod,x.hi.rch];exact x.hi.fill xs hfl hlen2),hb3,hc3,hn3⟩,_,by show bs.length-(x.c+xs.length)<bs.length-x.c;omega,rfl,⟨rfl,congrArg (λk=>some (Value.slice (if x.cap=xs.length then x.a else x.a.map (·.add (xs.length*1))) k (x.cap-xs.length))) hdn,trivial⟩,trv⟩
  ·have hfl:=hfl0.2 hc
   refine aq ?_
   repeat (refine aO ?_)
   exact aC<|⟨rfl,⟨x.c+xs.length,x.st,rs1,x.n+BitVec.ofInt 64 xs.length,if x.cap=xs.length then x.a else x.a.map (·.add (xs.length*1)),x.cap-xs.length,om,(by rw[hxt,<-hrs1,hmod];exact x.hi.part xs hfl hlen2),hb3,hc3,hn3⟩,_,by show bs.length-(x.c+xs.length)<bs.length-x.c;omega,rfl,⟨rfl,congrArg (λk=>some (Value.slice (if x.cap=xs.length then x.a else x.a.map (·.add (xs.length*1))) k (x.cap-xs.length))) hdn,trivial⟩,trv⟩
 ·simp only[decide_eq_false_iff_not]at hc
  refine aV ?_;have hall:bs.take x.c=bs:=List.take_of_length_le (by have:=x.hc;omega)
  repeat (refine dC ?_)
  exact cm<|cP O (λw' hw'=>⟨rfl,yB hw',x.st,x.rs,x.n,by have:=x.hi;rw[hall]at this;exact this,(hw'.own 0 _ _ _ O).1⟩)
end Sh
end
section
open Go.RowKit
namespace Sh
theorem ti5:TI prog 5 (.int .u8 0) 1 1:=sL kr
def Cln(w w':World)(bs:L8)(sv:Value):Prop:=
 (bs=[]/\sv=.slice none 0 0)\/∃b c cap1,sv=.slice (spt b) bs.length cap1/\w.heap.size<=b/\OwnB w' b c 5/\c.length=cap1/\bs.length<=cap1/\c.take bs.length=bs.map U8
theorem Cln.cells{w w':World}{bs:L8}{sv:Value}(h:Cln w w' bs sv):sv.cells= #[sv]:=by
 rcases h with ⟨_,rfl⟩|⟨_,_,_,rfl,_⟩<;>rfl
end Sh
end
section
open Go.RowKit
namespace Sh
def PD(bs:L8)(k:Nat):L8:=bs++([128#8]++List.replicate k 0#8)
theorem BB(bs:L8)(k:Nat):PD bs k++[0#8]=PD bs (k+1):=by
 simp[PD,List.replicate_succ']
theorem yE(bs:L8)(k:Nat):(PD bs k).length=bs.length+1+k:=by simp[PD];omega
def nz(bs:L8):Nat:=(120-(bs.length+1) % 64) % 64
def nb(n:BitVec 64)(j:Nat):BitVec 8:=(n>>>(8*(7-(j:Int))).toNat).setWidth 8
def PE(bs:L8)(n:BitVec 64):Nat->L8
 |0=>PD bs (nz bs)
 |j+1=>PE bs n j++[nb n j]
theorem nP(bs:L8)(n:BitVec 64): ∀j,(PE bs n j).length=bs.length+1+nz bs+j
 |0=>yE bs _
 |j+1=>by rw[PE,List.length_append,nP bs n j];rfl
def PAD(bs:L8):L8:=PE bs (BitVec.ofInt 64 bs.length*8#64) 8
structure PdSt(bs:L8) where
 (k b:Nat) (c:List Value)
 hk:k+(120-(bs.length+1+k) % 64) % 64=nz bs
 h1:(PD bs k).length<=c.length
 h2:c.take (PD bs k).length=(PD bs k).map U8
structure PeSt(bs:L8)(n:BitVec 64) where
 (j b:Nat) (c:List Value)
 hj:j<=8
 h1:(PE bs n j).length<=c.length
 h2:c.take (PE bs n j).length=(PE bs n j).map U8
theorem DS(a:Option Addr)(cap:Nat)(bs:L8)(hl:bs.length<=70368744170000)(w:World)(hw:Gt w)(hby:BytesAt w a bs):
 CLS 182 [.slice a bs.length cap].toArray w (λe w'=> ∃sv,e=.returned sv/\Grow w w'/\Cln w w' (PAD bs) sv):=by
 refine Hf func182 O hw<|λhGF=>Xp<|Asg O<|aa<|Xp<|Mv O<|?_;refine cq (xs:=[]) (ys:=bs) 3 hGF O O underlying22 underlying22 ti5 (iM _ _ _) (λw' h=>hby.grow (ac h)) (by simpa using Nat.le_trans hl dc) O O (λh0=> ?_) (λb7 c7 cap7 e7 l7 t7=> ?_)
 ·have hbs:bs=[]:=h0
  subst hbs;clear h0;refine d8 8 [128#8] hGF O O O dc dc underlying22 sizeOf5 zeroValue5 O O ?_;intro b8;refine cq (xs:=[]) (ys:=[128#8]) 3 hGF O O underlying22 underlying22 ti5 (iM _ _ _) (λw' h=>BytesAt.range (aI (n:=8) O w' h)) dc O O (λh0=> ?_) (λb9 c9 cap9 e9 l9 t9=> ?_)
  ·simp at h0
  subst e9;refine Asg O<|aa<|ah<|ai<|bH (ι:=PdSt ([]:L8)) (λx=>[(0,.slice a (List.length ([]:L8)) cap),(3,.slice (spt x.b) (PD ([]:L8) x.k).length x.c.length)]) (λx=>[(3,x.b,x.c,5)]) (λx=>nz ([]:L8)-x.k) ⟨0,b9,c9,by unfold nz;rw[Nat.zero_add,Nat.add_zero],l9,t9⟩ hGF trv trv<|?_
  intro x;have hk:=x.hk;have hln:=yE ([]:L8) x.k;clear l9 t9;refine ah<|Xp<|Mv O<|bf O (λ_=>aG underlying22 _ _ _ _) O O<|cu (v:=I (((PD ([]:L8) x.k).length % 64:Nat):Int)) O O (λ_=>rfl) (λ_=>cU _ _ _ dc) O O<|Bnr O O (λ_=>bC _ _ _)<|aa<|?_;refine bD O (λhc=> ?_) (λhc=> ?_)
  ·have hne:(PD ([]:L8) x.k).length % 64≠56:=by have:=bne_iff_ne.1 hc;omega
   refine aq<|ai<|Xq<|Mv O<|d8 15 [0#8] hGF O O O dc dc underlying22 sizeOf5 zeroValue5 O O<|?_;intro b15;refine cq (xs:=PD ([]:L8) x.k) (ys:=[0#8]) 3 hGF O O underlying22 underlying22 ti5 (.inr ⟨x.b,x.c,rfl,rfl,rfl,x.h1,x.h2⟩) (λw' h=>BytesAt.range (aI (n:=15) O w' h)) (by show (PD ([]:L8) x.k).length+1<=_;rw[hln];unfold nz at hk;omega) O O (λh0=> ?_) (λb16 c16 cap16 e16 l16 t16=> ?_)
   ·simp at h0
   subst e16;rw[BB]at l16 t16⊢;refine Asg O<|aa<|?_
   repeat (refine aO ?_)
   exact aC<|⟨rfl,⟨x.k+1,b16,c16,by unfold nz at hk⊢;omega,l16,t16⟩,_,by show nz ([]:L8)-(x.k+1)<nz ([]:L8)-x.k;unfold nz at hk⊢;omega,rfl,trv,trv⟩
  ·obtain ⟨k,bb,cc,hk',h1,h2⟩:=x
   dsimp only at hc hk hln⊢;obtain rfl:k=nz ([]:L8):=by
    have:=bne_eq_false_iff_eq.1 hc;unfold nz at hk⊢;omega
   clear hc hk hln hk';refine aV<|Xp<|Mv O<|bf O (λ_=>aG underlying22 _ _ _ _) O O<|bX O O (λ_=>fW underlying3 underlying24 _) O O<|Bnr O O (λ_=>cx _ _ _)<|Asg O<|aa<|ah<|Xp<|Asg O<|aa<|ai<|bH (ι:=PeSt ([]:L8) (BitVec.ofInt 64 (List.length ([]:L8))*8#64)) (λy=>[(3,.slice (spt y.b) (PE ([]:L8) (BitVec.ofInt 64 (List.length ([]:L8))*8#64) y.j).length y.c.length),(4,U64 (BitVec.ofInt 64 (List.length ([]:L8))*8#64)),(5,I (7-(y.j:Int)))]) (λy=>[(3,y.b,y.c,5)]) (λy=>8-y.j) ⟨0,bb,cc,dc,h1,h2⟩ hGF trv trv<|?_;clear h1 h2;intro x;have hj:=x.hj;refine ah<|Xp<|Mv O<|Bnr O O (λ_=>df _ _ _)<|aa<|?_;refine bD O (λhc=> ?_) (λhc=> ?_)
   ·simp only[decide_eq_true_eq]at hc
    refine aq<|ah<|ai<|Xq<|Mv O<|Mv O<|Mv O<|Bnr O O (λ_=>bx _ _ _ oi)<|Bnr O O (λ_=>cY _ _ _ om)<|bX O O (λ_=>eU underlying24 underlying5 _) O O<|d8 31 [nb (BitVec.ofInt 64 (List.length ([]:L8))*8#64) x.j] hGF O O O dc dc underlying22 sizeOf5 zeroValue5 O O<|?_;intro b31;refine cq (xs:=PE ([]:L8) (BitVec.ofInt 64 (List.length ([]:L8))*8#64) x.j) (ys:=[nb (BitVec.ofInt 64 (List.length ([]:L8))*8#64) x.j]) 3 hGF O O underlying22 underlying22 ti5 (.inr ⟨x.b,x.c,rfl,rfl,rfl,x.h1,x.h2⟩) (λw' h=>BytesAt.range (aI (n:=31) O w' h)) (by show (PE ([]:L8) (BitVec.ofInt 64 (List.length ([]:L8))*8#64) x.j).length+1<=_;rw[nP];unfold nz;omega) O O (λh0=> ?_) (λb32 c32 cap32 e32 l32 t32=> ?_)
    ·simp at h0
    subst e32;refine Asg O<|aa<|Xq<|Mv O<|Bnr O O (λ_=>aW _ _ _ oi)<|Asg O<|aa<|?_
    repeat (refine aO ?_)
    exact aC<|⟨rfl,⟨x.j+1,b32,c32,om,l32,t32⟩,_,by show 8-(x.j+1)<8-x.j;omega,rfl,⟨rfl,rfl,congrArg (λz=>some (I z)) (by show 7-(x.j:Int)-1=7-((x.j+1:Nat):Int);omega),trivial⟩,trv⟩
   ·simp only[decide_eq_false_iff_not]at hc
    refine aV<|Xp<|Mv O<|Asg O<|aa<|am<|Rr<|?_;have h8:x.j=8:=om;obtain ⟨j,b,c,hj',h1,h2⟩:=x;dsimp only at h8;subst h8;exact aF O O (λw hw=>⟨_,rfl,ac hw,.inr ⟨b,c,_,rfl,(hw.own 3 b _ _ O).2.elim id False.elim,(hw.own 3 b _ _ O).1,rfl,h1,h2⟩⟩)
 ·subst e7
  refine d8 8 [128#8] hGF O O O dc dc underlying22 sizeOf5 zeroValue5 O O ?_;intro b8;refine cq (xs:=bs) (ys:=[128#8]) 3 hGF O O underlying22 underlying22 ti5 (.inr ⟨b7,c7,rfl,rfl,rfl,l7,t7⟩) (λw' h=>BytesAt.range (aI (n:=8) O w' h)) (by show bs.length+1<=_;omega) O O (λh0=> ?_) (λb9 c9 cap9 e9 l9 t9=> ?_)
  ·simp at h0
  subst e9;refine Asg O<|aa<|ah<|ai<|bH (ι:=PdSt bs) (λx=>[(0,.slice a (List.length bs) cap),(3,.slice (spt x.b) (PD bs x.k).length x.c.length)]) (λx=>[(3,x.b,x.c,5)]) (λx=>nz bs-x.k) ⟨0,b9,c9,by unfold nz;rw[Nat.zero_add,Nat.add_zero],l9,t9⟩ hGF trv trv<|?_
  intro x;have hk:=x.hk;have hln:=yE bs x.k;clear l9 t9;refine ah<|Xp<|Mv O<|bf O (λ_=>aG underlying22 _ _ _ _) O O<|Bnr (v:=I (((PD bs x.k).length % 64:Nat):Int)) O O (λ_=>cU _ _ _ dc)<|Bnr O O (λ_=>bC _ _ _)<|aa<|?_;refine bD O (λhc=> ?_) (λhc=> ?_)
  ·have hne:(PD bs x.k).length % 64≠56:=by have:=bne_iff_ne.1 hc;omega
   refine aq<|ai<|Xq<|Mv O<|d8 15 [0#8] hGF O O O dc dc underlying22 sizeOf5 zeroValue5 O O<|?_;intro b15;refine cq (xs:=PD bs x.k) (ys:=[0#8]) 3 hGF O O underlying22 underlying22 ti5 (.inr ⟨x.b,x.c,rfl,rfl,rfl,x.h1,x.h2⟩) (λw' h=>BytesAt.range (aI (n:=15) O w' h)) (by show (PD bs x.k).length+1<=_;rw[hln];unfold nz at hk;omega) O O (λh0=> ?_) (λb16 c16 cap16 e16 l16 t16=> ?_)
   ·simp at h0
   subst e16;rw[BB]at l16 t16⊢;refine Asg O<|aa<|?_
   repeat (refine aO ?_)
   exact aC<|⟨rfl,⟨x.k+1,b16,c16,by unfold nz at hk⊢;omega,l16,t16⟩,_,by show nz bs-(x.k+1)<nz bs-x.k;unfold nz at hk⊢;omega,rfl,trv,trv⟩
  ·obtain ⟨k,bb,cc,hk',h1,h2⟩:=x
   dsimp only at hc hk hln⊢;obtain rfl:k=nz bs:=by
    have:=bne_eq_false_iff_eq.1 hc;unfold nz at hk⊢;omega
   clear hc hk hln hk';refine aV<|Xp<|Mv O<|bf O (λ_=>aG underlying22 _ _ _ _) O O<|bX O O (λ_=>fW underlying3 underlying24 _) O O<|Bnr O O (λ_=>cx _ _ _)<|Asg O<|aa<|ah<|Xp<|Asg O<|aa<|ai<|bH (ι:=PeSt bs (BitVec.ofInt 64 bs.length*8#64)) (λy=>[(3,.slice (spt y.b) (PE bs (BitVec.ofInt 64 bs.length*8#64) y.j).length y.c.length),(4,U64 (BitVec.ofInt 64 bs.length*8#64)),(5,I (7-(y.j:Int)))]) (λy=>[(3,y.b,y.c,5)]) (λy=>8-y.j) ⟨0,bb,cc,dc,h1,h2⟩ hGF trv trv<|?_;clear h1 h2;intro x;have hj:=x.hj;refine ah<|Xp<|Mv O<|Bnr O O (λ_=>df _ _ _)<|aa<|?_;refine bD O (λhc=> ?_) (λhc=> ?_)
   ·simp only[decide_eq_true_eq]at hc
    refine aq<|ah<|ai<|Xq<|Mv O<|Mv O<|Mv O<|Bnr O O (λ_=>bx _ _ _ oi)<|Bnr O O (λ_=>cY _ _ _ om)<|bX O O (λ_=>eU underlying24 underlying5 _) O O<|d8 31 [nb (BitVec.ofInt 64 bs.length*8#64) x.j] hGF O O O dc dc underlying22 sizeOf5 zeroValue5 O O<|?_;intro b31;refine cq (xs:=PE bs (BitVec.ofInt 64 bs.length*8#64) x.j) (ys:=[nb (BitVec.ofInt 64 bs.length*8#64) x.j]) 3 hGF O O underlying22 underlying22 ti5 (.inr ⟨x.b,x.c,rfl,rfl,rfl,x.h1,x.h2⟩) (λw' h=>BytesAt.range (aI (n:=31) O w' h)) (by show (PE bs (BitVec.ofInt 64 bs.length*8#64) x.j).length+1<=_;rw[nP];unfold nz;omega) O O (λh0=> ?_) (λb32 c32 cap32 e32 l32 t32=> ?_)
    ·simp at h0
    subst e32;refine Asg O<|aa<|Xq<|Mv O<|Bnr O O (λ_=>aW _ _ _ oi)<|Asg O<|aa<|?_
    repeat (refine aO ?_)
    exact aC<|⟨rfl,⟨x.j+1,b32,c32,om,l32,t32⟩,_,by show 8-(x.j+1)<8-x.j;omega,rfl,⟨rfl,rfl,congrArg (λz=>some (I z)) (by show 7-(x.j:Int)-1=7-((x.j+1:Nat):Int);omega),trivial⟩,trv⟩
   ·simp only[decide_eq_false_iff_not]at hc
    refine aV<|Xp<|Mv O<|Asg O<|aa<|am<|Rr<|?_;have h8:x.j=8:=om;obtain ⟨j,b,c,hj',h1,h2⟩:=x;dsimp only at h8;subst h8;exact aF O O (λw hw=>⟨_,rfl,ac hw,.inr ⟨b,c,_,rfl,(hw.own 3 b _ _ O).2.elim id False.elim,(hw.own 3 b _ _ O).1,rfl,h1,h2⟩⟩)
end Sh
end
section
open Go.RowKit
namespace Sh
theorem zv94: ∀w,(zeroValue 94).run prog w=.ok (.agg ((List.replicate 72 0#32).map U32).toArray) w:=λ_=>kr
def MK:L3:=IV++KW
theorem zH:PUR 41 [] (.tuple #[.agg (IV.map U32).toArray,.agg (KW.map U32).toArray]):=by
 intro w hw;refine Hf func41 O hw<|λhGF=>Xp<|Al 0 hGF zv91<|λb0=>Al 1 hGF zv92<|λb1=>aa<|Xp<|bT (n:=8) O O underlying91 sizeOf90 zeroValue91 O O O O<|bT (n:=64) O O underlying92 sizeOf90 zeroValue92 O O O O<|aA (vs:=IV.map U32) 0 hGF O O O sizeOf91 O (by rw[List.length_map,List.length_replicate]) (eJ _) O<|aA (vs:=KW.map U32) 1 hGF O O O sizeOf92 O (by rw[List.length_map,List.length_replicate]) (eJ _) O<|aa<|am<|Rr<|?_
 exact Hr (c1:=IV.map U32) (c2:=KW.map U32) 0 1 O O O O O isAgg91 sizeOf91 O isAgg92 sizeOf92 O (λw hw=>⟨rfl,ac hw⟩)
theorem DI(w:World)(hw:Gt w):CLS 10 [].toArray w (λe w'=> ∃bm,e=.returned (pnt bm)/\Grow w w'/\w.heap.size<=bm/\OwnB w' bm (MK.map U32) 94):=by
 refine Hf func10 O hw<|λhGF=>Xp<|Asg O<|aa<|Xp<|eB zv94 underlying94 (λ_=>⟨#[(0,8),(8,64)],kr⟩) O O<|Bx 3 hGF O<|λb3=>Asg O<|aa<|Xp<|Mv O<|Mv O<|Ca O (zH)<|Mv O<|Ext O O<|Ext O O<|dH O O O<|Fa 0 O underlying94 O sizeOf91<|fY (vs:=IV.map U32) 3 hGF O O O sizeOf91 O (eJ _) dc O<|dH O O O<|Fa 8 O underlying94 O sizeOf92<|fY (vs:=KW.map U32) 3 hGF O O O sizeOf92 O (eJ _) dc O<|?_;rw[show lay 8 (KW.map U32) (lay 0 (IV.map U32) ((List.replicate 72 0#32).map U32))=MK.map U32 from O];refine aa<|Xp<|Mv O<|Asg O<|aa<|am<|Rr<|?_;exact aF O O (λw hw=>⟨b3,rfl,ac hw,(hw.own 3 b3 _ _ O).2.elim id False.elim,(hw.own 3 b3 _ _ O).1⟩)
end Sh
end
section
open Go.RowKit
set_option maxHeartbeats 2000000
namespace Sh
theorem Es(xs:L8)(tail:List Value)(i:Nat)(h:i<xs.length):(xs.map U8++tail)[i]? =some (U8 (xs.getD i 0)):=by
 rw[List.getElem?_append_left (by simpa using h)]
 exact gm U8 xs 0 i h
def wk(p:L8)(o:Nat)(x:BitVec 32):Nat->BitVec 32
 |0=>x
 |k+1=>(wk p o x k<<<8)|||(p.getD (o+k) 0).setWidth 32
def V1(p:L8)(q:Nat):Nat->L3
 |0=>List.replicate 64 0#32
 |i+1=>(V1 p q i).set i (wk p (q+4*i) ((V1 p q i).getD i 0) 4)
theorem n4(p:L8)(q:Nat): ∀i,(V1 p q i).length=64
 |0=>by simp[V1]
 |i+1=>by simp[V1,n4 p q i]
theorem rx(l:L3)(i:Nat)(h:i<l.length):l=l.set i (l.getD i 0):=by
 have e:l.getD i 0=l[i]:=by simp[h]
 rw[e,List.set_getElem_self]
theorem qW(l:L3)(i:Nat)(x:BitVec 32)(h:i<l.length):(l.set i x).getD i 0=x:=by simp[h]
def r0(x:BitVec 32):BitVec 32:=turn x 7^^^turn x 18^^^(x>>>3)
def r1(x:BitVec 32):BitVec 32:=turn x 17^^^turn x 19^^^(x>>>10)
def r5(ws:L3)(i:Nat):BitVec 32:=ws.getD (i-16) 0+r0 (ws.getD (i-15) 0)+ws.getD (i-7) 0+r1 (ws.getD (i-2) 0)
def V2(p:L8)(q:Nat):Nat->L3
 |0=>V1 p q 16
 |j+1=>(V2 p q j).set (16+j) (r5 (V2 p q j) (16+j))
theorem mm(p:L8)(q:Nat): ∀j,(V2 p q j).length=64
 |0=>n4 p q 16
 |j+1=>by simp[V2,mm p q j]
def rt(v:L3)(k w:BitVec 32):BitVec 32:=v.getD 7 0+(turn (v.getD 4 0) 6^^^turn (v.getD 4 0) 11^^^turn (v.getD 4 0) 25)+((v.getD 4 0 &&& v.getD 5 0)^^^(~~~(v.getD 4 0) &&& v.getD 6 0))+k+w
def ru(v:L3):BitVec 32:=(turn (v.getD 0 0) 2^^^turn (v.getD 0 0) 13^^^turn (v.getD 0 0) 22)+((v.getD 0 0 &&& v.getD 1 0)^^^(v.getD 0 0 &&& v.getD 2 0)^^^(v.getD 1 0 &&& v.getD 2 0))
def rr(v:L3)(k w:BitVec 32):L3:=[rt v k w+ru v,v.getD 0 0,v.getD 1 0,v.getD 2 0,v.getD 3 0+rt v k w,v.getD 4 0,v.getD 5 0,v.getD 6 0]
def RRs(h ws:L3):Nat->L3
 |0=>h
 |j+1=>rr (RRs h ws j) (MK.getD (8+j) 0) (ws.getD j 0)
theorem dI(h ws:L3)(hh:h.length=8): ∀j,(RRs h ws j).length=8
 |0=>hh
 |_+1=>rfl
def HAs(h v:L3):Nat->L3
 |0=>h
 |i+1=>(HAs h v i).set i ((HAs h v i).getD i 0+v.getD i 0)
theorem pG(h v:L3): ∀j,(HAs h v j).length=h.length
 |0=>rfl
 |i+1=>by simp[HAs,pG h v i]
def RK(p:L8):Nat->L3
 |0=>IV
 |k+1=>HAs (RK p k) (RRs (RK p k) (V2 p (64*k) 48) 64) 8
theorem dd(p:L8): ∀k,(RK p k).length=8
 |0=>rfl
 |k+1=>by rw[RK,pG,dd p k]
def OD(h:L3):Nat->L8
 |0=>List.replicate 32 0#8
 |i+1=>(OD h i).set i ((h.getD (i / 4) 0>>>(24-8*((i % 4:Nat):Int)).toNat).setWidth 8)
theorem p8(h:L3): ∀j,(OD h j).length=32
 |0=>by simp[OD]
 |i+1=>by simp[OD,p8 h i]
def MG(bs:L8):L8:=OD (RK (PAD bs) ((PAD bs).length / 64)) 32
theorem cb:MK.length=72:=rfl
theorem Kp(bs:L8):(PAD bs).length % 64=0:=by
 rw[PAD,nP];unfold nz;omega
theorem zJ(bm:Nat)(a:Option Addr)(cap:Nat)(bs:L8)(hl:bs.length<=70368744170000)(w:World)(hw:Gt w)(ho:OwnB w bm (MK.map U32) 94)(hby:BytesAt w a bs):
 CLS 133 [pnt bm,.slice a bs.length cap].toArray w (λe w'=>e=.returned (.agg ((MG bs).map U8).toArray)/\Grow w w'):=by
 refine Hf func133 O hw<|λhGF=>ae (E:=EE [182])<|Al 4 hGF zv98<|λb4=>aa<|ae (E:=EE [182])<|Mv O<|dH O O O<|Fa 0 O underlying94 O sizeOf91<|?_;refine da O isAgg91 sizeOf91 (cs:=IV.map U32) O (fb (B:=pl w) (sY ho (λj v hv=>by rw[Nat.zero_add];show (MK.map U32)[j]? =some v;rw[MK,List.map_append,List.getElem?_append_left (by rcases Nat.lt_or_ge j (IV.map U32).length with h|h;exact h;rw[List.getElem?_eq_none h]at hv;cases hv)];exact hv)) (λh=>h)) O O ?_
 refine Al 5 hGF zv91<|λb5=>aA (vs:=IV.map U32) 5 hGF O O O sizeOf91 O (by rw[List.length_map,List.length_replicate]) (eJ _) O<|aa<|ae (E:=EE [182])<|Mv O<|?_
 refine dw O O ent182 O O (λw' hw'=>(DS _ _ bs hl w' (hGF.g _ _ _ hw') (hby.grow (ac hw'))).mono λe w'' h=> ?_);obtain ⟨sv,rfl,hg,hcl⟩:=h;rcases hcl with ⟨h0,_⟩|⟨b6,c,cap6,rfl,hb6,hob,hcc,hle,htk⟩
 ·exact absurd (congrArg List.length h0) (by rw[PAD,nP];simp)
 have hm64:=Kp bs;have hpl:(PAD bs).length<=bs.length+200:=by rw[PAD,nP];unfold nz;omega
 rw[show MG bs=OD (RK (PAD bs) ((PAD bs).length / 64)) 32 from O];generalize PAD bs=p at hle htk hm64 hpl⊢;refine ⟨_,_,rfl,az hGF,hw'.news ao hg [(6,b6,c,5)] ?_ bS, ?_⟩
 ·intro n' b' c' t' hl
  rcases aK hl with ⟨_,e⟩|⟨_,hl⟩
  ·cases e;exact ⟨hb6,hob⟩
  ·cases hl
 obtain ⟨tail,rfl⟩: ∃tail,c=p.map U8++tail:=⟨c.drop p.length,by rw[<-htk,List.take_append_drop]⟩
 clear hw' hg hb6 hob hcc htk;refine Asg O<|aa<|ah<|ae (E:=EE [182])<|Asg O<|aa<|ai<|bH (ι:={k:Nat // 64*k<=p.length}) (λx=>[(0,pnt bm),(4,pnt b4),(5,pnt b5),(6,.slice (spt b6) p.length cap6),(7,I ((64*x.1:Nat):Int))]) (λx=>[(4,b4,(List.replicate 32 0#8).map U8,98),(6,b6,p.map U8++tail,5),(5,b5,(RK p x.1).map U32,91)]) (λx=>p.length-x.1) ⟨0,om⟩ hGF trv trv<|?_;rintro ⟨k,hk⟩;dsimp only;refine ah<|ae (E:=EE [182])<|Mv O<|Mv O<|bf O (λ_=>aG underlying22 _ _ _ _) O O<|Bnr O O (λ_=>aw _ _ _)<|aa<|?_;refine bD O (λhc=> ?_) (λhc=> ?_)
 ·simp only[decide_eq_true_eq]at hc
  have hk64:64*k+64<=p.length:=om;refine aq<|ah<|ai<|ae (E:=EE [182])<|Al 8 hGF zv92<|λb8=>aa<|ah<|ae (E:=EE [182])<|Asg O<|aa<|ai<|bH (ι:={i:Nat // i<=16}) (λx=>[(0,pnt bm),(4,pnt b4),(5,pnt b5),(6,.slice (spt b6) p.length cap6),(7,I ((64*k:Nat):Int)),(8,pnt b8),(9,I (x.1:Int))]) (λx=>[(4,b4,(List.replicate 32 0#8).map U8,98),(6,b6,p.map U8++tail,5),(5,b5,(RK p k).map U32,91),(8,b8,(V1 p (64*k) x.1).map U32,92)]) (λx=>16-x.1) ⟨0,om⟩ hGF trv trv<|?_;rintro ⟨i,hi⟩;dsimp only;refine ah<|ae (E:=EE [182])<|Mv O<|Bnr O O (λ_=>aw _ _ _)<|aa<|?_;refine bD O (λhc=> ?_) (λhc=> ?_)
  ·simp only[decide_eq_true_eq]at hc
   refine aq<|ah<|ai<|ae (E:=EE [182])<|Asg O<|aa<|ai<|bH (ι:={m:Nat // m<=4}) (λx=>[(0,pnt bm),(4,pnt b4),(5,pnt b5),(6,.slice (spt b6) p.length cap6),(7,I ((64*k:Nat):Int)),(8,pnt b8),(9,I (i:Int)),(10,I (x.1:Int))]) (λx=>[(4,b4,(List.replicate 32 0#8).map U8,98),(6,b6,p.map U8++tail,5),(5,b5,(RK p k).map U32,91),(8,b8,((V1 p (64*k) i).set i (wk p (64*k+4*i) ((V1 p (64*k) i).getD i 0) x.1)).map U32,92)]) (λx=>4-x.1) ⟨0,om⟩ hGF trv ⟨rfl,rfl,rfl,congrArg (λl=>some (b8,List.map U32 l,92)) (rx _ i (by rw[n4];omega)),trivial⟩<|?_
   rintro ⟨m,hm⟩;dsimp only;refine ah<|ae (E:=EE [182])<|Mv O<|Bnr O O (λ_=>aw _ _ _)<|aa<|?_;refine bD O (λhc=> ?_) (λhc=> ?_)
   ·simp only[decide_eq_true_eq]at hc
    have hq:64*k+4*i+m<p.length:=om;refine aq<|ah<|ai<|Xe [182]<|Mv O<|Mv O<|Ia (i) O O underlying92 sizeOf90<|Lm 8 U32 0 O O isAgg90 (by rw[List.length_set,n4];omega)<|?_
    rw[qW _ _ _ (by rw[n4];omega)]
    refine Bnr O O (λ_=>h9 _ _ _)<|Mv O<|Mv O<|Mv O<|Bnr O O (λ_=>bx _ _ _ oi)<|Bnr O O (λ_=>au _ _ _ oi)<|Mv O<|Bnr O O (λ_=>au _ _ _ oi)<|ip (64*k+4*i+m) O O underlying22 sizeOf5 om hq O O<|?_;rw[Nat.zero_add];refine cS 6 O O (Es p tail (64*k+4*i+m) hq) isAgg5 O O<|bX O O (λ_=>il underlying5 underlying90 _) O O<|Bnr O O (λ_=>gI _ _ _)<|Ia (i) O O underlying92 sizeOf90<|aY 8 U32 hGF O O O sizeOf90 O (by rw[List.length_set,n4];omega) O<|?_
    rw[List.set_set];refine aa<|bG (E:=EE [182])<|Mv O<|Bnr O O (λ_=>au _ _ _ oi)<|Asg O<|aa<|?_
    repeat (refine aO ?_)
    exact aC<|⟨rfl,⟨m+1,om⟩,_,by show 4-(m+1)<4-m;omega,rfl,trv,trv⟩
   ·obtain rfl:m=4:=by simp at hc;omega
    refine aV<|bG (E:=EE [182])<|Mv O<|Bnr O O (λ_=>au _ _ _ oi)<|Asg O<|aa<|?_
    repeat (refine aO ?_)
    exact aC<|⟨rfl,⟨i+1,om⟩,_,by show 16-(i+1)<16-i;omega,rfl,trv,trv⟩
  ·obtain rfl:i=16:=by simp at hc;omega
   refine aV<|ah<|ae (E:=EE [182])<|Asg O<|aa<|ai<|bH (ι:={j:Nat // j<=48}) (λx=>[(0,pnt bm),(4,pnt b4),(5,pnt b5),(6,.slice (spt b6) p.length cap6),(7,I ((64*k:Nat):Int)),(8,pnt b8),(11,I ((16+x.1:Nat):Int))]) (λx=>[(4,b4,(List.replicate 32 0#8).map U8,98),(6,b6,p.map U8++tail,5),(5,b5,(RK p k).map U32,91),(8,b8,(V2 p (64*k) x.1).map U32,92)]) (λx=>48-x.1) ⟨0,om⟩ hGF trv trv<|?_;rintro ⟨j,hj⟩;dsimp only;refine ah<|ae (E:=EE [182])<|Mv O<|Bnr O O (λ_=>aw _ _ _)<|aa<|?_;refine bD O (λhc=> ?_) (λhc=> ?_)
   ·simp only[decide_eq_true_eq]at hc
    refine aq<|ah<|ai<|Xd [182]<|Mv O<|Bnr O O (λ_=>aW _ _ _ oi)<|Ia (((16+j)-15)) O O underlying92 sizeOf90<|Lm 8 U32 0 O O isAgg90 (by rw[mm];omega)<|Mv O<|Bnr O O (λ_=>aW _ _ _ oi)<|Ia (((16+j)-2)) O O underlying92 sizeOf90<|Lm 8 U32 0 O O isAgg90 (by rw[mm];omega)<|Asg O<|Asg O<|aa<|Xe [182]<|Mv O<|Mv O<|Bnr O O (λ_=>aW _ _ _ oi)<|Ia (((16+j)-16)) O O underlying92 sizeOf90<|Lm 8 U32 0 O O isAgg90 (by rw[mm];omega)<|Mv O<|Ca O (ez _ _ om om)<|Mv O<|Ca O (ez _ _ om om)<|Bnr O O (λ_=>bN _ _ _)<|Mv O<|Bnr O O (λ_=>ej _ _ _)<|Bnr O O (λ_=>bN _ _ _)<|Bnr O O (λ_=>bi _ _ _)<|Mv O<|Bnr O O (λ_=>aW _ _ _ oi)<|Ia (((16+j)-7)) O O underlying92 sizeOf90<|Lm 8 U32 0 O O isAgg90 (by rw[mm];omega)<|Bnr O O (λ_=>bi _ _ _)<|Mv O<|Ca O (ez _ _ om om)<|Mv O<|Ca O (ez _ _ om om)<|Bnr O O (λ_=>bN _ _ _)<|?_
    refine Mv O<|Bnr O O (λ_=>ej _ _ _)<|Bnr O O (λ_=>bN _ _ _)<|Bnr O O (λ_=>bi _ _ _)<|Ia ((16+j)) O O underlying92 sizeOf90<|aY 8 U32 hGF O O O sizeOf90 O (by rw[mm];omega) O<|aa<|bG (E:=EE [182])<|Mv O<|Bnr O O (λ_=>au _ _ _ oi)<|Asg O<|aa<|?_
    repeat (refine aO ?_)
    exact aC<|⟨rfl,⟨j+1,om⟩,_,by show 48-(j+1)<48-j;omega,rfl,trv,trv⟩
   ·obtain rfl:j=48:=by simp at hc;omega
    refine aV<|ae (E:=EE [182])<|Lw 5 O O sr (dd _ _)<|Al 14 hGF zv91<|λb14=>Sx 14 hGF O O O sr (dd p k) (eJ _)<|aa<|ah<|ae (E:=EE [182])<|Asg O<|aa<|ai<|bH (ι:={r:Nat // r<=64}) (λx=>[(0,pnt bm),(4,pnt b4),(5,pnt b5),(6,.slice (spt b6) p.length cap6),(7,I ((64*k:Nat):Int)),(8,pnt b8),(14,pnt b14),(15,I (x.1:Int))]) (λx=>[(4,b4,(List.replicate 32 0#8).map U8,98),(6,b6,p.map U8++tail,5),(5,b5,(RK p k).map U32,91),(8,b8,(V2 p (64*k) 48).map U32,92),(14,b14,(RRs (RK p k) (V2 p (64*k) 48) x.1).map U32,91)]) (λx=>64-x.1) ⟨0,om⟩ hGF trv trv<|?_;rintro ⟨r,hr⟩;dsimp only;refine ah<|ae (E:=EE [182])<|Mv O<|Bnr O O (λ_=>aw _ _ _)<|aa<|?_;refine bD O (λhc=> ?_) (λhc=> ?_)
    ·simp only[decide_eq_true_eq]at hc
     refine aq<|ah<|ai<|Xd [182]<|Ia (4) O O underlying91 sizeOf90<|Lm 14 U32 0 O O isAgg90 (by rw[dI _ _ (dd p k)];omega)<|Ia (0) O O underlying91 sizeOf90<|Lm 14 U32 0 O O isAgg90 (by rw[dI _ _ (dd p k)];omega)<|Asg O<|Asg O<|aa<|Xd [182]<|Ia (7) O O underlying91 sizeOf90<|Lm 14 U32 0 O O isAgg90 (by rw[dI _ _ (dd p k)];omega)<|Mv O<|Ca O (ez _ _ om om)<|Mv O<|Ca O (ez _ _ om om)<|Bnr O O (λ_=>bN _ _ _)<|Mv O<|Ca O (ez _ _ om om)<|Bnr O O (λ_=>bN _ _ _)<|Bnr O O (λ_=>bi _ _ _)<|Mv O<|Ia (5) O O underlying91 sizeOf90<|Lm 14 U32 0 O O isAgg90 (by rw[dI _ _ (dd p k)];omega)<|Bnr O O (λ_=>dr _ _ _)<|Mv O<|bp O (λ_=>rE _) O O<|Ia (6) O O underlying91 sizeOf90<|Lm 14 U32 0 O O isAgg90 (by rw[dI _ _ (dd p k)];omega)<|Bnr O O (λ_=>dr _ _ _)<|Bnr O O (λ_=>bN _ _ _)<|Bnr O O (λ_=>bi _ _ _)<|Mv O<|Mv O<|dH O O O<|Fa 8 O underlying94 O sizeOf92<|Gd (r) O O underlying92 sizeOf90 om om O O<|bP O isAgg90 (my (B:=pl w) ((ho.cell (8+r)).trans (gm U32 MK 0 (8+r) (by rw[cb];omega))) (λh=>h)) O O<|?_
     refine Bnr O O (λ_=>bi _ _ _)<|Mv O<|Ia (r) O O underlying92 sizeOf90<|Lm 8 U32 0 O O isAgg90 (by rw[mm];omega)<|Bnr O O (λ_=>bi _ _ _)<|Asg O<|aa<|Xd [182]<|Mv O<|Ca O (ez _ _ om om)<|Mv O<|Ca O (ez _ _ om om)<|Bnr O O (λ_=>bN _ _ _)<|Mv O<|Ca O (ez _ _ om om)<|Bnr O O (λ_=>bN _ _ _)<|Mv O<|Ia (1) O O underlying91 sizeOf90<|Lm 14 U32 0 O O isAgg90 (by rw[dI _ _ (dd p k)];omega)<|Bnr O O (λ_=>dr _ _ _)<|Mv O<|Ia (2) O O underlying91 sizeOf90<|Lm 14 U32 0 O O isAgg90 (by rw[dI _ _ (dd p k)];omega)<|Bnr O O (λ_=>dr _ _ _)<|Bnr O O (λ_=>bN _ _ _)<|Ia (1) O O underlying91 sizeOf90<|Lm 14 U32 0 O O isAgg90 (by rw[dI _ _ (dd p k)];omega)<|Ia (2) O O underlying91 sizeOf90<|Lm 14 U32 0 O O isAgg90 (by rw[dI _ _ (dd p k)];omega)<|Bnr O O (λ_=>dr _ _ _)<|Bnr O O (λ_=>bN _ _ _)<|Bnr O O (λ_=>bi _ _ _)<|Asg O<|aa<|bG (E:=EE [182])<|Mv O<|Mv O<|Bnr O O (λ_=>bi _ _ _)<|Ia (0) O O underlying91 sizeOf90<|Lm 14 U32 0 O O isAgg90 (by rw[dI _ _ (dd p k)];omega)<|?_
     refine Ia (1) O O underlying91 sizeOf90<|Lm 14 U32 0 O O isAgg90 (by rw[dI _ _ (dd p k)];omega)<|Ia (2) O O underlying91 sizeOf90<|Lm 14 U32 0 O O isAgg90 (by rw[dI _ _ (dd p k)];omega)<|Ia (3) O O underlying91 sizeOf90<|Lm 14 U32 0 O O isAgg90 (by rw[dI _ _ (dd p k)];omega)<|Mv O<|Bnr O O (λ_=>bi _ _ _)<|Ia (4) O O underlying91 sizeOf90<|Lm 14 U32 0 O O isAgg90 (by rw[dI _ _ (dd p k)];omega)<|Ia (5) O O underlying91 sizeOf90<|Lm 14 U32 0 O O isAgg90 (by rw[dI _ _ (dd p k)];omega)<|Ia (6) O O underlying91 sizeOf90<|Lm 14 U32 0 O O isAgg90 (by rw[dI _ _ (dd p k)];omega)<|bT (n:=8) O O underlying91 sizeOf90 zeroValue91 O O O O<|aA 14 hGF O O O sizeOf91 O (by rw[List.length_map,dI _ _ (dd p k)]) O O<|aa<|bG (E:=EE [182])<|Mv O<|Bnr O O (λ_=>au _ _ _ oi)<|Asg O<|aa<|?_
     repeat (refine aO ?_)
     exact aC<|⟨rfl,⟨r+1,om⟩,_,by show 64-(r+1)<64-r;omega,rfl,trv,trv⟩
    ·obtain rfl:r=64:=by simp at hc;omega
     refine aV<|ae (E:=EE [182])<|Asg O<|aa<|ai<|bH (ι:={t:Nat // t<=8}) (λx=>[(0,pnt bm),(4,pnt b4),(5,pnt b5),(6,.slice (spt b6) p.length cap6),(7,I ((64*k:Nat):Int)),(8,pnt b8),(14,pnt b14),(20,I (x.1:Int))]) (λx=>[(4,b4,(List.replicate 32 0#8).map U8,98),(6,b6,p.map U8++tail,5),(5,b5,(HAs (RK p k) (RRs (RK p k) (V2 p (64*k) 48) 64) x.1).map U32,91),(14,b14,(RRs (RK p k) (V2 p (64*k) 48) 64).map U32,91)]) (λx=>8-x.1) ⟨0,om⟩ hGF trv trv<|?_;rintro ⟨t,ht⟩;dsimp only;refine ah<|ae (E:=EE [182])<|Mv O<|Bnr O O (λ_=>aw _ _ _)<|aa<|?_;refine bD O (λhc=> ?_) (λhc=> ?_)
     ·simp only[decide_eq_true_eq]at hc
      refine aq<|ah<|ai<|Xe [182]<|Mv O<|Ia (t) O O underlying91 sizeOf90<|Lm 5 U32 0 O O isAgg90 (by rw[pG,dd];omega)<|Mv O<|Ia (t) O O underlying91 sizeOf90<|Lm 14 U32 0 O O isAgg90 (by rw[dI _ _ (dd p k)];omega)<|Bnr O O (λ_=>bi _ _ _)<|Ia (t) O O underlying91 sizeOf90<|aY 5 U32 hGF O O O sizeOf90 O (by rw[pG,dd];omega) O<|aa<|bG (E:=EE [182])<|Mv O<|Bnr O O (λ_=>au _ _ _ oi)<|Asg O<|aa<|?_
      repeat (refine aO ?_)
      exact aC<|⟨rfl,⟨t+1,om⟩,_,by show 8-(t+1)<8-t;omega,rfl,trv,trv⟩
     ·obtain rfl:t=8:=by simp at hc;omega
      refine aV<|bG (E:=EE [182])<|Mv O<|Bnr O O (λ_=>au _ _ _ oi)<|Asg O<|aa<|?_
      repeat (refine aO ?_)
      exact aC<|⟨rfl,⟨k+1,om⟩,_,by show p.length-(k+1)<p.length-k;omega,rfl,trv,trv⟩
 ·simp only[decide_eq_false_iff_not]at hc
  obtain rfl:k=p.length / 64:=om;clear hc hk;refine aV<|ae (E:=EE [182])<|Al 21 hGF zv98<|λb21=>aa<|ah<|ae (E:=EE [182])<|Asg O<|aa<|ai<|bH (ι:={i:Nat // i<=32}) (λx=>[(4,pnt b4),(5,pnt b5),(21,pnt b21),(22,I (x.1:Int))]) (λx=>[(4,b4,(List.replicate 32 0#8).map U8,98),(5,b5,(RK p (p.length / 64)).map U32,91),(21,b21,(OD (RK p (p.length / 64)) x.1).map U8,98)]) (λx=>32-x.1) ⟨0,om⟩ hGF trv trv<|?_;rintro ⟨i,hi⟩;dsimp only;refine ah<|ae (E:=EE [182])<|Mv O<|Bnr O O (λ_=>aw _ _ _)<|aa<|?_;refine bD O (λhc=> ?_) (λhc=> ?_)
  ·simp only[decide_eq_true_eq]at hc
   refine aq<|ah<|ai<|bG (E:=EE [182])<|Mv O<|Mv O<|Bnr (v:=I ((i / 4:Nat):Int)) O O (λ_=>fw _ _ _ dc (show inI ((i / 4:Nat):Int) by unfold inI;omega))<|Ia ((i / 4)) O O underlying91 sizeOf90<|Lm 5 U32 0 O O isAgg90 (by rw[dd];omega)<|Mv O<|Bnr (v:=I ((i % 4:Nat):Int)) O O (λ_=>cU _ _ _ dc)<|Bnr O O (λ_=>bx _ _ _ oi)<|Bnr O O (λ_=>aW _ _ _ oi)<|Bnr O O (λ_=>mc _ _ _ om)<|bX O O (λ_=>ic underlying90 underlying5 _) O O<|Ia (i) O O underlying98 sizeOf5<|aY 21 U8 hGF O O O sizeOf5 O (by rw[p8];omega) O<|aa<|bG (E:=EE [182])<|Mv O<|Bnr O O (λ_=>au _ _ _ oi)<|Asg O<|aa<|?_
   repeat (refine aO ?_)
   exact aC<|⟨rfl,⟨i+1,om⟩,_,by show 32-(i+1)<32-i;omega,rfl,trv,trv⟩
  ·obtain rfl:i=32:=by simp at hc;omega
   refine aV<|ae (E:=EE [182])<|Lw 21 O O wK (p8 _ _)<|Sx 4 hGF O O O wK (p8 _ _) (bZ _)<|aa<|am<|Rr<|?_;exact av 4 O O O isAgg98 sizeOf98 (by rw[List.length_map,p8]) (λw hw=>⟨rfl,ac hw⟩)
end Sh
end
section
open Go.RowKit
namespace Sh
theorem Wc(p:L8)(o:Nat):wk p o 0 4=((p.getD o 0).setWidth 32<<<24)|||((p.getD (o+1) 0).setWidth 32<<<16)|||((p.getD (o+2) 0).setWidth 32<<<8)|||(p.getD (o+3) 0).setWidth 32:=by
 simp only[wk,BitVec.shiftLeft_or_distrib,<-BitVec.shiftLeft_add,Nat.add_zero,Nat.reduceAdd];simp
def bk(p:L8)(k:Nat):L8:=(p.drop (64*k)).take 64
theorem pf(p:L8)(k i:Nat)(h:i<64):(bk p k).getD i 0=p.getD (64*k+i) 0:=by
 simp[bk,List.getD_eq_getElem?_getD,h,List.getElem?_drop]
theorem CY(p:L8)(q:Nat): ∀i j,i<=j->(V1 p q i).getD j 0=0
 |0,j,_=>by
  simp only[V1,List.getD_eq_getElem?_getD,List.getElem?_replicate];split<;>rfl
 |i+1,j,h=>by
  have:=CY p q i j om;rw[List.getD_eq_getElem?_getD]at this⊢;rw[V1,List.getElem?_set_ne om];exact this
theorem OL(p:L8)(k:Nat): ∀i,i<=16->V1 p (64*k) i=W1 (bk p k) i
 |0,_=>rfl
 |i+1,h=>by
  rw[V1,CY p _ i i (Nat.le_refl _),Wc,OL p k i om,W1,w4,pf _ _ _ om,pf _ _ _ om,pf _ _ _ om,pf _ _ _ om];rfl
theorem fJ(x:BitVec 32)(k:Int)(m:Nat)(h1:(BitVec.ofInt 64 k &&& 31#64).toNat=32-m)(h2:(32#64-(BitVec.ofInt 64 k &&& 31#64)).toNat=m):lW x k=turn x m:=by
 rw[lW,turn,h1,h2,BitVec.or_comm]
theorem Nl(x:BitVec 32):D6 x=r0 x:=by
 rw[D6,r0,fJ x (-7) 7 dc dc,fJ x (-18) 18 dc dc]
theorem Nw(x:BitVec 32):Ee x=r1 x:=by
 rw[Ee,r1,fJ x (-17) 17 dc dc,fJ x (-19) 19 dc dc]
theorem Uw(x:BitVec 32):yb x=turn x 2^^^turn x 13^^^turn x 22:=by
 rw[yb,fJ x (-2) 2 dc dc,fJ x (-13) 13 dc dc,fJ x (-22) 22 dc dc]
theorem Qx(x:BitVec 32):q8 x=turn x 6^^^turn x 11^^^turn x 25:=by
 rw[q8,fJ x (-6) 6 dc dc,fJ x (-11) 11 dc dc,fJ x (-25) 25 dc dc]
theorem ZL(ws:L3)(i:Nat):r5 ws i=w5 ws i:=by
 rw[r5,w5,Nl,Nw]
 ac_rfl
theorem Oz(p:L8)(k:Nat): ∀j,V2 p (64*k) j=W2 (bk p k) j
 |0=>OL p k 16 om
 |j+1=>by rw[V2,W2,Oz p k j,ZL]
def toL(v:V8):L3:=[v.a,v.b,v.c,v.d,v.e,v.f,v.g,v.h]
theorem TX(v:V8)(k w:BitVec 32):rr (toL v) k w=toL (rnd v k w):=by
 have e1:rt (toL v) k w=v.h+q8 v.e+(v.e &&& v.f^^^ ~~~v.e &&& v.g)+k+w:=by rw[Qx];rfl
 have e2:ru (toL v)=yb v.a+(v.a &&& v.b^^^v.a &&& v.c^^^v.b &&& v.c):=by rw[Uw];rfl
 rw[rr,e1,e2];rfl
theorem Wm(j:Nat):MK.getD (8+j) 0=KW.getD j 0:=by
 rw[MK,List.getD_eq_getElem?_getD,List.getElem?_append_right (by show 8<=8+j;omega),show 8+j-IV.length=j from by show 8+j-8=j;omega,<-List.getD_eq_getElem?_getD]
theorem Ug(h:L3)(hh:h.length=8):toL (v8 h)=h:=by
 match h,hh with
 |[_,_,_,_,_,_,_,_],_=>rfl
theorem xf(h ws:L3)(hh:h.length=8): ∀j,RRs h ws j=toL (mR (v8 h) ws j)
 |0=>(Ug h hh).symm
 |j+1=>by rw[RRs,xf h ws hh j,TX,Wm,mR]
theorem Jw(h:L3)(v:V8)(hh:h.length=8):HAs h (toL v) 8=R3 h v:=by
 match h,hh with
 |[_,_,_,_,_,_,_,_],_=>rfl
theorem LV(p:L8)(k:Nat):RK p (k+1)=sC (RK p k) (bk p k):=by
 rw[RK,sC,xf _ _ (dd p k),Jw _ _ (dd p k),Oz]
theorem Ys(h:L3)(hh:h.length=8):OD h 32=DG h 8:=by
 match h,hh with
 |[a,b,c,d,e,f,g,i],_=>
  have z: ∀x:BitVec 32,x>>>(0:Nat)=x:=λx=>sm;simp only[OD,DG,List.replicate,List.set,List.getD,Nat.reduceDiv,Nat.reduceMod,Nat.reduceMul,Nat.reduceAdd];simp
theorem Bp(p:L8)(L:List L8): ∀k,k<=L.length->(∀i,i<L.length->bk p i=L.getD i [])->RK p k=gZ IV L k
 |0,_,_=>rfl
 |k+1,h,hb=>by rw[LV,gZ,Bp p L k om hb,hb k om]
theorem Jz(L:List L8)(h: ∀l∈L,l.length=64):L.flatten.length=64*L.length:=by
 induction L with
 |nil=>rfl
 |cons x r ih=>
  rw[List.flatten_cons,List.length_append,ih (λl hl=>h l (by simp[hl])),h x sm,List.length_cons]
  omega
theorem Ky(L:List L8)(h: ∀l∈L,l.length=64): ∀i,i<L.length->bk L.flatten i=L.getD i []:=by
 induction L with
 |nil=>intro i hi;simp at hi
 |cons x r ih=>
  intro i hi;have hx:x.length=64:=h x sm
  cases i with
  |zero=>simp[bk,hx]
  |succ i=>
   have e:=ih (λl hl=>h l (by simp[hl])) i (by simpa using hi)
   rw[List.getD_cons_succ,<-e,bk,bk,List.flatten_cons,show 64*(i+1)=x.length+64*i from by omega,List.drop_append,List.drop_eq_nil_of_le (by omega:x.length<=x.length+64*i),List.nil_append,Nat.add_sub_cancel_left]
theorem rC(bs:L8): ∀m,64*m<=bs.length->((List.range m).map λk=>(bs.drop (64*k)).take 64).flatten=bs.take (64*m)
 |0,_=>sm
 |m+1,h=>by
  rw[List.range_succ,List.map_append,List.flatten_append,rC bs m om];simp only[List.map_cons,List.map_nil,List.flatten_cons,List.flatten_nil,List.append_nil];rw[show 64*(m+1)=64*m+64 from by omega,List.take_add]
theorem Oy(rs:L8)(h:rs.length<64):e1 rs=rs++([128#8]++List.replicate (63-rs.length) 0#8):=by
 rw[e1,List.set_append_right _ _ (Nat.le_refl _),Nat.sub_self,show 64-rs.length=(63-rs.length)+1 from by omega,List.replicate_succ]
 rfl
def b8s(n:BitVec 64):Nat->L8
 |0=>[]
 |k+1=>b8s n k++[((8#64*n)>>>(56-8*(k:Int)).toNat).setWidth 8]
theorem ud(n:BitVec 64): ∀k,(b8s n k).length=k
 |0=>rfl
 |k+1=>by rw[b8s,List.length_append,ud n k];rfl
theorem GK(bl:L8)(n:BitVec 64)(h:bl.length=64): ∀k,k<=8->LB bl n k=bl.take 56++(b8s n k++bl.drop (56+k))
 |0,_=>by simp[LB,b8s]
 |k+1,hk=>by
  have hd:bl.drop (56+k)=bl[56+k]::bl.drop (56+(k+1)):=by rw[List.drop_eq_getElem_cons om];rfl
  rw[LB,GK bl n h k om,hd,List.set_append_right _ _ (by simp[h]),List.set_append_right _ _ (by simp[h,ud]),b8s]
  simp[h,ud]
theorem Pu(bs:L8)(n:BitVec 64): ∀j,j<=8->PE bs (n*8#64) j=PD bs (nz bs)++b8s n j
 |0,_=>by simp[PE,b8s]
 |j+1,h=>by
  rw[PE,Pu bs n j om,b8s,nb,BitVec.mul_comm,show (8*(7-(j:Int))).toNat=(56-8*(j:Int)).toNat from by omega,List.append_assoc]
theorem Jk(bs:L8):PAD bs=(rl bs).flatten:=by
 rw[PAD,Pu bs _ 8 (Nat.le_refl _),rl,List.flatten_append,iT,rC bs _ om,PD];have hr:=vM bs;have hrl:(bs.drop (64*(bs.length / 64))).length=bs.length % 64:=by rw[List.length_drop];omega
 generalize hrs:bs.drop (64*(bs.length / 64))=rs at hr hrl;have hbs:bs=bs.take (64*(bs.length / 64))++rs:=by rw[<-hrs,List.take_append_drop]
 generalize hn:BitVec.ofInt 64 (bs.length:Int)=n;have key:(fx rs n).flatten=rs++([128#8]++(List.replicate (nz bs) 0#8++b8s n 8)):=by
  unfold fx;split
  ·rename_i h56
   have hz:nz bs=55-rs.length:=by unfold nz;omega
   rw[List.flatten_cons,List.flatten_nil,List.append_nil,GK _ _ (yZ rs om) 8 (Nat.le_refl _),Oy rs hr,hz];rw[List.drop_eq_nil_of_le (by simp;omega),List.append_nil,List.take_append,List.take_of_length_le (by omega:rs.length<=56)]
   rw[List.take_append,List.take_of_length_le (by simp;omega),List.take_replicate]
   simp only[List.append_assoc,List.length_cons,List.length_nil];rw[show min (56-rs.length-(0+1)) (63-rs.length)=55-rs.length from by omega]
  ·rename_i h56
   have hz:nz bs=(63-rs.length)+56:=by unfold nz;omega
   rw[List.flatten_cons,List.flatten_cons,List.flatten_nil,List.append_nil,GK _ _ sm 8 (Nat.le_refl _),Oy rs hr,hz,<-List.replicate_append_replicate];simp
 rw[key]
 conv=>lhs;lhs;lhs;rw[hbs]
 simp only[List.append_assoc]
theorem GB(bs:L8):MG bs=SHA bs:=by
 have hb:=E2 bs;have hl:=Jz (rl bs) hb;rw[MG,SHA,Jk,hl,Nat.mul_div_cancel_left _ dc,Bp _ (rl bs) _ (Nat.le_refl _) (Ky _ hb),Ys _ (ie _ _ O _)]
end Sh
end
section
open Go.RowKit
theorem ent83:ak prog 83:=λ_ _=>kr
namespace Xm
theorem zv98(w:World):(zeroValue 98).run prog w=.ok (.agg ((List.replicate 32 (0#8)).map U8).toArray) w:=Sh.zv98 w
theorem ti5:TI prog 5 (.int .u8 0) 1 1:=Sh.ti5
def D(dst:L8):L8:=dst++[BitVec.ofInt 8 (dst.length:Int)]
theorem kE(dst:L8):(D dst).length=dst.length+1:=by simp[D]
def F(msg dst:L8)(n:Nat):L8:=((List.replicate 64 0#8++msg)++[BitVec.ofInt 8 ((n / 256:Nat):Int),BitVec.ofInt 8 (n:Int),0#8])++D dst
theorem pV(msg dst:L8)(n:Nat):(F msg dst n).length=64+msg.length+3+(dst.length+1):=by
 rw[F,List.length_append,List.length_append,List.length_append,List.length_replicate,kE];rfl
def B0(msg dst:L8)(n:Nat):L8:=Sh.SHA (F msg dst n)
theorem kX(msg dst:L8)(n:Nat):(B0 msg dst n).length=32:=Sh.gV _
def R(b l:L8):Nat->L8
 |0=>b
 |j+1=>(R b l j).set j (b.getD j 0^^^l.getD j 0)
theorem kG(b l:L8): ∀j,(R b l j).length=b.length
 |0=>rfl
 |j+1=>by rw[R,List.length_set,kG b l j]
def Xk(b d:L8):Nat->L8
 |0=>List.replicate 32 0#8
 |k+1=>Sh.SHA (((if k=0 then b else R b (Xk b d k) 32)++[BitVec.ofInt 8 ((k+1:Nat):Int)])++d)
theorem fH(b d:L8): ∀k,(Xk b d k).length=32
 |0=>List.length_replicate
 |_+1=>Sh.gV _
def Ozz(b d:L8):Nat->L8
 |0=>[]
 |k+1=>Ozz b d k++Xk b d (k+1)
theorem gu(b d:L8): ∀k,(Ozz b d k).length=32*k
 |0=>rfl
 |k+1=>by rw[Ozz,List.length_append,gu b d k,fH];omega
def E(msg dst:L8)(n:Nat):L8:=(Ozz (B0 msg dst n) (D dst) ((n+31) / 32)).take n
theorem kK(msg dst:L8)(n:Nat):(E msg dst n).length=n:=by rw[E,List.length_take,gu];omega
structure Bk(xs:L8) where
 (b:Nat) (c:List Value)
 h1:xs.length<=c.length
 h2:c.take xs.length=xs.map U8
theorem sX(bm:Nat)(a:Option Addr)(len cap:Nat)(bs:L8)(hb:bs.length=len)(hl:len<=100000)(w:World)(hw:Gt w)(ho:OwnB w bm (Sh.MK.map U32) 94)(hby:BytesAt w a bs):CLS 133 [pnt bm,.slice a len cap].toArray w (λe w'=>e=.returned (.agg ((Sh.SHA bs).map U8).toArray)/\Grow w w'):=by
 subst hb;rw[<-Sh.GB];exact Sh.zJ bm a cap bs om w hw ho hby
theorem own_grow{w w':World}{b:Nat}{c:List Value}{t:TypeId}(h:OwnB w b c t)(hg:Grow w w'):OwnB w' b c t:=h.of_same (hg.block b h.lt)
theorem hmc{i:TypeInfo}(k:Nat)(h:prog.info? 5=some i/\i.zero=some (.int .u8 0)/\i.size=1/\i.bytes=1)(hk:(madeCells (Value.int .u8 0).cells (k*1)).toList=(List.replicate k 0#8).map U8):(madeCells (Value.int .u8 0).cells (k*i.size)).toList=(List.replicate k 0#8).map U8:=by
 rw[h.2.2.1];exact hk
theorem hmk(k:Nat)(h:k<=1000):k*ti5.choose.size<=16777216/\ti5.choose.bytes*k<=281474976710656/\k<=1000000:=by
 rw[ti5.choose_spec.2.2.1,ti5.choose_spec.2.2.2];omega
theorem Wt:(madeCells (Value.int .u8 0).cells (64*1)).toList=(List.replicate 64 0#8).map U8:=kr
end Xm
end
section
open Go.RowKit
namespace Xm
attribute [local simp] Sh.gV kX pV kG fH gu Sh.cb kE
theorem V7(bm:Nat)(a1:Option Addr)(cap1:Nat)(msg:L8)(a2:Option Addr)(cap2:Nat)(dst:L8)(z:Int)(h:z<0)(w:World)(hw:Gt w):CLS 83 [pnt bm,.slice a1 msg.length cap1,.slice a2 dst.length cap2,I z].toArray w (λe w'=>e=.returned (.tuple #[.slice none 0 0,I 130])/\Grow w w'):=by
 refine Hf func83 O hw<|λhGF=>Xp<|Asg O<|Asg O<|aa<|ah<|Xp<|Mv O<|Bnb true O O (λ_=>aw _ _ _) (decide_eq_true om)<|Mv O<|Sk<|Sk<|Pk O O O<|Mv O<|Sk<|Sk<|Sk<|Pk O O O<|Mv O<|Sk<|Sk<|Sk<|Pk O O O<|aa<|aT O<|Xp<|Asg O<|Asg O<|aa<|am<|Rr<|?_;exact ch O O O (λw hw=>⟨rfl,ac hw⟩)
theorem Xz(bm:Nat)(a1:Option Addr)(cap1:Nat)(msg:L8)(a2:Option Addr)(cap2:Nat)(dst:L8)(z:Int)(h:8160<z)(w:World)(hw:Gt w):CLS 83 [pnt bm,.slice a1 msg.length cap1,.slice a2 dst.length cap2,I z].toArray w (λe w'=>e=.returned (.tuple #[.slice none 0 0,I 130])/\Grow w w'):=by
 refine Hf func83 O hw<|λhGF=>Xp<|Asg O<|Asg O<|aa<|ah<|Xp<|Mv O<|Bnb false O O (λ_=>aw _ _ _) (decide_eq_false om)<|Mv O<|Mv O<|Bnb true O O (λ_=>ba _ _ _) (decide_eq_true om)<|Pk O O O<|Mv O<|Sk<|Sk<|Sk<|Pk O O O<|Mv O<|Sk<|Sk<|Sk<|Pk O O O<|aa<|aT O<|Xp<|Asg O<|Asg O<|aa<|am<|Rr<|?_;exact ch O O O (λw hw=>⟨rfl,ac hw⟩)
theorem WY(bm:Nat)(a1:Option Addr)(cap1:Nat)(msg:L8)(a2:Option Addr)(cap2:Nat)(dst:L8)(z:Int)(h0: ¬z<0)(h1: ¬8160<z)(h:255<dst.length)(w:World)(hw:Gt w):CLS 83 [pnt bm,.slice a1 msg.length cap1,.slice a2 dst.length cap2,I z].toArray w (λe w'=>e=.returned (.tuple #[.slice none 0 0,I 130])/\Grow w w'):=by
 refine Hf func83 O hw<|λhGF=>Xp<|Asg O<|Asg O<|aa<|ah<|Xp<|Mv O<|Bnb false O O (λ_=>aw _ _ _) (decide_eq_false om)<|Mv O<|Mv O<|Bnb false O O (λ_=>ba _ _ _) (decide_eq_false om)<|Pk O O O<|Mv O<|Mv O<|bf O (λ_=>aG underlying22 _ _ _ _) O O<|Bnb true O O (λ_=>ba _ _ _) (decide_eq_true om)<|Pk O O O<|Mv O<|Sk<|Sk<|Sk<|Pk O O O<|aa<|aT O<|Xp<|Asg O<|Asg O<|aa<|am<|Rr<|?_;exact ch O O O (λw hw=>⟨rfl,ac hw⟩)
theorem aaW(bm:Nat)(a1:Option Addr)(cap1:Nat)(msg:L8)(a2:Option Addr)(cap2:Nat)(dst:L8)(z:Int)(h0: ¬z<0)(h1: ¬8160<z)(h2: ¬255<dst.length)(h:65536<msg.length)(w:World)(hw:Gt w):CLS 83 [pnt bm,.slice a1 msg.length cap1,.slice a2 dst.length cap2,I z].toArray w (λe w'=>e=.returned (.tuple #[.slice none 0 0,I 130])/\Grow w w'):=by
 refine Hf func83 O hw<|λhGF=>Xp<|Asg O<|Asg O<|aa<|ah<|Xp<|Mv O<|Bnb false O O (λ_=>aw _ _ _) (decide_eq_false om)<|Mv O<|Mv O<|Bnb false O O (λ_=>ba _ _ _) (decide_eq_false om)<|Pk O O O<|Mv O<|Mv O<|bf O (λ_=>aG underlying22 _ _ _ _) O O<|Bnb false O O (λ_=>ba _ _ _) (decide_eq_false om)<|Pk O O O<|Mv O<|Mv O<|bf O (λ_=>aG underlying22 _ _ _ _) O O<|Bnb true O O (λ_=>ba _ _ _) (decide_eq_true om)<|Pk O O O<|aa<|aT O<|Xp<|Asg O<|Asg O<|aa<|am<|Rr<|?_;exact ch O O O (λw hw=>⟨rfl,ac hw⟩)
theorem qw{w:World}{b:Nat}{c:List Value}{xs:L8}(h:w.rangeAt b 0 c)(h2:c.take xs.length=xs.map U8):BytesAt w (spt b) xs:=BytesAt.range λj v hv=>h j v (by
 rw[<-h2,List.getElem?_take]at hv;split at hv
 ·exact hv
 ·cases hv)
structure LpV(b d:L8)(m:Nat) where
 (k:Nat) (a0:Option Addr) (cap:Nat) (own:Hl)
 hk:k<=m
 hs:OwnSl own 50 5 a0 cap (Ozz b d k)
 ho:own=[]\/∃z,own=[(50,z)]
theorem uz{own L:Hl}(ho:own=[]\/∃z,own=[(50,z)])(h:lkB L 50=lkB own 50):jZ L own:=by
 rcases ho with rfl|⟨z,rfl⟩
 ·exact trivial
 ·exact ⟨h,trivial⟩
theorem KR{own:Hl}{a0:Option Addr}{cap:Nat}{xs:L8}(h:OwnSl own 50 5 a0 cap xs):xs.length<=cap:=by
 rcases h with ⟨_,rfl,rfl⟩|⟨_,_,_,_,_,h,_⟩
 ·exact Nat.le_refl _
 ·exact h
def X16(b l:L8)(k:Nat):L8:=if k=0 then b else R b l 32
theorem tU{b l:L8}(hb:b.length=32)(k:Nat):(X16 b l k).length=32:=by
 unfold X16;split
 ·exact hb
 ·rw[kG];exact hb
theorem Am{xs ys:L8}(h:ys.length=32)(e:xs++ys=[]):False:=by
 have:=congrArg List.length e;rw[List.length_append,h,List.length_nil]at this;omega
theorem xr{c:List Value}{xs:L8}{n:Nat}(h:c.take xs.length=xs.map U8)(hn:n<=xs.length):c.take n=(xs.take n).map U8:=by
 have e:=congrArg (List.take n) h;rw[List.take_take,Nat.min_eq_left hn]at e;rw[e,List.map_take]
attribute [local simp] tU
theorem S6(bm:Nat)(a1:Option Addr)(cap1:Nat)(msg:L8)(a2:Option Addr)(cap2:Nat)(dst:L8)(n:Nat)(hn:n<=8160)(hd:dst.length<=255)(hm:msg.length<=65536)(w:World)(hw:Gt w)(ho:OwnB w bm (Sh.MK.map U32) 94)(hb1:BytesAt w a1 msg)(hb2:BytesAt w a2 dst):CLS 83 [pnt bm,.slice a1 msg.length cap1,.slice a2 dst.length cap2,I (n:Int)].toArray w (λe w'=> ∃sv,e=.returned (.tuple #[sv,I 0])/\Grow w w'/\Sh.Cln w w' (E msg dst n) sv):=by
 refine Hf func83 O hw<|λhGF=>Xp<|Asg O<|Asg O<|aa<|ah<|Xp<|Mv O<|Bnb false O O (λ_=>aw _ _ _) (decide_eq_false om)<|Mv O<|Mv O<|Bnb false O O (λ_=>ba _ _ _) (decide_eq_false om)<|Pk O O O<|Mv O<|Mv O<|bf O (λ_=>aG underlying22 _ _ _ _) O O<|Bnb false O O (λ_=>ba _ _ _) (decide_eq_false om)<|Pk O O O<|Mv O<|Mv O<|bf O (λ_=>aG underlying22 _ _ _ _) O O<|Bnb false O O (λ_=>ba _ _ _) (decide_eq_false om)<|Pk O O O<|aa<|aD O<|aq<|?_;refine jw (ι:=Bk (D dst)) (λz=>[(0,pnt bm),(1,.slice a1 msg.length cap1),(3,I (n:Int)),(10,.slice (spt z.b) (D dst).length z.c.length)]) (λz=>[(10,z.b,z.c,5)]) hGF ?_ ?_
 ·refine Xq<|Mv O<|?_
  refine cq (xs:=[]) (ys:=dst) 10 hGF O O underlying22 underlying22 ti5 (iM _ _ _) (λw' h=>hb2.grow (ac h)) (by first|omega|(simp<;>omega)) O O (λh0=> ?_) (λb35 c35 cap35 e35 l35 t35=> ?_)
  ·have hd:dst=[]:=h0
   subst hd;clear h0;refine Mv O<|bf O (λ_=>aG underlying22 _ _ _ _) O O<|bX O O (λ_=>fo underlying3 underlying5 _) O O<|d8 39 [BitVec.ofInt 8 ((List.length ([]:L8):Nat):Int)] hGF O O O dc dc underlying22 sizeOf5 zeroValue5 O O<|?_;intro b39;refine cq (xs:=[]) (ys:=[BitVec.ofInt 8 ((List.length ([]:L8):Nat):Int)]) 10 hGF O O underlying22 underlying22 ti5 (iM _ _ _) (λw' h=>BytesAt.range (aI (n:=39) O w' h)) (by first|omega|(simp<;>omega)) O O (λh0=> ?_) (λb40 c40 cap40 e40 l40 t40=> ?_)
   ·simp at h0
   subst e40;exact Asg O<|aa<|aC<|⟨rfl,⟨b40,c40,l40,t40⟩,_,rfl,trv,trv⟩
  ·subst e35
   refine Mv O<|bf O (λ_=>aG underlying22 _ _ _ _) O O<|bX O O (λ_=>fo underlying3 underlying5 _) O O<|d8 39 [BitVec.ofInt 8 (dst.length:Int)] hGF O O O dc dc underlying22 sizeOf5 zeroValue5 O O<|?_;intro b39;refine cq (xs:=dst) (ys:=[BitVec.ofInt 8 (dst.length:Int)]) 10 hGF O O underlying22 underlying22 ti5 (.inr ⟨b35,c35,rfl,rfl,rfl,l35,t35⟩) (λw' h=>BytesAt.range (aI (n:=39) O w' h)) (by first|omega|(simp<;>omega)) O O (λh0=> ?_) (λb40 c40 cap40 e40 l40 t40=> ?_)
   ·simp at h0
   subst e40;exact Asg O<|aa<|aC<|⟨rfl,⟨b40,c40,l40,t40⟩,_,rfl,trv,trv⟩
 ·intro z
  obtain ⟨bd,cd,hd1,hd2⟩:=z;dsimp only;refine Xp<|pC 41 hGF O O underlying22 ti5.choose_spec.1 ti5.choose_spec.2.1 (hmk 64 dc) (hmc 64 ti5.choose_spec Wt) O O<|λb41=>Mv O<|?_;refine cq (xs:=List.replicate 64 0#8) (ys:=msg) 41 hGF O O underlying22 underlying22 ti5 (.inr ⟨b41,_,rfl,rfl,sm,sm,sm⟩) (λw' h=>hb1.grow (ac h)) (by first|omega|(simp<;>omega)) O O (λh0=> ?_) (λb43 c43 cap43 e43 l43 t43=> ?_)
  ·simp at h0
  subst e43;refine Asg O<|aa<|Xp<|Mv O<|Mv O<|Bnr O O (λ_=>w8 _ _)<|bX O O (λ_=>fo underlying3 underlying5 _) O O<|Mv O<|bX O O (λ_=>fo underlying3 underlying5 _) O O<|d8 50 [BitVec.ofInt 8 ((n / 256:Nat):Int),BitVec.ofInt 8 (n:Int),0#8] hGF O O O dc dc underlying22 sizeOf5 zeroValue5 O O<|?_;intro b50;refine cq (xs:=List.replicate 64 0#8++msg) (ys:=[BitVec.ofInt 8 ((n / 256:Nat):Int),BitVec.ofInt 8 (n:Int),0#8]) 41 hGF O O underlying22 underlying22 ti5 (.inr ⟨b43,c43,rfl,rfl,rfl,l43,t43⟩) (λw' h=>BytesAt.range (aI (n:=50) O w' h)) (by first|omega|(simp<;>omega)) O O (λh0=> ?_) (λb51 c51 cap51 e51 l51 t51=> ?_)
  ·simp at h0
  subst e51;refine Mv O ?_;refine cq (xs:=(List.replicate 64 0#8++msg)++[BitVec.ofInt 8 ((n / 256:Nat):Int),BitVec.ofInt 8 (n:Int),0#8]) (ys:=(D dst)) 41 hGF O O underlying22 underlying22 ti5 (.inr ⟨b51,c51,rfl,rfl,rfl,l51,t51⟩) (λw' h=>qw (aI (n:=10) O w' h) hd2) (by first|omega|(simp<;>omega)) O O (λh0=> ?_) (λb53 c53 cap53 e53 l53 t53=> ?_)
  ·simp at h0
  subst e53;refine Asg O<|aa<|Xp<|Mv O<|Mv O<|Cc O ent133 (λw' hC hG=>sX bm (spt b53) _ _ (F msg dst n) O (by first|omega|(simp<;>omega)) w' hG (own_grow ho (ac hC)) (qw (aI (n:=41) O w' hC) t53))<|Al 12 hGF zv98<|λb12=>aA 12 hGF O O O sizeOf98 sm sm (bZ _) O<|aa<|Xp<|Asg O<|aa<|Xp<|Al 14 hGF zv98<|λb14=>aa<|ah<|Xp<|Asg O<|aa<|ai<|bH (ι:=LpV (B0 msg dst n) (D dst) ((n+31) / 32)) (λz=>[(0,pnt bm),(3,I (n:Int)),(10,.slice (spt bd) (D dst).length cd.length),(12,pnt b12),(13,.slice z.a0 (Ozz (B0 msg dst n) (D dst) z.k).length z.cap),(14,pnt b14),(15,I ((z.k+1:Nat):Int))]) (λz=>(10,bd,cd,5)::(12,b12,(B0 msg dst n).map U8,98)::(14,b14,(Xk (B0 msg dst n) (D dst) z.k).map U8,98)::z.own) (λz=>((n+31) / 32)-z.k) ⟨0,none,0,[],om,iM _ _ _,.inl O⟩ hGF trv trv<|?_
  rintro ⟨k,a0,cap,own,hk,hs,hown⟩;dsimp only at hs hown⊢;have hx:(X16 (B0 msg dst n) (Xk (B0 msg dst n) (D dst) k) k).length=32:=tU (Sh.gV _) k;have hcap:=KR hs;rw[gu]at hcap;refine ah<|Xp<|Mv O<|bf O (λ_=>aG underlying22 _ _ _ _) O O<|Mv O<|Bnr O O (λ_=>aw _ _ _)<|aa<|?_;refine bD O (λhc=> ?_) (λhc=> ?_)
  ·have hlt:32*k<n:=by rw[gu]at hc;simp at hc;omega
   clear hc;refine aq<|ah<|ai<|Xp<|La 12 O O wK<|Al 16 hGF zv98<|λb16=>aA 16 hGF O O O sizeOf98 sm sm (bZ _) O<|aa<|?_;refine jw (ι:=Unit) (λ_=>[(0,pnt bm),(3,I (n:Int)),(10,.slice (spt bd) (D dst).length cd.length),(12,pnt b12),(13,.slice a0 (Ozz (B0 msg dst n) (D dst) k).length cap),(14,pnt b14),(15,I ((k+1:Nat):Int)),(16,pnt b16)]) (λ_=>(16,b16,(X16 (B0 msg dst n) (Xk (B0 msg dst n) (D dst) k) k).map U8,98)::(10,bd,cd,5)::(12,b12,(B0 msg dst n).map U8,98)::(14,b14,(Xk (B0 msg dst n) (D dst) k).map U8,98)::own) hGF ?_ ?_
   ·by_cases hk0:k=0
    ·refine Xp<|Mv O<|Bnb false O O (λ_=>ba _ _ _) (decide_eq_false om)<|aa<|aD O<|aq<|?_
     repeat (refine aO ?_)
     exact aC<|⟨rfl,(),_,rfl,trv,⟨by rw[X16,if_pos hk0];rfl,rfl,rfl,rfl,uz hown O⟩⟩
    ·refine Xp<|Mv O<|Bnb true O O (λ_=>ba _ _ _) (decide_eq_true om)<|aa<|aT O<|Xp<|Asg O<|aa<|ai<|bH (ι:={j:Nat // j<=32}) (λy=>[(0,pnt bm),(3,I (n:Int)),(10,.slice (spt bd) (D dst).length cd.length),(12,pnt b12),(13,.slice a0 (Ozz (B0 msg dst n) (D dst) k).length cap),(14,pnt b14),(15,I ((k+1:Nat):Int)),(16,pnt b16),(17,I (y.1:Int))]) (λy=>(16,b16,(R (B0 msg dst n) (Xk (B0 msg dst n) (D dst) k) y.1).map U8,98)::(10,bd,cd,5)::(12,b12,(B0 msg dst n).map U8,98)::(14,b14,(Xk (B0 msg dst n) (D dst) k).map U8,98)::own) (λy=>32-y.1) ⟨0,om⟩ hGF trv ⟨rfl,rfl,rfl,rfl,uz hown O⟩<|?_
     rintro ⟨j,hj⟩;dsimp only;refine ah<|Xp<|Mv O<|Bnr O O (λ_=>aw _ _ _)<|aa<|?_;refine bD O (λhc=> ?_) (λhc=> ?_)
     ·simp only[decide_eq_true_eq]at hc
      refine aq<|ah<|ai<|Xe []<|Mv O<|Mv O<|Ia (j) O O underlying98 sizeOf5<|Lm 12 U8 0 O O isAgg5 (by simp;try omega)<|Mv O<|Ia (j) O O underlying98 sizeOf5<|Lm 14 U8 0 O O isAgg5 (by simp;try omega)<|Bnr O O (λ_=>rR _ _ _)<|Ia (j) O O underlying98 sizeOf5<|aY 16 U8 hGF O O O sizeOf5 O (by simp;try omega) O<|aa<|Xq<|Mv O<|Bnr O O (λ_=>au _ _ _ oi)<|Asg O<|aa<|?_
      repeat (refine aO ?_)
      exact aC<|⟨rfl,⟨j+1,om⟩,_,by show 32-(j+1)<32-j;omega,rfl,trv,⟨rfl,rfl,rfl,rfl,uz hown O⟩⟩
     ·obtain rfl:j=32:=by simp at hc;omega
      refine aV ?_
      repeat (first|refine dC ?_|refine cm ?_)
      exact aC<|⟨rfl,(),_,rfl,trv,⟨by rw[X16,if_neg hk0];rfl,rfl,rfl,rfl,uz hown O⟩⟩
   ·intro _
    refine Xp<|Mv O<|bR (l:=0) (h':=32) O underlying98 sizeOf5 O O om om O O<|?_;refine cq (xs:=[]) (ys:=X16 (B0 msg dst n) (Xk (B0 msg dst n) (D dst) k) k) 60 hGF O (by rw[hx];rfl) underlying22 underlying22 ti5 (iM _ _ _) (λw' h=>BytesAt.range (aI (n:=16) O w' h)) (by rw[hx];decide) O O (λh0=> ?_) (λb81 c81 cap81 e81 l81 t81=> ?_)
    ·exact (Am hx h0).elim
    subst e81;refine Mv O<|bX O O (λ_=>fo underlying3 underlying5 _) O O<|d8 84 [BitVec.ofInt 8 ((k+1:Nat):Int)] hGF O O O dc dc underlying22 sizeOf5 zeroValue5 O O<|?_;intro b84;refine cq (xs:=X16 (B0 msg dst n) (Xk (B0 msg dst n) (D dst) k) k) (ys:=[BitVec.ofInt 8 ((k+1:Nat):Int)]) 60 hGF O O underlying22 underlying22 ti5 (.inr ⟨b81,c81,rfl,rfl,rfl,l81,t81⟩) (λw' h=>BytesAt.range (aI (n:=84) O w' h)) (by rw[hx];show 32+1<=_;decide) O O (λh0=> ?_) (λb85 c85 cap85 e85 l85 t85=> ?_)
    ·simp at h0
    subst e85;refine Mv O ?_;refine cq (xs:=(X16 (B0 msg dst n) (Xk (B0 msg dst n) (D dst) k) k)++[BitVec.ofInt 8 ((k+1:Nat):Int)]) (ys:=(D dst)) 60 hGF O O underlying22 underlying22 ti5 (.inr ⟨b85,c85,rfl,rfl,rfl,l85,t85⟩) (λw' h=>qw (aI (n:=10) O w' h) hd2) (by rw[List.length_append,hx,kE];first|omega|(simp<;>omega)) O O (λh0=> ?_) (λb87 c87 cap87 e87 l87 t87=> ?_)
    ·simp at h0
    subst e87;refine lr O O ent133 (λw' hC hG=>sX bm (spt b87) _ _ (((X16 (B0 msg dst n) (Xk (B0 msg dst n) (D dst) k) k)++[BitVec.ofInt 8 ((k+1:Nat):Int)])++(D dst)) O (by rw[List.length_append,List.length_append,hx,kE];first|omega|(simp<;>omega)) w' hG (own_grow ho (ac hC)) (qw (aI (n:=60) O w' hC) t87)) O O ?_
    rw[show Sh.SHA (((X16 (B0 msg dst n) (Xk (B0 msg dst n) (D dst) k) k)++[BitVec.ofInt 8 ((k+1:Nat):Int)])++(D dst))=Xk (B0 msg dst n) (D dst) (k+1) by rw[Xk];rfl]
    refine aA 14 hGF O O O sizeOf98 sm sm (bZ _) O<|aa<|Xq<|Mv O<|bR (l:=0) (h':=32) O underlying98 sizeOf5 O O om om O O<|?_;refine cq (xs:=Ozz (B0 msg dst n) (D dst) k) (ys:=Xk (B0 msg dst n) (D dst) (k+1)) 50 hGF O (by rw[fH];rfl) underlying22 underlying22 ti5 (OwnSl.of hs O) (λw' h=>BytesAt.range (aI (n:=14) O w' h)) (by rw[gu,fH];omega) O O (λh0=> ?_) (λb91 c91 cap91 e91 l91 t91=> ?_)
    ·exact (Am (fH _ _ _) h0).elim
    subst e91;refine Asg O<|aa<|Xq<|Mv O<|Bnr (v:=I ((k+1+1:Nat):Int)) O O (λ_=>(au _ _ _ oi).trans rr)<|Asg O<|aa<|?_
    repeat (first|refine aO ?_|refine cm ?_)
    exact aC<|⟨rfl,⟨k+1,some ⟨b91,0,none⟩,c91.length,[(50,b91,c91,5)],om,.inr ⟨b91,c91,rfl,rfl,rfl,l91,t91⟩,.inr ⟨_,rfl⟩⟩,_,by show ((n+31) / 32)-(k+1)<((n+31) / 32)-k;omega,rfl,trv,trv⟩
  ·have hge:n<=32*k:=by rw[gu]at hc;simp at hc;omega
   clear hc;obtain rfl:k=(n+31) / 32:=om;refine aV<|Xp<|Mv O<|Mv O<|gh (l:=0) (h':=n) O underlying22 sizeOf5 O O om O O<|Asg O<|Asg O<|aa<|am<|?_
   repeat (first|refine bJ ?_|refine bM ?_|refine fh ?_)
   rcases hs with ⟨rfl,e0,rfl⟩|⟨b,c,rfl,hl,hc,hle,ht⟩
   ·have hn0:n=0:=by have:=congrArg List.length e0;rw[gu,List.length_nil]at this;omega
    subst hn0;exact ch O O O (λw hw=>⟨_,rfl,ac hw,.inl ⟨rfl,rfl⟩⟩)
   ·have e1:(if cap=0 then (some ⟨b,0,none⟩:Option Addr)else (some ⟨b,0,none⟩:Option Addr).map (·.add (0*1)))=some ⟨b,0,none⟩:=by split<;>rfl
    rcases hown with rfl|⟨z,rfl⟩
    ·cases hl
    ·have hz:z=(b,c,5):=Option.some.inj hl
     subst hz;exact ch O O O (λw hw=>⟨_,rfl,ac hw,.inr ⟨b,c,_,by rw[e1,kK];rfl,(hw.own 50 b _ _ O).2.elim id False.elim,(hw.own 50 b _ _ O).1,hc,by rw[kK];omega,by rw[kK];exact xr ht (by rw[gu];omega)⟩⟩)
end Xm
end
section
open Go.RowKit
theorem ent205:ak prog 205:=λ_ _=>kr
theorem ent171:ak prog 171:=λ_ _=>kr
namespace Xm
attribute [local simp] Sh.gV kX pV kG fH gu Sh.cb kE
def Bad(msg dst:L8)(z:Int):Prop:=z<0\/8160<z\/255<dst.length\/65536<msg.length
structure RT(msg dst:L8)(z:Int)(w:World)(v:Value):Prop where
 bad:Bad msg dst z->v=.tuple #[.slice none 0 0,I 130]
 ok: ¬Bad msg dst z->∃a cap,v=.tuple #[.slice a (E msg dst z.toNat).length cap,I 0]/\BytesAt w a (E msg dst z.toNat)/\(E msg dst z.toNat).length<=cap
theorem SJ{w w':World}{bs:L8}{sv:Value}(h:Sh.Cln w w' bs sv): ∃a cap,sv=.slice a bs.length cap/\BytesAt w' a bs/\bs.length<=cap:=by
 rcases h with ⟨rfl,rfl⟩|⟨b,c,cap,rfl,_,ho,_,hle,ht⟩
 ·exact ⟨none,0,rfl,λj v hv=>by simp at hv,Nat.le_refl _⟩
 ·exact ⟨_,_,rfl,qw ho.range ht,hle⟩
theorem Cu(bm:Nat)(a1:Option Addr)(cap1:Nat)(msg:L8)(a2:Option Addr)(cap2:Nat)(dst:L8)(z:Int)(w:World)(hw:Gt w)(ho:OwnB w bm (Sh.MK.map U32) 94)(hb1:BytesAt w a1 msg)(hb2:BytesAt w a2 dst):CLS 83 [pnt bm,.slice a1 msg.length cap1,.slice a2 dst.length cap2,I z].toArray w (λe w'=> ∃v,e=.returned v/\Grow w w'/\RT msg dst z w' v):=by
 have err:Bad msg dst z->∀{e:Ending} {w':World},e=.returned (.tuple #[.slice none 0 0,I 130])/\Grow w w'->∃v,e=.returned v/\Grow w w'/\RT msg dst z w' v:=λhb _ _ h=>⟨_,h.1,h.2,λ_=>rfl,λhn=>absurd hb hn⟩;by_cases h0:z<0
 ·exact (V7 bm a1 cap1 msg a2 cap2 dst z h0 w hw).mono λ_ _ h=>err (.inl h0) h
 by_cases h1:8160<z
 ·exact (Xz bm a1 cap1 msg a2 cap2 dst z h1 w hw).mono λ_ _ h=>err (.inr (.inl h1)) h
 by_cases h2:255<dst.length
 ·exact (WY bm a1 cap1 msg a2 cap2 dst z h0 h1 h2 w hw).mono λ_ _ h=>err (.inr (.inr (.inl h2))) h
 by_cases h3:65536<msg.length
 ·exact (aaW bm a1 cap1 msg a2 cap2 dst z h0 h1 h2 h3 w hw).mono λ_ _ h=>err (.inr (.inr (.inr h3))) h
 obtain ⟨n,rfl⟩: ∃n:Nat,z=(n:Int):=⟨z.toNat,om⟩;refine (S6 bm a1 cap1 msg a2 cap2 dst n om om om w hw ho hb1 hb2).mono λe w' ⟨sv,he,hg,hc⟩=>⟨_,he,hg,λhb=>absurd hb ?_,λ_=> ?_⟩
 ·rintro (h|h|h|h)<;>omega
 ·obtain ⟨a,cap,rfl,hby,hle⟩:=SJ hc
  exact ⟨a,cap,rfl,hby,hle⟩
def PXC:Prop:= ∀(a1:Option Addr) (cap1:Nat) (msg:L8) (a2:Option Addr) (cap2:Nat) (dst:L8) (z:Int) (w:World),msg.length<=100000->msg.length<=cap1->dst.length<=100000->dst.length<=cap2->Gt w->BytesAt w a1 msg->BytesAt w a2 dst->CLS 205 [.slice a1 msg.length cap1,.slice a2 dst.length cap2,I z].toArray w (λe w'=> ∃v,e=.returned v/\Grow w w'/\RT msg dst z w' v)
end Xm
end
/-! ### Products of what has no root -/
theorem Ce{a b:Zp}(ha:IsQ a)(hb:IsQ b):IsQ (a*b):=qb (s:=SQr a*SQr b) (by
 have ha:SQr a*SQr a=a:=ha;have hb:SQr b*SQr b=b:=hb;generalize SQr a=s at*;generalize SQr b=t at*;subst ha hb;grind)
theorem Kq{a b:Zp}(ha: ¬IsQ a)(hb: ¬IsQ b):IsQ (a*b):=by
 have h:=Ce ((tJ a).resolve_left ha) ((tJ b).resolve_left hb);rw[show-a* -b=a*b by grind]at h
 exact h
def S5:Zp:=zp 0x186417302d5a65347a88b0f999ab2b504614aa5e2eebdeb1a014c40bceb7d2306c12a6d436befcf94d39c9db7b263cd4
theorem Z2:S5*S5= -(zp 5):=by decide+kernel
theorem aaT: ¬IsQ (zp 5):=by
 rcases lj (a:=zp 5) (b:= -(zp 5)) (c:=zp 5) (by generalize zp 5=a;grind) (by decide+kernel)with h|h
 ·exact absurd (qb Z2) h.2
 ·exact h.1
/-! ### The other curve -/
def OA:W2:=(0,zp 240)
def OB:W2:=(zp 1012,zp 1012)
def OZ:W2:=ng2 (zp 2,zp 1)
def gO(x:W2):W2:=ad2 (ad2 (ml2 (ml2 x x) x) (ml2 OA x)) OB
def zu2(u:W2):W2:=ml2 (ml2 OZ u) u
def tu2(u:W2):W2:=ad2 (ml2 (zu2 u) (zu2 u)) (zu2 u)
def X1c:W2:=(zp 0x1a59d4b6bbf912a32d63b43028e2deeebe8d5d97ca64b6d66f64ac7a265a9305e1a40da5edb81b4e3ac4f5c28f5bd27,zp 0x15103a07f641331bb298f5ed3ba1230aa0bcc9f87d923077324df24a0f7ffa93045d3d6f94c17ae10efa11eb851e7336)
def R1c:W2:=(zp 0x28a5c165c0f2b6f84373bd5beb9a30d9ffef84fe5dc9a01a5e6825ee681d72252e4afbaf882c28f1c2935d806d2f71b,zp 0x17407d2938baedf8f3a537708747853994282b0535a8c4d8ffd7c0ebe3e31b581e4adea8190ec4a4a8ecaae9fd615d8a)
theorem M2:ml2 X1c (ml2 OZ OA)=OB:=by decide+kernel
theorem Fi:ml2 R1c R1c=gO X1c:=by decide+kernel
theorem VH:ml2 OZ OA≠ze2:=by decide+kernel
theorem AZ:OA≠ze2:=by decide+kernel
theorem Dj(a b c:W2):ml2 (ml2 a b) c=ml2 a (ml2 b c):=R2.mul_assoc a b c
theorem Fp:ml2 OB (iv2 (ml2 OZ OA))=X1c:=by
 rw[<-M2,Dj,de VH];exact R2.mul_one X1c
def x1O(u:W2):W2:=if tu2 u=ze2 then ml2 OB (iv2 (ml2 OZ OA))else ml2 (ml2 (ng2 OB) (iv2 OA)) (ad2 on2 (iv2 (tu2 u)))
theorem Pf{u:W2}(h:tu2 u≠ze2):ml2 (ml2 OA (x1O u)) (tu2 u)=ml2 (ng2 OB) (ad2 (tu2 u) on2):=by
 have e1:=de AZ;have e2:=de h;rw[show x1O u=ml2 (ml2 (ng2 OB) (iv2 OA)) (ad2 on2 (iv2 (tu2 u)))from if_neg h];generalize tu2 u=t at*;generalize iv2 t=s at*;generalize iv2 OA=a' at*;generalize OA=a at*;generalize ng2 OB=b at*;exact zl R2 [a,a',b,t,s] 0x556558742a9 0x45558942a2582 0x58492 0x45558942a5675859a (lca (lcm e1) (lcm e2))
theorem g_x2{u:W2}(h:tu2 u≠ze2):gO (ml2 (zu2 u) (x1O u))=ml2 (ml2 (ml2 (zu2 u) (zu2 u)) (zu2 u)) (gO (x1O u)):=by
 have k:=Pf h;unfold tu2 at k;unfold gO;generalize zu2 u=z at*;generalize x1O u=x at*;generalize OA=a at*;generalize OB=b at*;exact zk R2 [a,b,z,x] 0x4455589589589565897 0x55588844559995697 0x4238 0x5374458882 0x556945888 k
theorem VL(u:W2):nm2 (zu2 u)=zp 5*(nm2 u*nm2 u):=by
 rw[zu2,gT,gT,show nm2 OZ=zp 5 by decide+kernel]
 generalize zp 5=a;generalize nm2 u=n;grind
theorem LI{u:W2}(h: ¬IsQ (nm2 (gO (x1O u)))):IsQ (nm2 (gO (ml2 (zu2 u) (x1O u)))):=by
 by_cases ht:tu2 u=ze2
 ·refine absurd ((jE _).1 ⟨R1c, ?_⟩) h
  rw[Fi,show x1O u=ml2 OB (iv2 (ml2 OZ OA))from if_pos ht,Fp]
 ·rw[g_x2 ht,gT,gT,gT,VL]
  have k:=Ce (Kq aaT h) (ot (zp 5*(nm2 u*nm2 u)*(nm2 u)));generalize nm2 (gO (x1O u))=g at*;generalize nm2 u=n at*;generalize zp 5=a at*;rw[show a*(n*n)*(a*(n*n))*(a*(n*n))*g=a*g*(a*(n*n)*n*(a*(n*n)*n)) by grind]
  exact k
/-! ### The map to the second curve -/
def iXN:List W2:=[(zp 0x5c759507e8e333ebb5b7a9a47d7ed8532c52d39fd3a042a88b58423c50ae15d5c2638e343d9c71c6238aaaaaaaa97d6,zp 0x5c759507e8e333ebb5b7a9a47d7ed8532c52d39fd3a042a88b58423c50ae15d5c2638e343d9c71c6238aaaaaaaa97d6),(0,zp 0x11560bf17baa99bc32126fced787c88f984f87adf7ae0c7f9a208c6b4f20a4181472aaa9cb8d555526a9ffffffffc71a),(zp 0x11560bf17baa99bc32126fced787c88f984f87adf7ae0c7f9a208c6b4f20a4181472aaa9cb8d555526a9ffffffffc71e,zp 0x8ab05f8bdd54cde190937e76bc3e447cc27c3d6fbd7063fcd104635a790520c0a395554e5c6aaaa9354ffffffffe38d),(zp 0x171d6541fa38ccfaed6dea691f5fb614cb14b4e7f4e810aa22d6108f142b85757098e38d0f671c7188e2aaaaaaaa5ed1,0)]
def iXD:List W2:=[(0,-zp 72),(zp 0xc,-zp 12),(zp 0x1,0)]
def iYN:List W2:=[(zp 0x1530477c7ab4113b59a4c18b076d11930f7da5d4a07f649bf54439d87d27e500fc8c25ebf8c92f6812cfc71c71c6d706,zp 0x1530477c7ab4113b59a4c18b076d11930f7da5d4a07f649bf54439d87d27e500fc8c25ebf8c92f6812cfc71c71c6d706),(0,zp 0x5c759507e8e333ebb5b7a9a47d7ed8532c52d39fd3a042a88b58423c50ae15d5c2638e343d9c71c6238aaaaaaaa97be),(zp 0x11560bf17baa99bc32126fced787c88f984f87adf7ae0c7f9a208c6b4f20a4181472aaa9cb8d555526a9ffffffffc71c,zp 0x8ab05f8bdd54cde190937e76bc3e447cc27c3d6fbd7063fcd104635a790520c0a395554e5c6aaaa9354ffffffffe38f),(zp 0x124c9ad43b6cf79bfbf7043de3811ad0761b0f37a1e26286b0e977c69aa274524e79097a56dc4bd9e1b371c71c718b10,0)]
def iYD:List W2:=[(-zp 432,-zp 432),(0,-zp 216),(zp 0x12,-zp 18),(zp 0x1,0)]
theorem IN:R2.pp (R2.pp iYN iYN) (R2.pp [OB,OA,ze2,on2] (R2.pp iXD (R2.pp iXD iXD)))=R2.pp (R2.pp iYD iYD) (R2.pa (R2.pp iXN (R2.pp iXN iXN)) (R2.pk (zp 4,zp 4) (R2.pp iXD (R2.pp iXD iXD)))):=by decide+kernel
theorem Qu(x:W2):R2.pev [OB,OA,ze2,on2] x=gO x:=by
 show ad2 OB (ml2 x (ad2 OA (ml2 x (ad2 ze2 (ml2 x (ad2 on2 (ml2 x ze2)))))))=ad2 (ad2 (ml2 (ml2 x x) x) (ml2 OA x)) OB;generalize OA=a;generalize OB=b;exact zx R2 [a,b,x] 0x47584658415842581 0x44558885687
theorem Uh(x:W2):ml2 (ml2 (R2.pev iYN x) (R2.pev iYN x)) (ml2 (gO x) (ml2 (R2.pev iXD x) (ml2 (R2.pev iXD x) (R2.pev iXD x))))=ml2 (ml2 (R2.pev iYD x) (R2.pev iYD x)) (ad2 (ml2 (R2.pev iXN x) (ml2 (R2.pev iXN x) (R2.pev iXN x))) (ml2 (zp 4,zp 4) (ml2 (R2.pev iXD x) (ml2 (R2.pev iXD x) (R2.pev iXD x))))):=by
 have h:=congrArg (λl=>R2.pev l x) IN;simp only[R2.pev_pp,R2.pev_pa,R2.pev_pk,Qu]at h;exact h
theorem Qz{x y:W2}(h:ml2 y y=gO x)(hx:R2.pev iXD x≠ze2)(hy:R2.pev iYD x≠ze2):E2w.on (ml2 (R2.pev iXN x) (iv2 (R2.pev iXD x)),ml2 (ml2 y (R2.pev iYN x)) (iv2 (R2.pev iYD x))):=by
 have e:=Uh x;rw[<-h]at e;have e1:=de hx;have e2:=de hy;show ml2 (ml2 (ml2 y (R2.pev iYN x)) (iv2 (R2.pev iYD x))) (ml2 (ml2 y (R2.pev iYN x)) (iv2 (R2.pev iYD x)))=ad2 (ml2 (ml2 (R2.pev iXN x) (iv2 (R2.pev iXD x))) (ml2 (ml2 (R2.pev iXN x) (iv2 (R2.pev iXD x))) (ml2 (R2.pev iXN x) (iv2 (R2.pev iXD x))))) (zp 4,zp 4);generalize R2.pev iXN x=xn at*;generalize R2.pev iXD x=xd at*;generalize R2.pev iYN x=yn at*;generalize R2.pev iYD x=yd at*;generalize iv2 xd=s at*;generalize iv2 yd=t at*;generalize ((zp 4,zp 4):W2)=b at*;exact zl R2 [y,xn,xd,yn,yd,s,t,b] 0x55569c5569c 0x445555bbb5cc55aa4575775d585885543555665995ccd44558b58b58b2255455757755bbb5d5558b58b58b45ac22 0x4557b557b57bd 0x445555bbb5cc55995566585885543555665995ccd44558b58b58b258b55455757755bbb5d5558b58b58b45ac25ac (lca (lca (lcm e) (lcm e1)) (lcm e2))
theorem Gy{a b:W2}(ha:a≠ze2)(hb:b≠ze2):iv2 (ml2 a b)=ml2 (iv2 a) (iv2 b):=by
 have e0:=de (x:=ml2 a b) (λh=>(gX h).elim ha hb);have e1:=de ha;have e2:=de hb;generalize iv2 (ml2 a b)=w at*;generalize iv2 a=s at*;generalize iv2 b=t at*;exact zl R2 [a,b,s,t,w] 0xa 0x4455892535a579253a2 0x589 0x4455895567a535a57956853a579 (lca (lca (lcm e0) (lcm e1)) (lcm e2))
theorem Th{x:W2}(h:x≠ze2):ng2 x≠ze2:=λe=>h (by
 have:=congrArg ng2 e;rw[IU]at this;exact (R2.neg_neg x).symm.trans this)
/-! ### The first x -/
theorem P7(x:W2):ad2 (ml2 (ad2 (ml2 x x) OA) x) OB=gO x:=by
 unfold gO;generalize OA=a;generalize OB=b;exact zx R2 [x,a,b] 0x454566768 0x44556665768
theorem ZC(u:W2):ml2 (ml2 u u) OZ=zu2 u:=by
 unfold zu2;generalize OZ=z;exact zx R2 [u,z] 0x55667 0x55766
theorem Mb{u:W2}(h:tu2 u=ze2):ml2 (ml2 OB (ad2 (tu2 u) on2)) (iv2 (ml2 OZ OA))=x1O u:=by
 rw[show x1O u=ml2 OB (iv2 (ml2 OZ OA))from if_pos h,h,show ad2 ze2 on2=on2 from R2.zero_add on2,show ml2 OB on2=OB from R2.mul_one OB]
theorem Ma{u:W2}(h: ¬tu2 u=ze2):ml2 (ml2 OB (ad2 (tu2 u) on2)) (iv2 (ml2 (ng2 (tu2 u)) OA))=x1O u:=by
 rw[show x1O u=ml2 (ml2 (ng2 OB) (iv2 OA)) (ad2 on2 (iv2 (tu2 u)))from if_neg h];have e0:=de (x:=ml2 (ng2 (tu2 u)) OA) (λk=>(gX k).elim (Th h) AZ);have e1:=de AZ;have e2:=de h;generalize iv2 (ml2 (ng2 (tu2 u)) OA)=w at*;generalize tu2 u=t at*;generalize iv2 t=s at*;generalize iv2 OA=a' at*;generalize OA=a at*;generalize OB=b at*;exact zl R2 [a,a',b,t,s,w] 0x558492b 0x4455385742a253585b5942a25358b2 0x5538742a 0x4455385742a55396b53585b5942a5675358b59a (lca (lca (lcm e0) (lcm e1)) (lcm e2))
/-! ### Signs -/
def sgS(r u:W2):W2:=if SG2 r=SG2 u then r else ng2 r
theorem RL(r u:W2):ml2 (sgS r u) (sgS r u)=ml2 r r:=by
 unfold sgS;split
 ·rfl
 ·exact Ji r
structure SwR(u x r:W2):Prop where
 sq:ml2 r r=gO x
 lg:LG2 r=false
 at1:x=x1O u\/(¬IsQ (nm2 (gO (x1O u)))/\x=ml2 (zu2 u) (x1O u))
theorem Tf(u:W2): ∃x r,SwR u x r:=by
 by_cases h:IsQ (nm2 (gO (x1O u)))
 ·obtain ⟨r,hr⟩:=(jE _).2 h
  exact ⟨_,NL r,(CJ r).trans hr,ns r,.inl O⟩
 ·obtain ⟨r,hr⟩:=(jE _).2 (LI h)
  exact ⟨_,NL r,(CJ r).trans hr,ns r,.inr ⟨h,rfl⟩⟩
theorem SwR.on{u x r:W2}(h:SwR u x r):ml2 (sgS r u) (sgS r u)=gO x:=(RL r u).trans h.sq
theorem Yv:tu2 ze2=ze2:=by decide+kernel
theorem QD:X1c≠ze2:=by decide+kernel
theorem SwR.ze{x r:W2}(h:SwR ze2 x r):x≠ze2:=by
 have e:x1O ze2=X1c:=(if_pos Yv).trans Fp;rcases h.at1 with k|k
 ·rw[k,e];exact QD
 ·refine absurd ((jE _).1 ⟨R1c, ?_⟩) k.1
  rw[Fi,e]
/-! ### The map to the second curve -/
def C6:W2:=(zp 6,-zp 6)
theorem Xv:iXD=[ml2 C6 C6,ad2 C6 C6,on2]:=by decide+kernel
theorem aaZ:iYD=[ml2 C6 (ml2 C6 C6),ad2 (ml2 C6 C6) (ad2 (ml2 C6 C6) (ml2 C6 C6)),ad2 C6 (ad2 C6 C6),on2]:=by decide+kernel
theorem VZ(x:W2):R2.pev iXD x=ml2 (ad2 x C6) (ad2 x C6):=by
 rw[Xv];generalize C6=c;exact zx R2 [x,c] 0x45775644775642561 0x5467467
theorem VO(x:W2):R2.pev iYD x=ml2 (ad2 x C6) (ml2 (ad2 x C6) (ad2 x C6)):=by
 rw[aaZ];generalize C6=c;exact zx R2 [x,c] 0x45757756445774577577564474775642561 0x54675467467
def R32:Zp:=zp 0x1764c4d4cfa3326ab57cbfed7f4a64378dc56542f8ff574f159cb76173021e735e4c97e34b82fa6cc8627df6f1f0af2
theorem QR:R32*R32= -(zp 32):=by decide+kernel
theorem TY: ¬IsQ (zp 32):=by
 rcases lj (a:=zp 32) (b:= -(zp 32)) (c:=zp 32) (by generalize zp 32=a;grind) (by decide+kernel)with h|h
 ·exact absurd (qb QR) h.2
 ·exact h.1
theorem TZ:nm2 (gO (ng2 C6))=zp 32:=by decide+kernel
theorem nI{x y:W2}(h:ml2 y y=gO x):ad2 x C6≠ze2:=λk=>by
 have e:x=ng2 C6:=by
  have h:=k;generalize C6=c at*;exact zk R2 [x,c] 0x6 0x37 0x2 0x1 0x467 h
 have q:=fF h;rw[e,TZ]at q;exact TY q
theorem wT{x y:W2}(h:ml2 y y=gO x):R2.pev iXD x≠ze2:=λe=>(gX ((VZ x).symm.trans e)).elim (nI h) (nI h)
theorem vZ{x y:W2}(h:ml2 y y=gO x):R2.pev iYD x≠ze2:=λe=>(gX ((VO x).symm.trans e)).elim (nI h) (λe=>(gX e).elim (nI h) (nI h))
def XIs(x:W2):W2:=ml2 (R2.pev iXN x) (iv2 (R2.pev iXD x))
def YIs(x y:W2):W2:=ml2 (ml2 y (R2.pev iYN x)) (iv2 (R2.pev iYD x))
theorem VU{n d e:W2}(hd:d≠ze2)(he:e≠ze2):ml2 (ml2 n e) (iv2 (ml2 d e))=ml2 n (iv2 d):=by
 rw[Gy hd he];have e2:=de he;generalize iv2 d=s at*;generalize iv2 e=t at*;exact zk R2 [n,d,e,s,t] 0x556859a 0x569 0x569 0x2 0x58a e2
theorem X0{n d e:W2}(hd:d≠ze2)(he:e≠ze2):ml2 (ml2 n d) (iv2 (ml2 d e))=ml2 n (iv2 e):=by
 rw[Gy hd he];have e1:=de hd;generalize iv2 d=s at*;generalize iv2 e=t at*;exact zk R2 [n,d,e,s,t] 0x556759a 0x56a 0x56a 0x2 0x579 e1
theorem yT{x y:W2}(h:ml2 y y=gO x):E2w.on (XIs x,YIs x y):=Qz h (wT h) (vZ h)
/-! ### Coefficients, the highest first -/
def HK(f:Nat->W2)(x:W2):Nat->W2
 |0=>ze2
 |k+1=>ad2 (ml2 (HK f x k) x) (f k)
theorem Dp(f:Nat->W2)(x:W2):HK f x 4=R2.pev [f 3,f 2,f 1,f 0] x:=by
 show ad2 (ml2 (ad2 (ml2 (ad2 (ml2 (ad2 (ml2 ze2 x) (f 0)) x) (f 1)) x) (f 2)) x) (f 3)=R2.pev [f 3,f 2,f 1,f 0] x;generalize f 0=a3;generalize f 1=a2;generalize f 2=a1;generalize f 3=a0;exact zx R2 [a0,a1,a2,a3,x] 0x454545451a9a8a7a6 0x465a475a485a495a1
theorem HK_z(f:Nat->W2)(x:W2)(h:f 0=ze2):HK f x 4=R2.pev [f 3,f 2,f 1] x:=by
 show ad2 (ml2 (ad2 (ml2 (ad2 (ml2 (ad2 (ml2 ze2 x) (f 0)) x) (f 1)) x) (f 2)) x) (f 3)=R2.pev [f 3,f 2,f 1] x;rw[h];generalize f 1=a2;generalize f 2=a1;generalize f 3=a0;exact zx R2 [a0,a1,a2,x] 0x45454545191989796 0x4659475948591
theorem HK_3(f:Nat->W2)(x:W2):HK f x 3=R2.pev [f 2,f 1,f 0] x:=by
 show ad2 (ml2 (ad2 (ml2 (ad2 (ml2 ze2 x) (f 0)) x) (f 1)) x) (f 2)=R2.pev [f 2,f 1,f 0] x;generalize f 0=a2;generalize f 1=a1;generalize f 2=a0;exact zx R2 [a0,a1,a2,x] 0x4545451989796 0x4659475948591
/-! ### What the laws ask besides -/
end Go.Proofs.YtjookodjbjabbaaGreatDoor
