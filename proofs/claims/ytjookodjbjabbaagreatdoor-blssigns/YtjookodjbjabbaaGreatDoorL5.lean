/- L5 -/
import Derived.Test.YtjookodjbjabbaaGreatDoorL2
import Derived.Test.YtjookodjbjabbaaGreatDoorM0
import Derived.Test.YtjookodjbjabbaaGreatDoorXW
import Derived.Test.YtjookodjbjabbaaGreatDoorL0
import Derived.Test.YtjookodjbjabbaaGreatDoorL4
import Derived.Test.YtjookodjbjabbaaGreatDoorX1
import Derived.Test.YtjookodjbjabbaaGreatDoorX5
import Derived.Test.YtjookodjbjabbaaGreatDoorX2
import Derived.Lib.BufferMore
import Derived.Test.YtjookodjbjabbaaGreatDoorX3
import Derived.Test.YtjookodjbjabbaaGreatDoorL1
import Derived.Test.YtjookodjbjabbaaGreatDoorM1
set_option maxRecDepth 100000
set_option maxHeartbeats 1000000
namespace Go.Proofs.YtjookodjbjabbaaGreatDoor
open Go.Proofs.Tryz
section
open Go.RowKit
attribute [local simp] gc aJ aB aQ aT aK jT O3 bf
abbrev RV(x:Zr):Value:=aM (nr x)
theorem zv27(w:World):(zeroValue 27).run prog w=.ok (aM (List.replicate 6 (0#64))) w:=(zeroValue27 w).trans rr
theorem zv98(w:World):(zeroValue 98).run prog w=.ok (.agg ((List.replicate 32 (0#8)).map U8).toArray) w:=(zeroValue98 w).trans rr
theorem DC(x y:Zr):decide (nr x=nr y)=decide (x=y):=decide_eq_decide.2 RD
theorem Vh{x y:BitVec 64}(h:(x==y)=true):x=y:=beq_iff_eq.1 h
theorem S7{x y:BitVec 64}(h:(x==y)=false): ¬x=y:=beq_eq_false_iff_ne.1 h
theorem ent6:ak prog 6:=fun _ _=>kr
theorem ent77:ak prog 77:=fun _ _=>kr
theorem AH(a b:L6)(ha:a.length=6)(hb:b.length=6):PUR 69 [NV a,NV b] (NV (iP (iP a b ML) LIFT ML)):=by
 intro w hw
 refine Hf func69 rfl hw<|fun hGF=>Xp<|Bx 2 hGF rfl<|fun b2=>Bx 3 hGF rfl<|fun b3=>Al 4 hGF zv25<|fun b4=>aa<|Xd []<|bY 2 rfl rfl isAgg25 sizeOf25 (by first|(simp;done)|exact ha|exact hb|(rw[List.length_map];exact ha)|(rw[List.length_map];exact hb)) rfl rfl<|bY 3 rfl rfl isAgg25 sizeOf25 (by first|(simp;done)|exact ha|exact hb|(rw[List.length_map];exact ha)|(rw[List.length_map];exact hb)) rfl rfl<|h9 hGF isAgg25 sizeOf25 (by first|(simp;done)|exact ha|exact hb|(rw[List.length_map];exact ha)|(rw[List.length_map];exact hb)) (fun _ h=>h.g1) rfl rfl<|Ca rfl (iR _ _ _ (by first|(simp;done)|exact ha|exact hb|(rw[List.length_map];exact ha)|(rw[List.length_map];exact hb)) (by first|(simp;done)|exact ha|exact hb|(rw[List.length_map];exact ha)|(rw[List.length_map];exact hb)) (by first|(simp;done)|exact ha|exact hb|(rw[List.length_map];exact ha)|(rw[List.length_map];exact hb)))<|h9 hGF isAgg25 sizeOf25 (by first|(simp;done)|exact ha|exact hb|(rw[List.length_map];exact ha)|(rw[List.length_map];exact hb)) (fun _ h=>h.g0) rfl rfl<|h9 hGF isAgg25 sizeOf25 (by first|(simp;done)|exact ha|exact hb|(rw[List.length_map];exact ha)|(rw[List.length_map];exact hb)) (fun _ h=>h.g1) rfl rfl<|Ca rfl (iR _ _ _ (by first|(simp;done)|exact ha|exact hb|(rw[List.length_map];exact ha)|(rw[List.length_map];exact hb)) (by first|(simp;done)|exact ha|exact hb|(rw[List.length_map];exact ha)|(rw[List.length_map];exact hb)) (by first|(simp;done)|exact ha|exact hb|(rw[List.length_map];exact ha)|(rw[List.length_map];exact hb)))<|aw 4 hGF rfl rfl rfl sizeOf25 (by first|(simp;done)|exact ha|exact hb|(rw[List.length_map];exact ha)|(rw[List.length_map];exact hb)) (by first|(simp;done)|exact ha|exact hb|(rw[List.length_map];exact ha)|(rw[List.length_map];exact hb)) (be _) rfl<|aa<|am<|Rr<|?_
 exact av 4 rfl rfl rfl isAgg25 sizeOf25 (by first|(simp;done)|exact ha|exact hb|(rw[List.length_map];exact ha)|(rw[List.length_map];exact hb)) (fun w hw=>⟨rfl,ac hw⟩)
theorem y7(n:L6)(hn:n.length=6):PUR 30 [NV n] (RV (zr (V n 6))):=by
 intro w hw
 refine Hf func30 rfl hw<|fun hGF=>Xp<|Bx 1 hGF rfl<|fun b1=>Al 2 hGF zv27<|fun b2=>aa<|Xp<|eK 1 rfl underlying25 sizeOf24 zv25 rfl rfl<|bY 1 rfl rfl isAgg25 sizeOf25 (by first|(simp;done)|simp[hn]) rfl rfl<|Ca rfl (AH _ _ (by first|(simp;done)|simp[hn]) (by first|(simp;done)|simp[hn]))<|ck rfl (by first|(simp;done)|simp[hn]) underlying27 rfl sizeOf25 zv27 rfl rfl<|aw 2 hGF rfl rfl rfl sizeOf27 (by first|(simp;done)|simp[hn]) (by first|(simp;done)|simp[hn]) (be _) rfl<|aa<|am<|Rr<|?_
 exact av 2 rfl rfl rfl isAgg27 sizeOf27 (by first|(simp;done)|simp[hn]) (fun w hw=>⟨congrArg (fun l=>Ending.returned (NV l)) (En n),ac hw⟩)
theorem qH(n:BitVec 64):PUR 23 [U64 n] (RV (zr n.toNat)):=by
 intro w hw
 refine Hf func23 rfl hw<|fun hGF=>Xp<|Al 2 hGF zv27<|fun b2=>aa<|Xp<|Mv rfl<|eK n rfl underlying25 sizeOf24 zv25 rfl rfl<|ck rfl sm underlying27 rfl sizeOf25 zv27 rfl rfl<|Sa 2 hGF rfl rfl rfl iO<|aa<|am<|Rr<|?_
 exact av 2 rfl rfl rfl isAgg27 sizeOf27 sm (fun w hw=>⟨congrArg (fun l=>Ending.returned (NV l)) (Kq n),ac hw⟩)
theorem vq(x:Zr):PUR 19 [RV x] (.bool (decide (x=0))):=by
 intro w hw
 refine Hf func19 rfl hw<|fun hGF=>Xp<|Bx 1 hGF rfl<|fun b1=>Asg rfl<|aa<|Xp<|Fa 0 rfl underlying27 rfl sizeOf25<|La 1 rfl rfl ci<|el zv25 underlying25 sizeOf24 rfl rfl<|cy rfl rfl (fun _=>GS _ _ _ _ _ _) (fun w=>Jz _ _ sm sm w) rfl rfl<|Asg rfl<|aa<|am<|Rr<|?_
 exact aG rfl rfl (fun w hw=>⟨by rw[←Sr,DC],ac hw⟩)
theorem s8(x y:Zr):PUR 24 [RV x,RV y] (RV (x+y)):=by
 intro w hw
 refine Hf func24 rfl hw<|fun hGF=>Xp<|Bx 2 hGF rfl<|fun b2=>Bx 3 hGF rfl<|fun b3=>Al 4 hGF zv27<|fun b4=>aa<|Xp<|Fa 0 rfl underlying27 rfl sizeOf25<|La 2 rfl rfl ci<|Fa 0 rfl underlying27 rfl sizeOf25<|La 3 rfl rfl ci<|Ca rfl (nG _ _ sm sm)<|Mv rfl<|Ext rfl rfl<|Ext rfl rfl<|Al 5 hGF zv25<|fun b5=>Sa 5 hGF rfl rfl rfl ci<|Asg rfl<|aa<|Xp<|La 5 rfl rfl ci<|h9 hGF isAgg25 sizeOf25 sm (fun _ h=>h.g1) rfl rfl<|Ca rfl (jY _ _ sm sm)<|Mv rfl<|Ext rfl rfl<|Ext rfl rfl<|Al 7 hGF zv25<|fun b7=>Sa 7 hGF rfl rfl rfl ci<|Asg rfl<|aa<|ah<|Xp<|Mv rfl<|Bnr rfl rfl (fun _=>bx _ _ _)<|aa<|?_
 refine bG rfl (fun hc=> ?_) (fun hc=> ?_)
 ·refine Xp<|La 5 rfl rfl ci<|ck rfl sm underlying27 rfl sizeOf25 zv27 rfl rfl<|Sa 4 hGF rfl rfl rfl iO<|aa<|am<|Rr<|?_
  exact av 4 rfl rfl rfl isAgg27 sizeOf27 sm (fun w hw=>⟨by rw[Ir (Vh hc)],ac hw⟩)
 ·refine aq<|Xp<|La 7 rfl rfl ci<|ck rfl sm underlying27 rfl sizeOf25 zv27 rfl rfl<|Sa 4 hGF rfl rfl rfl iO<|aa<|am<|Rr<|?_
  exact av 4 rfl rfl rfl isAgg27 sizeOf27 sm (fun w hw=>⟨by rw[Ee (uv (o4 _ _ _) (S7 hc))],ac hw⟩)
theorem wx(x:Zr):PUR 43 [RV x] (.agg ((ry x).map U8).toArray):=by
 intro w hw
 refine Hf func43 rfl hw<|fun hGF=>Xp<|Bx 1 hGF rfl<|fun b1=>Al 2 hGF zv98<|fun b2=>aa<|Xp<|Fa 0 rfl underlying27 rfl sizeOf25<|La 1 rfl rfl ci<|Ca rfl (kj _ sm)<|Al 3 hGF zv29<|fun b3=>aw 3 hGF rfl rfl rfl sizeOf29 sm sm (bH _) rfl<|aa<|Xp<|bD (l:=16) (h':=48) rfl underlying29 sizeOf5 rfl rfl om om rfl rfl<|Tm rfl underlying98 dc rfl rfl<|ay 3 ((ry x).map U8) rfl rfl isAgg98 sizeOf98 sm (Dn x) rfl rfl<|aw 2 hGF rfl rfl rfl sizeOf98 sm sm (bH _) rfl<|aa<|am<|Rr<|?_
 exact av 2 rfl rfl rfl isAgg98 sizeOf98 sm (fun w hw=>⟨rfl,ac hw⟩)
theorem vC(a:Option Addr)(len cap:Nat)(bs:L8)(hl:bs.length=len)(h:len≤48)(w:World)(hw:Gt w)(hby:BytesAt w a bs):
 CLS 28 [.slice a len cap].toArray w (fun e w'=>e=.returned (.tuple #[NV (FRs bs bs.length),.bool true])∧Grow w w'):=by
 subst hl
 exact (qZ a cap bs w hw hby).mono fun e w' ⟨he,hg⟩=>⟨by rw[he,if_neg om],hg⟩
structure QSt(w:World)(bs:L8) where
 (k:Nat) (a:Option Addr) (c:Nat)
 hk:k≤bs.length
 hc:bs.length-k≤c
 hb:BytesAt w a (bs.drop k)
 hm:k=0∨(bs.length-k) % 48=0
theorem AC(y:Zr):PUR 29 [NV LIFT,RV y,NV ML] (RV (y*qRZ)):=by
 have h:=iR LIFT (nr y) ML rfl (gc y) rfl
 rw[EH]at h
 exact h
theorem wK(bs:L8)(h:bs.length≤48):PUR 30 [NV (FRs bs bs.length)] (RV (zr (BN bs bs.length))):=oh bs h▸y7 (FRs bs bs.length) (aT _ _)
theorem wV(e:Option Addr)(cap:Nat)(bs:L8)(hlen:bs.length≤1000000)(hcap:bs.length≤cap)(w:World)(hw:Gt w)(hby:BytesAt w e bs):
 CLS 6 [.slice e bs.length cap].toArray w (fun r w'=>r=.returned (RV (QB bs))∧Grow w w'):=by
 refine Hf func6 rfl hw<|fun hGF=>Xp<|Al 2 hGF zv27<|fun b2=>aa<|Xp<|Al 3 hGF zv27<|fun b3=>aa<|ah<|ai<|bL (ι:=QSt w bs) (fun x=>[(0,.slice x.a (bs.length-x.k) x.c),(2,pnt b2),(3,pnt b3)]) (fun x=>[(2,b2,(List.replicate 6 0#64).map U64,27),(3,b3,(nr (zr (BN bs x.k))).map U64,27)]) (fun x=>(bs.length-x.k)) ⟨0,e,cap,Nat.zero_le _,hcap,hby,.inl rfl⟩ hGF trv ⟨rfl,by rw[BN,Vs,Sr];rfl,trivial⟩<|fun x=>ah<|Xp<|Mv rfl<|bi rfl (fun _=>aI underlying22 _ _ _ _) rfl rfl<|Bnr rfl rfl (fun _=>bc _ _ _)<|aa<|?_
 refine bG rfl (fun hc=> ?_) (fun hc=> ?_)
 ·have hn:0<(bs.length-x.k):=by simp at hc;omega
  clear hc
  have hlenx:=x.hk
  have hcut:=Ef hn
  have hnext:BytesAt w (if x.c=(((bs.length-x.k)-1) % 48+1)then x.a else x.a.map (·.add ((((bs.length-x.k)-1) % 48+1)*1))) (bs.drop (x.k+(((bs.length-x.k)-1) % 48+1))):=by
   have:=x.hb.drop (cap:=x.c) (l:=(((bs.length-x.k)-1) % 48+1)) (by rw[List.length_drop];exact x.hc) om
   rw[List.drop_drop]at this
   exact this
  have hstep:zr (BN bs x.k)*qRZ+zr (BN ((bs.drop x.k).take (((bs.length-x.k)-1) % 48+1)) ((bs.drop x.k).take (((bs.length-x.k)-1) % 48+1)).length)=zr (BN bs (x.k+(((bs.length-x.k)-1) % 48+1))):=by
   rw[mq bs x.k _ hcut.2.1,Hv]
   exact zG bs x.k _ (kC id (MQ hn) x.hm)
  refine aq<|ai<|Xp<|Mv rfl<|bi rfl (fun _=>aI underlying22 _ _ _ _) rfl rfl<|Bnr (v:=I (((bs.length-x.k)-1:Nat):Int)) rfl rfl (fun _=>(aX _ _ _ oi).trans (by rw[show ((bs.length-x.k:Nat):Int)-1=((bs.length-x.k-1:Nat):Int) by omega]))<|cy (v:=I ((((bs.length-x.k)-1) % 48:Nat):Int)) rfl rfl (fun _=>rfl) (fun _=>cV _ _ _ dc) rfl rfl<|cy (v:=I (((((bs.length-x.k)-1) % 48+1):Nat):Int)) rfl rfl (fun _=>rfl) (fun _=>au _ _ _ oi) rfl rfl<|Asg rfl<|aa<|Xp<|Mv rfl<|Mv rfl<|fw (l:=0) (h':=(((bs.length-x.k)-1) % 48+1)) rfl underlying22 sizeOf5 rfl rfl ⟨Nat.zero_le _,Nat.le_trans hcut.2.1 x.hc⟩ rfl rfl<|kV rfl rfl ent28 (fun w' hC hG=>vC _ (((bs.length-x.k)-1) % 48+1) _ ((bs.drop x.k).take (((bs.length-x.k)-1) % 48+1)) (mq bs x.k _ hcut.2.1) hcut.2.2 w' hG ((x.hb.cut 0 (((bs.length-x.k)-1) % 48+1) (by rw[List.length_drop];exact x.hc)).grow (ac hC))) rfl rfl<|Mv rfl<|Ext rfl rfl<|Ext rfl rfl<|Al 5 hGF zv25<|fun b5=>Sa 5 hGF rfl rfl rfl ci<|Asg rfl<|aa<|Xd []<|h9 hGF isAgg25 sizeOf25 sm (fun _ h=>h.g0) rfl rfl<|Fa 0 rfl underlying27 rfl sizeOf25<|La 3 rfl rfl ci<|h9 hGF isAgg25 sizeOf25 sm (fun _ h=>h.g1) rfl rfl<|Ca rfl (AC _)<|ck rfl sm underlying27 rfl sizeOf25 zv27 rfl rfl<|La 5 rfl rfl ci<|Ca rfl (wK ((bs.drop x.k).take (((bs.length-x.k)-1) % 48+1)) (by rw[mq bs x.k _ hcut.2.1];exact hcut.2.2))<|Ca rfl (s8 _ _)<|Sa 3 hGF rfl rfl rfl iO<|aa<|Xq<|Mv rfl<|Mv rfl<|fw (l:=(((bs.length-x.k)-1) % 48+1)) (h':=(bs.length-x.k)) rfl underlying22 sizeOf5 rfl rfl ⟨hcut.2.1,x.hc⟩ rfl rfl<|Asg rfl<|aa<|?_
  repeat (refine aP ?_)
  exact aD<|⟨rfl,⟨x.k+(((bs.length-x.k)-1) % 48+1),_,x.c-(((bs.length-x.k)-1) % 48+1),by have:=x.hk;omega,by have:=x.hc;omega,hnext,.inr (by rw[Nat.sub_add_eq];exact hcut.1)⟩,_,by show bs.length-(x.k+(((bs.length-x.k)-1) % 48+1))<bs.length-x.k;omega,rfl,⟨congrArg (fun n=>some (Value.slice _ n _)) (Nat.sub_sub bs.length x.k (((bs.length-x.k)-1) % 48+1)),rfl,rfl,trivial⟩,⟨rfl,by rw[←hstep];rfl,trivial⟩⟩
 ·have hn:x.k=bs.length:=by simp at hc;have:=x.hk;omega
  clear hc
  refine aW<|Xp<|La 3 rfl rfl iO<|Sa 2 hGF rfl rfl rfl iO<|aa<|am<|Rr<|?_
  exact av 2 rfl rfl rfl isAgg27 sizeOf27 sm (fun w hw=>⟨by rw[hn];rfl,ac hw⟩)
end
section
open Go.RowKit
theorem ent123:ak prog 123:=fun _ _=>kr
theorem ent170:ak prog 170:=fun _ _=>kr
theorem yG(a:L6)(_ha:a.length=6)(w:World)(hw:Gt w):CLS 123 [aM (a)].toArray w (fun e w'=> ∃b1,e=.returned (.func (.func 170) #[] #[pnt b1])∧Grow w w'∧w.heap.size≤b1∧OwnB w' b1 (a.map U64) 25):=by
 refine Hf func123 rfl hw<|fun hGF=>Xp<|Bx 1 hGF rfl<|fun b1=>Asg rfl<|aa<|Xp<|gz rfl rfl rfl rfl<|Asg rfl<|aa<|am<|Rr<|?_
 exact aG rfl rfl (fun w hw=>⟨b1,rfl,ac hw,(hw.own 1 b1 _ _ rfl).2.elim id False.elim,(hw.own 1 b1 _ _ rfl).1⟩)
theorem xv(bb:Nat)(a:L6)(ha:a.length=6):fV prog Gt 170 [pnt bb] (BT a) (fun W=>W.rangeAt bb 0 (a.map U64)):=by
 intro l J Jx hJ hJx hRd hGx hY w hj
 have okJ: ∀k,BOk Gt (Bi w (fun Y=>J Y k)):=fun k=>⟨fun _ _ _ h=>(hRd _ _ _ h.rid).1,hJ k⟩
 have okX: ∀k,BOk Gt (Bi w (fun Y=>Jx Y k)):=fun k=>⟨fun _ _ _ h=>hGx _ _ _ h.rid,hJx k⟩
 refine cz (G:=Gt) func170 rfl rfl (Hp (Bi w (fun Y=>J Y 0)) []) (cm (Bi w _) hj (hJ 0)) (aA (okJ 0))<|ae (E:=EE [113])<|i9 2 (okJ _) rfl rfl rfl<|fun b2=>aa<|ae (E:=EE [113])<|bD (l:=0) (h':=6) rfl underlying25 sizeOf24 rfl rfl om om rfl rfl<|?_
 refine dz rfl rfl ent113 rfl rfl (fun w' hw'=>(m7 _ rfl w' ((okJ _).g _ _ _ hw')).mono fun e w'' h=> ?_)
 obtain ⟨c2,rfl,hgr,h2,hc2⟩:=h
 refine ⟨_,_,rfl,aA (okJ _),hw'.news (hJ _) hgr [(33,c2,[.slice (spt bb) 6 6],118)] ?_ bX, ?_⟩
 ·intro n' b' c' t' hl
  rcases aL hl with ⟨_,e⟩|⟨_,hl⟩
  ·cases e;exact ⟨h2,hc2⟩
  ·cases hl
 clear hw' hgr h2 hc2
 refine aa<|ai<|?_
 refine ft (fun k=>(Bi w (fun Y=>J Y (gH a k).length))) (fun _ k=>Bi w (fun Y=>Jx Y (gH a k).length)) (fun _=>okJ _) (fun _ _=>okX _) (fun _=>rfl) (fun _ _=>rfl) rfl rfl ent166 (rT c2 bb a 6 dc ha) (fun x hx=>by obtain ⟨k,hk,rfl⟩:=List.mem_map.1 hx;rfl) rfl (fun _=>[(2,b2,[.func (.yield l) #[] #[]],217),(33,c2,[.slice (spt bb) 6 6],118)]) (fun c _ _=>c=.ret) trv (fun k Y w' h=>⟨cB (n:=33) rfl rfl w' h,(hRd _ _ _ h.rid).2⟩) ?_ ?_ ?_
 ·intro k x hx R hR
  obtain ⟨hk,rfl⟩:=N4 a 6 k x hx
  rw[show 64*6-1-k=383-k from rfl]
  refine ae (E:=EE [113])<|Asg rfl<|aa<|bN (E:=EE [113])<|Asg rfl<|aa<|?_
  refine ⟨rfl,_,rfl, ?_⟩
  rcases Decidable.em (dig a (383-k)=1)with h1|h1
  ·refine ai<|ae (E:=EE [113])<|Mv rfl<|Bnr (v:=.bool true) rfl rfl (fun w=>(bx _ _ _).trans (congrArg (fun b=>Result.ok (Value.bool b) w) (beq_iff_eq.2 h1)))<|Mv rfl<|cT 2 rfl rfl rfl isAgg217 rfl rfl<|Mv rfl<|?_
   refine dC ((hY.b (k:=(gH a k).length) (Yk a k om h1) w).br R.l R.D R.rb R.Y R.W) (hR (Bi w (fun Y=>J Y ((gH a k).length+1))) rfl (okJ _)).2.1 (hR (Bi w (fun Y=>Jx Y ((gH a k).length+1))) rfl (okX _)).2.1 rfl rfl rfl rfl rfl ?_ ?_
   ·refine bu rfl (fun _=>a9 _) rfl rfl<|Pk rfl rfl rfl<|aa<|aC rfl<|aq<|?_
    show∃L',_=Hp (R.b (Bi w (fun Y=>J Y (gH a (k+1)).length))) L'∧ki L' [(2,b2,[.func (.yield l) #[] #[]],217),(33,c2,[.slice (spt bb) 6 6],118)]
    rw[xu a k h1]
    exact ⟨_,rfl,trv⟩
   ·refine bu rfl (fun _=>a9 _) rfl rfl<|Pk rfl rfl rfl<|aa<|aR rfl<|am<|Rr<|?_
    show∃L',_=Hp (R.b (Bi w (fun Y=>Jx Y (gH a (k+1)).length))) L'∧Code.ret=Code.ret
    rw[xu a k h1]
    exact ⟨_,rfl,rfl⟩
  ·refine ai<|ae (E:=EE [113,3000000])<|Mv rfl<|Bnr (v:=.bool false) rfl rfl (fun w=>(bx _ _ _).trans (congrArg (fun b=>Result.ok (Value.bool b) w) (beq_eq_false_iff_ne.2 h1)))<|Mv rfl<|Sk<|Sk<|Sk<|Sk<|Pk rfl rfl rfl<|aa<|aC rfl<|aq<|?_
   show∃L',_=Hp (R.b (Bi w (fun Y=>J Y (gH a (k+1)).length))) L'∧ki L' [(2,b2,[.func (.yield l) #[] #[]],217),(33,c2,[.slice (spt bb) 6 6],118)]
   rw[Ns a k h1]
   exact ⟨_,rfl,trv⟩
 ·intro D _
  refine d9 (.inr rfl) (hJ _) (dv rfl (fun w hw=>⟨⟨_,rfl⟩,.inl ?_⟩))
  have:=cg (hJ _) hw.rid
  rw[fJ]at this
  rw[VP]
  exact this
 ·intro D c j L' _ hc
  subst hc
  exact d9 (.inl rfl) (hJx _) (dv rfl (fun w hw=>⟨⟨_,rfl⟩,.inr ⟨_,cg (hJx _) hw.rid⟩⟩))
end
section
open Go.RowKit
attribute [local simp] a7 bv aJ aB aQ a5 aT aK aO bf bC a6 bz J1.bE J2.bE Q6.gv
attribute [local simp] gc jT
theorem oN(k:Zr)(w:World)(hw:Gt w):CLS 77 [RV k].toArray w (fun e w'=> ∃b1,e=.returned (.func (.func 170) #[] #[pnt b1])∧Grow w w'∧w.heap.size≤b1∧OwnB w' b1 ((nr k).map U64) 25):=by
 refine Hf func77 rfl hw<|fun hGF=>ae (E:=EE [123])<|Bx 1 hGF rfl<|fun b1=>Asg rfl<|aa<|ae (E:=EE [123])<|Fa 0 rfl underlying27 rfl sizeOf25<|La 1 rfl rfl ci<|?_
 refine dz rfl rfl ent123 rfl rfl (fun w' hw'=>(yG (nr k) sm w' (hGF.g _ _ _ hw')).mono fun e' w'' h=> ?_)
 obtain ⟨c1,rfl,hg,h1,ho⟩:=h
 refine ⟨_,_,rfl,aA hGF,hw'.news ao hg [(33,c1,(nr k).map U64,25)] ?_ bX, ?_⟩
 ·intro n' b' c' t' hl
  rcases aL hl with ⟨_,e⟩|⟨_,hl⟩
  ·cases e;exact ⟨h1,ho⟩
  ·cases hl
 clear hw' hg h1 ho
 refine Asg rfl<|aa<|am<|Rr<|?_
 exact aG rfl rfl (fun w hw=>⟨c1,rfl,ac hw,(hw.own 33 c1 _ _ rfl).2.elim id False.elim,(hw.own 33 c1 _ _ rfl).1⟩)
def dg(a:L6)(m:Nat):Bool:=decide (dig a (383-m)=1)
theorem Bq(a:L6): ∀m,gH a m=oL (dg a) 384 m
 |0=>rfl
 |m+1=>by
  rw[gH,oL,Bq a m]
  by_cases h:dig a (383-m)=1
  ·rw[if_pos h,if_pos (show dg a m=true from decide_eq_true h)]
  ·rw[if_neg h,if_neg (show¬dg a m=true from fun e=>h (of_decide_eq_true e))]
theorem QL(a:L6)(m:Nat)(hm:m<384):dg a m=true↔V a 6 / 2^(384-1-m) % 2=1:=by
 have e:=vw a 6 (383-m) om
 rw[show 384-1-m=383-m from by omega,←e]
 constructor
 ·intro h
  have h2:dig a (383-m)=1:=of_decide_eq_true h
  rw[h2];rfl
 ·intro h
  refine decide_eq_true (BitVec.eq_of_toNat_eq ?_)
  rw[h];rfl
theorem I7{a:L6}{N:Nat}(hN:N=384)(h:V a 6<2^N):SOg (oL (dg a) N N)=V a 6:=by
 rw[zH]
 exact UI h (fun m hm=>by subst hN;exact QL a m hm)
def onK(k:Zr):List Nat:=gH (nr k) 384
theorem HW(k:Zr){N:Nat}(hN:N=384):onK k=oL (dg (nr k)) N N:=by
 subst hN
 exact Bq (nr k) 384
theorem R8(k:Zr){N:Nat}(hN:N=384):V (nr k) 6<2^N:=by
 have h:=sy (nr k) 6
 rw[show 64*6=N from hN.symm]at h
 exact h
theorem B6(k:Zr){N:Nat}(hN:N=384):SOg (onK k)=k.val:=by rw[HW k hN,I7 hN (R8 k hN),yj]
theorem E8(k:Zr){N:Nat}(hN:N=384):(onK k).Pairwise (fun a b=>b≤a):=by rw[HW k hN];exact vV _ _ _ (Nat.le_refl _)
theorem In(k:Zr){N:Nat}(hN:N=384){b:Nat}(h:b∈onK k):b<100000000:=by
 rw[HW k hN]at h
 have:=JG h (Nat.le_refl _)
 omega
theorem vY{b:Nat}{c:List Value}{w w':World}(h:w.rangeAt b 0 c)(hg:Grow w w'):w'.rangeAt b 0 c:=fun j v hv=>(hg.cell (block_lt_of_cell (h j v hv))).trans (h j v hv)
namespace J1
theorem uk(c1:Nat)(k:Zr){L:List Nat}(hL:onK k=L):fV prog Gt 170 [pnt c1] (NLs L) (fun W=>W.rangeAt c1 0 ((nr k).map U64)):=by
 subst hL
 exact xv c1 (nr k) (gc k)
theorem Ar(p:GP)(k:Zr){L:List Nat}(hL:onK k=L)(hb: ∀b∈L,b<100000000):PUR 33 [PtV p,RV k] (JV (tmF p.J L)):=by
 intro w hw
 refine Hf func33 rfl hw<|fun hGF=>ae (E:=EE [77,2000077])<|Bx 2 hGF rfl<|fun b2=>Bx 3 hGF rfl<|fun b3=>Al 4 hGF zv54<|fun b4=>aa<|Xd [77,2000077]<|La 2 rfl rfl cn<|La 3 rfl rfl iO<|?_
 refine bQ rfl rfl ent77 rfl rfl (fun w' hw'=>(oN k w' (hGF.g _ _ _ hw')).mono fun e' w'' h=> ?_)
 obtain ⟨c1,rfl,hg,h1,ho⟩:=h
 refine ⟨_,_,rfl,aA hGF,hw'.news ao hg [(33,c1,(nr k).map U64,25)] ?_ bX,bU ao rfl, ?_⟩
 ·intro n' b' c' t' hl
  rcases aL hl with ⟨_,e⟩|⟨_,hl⟩
  ·cases e;exact ⟨h1,ho⟩
  ·cases hl
 clear hw' hg h1 ho
 refine Cc rfl ent76 (fun w' hC hG=>gB p.J 170 [pnt c1] L (fun W=>W.rangeAt c1 0 ((nr k).map U64)) ent170 (uk c1 k hL) hb w' hG (fun w'' hg=>vY (aH (n:=33) rfl w' hC) hg))<|Sa 4 hGF rfl rfl rfl cn<|aa<|am<|Rr<|?_
 exact av 4 rfl rfl rfl isAgg54 sizeOf54 sm (fun w hw=>⟨rfl,ac hw⟩)
theorem Ay{x:Zp×Zp×Zp}{P:Pt Zp}(hP:E1.onP P)(hx:E1.jr x P)(k:Zr):E1.jr (tmF x (onK k)) (E1.times P k.val):=by
 rw[←B6 k rfl]
 exact tmF_jr hP hx (E8 k rfl)
def sJ(p:GP)(k:Zr):GP:=⟨tmF p.J (onK k),E1.times p.P k.val,E1.times_on p.on _,Ay p.on p.jr k⟩
theorem vK(p:GP)(k:Zr):PUR 33 [PtV p,RV k] (PtV (sJ p k)):=Ar p k rfl (fun _ h=>In k rfl h)
end J1
namespace J2
theorem uk(c1:Nat)(k:Zr){L:List Nat}(hL:onK k=L):fV prog Gt 170 [pnt c1] (NLs L) (fun W=>W.rangeAt c1 0 ((nr k).map U64)):=by
 subst hL
 exact xv c1 (nr k) (gc k)
theorem Ar(p:GP)(k:Zr){L:List Nat}(hL:onK k=L)(hb: ∀b∈L,b<100000000):PUR 36 [PtV p,RV k] (EV6 (E2w.tmF p.J L)):=by
 intro w hw
 refine Hf func36 rfl hw<|fun hGF=>ae (E:=EE [77,2000077])<|Bx 2 hGF rfl<|fun b2=>Bx 3 hGF rfl<|fun b3=>Al 4 hGF zv80<|fun b4=>aa<|Xd [77,2000077]<|La 2 rfl rfl co<|La 3 rfl rfl iO<|?_
 refine bQ rfl rfl ent77 rfl rfl (fun w' hw'=>(oN k w' (hGF.g _ _ _ hw')).mono fun e' w'' h=> ?_)
 obtain ⟨c1,rfl,hg,h1,ho⟩:=h
 refine ⟨_,_,rfl,aA hGF,hw'.news ao hg [(33,c1,(nr k).map U64,25)] ?_ bX,bU ao rfl, ?_⟩
 ·intro n' b' c' t' hl
  rcases aL hl with ⟨_,e⟩|⟨_,hl⟩
  ·cases e;exact ⟨h1,ho⟩
  ·cases hl
 clear hw' hg h1 ho
 refine Cc rfl ent82 (fun w' hC hG=>gB p.J 170 [pnt c1] L (fun W=>W.rangeAt c1 0 ((nr k).map U64)) ent170 (uk c1 k hL) hb w' hG (fun w'' hg=>vY (aH (n:=33) rfl w' hC) hg))<|Sa 4 hGF rfl rfl rfl co<|aa<|am<|Rr<|?_
 exact av 4 rfl rfl rfl isAgg80 sizeOf80 sm (fun w hw=>⟨rfl,ac hw⟩)
theorem Ay{x:W6}{P:Pt W2}(hP:E2w.onP P)(hx:E2w.jr x P)(k:Zr):E2w.jr (E2w.tmF x (onK k)) (E2w.times P k.val):=by
 rw[←B6 k rfl]
 exact E2w.tmF_jr hP hx (E8 k rfl)
def sJ(p:GP)(k:Zr):GP:=⟨E2w.tmF p.J (onK k),E2w.times p.P k.val,E2w.times_on p.on _,Ay p.on p.jr k⟩
theorem vK(p:GP)(k:Zr):PUR 36 [PtV p,RV k] (PtV (sJ p k)):=Ar p k rfl (fun _ h=>In k rfl h)
end J2
end
section
open Go.RowKit
theorem ent133:ak prog 133:=fun _ _=>kr
theorem ent182:ak prog 182:=fun _ _=>kr
theorem ent264:ak prog 264:=fun _ _=>kr
theorem ent265:ak prog 265:=fun _ _=>kr
theorem ent278:ak prog 278:=fun _ _=>kr
theorem ent275:ak prog 275:=fun _ _=>kr
theorem ent279:ak prog 279:=fun _ _=>kr
theorem ent285:ak prog 285:=fun _ _=>kr
theorem ent10:ak prog 10:=fun _ _=>kr
namespace Sh
theorem zv92(w:World):(zeroValue 92).run prog w=.ok (.agg ((List.replicate 64 (0#32)).map U32).toArray) w:=(zeroValue92 w).trans rr
theorem zv91(w:World):(zeroValue 91).run prog w=.ok (.agg ((List.replicate 8 (0#32)).map U32).toArray) w:=(zeroValue91 w).trans rr
theorem zv289(w:World):(zeroValue 289).run prog w=.ok (.agg ((List.replicate 64 (0#8)).map U8).toArray) w:=(zeroValue289 w).trans rr
theorem zv98(w:World):(zeroValue 98).run prog w=.ok (.agg ((List.replicate 32 (0#8)).map U8).toArray) w:=(zeroValue98 w).trans rr
def l8(x:BitVec 32)(k:Int):BitVec 32:=(x<<<(BitVec.ofInt 64 k &&& 31#64).toNat)|||(x>>>(32#64-(BitVec.ofInt 64 k &&& 31#64)).toNat)
theorem eN(x:BitVec 32)(k:Int):PUR 288 [U32 x,I k] (U32 (l8 x k)):=by
 intro w hw
 refine Hf func288 rfl hw<|fun hGF=>Xp<|Asg rfl<|aa<|Xp<|Mv rfl<|ca rfl rfl (fun _=>f9 underlying3 underlying191 _) rfl rfl<|Bnr rfl rfl (fun _=>ez _ _ _)<|Asg rfl<|aa<|Xp<|Mv rfl<|Mv rfl<|Bnr rfl rfl (fun _=>io _ _ _)<|Mv rfl<|Mv rfl<|Bnr rfl rfl (fun _=>il _ _ _)<|Bnr rfl rfl (fun _=>eD _ _ _)<|Bnr rfl rfl (fun _=>gT _ _ _)<|Asg rfl<|aa<|am<|Rr<|?_
 exact aG rfl rfl (fun w hw=>⟨rfl,ac hw⟩)
def turn(x:BitVec 32)(n:Nat):BitVec 32:=(x>>>n)|||(x<<<(32-n))
theorem eJ(x:BitVec 32)(n:Int)(h0:0≤n)(h1:n≤32):PUR 183 [U32 x,I n] (U32 (turn x n.toNat)):=by
 intro w hw
 refine Hf func183 rfl hw<|fun hGF=>Xp<|Asg rfl<|aa<|Xd []<|Mv rfl<|Mv rfl<|Bnr rfl rfl (fun _=>mm _ _ _ om)<|Mv rfl<|Mv rfl<|Bnr rfl rfl (fun _=>aX _ _ _ oi)<|Bnr rfl rfl (fun _=>sr _ _ _ om)<|Bnr rfl rfl (fun _=>gT _ _ _)<|Asg rfl<|aa<|am<|Rr<|?_
 exact aG rfl rfl (fun w hw=>⟨by rw[show (32-n).toNat=32-n.toNat from by omega];rfl,ac hw⟩)
def qu(x:BitVec 32):BitVec 32:=l8 x (-6)^^^l8 x (-11)^^^l8 x (-25)
theorem EJ(x:BitVec 32):PUR 283 [U32 x] (U32 (qu x)):=by
 intro w hw
 refine Hf func283 rfl hw<|fun hGF=>Xp<|Asg rfl<|aa<|Xp<|Mv rfl<|Ca rfl (eN _ _)<|Mv rfl<|Ca rfl (eN _ _)<|Bnr rfl rfl (fun _=>bS _ _ _)<|Mv rfl<|Ca rfl (eN _ _)<|Bnr rfl rfl (fun _=>bS _ _ _)<|Asg rfl<|aa<|am<|Rr<|?_
 exact aG rfl rfl (fun w hw=>⟨rfl,ac hw⟩)
def yh(x:BitVec 32):BitVec 32:=l8 x (-2)^^^l8 x (-13)^^^l8 x (-22)
theorem Dp(x:BitVec 32):PUR 284 [U32 x] (U32 (yh x)):=by
 intro w hw
 refine Hf func284 rfl hw<|fun hGF=>Xp<|Asg rfl<|aa<|Xp<|Mv rfl<|Ca rfl (eN _ _)<|Mv rfl<|Ca rfl (eN _ _)<|Bnr rfl rfl (fun _=>bS _ _ _)<|Mv rfl<|Ca rfl (eN _ _)<|Bnr rfl rfl (fun _=>bS _ _ _)<|Asg rfl<|aa<|am<|Rr<|?_
 exact aG rfl rfl (fun w hw=>⟨rfl,ac hw⟩)
def DY(x:BitVec 32):BitVec 32:=l8 x (-7)^^^l8 x (-18)^^^(x>>>3)
theorem Dq(x:BitVec 32):PUR 287 [U32 x] (U32 (DY x)):=by
 intro w hw
 refine Hf func287 rfl hw<|fun hGF=>Xp<|Asg rfl<|aa<|Xp<|Mv rfl<|Ca rfl (eN _ _)<|Mv rfl<|Ca rfl (eN _ _)<|Bnr rfl rfl (fun _=>bS _ _ _)<|Mv rfl<|Bnr rfl rfl (fun _=>eD _ _ _)<|Bnr rfl rfl (fun _=>bS _ _ _)<|Asg rfl<|aa<|am<|Rr<|?_
 exact aG rfl rfl (fun w hw=>⟨rfl,ac hw⟩)
def DI(x:BitVec 32):BitVec 32:=l8 x (-17)^^^l8 x (-19)^^^(x>>>10)
theorem Dx(x:BitVec 32):PUR 286 [U32 x] (U32 (DI x)):=by
 intro w hw
 refine Hf func286 rfl hw<|fun hGF=>Xp<|Asg rfl<|aa<|Xp<|Mv rfl<|Ca rfl (eN _ _)<|Mv rfl<|Ca rfl (eN _ _)<|Bnr rfl rfl (fun _=>bS _ _ _)<|Mv rfl<|Bnr rfl rfl (fun _=>eD _ _ _)<|Bnr rfl rfl (fun _=>bS _ _ _)<|Asg rfl<|aa<|am<|Rr<|?_
 exact aG rfl rfl (fun w hw=>⟨rfl,ac hw⟩)
end Sh
end
section
open Go.RowKit
namespace Sh
def w4(bl:L8)(i:Nat):BitVec 32:=((bl.getD (4*i) 0).setWidth 32<<<24)|||((bl.getD (4*i+1) 0).setWidth 32<<<16)|||((bl.getD (4*i+2) 0).setWidth 32<<<8)|||(bl.getD (4*i+3) 0).setWidth 32
def W1(bl:L8):Nat→L3
 |0=>List.replicate 64 0#32
 |k+1=>(W1 bl k).set k (w4 bl k)
theorem AI(bl:L8): ∀k,(W1 bl k).length=64
 |0=>by simp[W1]
 |k+1=>by simp[W1,AI bl k]
def w5(ws:L3)(i:Nat):BitVec 32:=DI (ws.getD (i-2) 0)+ws.getD (i-7) 0+DY (ws.getD (i-15) 0)+ws.getD (i-16) 0
def W2(bl:L8):Nat→L3
 |0=>W1 bl 16
 |k+1=>(W2 bl k).set (16+k) (w5 (W2 bl k) (16+k))
theorem iF(bl:L8): ∀k,(W2 bl k).length=64
 |0=>AI bl 16
 |k+1=>by simp[W2,iF bl k]
theorem zP(bl:L8)(hb:bl.length=64):PUR 282 [.agg (bl.map U8).toArray] (.agg ((W2 bl 48).map U32).toArray):=by
 intro w hw
 refine Hf func282 rfl hw<|fun hGF=>Xp<|Bx 1 hGF rfl<|fun b1=>Al 2 hGF zv92<|fun b2=>aa<|Xp<|Al 3 hGF zv92<|fun b3=>aa<|ah<|Xp<|Mv rfl<|aa<|ai<|bL (ι:={i:Nat // i≤16}) (fun x=>[(6,I (x.1:Int)),(1,pnt b1),(2,pnt b2),(3,pnt b3)]) (fun x=>[(3,b3,(W1 bl x.1).map U32,92),(2,b2,(List.replicate 64 (0#32)).map U32,92),(1,b1,bl.map U8,289)]) (fun x=>16-x.1) ⟨0,om⟩ hGF trv trv<|?_
 rintro ⟨i,hi⟩
 dsimp only
 refine Xp<|Bnr rfl rfl (fun _=>az _ _ _)<|aa<|ah<|?_
 refine bG rfl (fun hc=> ?_) (fun hc=> ?_)
 ·simp only[decide_eq_true_eq]at hc
  refine aq<|ah<|ai<|Xp<|Mv rfl<|Asg rfl<|aa<|Xe []<|Mv rfl<|Mv rfl<|Bnr rfl rfl (fun _=>bB _ _ _ oi)<|Ia ((4*i)) rfl rfl underlying289 sizeOf5<|Lm 1 U8 0 rfl rfl isAgg5 (by rw[hb];omega)<|ca rfl rfl (fun _=>ir underlying5 underlying90 _) rfl rfl<|Bnr rfl rfl (fun _=>io _ _ _)<|Mv rfl<|Bnr rfl rfl (fun _=>bB _ _ _ oi)<|Bnr rfl rfl (fun _=>au _ _ _ oi)<|Ia (((4*i)+1)) rfl rfl underlying289 sizeOf5<|Lm 1 U8 0 rfl rfl isAgg5 (by rw[hb];omega)<|ca rfl rfl (fun _=>ir underlying5 underlying90 _) rfl rfl<|Bnr rfl rfl (fun _=>io _ _ _)<|Bnr rfl rfl (fun _=>gT _ _ _)<|Mv rfl<|Bnr rfl rfl (fun _=>bB _ _ _ oi)<|Bnr rfl rfl (fun _=>au _ _ _ oi)<|Ia (((4*i)+2)) rfl rfl underlying289 sizeOf5<|Lm 1 U8 0 rfl rfl isAgg5 (by rw[hb];omega)<|ca rfl rfl (fun _=>ir underlying5 underlying90 _) rfl rfl<|Bnr rfl rfl (fun _=>io _ _ _)<|Bnr rfl rfl (fun _=>gT _ _ _)<|Mv rfl<|Bnr rfl rfl (fun _=>bB _ _ _ oi)<|Bnr rfl rfl (fun _=>au _ _ _ oi)<|Ia (((4*i)+3)) rfl rfl underlying289 sizeOf5<|Lm 1 U8 0 rfl rfl isAgg5 (by rw[hb];omega)<|ca rfl rfl (fun _=>ir underlying5 underlying90 _) rfl rfl<|Bnr rfl rfl (fun _=>gT _ _ _)<|Ia (i) rfl rfl underlying92 sizeOf90<|aV 3 U32 hGF rfl rfl rfl sizeOf90 rfl (by rw[AI];omega) rfl<|?_
  exact aa<|Xq<|Bnr rfl rfl (fun _=>au _ _ _ oi)<|Mv rfl<|aa<|aD<|⟨rfl,⟨i+1,om⟩,_,by show 16-(i+1)<16-i;omega,rfl,trv,trv⟩
 ·obtain rfl:i=16:=by simp at hc;omega
  refine aW<|ah<|Xp<|Asg rfl<|aa<|ai<|bL (ι:={i:Nat // i≤48}) (fun x=>[(5,I ((16+x.1:Nat):Int)),(2,pnt b2),(3,pnt b3)]) (fun x=>[(3,b3,(W2 bl x.1).map U32,92),(2,b2,(List.replicate 64 (0#32)).map U32,92)]) (fun x=>48-x.1) ⟨0,om⟩ hGF trv trv<|?_
  rintro ⟨j,hj⟩
  dsimp only
  refine ah<|Xp<|Mv rfl<|Bnr rfl rfl (fun _=>az _ _ _)<|aa<|?_
  refine bG rfl (fun hc=> ?_) (fun hc=> ?_)
  ·simp only[decide_eq_true_eq]at hc
   exact aq<|ah<|ai<|Xe []<|Mv rfl<|Mv rfl<|Bnr rfl rfl (fun _=>aX _ _ _ oi)<|Ia (((16+j)-2)) rfl rfl underlying92 sizeOf90<|Lm 3 U32 0 rfl rfl isAgg90 (by rw[iF];omega)<|Ca rfl (Dx _)<|Mv rfl<|Bnr rfl rfl (fun _=>aX _ _ _ oi)<|Ia (((16+j)-7)) rfl rfl underlying92 sizeOf90<|Lm 3 U32 0 rfl rfl isAgg90 (by rw[iF];omega)<|Bnr rfl rfl (fun _=>bj _ _ _)<|Mv rfl<|Bnr rfl rfl (fun _=>aX _ _ _ oi)<|Ia (((16+j)-15)) rfl rfl underlying92 sizeOf90<|Lm 3 U32 0 rfl rfl isAgg90 (by rw[iF];omega)<|Ca rfl (Dq _)<|Bnr rfl rfl (fun _=>bj _ _ _)<|Mv rfl<|Bnr rfl rfl (fun _=>aX _ _ _ oi)<|Ia (((16+j)-16)) rfl rfl underlying92 sizeOf90<|Lm 3 U32 0 rfl rfl isAgg90 (by rw[iF];omega)<|Bnr rfl rfl (fun _=>bj _ _ _)<|Ia ((16+j)) rfl rfl underlying92 sizeOf90<|aV 3 U32 hGF rfl rfl rfl sizeOf90 rfl (by rw[iF];omega) rfl<|aa<|Xq<|Mv rfl<|Bnr rfl rfl (fun _=>au _ _ _ oi)<|Asg rfl<|aa<|aD<|⟨rfl,⟨j+1,om⟩,_,by show 48-(j+1)<48-j;omega,rfl,trv,trv⟩
  ·obtain rfl:j=48:=by simp at hc;omega
   refine aW<|Xp<|Lw 3 rfl rfl Lt (iF _ _)<|Sx 2 hGF rfl rfl rfl Lt (iF _ _) (eT _)<|aa<|am<|Rr<|?_
   exact av 2 rfl rfl rfl isAgg92 sizeOf92 (by rw[List.length_map,iF]) (fun w hw=>⟨rfl,ac hw⟩)
theorem gk{B:Bs}{L:Hl}{Y:Nat→Prop}(hw:Gt B.w0)(hM: ¬B.M 7)(k:Nat)(hk:k<64): ∀w,Hq B L Y w→w.cell? ⟨7,k,none⟩=some (U32 (KW.getD k 0)):=by
 have:=hw.g7 k _ (gm U32 KW 0 k hk)
 rw[Nat.zero_add]at this
 exact mM this hM
structure V8 where
 (a b c d e f g h:BitVec 32)
def rnd(v:V8)(k w:BitVec 32):V8:=
 ⟨(v.h+qu v.e+(v.e &&& v.f^^^ ~~~v.e &&& v.g)+k+w)+(yh v.a+(v.a &&& v.b^^^v.a &&& v.c^^^v.b &&& v.c)),v.a,v.b,v.c,v.d+(v.h+qu v.e+(v.e &&& v.f^^^ ~~~v.e &&& v.g)+k+w),v.e,v.f,v.g⟩
def nh(v:V8)(ws:L3):Nat→V8
 |0=>v
 |k+1=>rnd (nh v ws k) (KW.getD k 0) (ws.getD k 0)
def v8(st:L3):V8:=⟨st.getD 0 0,st.getD 1 0,st.getD 2 0,st.getD 3 0,st.getD 4 0,st.getD 5 0,st.getD 6 0,st.getD 7 0⟩
def Sj(st:L3)(v:V8):L3:=[st.getD 0 0+v.a,st.getD 1 0+v.b,st.getD 2 0+v.c,st.getD 3 0+v.d,st.getD 4 0+v.e,st.getD 5 0+v.f,st.getD 6 0+v.g,st.getD 7 0+v.h]
def sI(st:L3)(bl:L8):L3:=Sj st (nh (v8 st) (W2 bl 48) 64)
theorem tH(st:L3)(bl:L8)(hs:st.length=8)(hb:bl.length=64):PUR 276 [.agg (st.map U32).toArray,.agg (bl.map U8).toArray] (.agg ((sI st bl).map U32).toArray):=by
 intro w hw
 refine Hf func276 rfl hw<|fun hGF=>Xp<|Bx 2 hGF rfl<|fun b2=>Bx 3 hGF rfl<|fun b3=>Al 4 hGF zv91<|fun b4=>aa<|Xp<|Lw 3 rfl rfl BK hb<|Ca rfl (zP _ hb)<|Al 5 hGF zv92<|fun b5=>Sx 5 hGF rfl rfl rfl Lt (iF _ _) (eT _)<|aa<|Xd []<|Ia (0) rfl rfl underlying91 sizeOf90<|Lm 2 U32 0 rfl rfl isAgg90 (by rw[hs];omega)<|Ia (1) rfl rfl underlying91 sizeOf90<|Lm 2 U32 0 rfl rfl isAgg90 (by rw[hs];omega)<|Ia (2) rfl rfl underlying91 sizeOf90<|Lm 2 U32 0 rfl rfl isAgg90 (by rw[hs];omega)<|Ia (3) rfl rfl underlying91 sizeOf90<|Lm 2 U32 0 rfl rfl isAgg90 (by rw[hs];omega)<|Asg rfl<|Asg rfl<|Asg rfl<|Asg rfl<|aa<|Xd []<|Ia (4) rfl rfl underlying91 sizeOf90<|Lm 2 U32 0 rfl rfl isAgg90 (by rw[hs];omega)<|Ia (5) rfl rfl underlying91 sizeOf90<|Lm 2 U32 0 rfl rfl isAgg90 (by rw[hs];omega)<|Ia (6) rfl rfl underlying91 sizeOf90<|Lm 2 U32 0 rfl rfl isAgg90 (by rw[hs];omega)<|Ia (7) rfl rfl underlying91 sizeOf90<|Lm 2 U32 0 rfl rfl isAgg90 (by rw[hs];omega)<|Asg rfl<|Asg rfl<|Asg rfl<|Asg rfl<|aa<|?_
 refine ah<|Xp<|Lw 5 rfl rfl Lt (iF _ _)<|Mv rfl<|aa<|ai<|bL (ι:={i:Nat // i≤64}) (fun x=>[(39,I (x.1:Int)),(2,pnt b2),(4,pnt b4),(6,U32 (nh (v8 st) (W2 bl 48) x.1).a),(7,U32 (nh (v8 st) (W2 bl 48) x.1).b),(8,U32 (nh (v8 st) (W2 bl 48) x.1).c),(9,U32 (nh (v8 st) (W2 bl 48) x.1).d),(10,U32 (nh (v8 st) (W2 bl 48) x.1).e),(11,U32 (nh (v8 st) (W2 bl 48) x.1).f),(12,U32 (nh (v8 st) (W2 bl 48) x.1).g),(13,U32 (nh (v8 st) (W2 bl 48) x.1).h),(38,.agg ((W2 bl 48).map U32).toArray)]) (fun x=>[(2,b2,st.map U32,91),(4,b4,(List.replicate 8 (0#32)).map U32,91)]) (fun x=>64-x.1) ⟨0,om⟩ hGF trv trv<|?_
 rintro ⟨i,hi⟩
 dsimp only
 refine Xp<|Bnr rfl rfl (fun _=>az _ _ _)<|aa<|ah<|?_
 refine bG rfl (fun hc=> ?_) (fun hc=> ?_)
 ·simp only[decide_eq_true_eq]at hc
  refine aq<|ah<|ai<|Xp<|Mv rfl<|jo U32 0 (i) rfl rfl underlying92 sizeOf90 isAgg90 om om (iF _ _) rfl rfl<|Asg rfl<|Asg rfl<|aa<|Xp<|Mv rfl<|Mv rfl<|Bnr rfl rfl (fun _=>du _ _ _)<|Mv rfl<|bu rfl (fun _=>qB _) rfl rfl<|Mv rfl<|Bnr rfl rfl (fun _=>du _ _ _)<|Bnr rfl rfl (fun _=>bS _ _ _)<|Asg rfl<|aa<|Xd []<|Mv rfl<|Mv rfl<|Ca rfl (EJ _)<|Bnr rfl rfl (fun _=>bj _ _ _)<|Mv rfl<|Bnr rfl rfl (fun _=>bj _ _ _)<|Mv rfl<|Ia (i) rfl rfl underlying92 sizeOf90<|bT rfl isAgg90 (gk (B:=pl w) hw (fun h=>h) (i) om) rfl rfl<|Bnr rfl rfl (fun _=>bj _ _ _)<|Mv rfl<|Bnr rfl rfl (fun _=>bj _ _ _)<|Asg rfl<|aa<|Xp<|Mv rfl<|Mv rfl<|Bnr rfl rfl (fun _=>du _ _ _)<|Mv rfl<|?_
  refine Mv rfl<|Bnr rfl rfl (fun _=>du _ _ _)<|Bnr rfl rfl (fun _=>bS _ _ _)<|Mv rfl<|Mv rfl<|Bnr rfl rfl (fun _=>du _ _ _)<|Bnr rfl rfl (fun _=>bS _ _ _)<|Asg rfl<|aa<|Xp<|Mv rfl<|Ca rfl (Dp _)<|Mv rfl<|Bnr rfl rfl (fun _=>bj _ _ _)<|Asg rfl<|aa<|Xp<|Mv rfl<|Mv rfl<|Mv rfl<|Mv rfl<|Mv rfl<|Bnr rfl rfl (fun _=>bj _ _ _)<|Asg rfl<|Asg rfl<|Asg rfl<|Asg rfl<|aa<|Xq<|Mv rfl<|Mv rfl<|Mv rfl<|Mv rfl<|Mv rfl<|Bnr rfl rfl (fun _=>bj _ _ _)<|Asg rfl<|Asg rfl<|Asg rfl<|Asg rfl<|aa<|?_
  exact Xq<|Bnr rfl rfl (fun _=>au _ _ _ oi)<|Mv rfl<|aa<|aD<|⟨rfl,⟨i+1,om⟩,_,by show 64-(i+1)<64-i;omega,rfl,trv,trv⟩
 ·obtain rfl:i=64:=by simp at hc;omega
  refine aW<|Xp<|Ia (0) rfl rfl underlying91 sizeOf90<|Lm 2 U32 0 rfl rfl isAgg90 (by rw[hs];omega)<|Mv rfl<|Bnr rfl rfl (fun _=>bj _ _ _)<|Ia (1) rfl rfl underlying91 sizeOf90<|Lm 2 U32 0 rfl rfl isAgg90 (by rw[hs];omega)<|Mv rfl<|Bnr rfl rfl (fun _=>bj _ _ _)<|Ia (2) rfl rfl underlying91 sizeOf90<|Lm 2 U32 0 rfl rfl isAgg90 (by rw[hs];omega)<|Mv rfl<|Bnr rfl rfl (fun _=>bj _ _ _)<|Ia (3) rfl rfl underlying91 sizeOf90<|Lm 2 U32 0 rfl rfl isAgg90 (by rw[hs];omega)<|Mv rfl<|Bnr rfl rfl (fun _=>bj _ _ _)<|Ia (4) rfl rfl underlying91 sizeOf90<|Lm 2 U32 0 rfl rfl isAgg90 (by rw[hs];omega)<|Mv rfl<|Bnr rfl rfl (fun _=>bj _ _ _)<|Ia (5) rfl rfl underlying91 sizeOf90<|Lm 2 U32 0 rfl rfl isAgg90 (by rw[hs];omega)<|Mv rfl<|Bnr rfl rfl (fun _=>bj _ _ _)<|Ia (6) rfl rfl underlying91 sizeOf90<|Lm 2 U32 0 rfl rfl isAgg90 (by rw[hs];omega)<|Mv rfl<|Bnr rfl rfl (fun _=>bj _ _ _)<|Ia (7) rfl rfl underlying91 sizeOf90<|Lm 2 U32 0 rfl rfl isAgg90 (by rw[hs];omega)<|Mv rfl<|Bnr rfl rfl (fun _=>bj _ _ _)<|bV (n:=8) rfl rfl underlying91 sizeOf90 zeroValue91 rfl rfl rfl rfl<|aw 4 hGF rfl rfl rfl sizeOf91 rfl (by rw[List.length_map,List.length_replicate]) rfl rfl<|aa<|am<|Rr<|?_
  exact av 4 rfl rfl rfl isAgg91 sizeOf91 rfl (fun w hw=>⟨rfl,ac hw⟩)
def IV:L3:=[0x6a09e667#32,0xbb67ae85#32,0x3c6ef372#32,0xa54ff53a#32,0x510e527f#32,0x9b05688c#32,0x1f83d9ab#32,0x5be0cd19#32]
theorem zM  :PUR 281 [] (.agg (IV.map U32).toArray):=by
 intro w hw
 refine Hf func281 rfl hw<|fun hGF=>Xp<|Al 0 hGF zv91<|fun b0=>aa<|Xp<|bV (n:=8) rfl rfl underlying91 sizeOf90 zeroValue91 rfl rfl rfl rfl<|aw 0 hGF rfl rfl rfl sizeOf91 rfl (by rw[List.length_map,List.length_replicate]) rfl rfl<|aa<|am<|Rr<|?_
 exact av 0 rfl rfl rfl isAgg91 sizeOf91 rfl (fun w hw=>⟨rfl,ac hw⟩)
def DG(st:L3):Nat→L8
 |0=>List.replicate 32 0#8
 |k+1=>((((DG st k).set (4*k) ((st.getD k 0>>>24).setWidth 8)).set (4*k+1) ((st.getD k 0>>>16).setWidth 8)).set (4*k+2) ((st.getD k 0>>>8).setWidth 8)).set (4*k+3) ((st.getD k 0).setWidth 8)
theorem fJ(st:L3): ∀k,(DG st k).length=32
 |0=>by simp[DG]
 |k+1=>by simp[DG,fJ st k]
theorem vZ(st:L3)(hs:st.length=8):PUR 277 [.agg (st.map U32).toArray] (.agg ((DG st 8).map U8).toArray):=by
 intro w hw
 refine Hf func277 rfl hw<|fun hGF=>Xp<|Bx 1 hGF rfl<|fun b1=>Al 2 hGF zv98<|fun b2=>aa<|Xp<|Al 3 hGF zv98<|fun b3=>aa<|ah<|Xp<|Lw 1 rfl rfl sB hs<|Mv rfl<|aa<|ai<|bL (ι:={i:Nat // i≤8}) (fun x=>[(7,I (x.1:Int)),(2,pnt b2),(3,pnt b3),(6,.agg (st.map U32).toArray)]) (fun x=>[(3,b3,(DG st x.1).map U8,98),(2,b2,(List.replicate 32 (0#8)).map U8,98)]) (fun x=>8-x.1) ⟨0,om⟩ hGF trv trv<|?_
 rintro ⟨i,hi⟩
 dsimp only
 refine Xp<|Bnr rfl rfl (fun _=>az _ _ _)<|aa<|ah<|?_
 refine bG rfl (fun hc=> ?_) (fun hc=> ?_)
 ·simp only[decide_eq_true_eq]at hc
  refine aq<|ah<|ai<|Xp<|Mv rfl<|jo U32 0 (i) rfl rfl underlying91 sizeOf90 isAgg90 om om (hs) rfl rfl<|Asg rfl<|Asg rfl<|aa<|Xp<|Mv rfl<|Bnr rfl rfl (fun _=>bB _ _ _ oi)<|Mv rfl<|Bnr rfl rfl (fun _=>eD _ _ _)<|ca rfl rfl (fun _=>ii underlying90 underlying5 _) rfl rfl<|Ia ((4*i)) rfl rfl underlying98 sizeOf5<|aV 3 U8 hGF rfl rfl rfl sizeOf5 rfl (by simp[fJ];omega) rfl<|aa<|Xp<|Mv rfl<|Bnr rfl rfl (fun _=>bB _ _ _ oi)<|Bnr rfl rfl (fun _=>au _ _ _ oi)<|Mv rfl<|Bnr rfl rfl (fun _=>eD _ _ _)<|ca rfl rfl (fun _=>ii underlying90 underlying5 _) rfl rfl<|Ia (((4*i)+1)) rfl rfl underlying98 sizeOf5<|aV 3 U8 hGF rfl rfl rfl sizeOf5 rfl (by simp[fJ];omega) rfl<|aa<|Xp<|Mv rfl<|Bnr rfl rfl (fun _=>bB _ _ _ oi)<|Bnr rfl rfl (fun _=>au _ _ _ oi)<|Mv rfl<|Bnr rfl rfl (fun _=>eD _ _ _)<|ca rfl rfl (fun _=>ii underlying90 underlying5 _) rfl rfl<|Ia (((4*i)+2)) rfl rfl underlying98 sizeOf5<|aV 3 U8 hGF rfl rfl rfl sizeOf5 rfl (by simp[fJ];omega) rfl<|aa<|Xq<|Mv rfl<|?_
  exact Bnr rfl rfl (fun _=>bB _ _ _ oi)<|Bnr rfl rfl (fun _=>au _ _ _ oi)<|Mv rfl<|ca rfl rfl (fun _=>ii underlying90 underlying5 _) rfl rfl<|Ia (((4*i)+3)) rfl rfl underlying98 sizeOf5<|aV 3 U8 hGF rfl rfl rfl sizeOf5 rfl (by simp[fJ];omega) rfl<|aa<|Xq<|Bnr rfl rfl (fun _=>au _ _ _ oi)<|Mv rfl<|aa<|aD<|⟨rfl,⟨i+1,om⟩,_,by show 8-(i+1)<8-i;omega,rfl,trv,trv⟩
 ·obtain rfl:i=8:=by simp at hc;omega
  refine aW<|Xp<|Lw 3 rfl rfl wI (fJ _ _)<|Sx 2 hGF rfl rfl rfl wI (fJ _ _) (bH _)<|aa<|am<|Rr<|?_
  exact av 2 rfl rfl rfl isAgg98 sizeOf98 (by rw[List.length_map,fJ]) (fun w hw=>⟨rfl,ac hw⟩)
end Sh
end
section
open Go.RowKit
namespace Sh
theorem Gu:(prog.info? 5).map (·.size)=some 1:=kr
def e1(rs:L8):L8:=(rs++List.replicate (64-rs.length) 0#8).set rs.length 128#8
theorem zC(rs:L8)(h:rs.length≤64):(e1 rs).length=64:=by simp[e1];omega
def LB(bl:L8)(n:BitVec 64):Nat→L8
 |0=>bl
 |k+1=>(LB bl n k).set (56+k) (((8#64*n)>>>(56-8*(k:Int)).toNat).setWidth 8)
theorem yU(bl:L8)(n:BitVec 64): ∀k,(LB bl n k).length=bl.length
 |0=>rfl
 |k+1=>by simp[LB,yU bl n k]
theorem vA(rs:L8)(n:BitVec 64)(h:rs.length≤64)(k:Nat):(LB (e1 rs) n k).length=64:=by rw[yU,zC rs h]
theorem vH(n:BitVec 64)(k:Nat):(LB (List.replicate 64 0#8) n k).length=64:=by rw[yU];simp
def uU(br bn:Nat)(a:Option Addr)(cap:Nat)(rs:L8)(n:BitVec 64):Cls:=fun W=>W.cell? ⟨br,0,none⟩=some (.slice a rs.length cap)∧W.cell? ⟨bn,0,none⟩=some (U64 n)∧BytesAt W a rs
def enc(bl:L8):List Value:=[.agg (bl.map U8).toArray]
theorem cg{J:(Nat→Prop)→World→Prop}(h:Rides J){L:Hl}{w:World}(hj:J (fun b=>Yof L b∨False) w):J (fun _=>False) w:=h.less _ _ _ (fun _ h=>h.elim) hj
theorem Do(br bn:Nat)(a:Option Addr)(cap:Nat)(rs:L8)(n:BitVec 64)(h:rs.length<56):fV prog Gt 285 [pnt br,pnt bn] [enc (LB (e1 rs) n 8)] (uU br bn a cap rs n):=by
 intro l J Jx hJ hJx hRd hGx hY w hj
 have okJ: ∀k,BOk Gt (Bi w (fun Y=>J Y k)):=fun k=>⟨fun _ _ _ h=>(hRd _ _ _ h.rid).1,hJ k⟩
 have okX: ∀k,BOk Gt (Bi w (fun Y=>Jx Y k)):=fun k=>⟨fun _ _ _ h=>hGx _ _ _ h.rid,hJx k⟩
 have c1: ∀k L w',Hp (Bi w (fun Y=>J Y k)) L w'→uU br bn a cap rs n w':=fun k L w' h=>(hRd _ _ _ h.rid).2
 refine cx (G:=Gt) func285 rfl rfl (Hp (Bi w (fun Y=>J Y 0)) []) (cm (Bi w _) hj (hJ 0)) (aA (okJ 0))<|Xp<|Al 4 (okJ _) zv289<|fun b4=>aa<|Xd []<|bD (l:=0) (h':=64) rfl underlying289 sizeOf5 rfl rfl om om rfl rfl<|bT rfl isAgg22 (fun w h=>(c1 _ _ w h).1) rfl rfl<|dB 4 (okJ _) rfl rfl rfl underlying22 Gu (by show rs.length=Nat.min rs.length 64;exact (Nat.min_eq_left om).symm) (fun w h=>(c1 _ _ w h).2.2) (by simp;omega) rfl rfl<|?_
 rw[tV rs 64 om]
 refine aa<|Xp<|bT rfl isAgg22 (fun w h=>(c1 _ _ w h).1) rfl rfl<|bi rfl (fun _=>aI underlying22 _ _ _ _) rfl rfl<|Ia (rs.length) rfl rfl underlying289 sizeOf5<|aV 4 U8 (okJ _) rfl rfl rfl sizeOf5 rfl (by simp;omega) rfl<|aa<|ah<|Xp<|bT rfl isAgg22 (fun w h=>(c1 _ _ w h).1) rfl rfl<|bi rfl (fun _=>aI underlying22 _ _ _ _) rfl rfl<|Bnr rfl rfl (fun _=>df _ _ _)<|aa<|aC (by show some (Value.bool (decide ((rs.length:Int)≥56)))=_;rw[decide_eq_false om])<|aq<|Xp<|bT rfl isAgg24 (fun w h=>(c1 _ _ w h).2.1) rfl rfl<|Bnr rfl rfl (fun _=>cr _ _ _)<|Asg rfl<|aa<|ah<|Xp<|Mv rfl<|aa<|ai<|bL (ι:={i:Nat // i≤8}) (fun x=>[(23,I (x.1:Int)),(0,.func (.yield l) #[] #[]),(4,pnt b4),(5,U64 (8#64*n))]) (fun x=>[(4,b4,(LB (e1 rs) n x.1).map U8,289)]) (fun x=>8-x.1) ⟨0,om⟩ (okJ _) trv trv<|?_
 rintro ⟨i,hi⟩
 dsimp only
 refine Xp<|Bnr rfl rfl (fun _=>az _ _ _)<|aa<|ah<|?_
 refine bG rfl (fun hc=> ?_) (fun hc=> ?_)
 ·simp only[decide_eq_true_eq]at hc
  exact aq<|ah<|ai<|Xp<|Mv rfl<|Asg rfl<|aa<|Xq<|Mv rfl<|Bnr rfl rfl (fun _=>au _ _ _ oi)<|Mv rfl<|Mv rfl<|Bnr rfl rfl (fun _=>bB _ _ _ oi)<|Bnr rfl rfl (fun _=>aX _ _ _ oi)<|Bnr rfl rfl (fun _=>cZ _ _ _ om)<|ca rfl rfl (fun _=>eV underlying24 underlying5 _) rfl rfl<|Ia ((56+i)) rfl rfl underlying289 sizeOf5<|aV 4 U8 (okJ _) rfl rfl rfl sizeOf5 rfl (by rw[vA rs n om];omega) rfl<|aa<|Xq<|Bnr rfl rfl (fun _=>au _ _ _ oi)<|Mv rfl<|aa<|aD<|⟨rfl,⟨i+1,om⟩,_,by show 8-(i+1)<8-i;omega,rfl,trv,trv⟩
 ·obtain rfl:i=8:=by simp at hc;omega
  refine aW<|Xq<|Mv rfl<|Lw 4 rfl rfl BK (by rw[vA rs n om])<|?_
  refine dC (hY.b (k:=0) rfl w) (okJ _) (okX _) rfl rfl rfl rfl rfl ?_ ?_
  ·exact aa<|cQ rfl (fun w hw=>⟨⟨_,rfl⟩,.inl (cg (hJ _) hw.rid)⟩)
  ·exact aa<|cQ rfl (fun w hw=>⟨⟨_,rfl⟩,.inr ⟨_,cg (hJx _) hw.rid⟩⟩)
theorem Jk(br bn:Nat)(a:Option Addr)(cap:Nat)(rs:L8)(n:BitVec 64)(h:56≤rs.length)(h2:rs.length<64):fV prog Gt 285 [pnt br,pnt bn] [enc (e1 rs),enc (LB (List.replicate 64 0#8) n 8)] (uU br bn a cap rs n):=by
 intro l J Jx hJ hJx hRd hGx hY w hj
 have okJ: ∀k,BOk Gt (Bi w (fun Y=>J Y k)):=fun k=>⟨fun _ _ _ h=>(hRd _ _ _ h.rid).1,hJ k⟩
 have okX: ∀k,BOk Gt (Bi w (fun Y=>Jx Y k)):=fun k=>⟨fun _ _ _ h=>hGx _ _ _ h.rid,hJx k⟩
 have c1: ∀k L w',Hp (Bi w (fun Y=>J Y k)) L w'→uU br bn a cap rs n w':=fun k L w' h=>(hRd _ _ _ h.rid).2
 refine cx (G:=Gt) func285 rfl rfl (Hp (Bi w (fun Y=>J Y 0)) []) (cm (Bi w _) hj (hJ 0)) (aA (okJ 0))<|Xp<|Al 4 (okJ _) zv289<|fun b4=>aa<|Xd []<|bD (l:=0) (h':=64) rfl underlying289 sizeOf5 rfl rfl om om rfl rfl<|bT rfl isAgg22 (fun w h=>(c1 _ _ w h).1) rfl rfl<|dB 4 (okJ _) rfl rfl rfl underlying22 Gu (by show rs.length=Nat.min rs.length 64;exact (Nat.min_eq_left om).symm) (fun w h=>(c1 _ _ w h).2.2) (by simp;omega) rfl rfl<|?_
 rw[tV rs 64 om]
 refine aa<|Xp<|bT rfl isAgg22 (fun w h=>(c1 _ _ w h).1) rfl rfl<|bi rfl (fun _=>aI underlying22 _ _ _ _) rfl rfl<|Ia (rs.length) rfl rfl underlying289 sizeOf5<|aV 4 U8 (okJ _) rfl rfl rfl sizeOf5 rfl (by simp;omega) rfl<|aa<|ah<|Xp<|bT rfl isAgg22 (fun w h=>(c1 _ _ w h).1) rfl rfl<|bi rfl (fun _=>aI underlying22 _ _ _ _) rfl rfl<|Bnr rfl rfl (fun _=>df _ _ _)<|aa<|aR (by show some (Value.bool (decide ((rs.length:Int)≥56)))=_;rw[decide_eq_true om])<|ah<|Xp<|Mv rfl<|bY 4 rfl rfl isAgg289 sizeOf289 (by simp;omega) rfl rfl<|?_
 refine dC (hY.b (k:=0) rfl w) (okJ _) (okX _) rfl rfl rfl rfl rfl ?_ ?_
 ·refine bu rfl (fun _=>a9 _) rfl rfl<|aa<|aC rfl<|aq<|Xq<|el zv289 underlying289 sizeOf5 rfl rfl<|aw 4 (okJ _) rfl rfl rfl sizeOf289 (by rw[List.length_map,List.length_replicate]) (by simp;omega) (bH _) rfl<|aa<|Xp<|bT rfl isAgg24 (fun w h=>(c1 _ _ w h).2.1) rfl rfl<|Bnr rfl rfl (fun _=>cr _ _ _)<|Asg rfl<|aa<|ah<|Xp<|Mv rfl<|aa<|ai<|bL (ι:={i:Nat // i≤8}) (fun x=>[(23,I (x.1:Int)),(0,.func (.yield l) #[] #[]),(4,pnt b4),(5,U64 (8#64*n))]) (fun x=>[(4,b4,(LB (List.replicate 64 0#8) n x.1).map U8,289)]) (fun x=>8-x.1) ⟨0,om⟩ (okJ _) trv trv<|?_
  rintro ⟨i,hi⟩
  dsimp only
  refine Xp<|Bnr rfl rfl (fun _=>az _ _ _)<|aa<|ah<|?_
  refine bG rfl (fun hc=> ?_) (fun hc=> ?_)
  ·simp only[decide_eq_true_eq]at hc
   exact aq<|ah<|ai<|Xp<|Mv rfl<|Asg rfl<|aa<|Xq<|Mv rfl<|Bnr rfl rfl (fun _=>au _ _ _ oi)<|Mv rfl<|Mv rfl<|Bnr rfl rfl (fun _=>bB _ _ _ oi)<|Bnr rfl rfl (fun _=>aX _ _ _ oi)<|Bnr rfl rfl (fun _=>cZ _ _ _ om)<|ca rfl rfl (fun _=>eV underlying24 underlying5 _) rfl rfl<|Ia ((56+i)) rfl rfl underlying289 sizeOf5<|aV 4 U8 (okJ _) rfl rfl rfl sizeOf5 rfl (by rw[vH];omega) rfl<|aa<|Xq<|Bnr rfl rfl (fun _=>au _ _ _ oi)<|Mv rfl<|aa<|aD<|⟨rfl,⟨i+1,om⟩,_,by show 8-(i+1)<8-i;omega,rfl,trv,trv⟩
  ·obtain rfl:i=8:=by simp at hc;omega
   refine aW<|Xq<|Mv rfl<|Lw 4 rfl rfl BK (vH _ _)<|?_
   refine dC (hY.b (k:=1) rfl w) (okJ _) (okX _) rfl rfl rfl rfl rfl ?_ ?_
   ·exact aa<|cQ rfl (fun w hw=>⟨⟨_,rfl⟩,.inl (cg (hJ _) hw.rid)⟩)
   ·exact aa<|cQ rfl (fun w hw=>⟨⟨_,rfl⟩,.inr ⟨_,cg (hJx _) hw.rid⟩⟩)
 ·refine bu rfl (fun _=>a9 _) rfl rfl<|aa<|aR rfl<|am<|Rr<|?_
  exact dv rfl (fun w hw=>⟨⟨_,rfl⟩,.inr ⟨_,cg (hJx _) hw.rid⟩⟩)
end Sh
end
section
open Go.RowKit
namespace Sh
def fv(rs:L8)(n:BitVec 64):List L8:=if rs.length<56 then [LB (e1 rs) n 8]else [e1 rs,LB (List.replicate 64 0#8) n 8]
theorem oD(rs:L8)(n:BitVec 64)(h:rs.length<64): ∀bl∈fv rs n,bl.length=64:=by
 unfold fv
 split
 ·intro bl hbl
  rcases List.mem_singleton.1 hbl with rfl
  exact vA rs n om 8
 ·intro bl hbl
  rcases List.mem_cons.1 hbl with rfl|hbl
  ·exact zC rs om
  ·rcases List.mem_singleton.1 hbl with rfl
   exact vH n 8
theorem Lb(br bn:Nat)(a:Option Addr)(cap:Nat)(rs:L8)(n:BitVec 64)(h:rs.length<64):fV prog Gt 285 [pnt br,pnt bn] ((fv rs n).map enc) (uU br bn a cap rs n):=by
 unfold fv
 split
 ·exact Do br bn a cap rs n (by assumption)
 ·exact Jk br bn a cap rs n om h
def i6(bs:L8):List L8:=(List.range (bs.length / 64)).map fun k=>(bs.drop (64*k)).take 64
def rQ(bs:L8):List L8:=i6 bs++fv (bs.drop (64*(bs.length / 64))) (BitVec.ofInt 64 bs.length)
theorem DT(bs:L8):(i6 bs).length=bs.length / 64:=by simp[i6]
theorem xj(bs:L8):(bs.drop (64*(bs.length / 64))).length<64:=by simp;omega
theorem JU(bs:L8): ∀bl∈rQ bs,bl.length=64:=by
 intro bl h
 rcases List.mem_append.1 h with h|h
 ·obtain ⟨k,hk,rfl⟩:=List.mem_map.1 h
  have:=List.mem_range.1 hk
  simp;omega
 ·exact oD _ _ (xj bs) bl h
theorem u1(sv:Value)(n:BitVec 64)(hs:sv.cells= #[sv])(w:World)(hw:Gt w):CLS 279 [sv,U64 n].toArray w (fun e w'=> ∃b2 b3,e=.returned (.func (.func 285) #[] #[pnt b2,pnt b3])∧Grow w w'∧w.heap.size≤b2∧w.heap.size≤b3∧b2≠b3∧OwnB w' b2 [sv] 22∧OwnB w' b3 [U64 n] 24):=by
 refine Hf func279 rfl hw<|fun hGF=>Xp<|i9 2 hGF rfl rfl rfl<|fun b2=>i9 3 hGF rfl rfl rfl<|fun b3=>Asg rfl<|aa<|Xp<|gz rfl rfl rfl rfl<|Asg rfl<|aa<|am<|Rr<|?_
 exact aG rfl rfl (fun w hw=>⟨b2,b3,rfl,ac hw,(hw.own 2 b2 _ _ rfl).2.elim id False.elim,(hw.own 3 b3 _ _ rfl).2.elim id False.elim,(fun e=>by subst e;exact absurd (hw.inj 2 3 _ _ _ _ _ rfl rfl) dc),(by have:=(hw.own 2 b2 _ _ rfl).1;rw[hs]at this;exact this),(hw.own 3 b3 _ _ rfl).1⟩)
theorem tQ{n m:Nat}{b1 b2:Nat}{c1 c2:List Value}{t1 t2:TypeId}(hne:b1≠b2): ∀i j b c t c' t',lkB [(n,b1,c1,t1),(m,b2,c2,t2)] i=some (b,c,t)→lkB [(n,b1,c1,t1),(m,b2,c2,t2)] j=some (b,c',t')→i=j:=by
 intro i j b c t c' t' h1 h2
 rcases aL h1 with ⟨e1,x1⟩|⟨_,h1⟩<;>rcases aL h2 with ⟨e2,x2⟩|⟨_,h2⟩
 ·exact e1.trans e2.symm
 ·rcases aL h2 with ⟨_,x2⟩|⟨_,h2⟩
  ·cases x1;cases x2;exact (hne rfl).elim
  ·cases h2
 ·rcases aL h1 with ⟨_,x1⟩|⟨_,h1⟩
  ·cases x1;cases x2;exact (hne rfl).elim
  ·cases h1
 ·rcases aL h1 with ⟨e1,x1⟩|⟨_,h1⟩
  ·rcases aL h2 with ⟨e2,x2⟩|⟨_,h2⟩
   ·exact e1.trans e2.symm
   ·cases h2
  ·cases h1
end Sh
end
section
open Go.RowKit
namespace Sh
def im(st:L3)(bls:List L8):Nat→L3
 |0=>st
 |k+1=>sI (im st bls k) (bls.getD k [])
theorem jb(st:L3)(bl:L8):(sI st bl).length=8:=rfl
theorem iq(st:L3)(bls:List L8)(h:st.length=8): ∀k,(im st bls k).length=8
 |0=>h
 |_+1=>jb _ _
theorem Ei(st:L3)(hs:st.length=8)(gf:Nat)(caps:List Value)(bls:List L8)(hb: ∀bl∈bls,bl.length=64)(Rd:Cls)(he:ak prog gf)(hseq:fV prog Gt gf caps (bls.map enc) Rd)(w:World)(hw:Gt w)(hRs: ∀w',Grow w w'→Rd w'):
 CLS 278 [.agg (st.map U32).toArray,.func (.func gf) #[] caps.toArray].toArray w (fun e w'=>e=.returned (.agg ((im st bls bls.length).map U32).toArray)∧Grow w w'):=by
 have hGF:BOk Gt (pl w):=gt_low.plain hw
 refine cz (G:=Gt) func278 rfl rfl (Hp (pl w) []) (cm (pl w) trivial ao) (aA hGF)<|Xp<|Bx 2 hGF rfl<|fun b2=>Al 4 hGF zv91<|fun b4=>aa<|ah<|Xp<|Mv rfl<|aa<|ai<|?_
 refine ft (fun _=>pl w) (fun _ _=>pl w) (fun _=>hGF) (fun _ _=>hGF) (fun _=>rfl) (fun _ _=>rfl) rfl rfl he hseq (by simp[enc]) rfl (fun k=>[(2,b2,(im st bls k).map U32,91),(4,b4,(List.replicate 8 0#32).map U32,91)]) (fun _ _ _=>False) trv (fun _ _ w' h=>hRs w' (h.below (fun _ h=>h))) ?_ ?_ (fun _ _ _ _ _ h=>h.elim)
 ·intro k x hx R hR
  obtain ⟨hk,rfl⟩:k<bls.length∧enc (bls.getD k [])=x:=by
   rw[List.getElem?_map]at hx
   rcases Nat.lt_or_ge k bls.length with h|h
   ·simp[h]at hx;exact ⟨h,by simpa [h]using hx⟩
   ·simp[h]at hx
  have hb64:(bls.getD k []).length=64:=hb _ (by rw[show bls.getD k []=bls[k]from by simp[hk]];exact List.getElem_mem hk)
  refine Xq<|dX 5 (hR (pl w) rfl hGF).1 zv289 rfl rfl<|fun b5=>aw 5 (hR (pl w) rfl hGF).1 rfl rfl rfl sizeOf289 (by rw[List.length_map,hb64]) (by rw[List.length_map,List.length_replicate]) (bH _) rfl<|aa<|?_
  refine ⟨rfl,_,rfl, ?_⟩
  exact ai<|Xq<|Lw 2 rfl rfl sB (by rw[iq st bls hs])<|Lw 5 rfl rfl BK hb64<|Ca rfl (tH _ _ (iq _ _ hs _) hb64)<|aw 2 (hR (pl w) rfl hGF).2.1 rfl rfl rfl sizeOf91 (by rw[List.length_map,jb]) (by rw[List.length_map,iq st bls hs]) (eT _) rfl<|aa<|⟨_,rfl,trv⟩
 ·intro D hD
  refine Xp<|Lw 2 rfl rfl sB (by rw[iq st bls hs])<|Sx 4 hD rfl rfl rfl sB (by rw[iq st bls hs]) (eT _)<|aa<|am<|Rr<|?_
  refine d9 (.inl rfl) ao (av 4 rfl rfl rfl isAgg91 sizeOf91 (by rw[List.length_map,iq st bls hs]) (fun w hw=>⟨?_,ac hw⟩))
  rw[List.length_map]
def SHA(bs:L8):L8:=DG (im IV (rQ bs) (rQ bs).length) 8
theorem hO(bs:L8):(SHA bs).length=32:=fJ _ 8
theorem bX{n:Nat}{b1:Nat}{c1:List Value}{t1:TypeId}: ∀i j b c t c' t',lkB [(n,b1,c1,t1)] i=some (b,c,t)→lkB [(n,b1,c1,t1)] j=some (b,c',t')→i=j:=by
 intro i j b c t c' t' h1 h2
 rcases aL h1 with ⟨e1,x1⟩|⟨_,h1⟩
 ·rcases aL h2 with ⟨e2,x2⟩|⟨_,h2⟩
  ·exact e1.trans e2.symm
  ·cases h2
 ·cases h1
end Sh
end
section
open Go.RowKit
namespace Sh
def hc(st:L3)(rs:L8)(n:BitVec 64):List Value:=st.map U32++(rs.map U8++[U64 n])
section
variable {st st':L3} {rs rs':L8} {n m:BitVec 64}
theorem uT(h1:st.length=8)(h2:rs.length=64):(hc st rs n).length=73:=by simp[hc,h1,h2]
theorem sW(h1:st.length=8)(h2:rs.length=64):(hc st rs n)[72]? =some (U64 n):=by
 unfold hc
 rw[List.getElem?_append_right (by simp[h1]),List.getElem?_append_right (by simp[h1,h2])]
 simp[h1,h2]
theorem aa8: ∀j v,(st.map U32)[j]? =some v→(hc st rs n)[0+j]? =some v:=fun j v hv=>by
 have:j<(st.map U32).length:=by
  rcases Nat.lt_or_ge j (st.map U32).length with h|h
  ·exact h
  ·rw[List.getElem?_eq_none h]at hv;cases hv
 unfold hc
 rw[Nat.zero_add,List.getElem?_append_left this]
 exact hv
theorem P1(h1:st.length=8): ∀j v,(rs.map U8)[j]? =some v→(hc st rs n)[8+j]? =some v:=fun j v hv=>by
 have:j<(rs.map U8).length:=by
  rcases Nat.lt_or_ge j (rs.map U8).length with h|h
  ·exact h
  ·rw[List.getElem?_eq_none h]at hv;cases hv
 unfold hc
 rw[List.getElem?_append_right (by simp[h1]),List.getElem?_append_left (by simpa [h1]using this)]
 simpa [h1]using hv
theorem VL(h1:st.length=8)(h1':st'.length=8):lay 0 (st'.map U32) (hc st rs n)=hc st' rs n:=by
 rw[jF _ _ _ (by simp[hc,h1,h1'])]
 simp[hc,h1',h1]
theorem xz(h1:st.length=8)(o:Nat)(xs:L8)(h:o+xs.length≤rs.length):lay (8+o) (xs.map U8) (hc st rs n)=hc st (rs.take o++xs++rs.drop (o+xs.length)) n:=by
 rw[jF _ _ _ (by simp[hc,h1];omega)]
 simp only[hc,List.take_append,List.drop_append,List.length_map,h1,List.map_append,List.map_take,List.map_drop]
 rw[List.take_of_length_le (by simp[h1]),List.drop_eq_nil_of_le (by simp[h1];omega)]
 rw[show 8+o-8=o from by omega,show o-rs.length=0 from by omega,show 8+o+xs.length-8=o+xs.length from by omega,show o+xs.length-rs.length=0 from by omega]
 simp
theorem Ro(h1:st.length=8)(h2:rs.length=64)(h2':rs'.length=64):lay 8 (rs'.map U8) (hc st rs n)=hc st rs' n:=by
 have:=xz (rs:=rs) (n:=n) h1 0 rs' om
 rw[Nat.add_zero]at this
 rw[this,Nat.zero_add,List.drop_eq_nil_of_le om]
 simp
theorem QO(h1:st.length=8)(h2:rs.length=64):(hc st rs n).set 72 (U64 m)=hc st rs m:=by
 unfold hc
 rw[List.set_append_right _ _ (by simp[h1]),List.set_append_right _ _ (by simp[h1,h2])]
 simp[h1,h2]
end
def tl(T:L8):L8:=T.drop (64*(T.length / 64))
theorem mJ(T:L8):(tl T).length=T.length % 64:=by simp[tl];omega
def oT(rs:L8):L8:=rs++List.replicate (64-rs.length) 0#8
theorem Eo(rs:L8)(h:rs.length≤64):(oT rs).length=64:=by simp[oT];omega
def full(T:L8):L3:=im IV (i6 T) (T.length / 64)
structure HInv(T:L8)(st:L3)(rs:L8)(n:BitVec 64):Prop where
 len:T.length<9223372036854775808
 st8:st.length=8
 rest:rs=oT (tl T)
 num:n=BitVec.ofNat 64 T.length
 state:64≤T.length→st=full T
theorem HInv.zero:HInv [] (List.replicate 8 0#32) (List.replicate 64 0#8) 0:=⟨sm,sm,by simp[oT,tl],rfl,fun h=>by simp at h⟩
theorem HInv.rs64{T:L8}{st:L3}{rs:L8}{n:BitVec 64}(h:HInv T st rs n):rs.length=64:=by rw[h.rest];exact Eo _ (by rw[mJ];omega)
theorem HInv.toNat{T:L8}{st:L3}{rs:L8}{n:BitVec 64}(h:HInv T st rs n):n.toNat=T.length:=by
 have:=h.len
 rw[h.num,BitVec.toNat_ofNat];omega
def rch(st:L3)(n:BitVec 64):L3:=if n<64#64 then IV else st
theorem HInv.rch{T:L8}{st:L3}{rs:L8}{n:BitVec 64}(h:HInv T st rs n):rch st n=full T:=by
 unfold Sh.rch
 by_cases hlt:n<64#64
 ·have:T.length<64:=by have h1:=BitVec.lt_def.1 hlt;rw[h.toNat]at h1;simpa using h1
  rw[if_pos hlt,full,Nat.div_eq_of_lt this];rfl
 ·have: ¬T.length<64:=fun h'=>hlt (BitVec.lt_def.2 (by rw[h.toNat];simpa using h'))
  rw[if_neg hlt];exact h.state om
theorem nA{st:L3}{n:BitVec 64}(h:st.length=8):(rch st n).length=8:=by unfold rch;split;rfl;exact h
theorem kD(st:L3)(a b:List L8): ∀k,(∀i,i<k→a.getD i []=b.getD i [])→im st a k=im st b k
 |0,_=>rfl
 |k+1,h=>by rw[im,im,kD st a b k (fun i hi=>h i om),h k om]
theorem oQ(st:L3)(a b:List L8): ∀k,im st (a++b) (a.length+k)=im (im st a a.length) b k
 |0=>by
  show im st (a++b) a.length=im st a a.length
  exact kD st _ _ _ (fun i hi=>by simp[List.getElem?_append_left hi])
 |k+1=>by
  rw[←Nat.add_assoc,im,oQ st a b k,im]
  congr 1
  simp only[List.getD_eq_getElem?_getD]
  rw[List.getElem?_append_right om,Nat.add_sub_cancel_left]
theorem Hu(T:L8):SHA T=DG (im (full T) (fv (tl T) (BitVec.ofInt 64 T.length)) (fv (tl T) (BitVec.ofInt 64 T.length)).length) 8:=by
 have:=oQ IV (i6 T) (fv (tl T) (BitVec.ofInt 64 T.length)) (fv (tl T) (BitVec.ofInt 64 T.length)).length
 unfold SHA
 rw[show rQ T=i6 T++fv (tl T) (BitVec.ofInt 64 T.length)from rfl,List.length_append,this,DT]
 rfl
theorem HInv.part{T:L8}{st:L3}{rs:L8}{n:BitVec 64}(h:HInv T st rs n)(xs:L8)(hx:T.length % 64+xs.length<64)(hl:(T++xs).length<9223372036854775808):
 HInv (T++xs) st (rs.take (T.length % 64)++xs++rs.drop (T.length % 64+xs.length)) (n+BitVec.ofInt 64 xs.length):=by
 have hd:(T++xs).length / 64=T.length / 64:=by simp;omega
 have ht:tl (T++xs)=tl T++xs:=by
  unfold tl
  rw[hd,List.drop_append_of_le_length om]
 refine ⟨hl,h.st8, ?_, ?_,fun h64=> ?_⟩
 ·have e:=mJ T
  rw[h.rest,ht,oT,oT]
  rw[List.take_append_of_le_length om,List.take_of_length_le om,List.drop_append,List.drop_eq_nil_of_le om]
  simp only[List.nil_append,List.append_assoc,List.drop_replicate,List.length_append]
  congr 3
  omega
 ·apply BitVec.eq_of_toNat_eq
  rw[BitVec.toNat_add,h.toNat,BitVec.ofInt_natCast,BitVec.toNat_ofNat,BitVec.toNat_ofNat]
  simp
 ·have h64':64≤T.length:=by simp at h64;omega
  rw[h.state h64',full,full,hd]
  refine kD _ _ _ _ (fun i hi=> ?_)
  have h1:i<T.length / 64:=hi
  have h2:i<(T++xs).length / 64:=om
  have e1:(i6 T).getD i []=(T.drop (64*i)).take 64:=by simp[i6,h1]
  have e2:(i6 (T++xs)).getD i []=((T++xs).drop (64*i)).take 64:=by
   unfold i6
   simp[-List.length_append,h2]
  rw[e1,e2,List.drop_append_of_le_length om,List.take_append_of_le_length (by simp;omega)]
theorem HInv.fill{T:L8}{st:L3}{rs:L8}{n:BitVec 64}(h:HInv T st rs n)(xs:L8)(hx:T.length % 64+xs.length=64)(hl:(T++xs).length<9223372036854775808):
 HInv (T++xs) (sI (full T) (rs.take (T.length % 64)++xs++rs.drop (T.length % 64+xs.length))) (List.replicate 64 0#8) (n+BitVec.ofInt 64 xs.length):=by
 have hd:(T++xs).length / 64=T.length / 64+1:=by simp;omega
 have ht:tl (T++xs)=[]:=by
  unfold tl
  rw[hd]
  apply List.drop_eq_nil_of_le
  simp;omega
 refine ⟨hl,jb _ _,by rw[ht];rfl, ?_,fun _=> ?_⟩
 ·apply BitVec.eq_of_toNat_eq
  rw[BitVec.toNat_add,h.toNat,BitVec.ofInt_natCast,BitVec.toNat_ofNat,BitVec.toNat_ofNat]
  simp
 ·rw[full,full,hd,im]
  have e2: ∀i,i<(T++xs).length / 64→(i6 (T++xs)).getD i []=((T++xs).drop (64*i)).take 64:=fun i hi=>by
   unfold i6
   simp[-List.length_append,hi]
  congr 1
  ·refine kD _ _ _ _ (fun i hi=> ?_)
   have e1:(i6 T).getD i []=(T.drop (64*i)).take 64:=by simp[i6,hi]
   rw[e1,e2 i om,List.drop_append_of_le_length om,List.take_append_of_le_length (by simp;omega)]
  ·have e:=mJ T
   rw[e2 _ om,h.rest,oT,List.take_append_of_le_length om,List.take_of_length_le om,List.drop_append,List.drop_eq_nil_of_le om]
   rw[List.drop_append_of_le_length om,show T.drop (64*(T.length / 64))=tl T from rfl,List.take_of_length_le (by simp;omega)]
   simp
   omega
end Sh
end
section
open Go.RowKit
namespace Sh
theorem sX{w:World}{b:Nat}{c:List Value}{t:TypeId}(h:OwnB w b c t){o:Nat}{cs:List Value}(hc: ∀j v,cs[j]? =some v→c[o+j]? =some v):w.rangeAt b o cs:=fun j v hv=>(h.cell (o+j)).trans (hc j v hv)
theorem mi(bh:Nat)(st:L3)(rs:L8)(n:BitVec 64)(h1:st.length=8)(h2:rs.length=64)(w:World)(hw:Gt w)(ho:OwnB w bh (hc st rs n) 291):
 CLS 275 [pnt bh].toArray w (fun e w'=>e=.returned (.agg ((rch st n).map U32).toArray)∧Grow w w'):=by
 refine Hf func275 rfl hw<|fun hGF=>Xp<|Al 2 hGF zv91<|fun b2=>aa<|ah<|Xp<|Mv rfl<|dN rfl rfl rfl<|Fa 72 rfl underlying291 rfl sizeOf24<|bT rfl isAgg24 (mM (B:=pl w) ((ho.cell 72).trans (sW h1 h2)) (fun h=>h)) rfl rfl<|Bnr rfl rfl (fun _=>oq _ _ _)<|aa<|?_
 refine bG rfl (fun hc=> ?_) (fun hc=> ?_)
 ·simp only[decide_eq_true_eq]at hc
  refine Xp<|Ca rfl (zM)<|Sx 2 hGF rfl rfl rfl sB (by rw[(show IV.length=8 from rfl)]) (eT _)<|aa<|am<|Rr<|?_
  exact av 2 rfl rfl rfl isAgg91 sizeOf91 rfl (fun w hw=>⟨by rw[rch,if_pos hc],ac hw⟩)
 ·simp only[decide_eq_false_iff_not]at hc
  refine aq<|Xp<|Mv rfl<|dN rfl rfl rfl<|Fa 0 rfl underlying291 rfl sizeOf91<|da rfl isAgg91 sizeOf91 (by rw[List.length_map,h1]) (eX (B:=pl w) (sX ho aa8) (fun h=>h)) rfl rfl<|Sx 2 hGF rfl rfl rfl sB h1 (eT _)<|aa<|am<|Rr<|?_
  exact av 2 rfl rfl rfl isAgg91 sizeOf91 (by rw[List.length_map,h1]) (fun w hw=>⟨by rw[rch,if_neg hc],ac hw⟩)
theorem Az(T:L8)(bh:Nat)(st:L3)(rs:L8)(n:BitVec 64)(hi:HInv T st rs n)(w:World)(hw:Gt w)(ho:OwnB w bh (hc st rs n) 291):
 CLS 265 [pnt bh].toArray w (fun e w'=>e=.returned (.agg ((SHA T).map U8).toArray)∧Grow w w'):=by
 have hGF:BOk Gt (pl w):=gt_low.plain hw
 have hmt:(n % 64#64).toNat=(tl T).length:=by rw[BitVec.toNat_umod,hi.toNat,mJ];rfl
 have hm64:(n % 64#64).toNat<64:=by rw[hmt,mJ];omega
 have hn:BitVec.ofInt 64 T.length=n:=by rw[hi.num,BitVec.ofInt_natCast]
 refine Hd func265 rfl hGF<|ae (E:=EE [279])<|Al 2 hGF zv98<|fun b2=>aa<|Xd [279]<|Mv rfl<|Cc rfl ent275 (fun w' hw' hG=>mi bh st rs n hi.st8 hi.rs64 w' hG (ho.of_same ((ac hw').block bh ho.lt)))<|Mv rfl<|dN rfl rfl rfl<|Fa 8 rfl underlying291 rfl sizeOf289<|Mv rfl<|dN rfl rfl rfl<|Fa 72 rfl underlying291 rfl sizeOf24<|bT rfl isAgg24 (mM (B:=pl w) ((ho.cell 72).trans (sW hi.st8 hi.rs64)) (fun h=>h)) rfl rfl<|Bnr rfl rfl (fun _=>fb _ _ _ dc)<|Nq rfl underlying289 sizeOf5 rfl hm64 rfl rfl<|Mv rfl<|dN rfl rfl rfl<|Fa 72 rfl underlying291 rfl sizeOf24<|bT rfl isAgg24 (mM (B:=pl w) ((ho.cell 72).trans (sW hi.st8 hi.rs64)) (fun h=>h)) rfl rfl<|?_
 refine dz rfl rfl ent279 rfl rfl (fun w' hw'=>(u1 _ _ rfl w' (hGF.g _ _ _ hw')).mono fun e w'' h=> ?_)
 obtain ⟨c2,c3,rfl,hgr,h2,h3,hne,hc2,hc3⟩:=h
 refine ⟨_,_,rfl,aA hGF,hw'.news ao hgr [(31,c2,[.slice (some ⟨bh,8,none⟩) (n % 64#64).toNat 64],22),(32,c3,[U64 n],24)] ?_ ?_, ?_⟩
 ·intro n' b c t hl
  rcases aL hl with ⟨_,e⟩|⟨_,hl⟩
  ·cases e;exact ⟨h2,hc2⟩
  ·rcases aL hl with ⟨_,e⟩|⟨_,hl⟩
   ·cases e;exact ⟨h3,hc3⟩
   ·cases hl
 ·exact tQ hne
 refine Cc rfl ent278 (fun w' hw' hG=>Ei (rch st n) (nA hi.st8) 285 [pnt c2,pnt c3] (fv (tl T) n) (oD _ _ (by rw[mJ];omega)) (uU c2 c3 (some ⟨bh,8,none⟩) 64 (tl T) n) ent285 (Lb c2 c3 (some ⟨bh,8,none⟩) 64 (tl T) n (by rw[mJ];omega)) w' hG (fun w3 hg3=> ?_)) ?_
 ·have hx:=hw'.grow ao hg3
  refine ⟨by rw[←hmt];exact cB (n:=31) rfl rfl w3 hx,cB (n:=32) rfl rfl w3 hx,BytesAt.range ?_⟩
  intro j v hv
  refine mM (B:=pl w) ((ho.cell (8+j)).trans ?_) (fun h=>h) w3 hx
  refine P1 hi.st8 j v ?_
  rw[hi.rest,oT,List.map_append]
  have hlt:j<((tl T).map U8).length:=by
   rcases Nat.lt_or_ge j ((tl T).map U8).length with h|h
   ·exact h
   ·rw[List.getElem?_eq_none h]at hv;cases hv
  rw[List.getElem?_append_left hlt];exact hv
 refine Ca rfl (vZ _ (iq _ _ (nA hi.st8) _))<|Sx 2 hGF rfl rfl rfl wI (fJ _ _) (bH _)<|aa<|am<|Rr<|?_
 exact av 2 rfl rfl rfl isAgg98 sizeOf98 (by rw[List.length_map,fJ]) (fun w hw=>⟨by rw[Hu T,hi.rch,hn],ac hw⟩)
end Sh
end
section
open Go.RowKit
namespace Sh
structure WSt(T bs:L8)(w:World)(bh:Nat) where
 (c:Nat) (st:L3) (rs:L8) (n:BitVec 64) (a:Option Addr) (cap:Nat)
 hc:c≤bs.length
 hi:HInv (T++bs.take c) st rs n
 hb:BytesAt w a (bs.drop c)
 hcap:(bs.drop c).length≤cap
 hne:bs.drop c≠[]→∀ad,a=some ad→ad.block≠bh
theorem Ed(bs:L8)(c m:Nat):bs.take c++(bs.drop c).take m=bs.take (c+m):=by rw[List.take_add]
theorem vT(T bs:L8)(bh:Nat)(st:L3)(rs:L8)(n:BitVec 64)(hi:HInv T st rs n)(hT:(T++bs).length<9223372036854775808)(a:Option Addr)(cap:Nat)(hcap:bs.length≤cap)(w:World)(hw:Gt w)(ho:OwnB w bh (hc st rs n) 291)(hbh:8≤bh)(hby:BytesAt w a bs)(hne:bs≠[]→∀ad,a=some ad→ad.block≠bh):
 CLS 264 [pnt bh,.slice a bs.length cap].toArray w (fun e w'=>e=.returned (.tuple #[])∧Mod bh w w'∧∃st' rs' n',HInv (T++bs) st' rs' n'∧OwnB w' bh (hc st' rs' n') 291):=by
 have hGF:BOk Gt (plM w (fun k=>k=bh)):=(gt_low.from (M:=fun k=>k=bh) hw (fun m hm=>by subst hm;exact hbh)).ok (B:=plM w (fun k=>k=bh)) ao
 refine cx (G:=Gt) func264 rfl rfl (Hp (plM w (fun k=>k=bh)) [(0,bh,hc st rs n,291)]) (Fh ho) (aA hGF)<|ai<|bL (ι:=WSt T bs w bh) (fun x=>[(0,pnt bh),(1,.slice x.a (bs.drop x.c).length x.cap)]) (fun x=>[(0,bh,hc x.st x.rs x.n,291)]) (fun x=>bs.length-x.c) ⟨0,st,rs,n,a,cap,Nat.zero_le _,by simpa using hi,by simpa using hby,by simpa using hcap,hne⟩ hGF trv trv<|?_
 rintro x
 have x8:=x.hi.st8
 have x64:=x.hi.rs64
 have hdl:(bs.drop x.c).length=bs.length-x.c:=List.length_drop
 have hxc:=x.hc
 refine ah<|Xp<|Mv rfl<|bi rfl (fun _=>aI underlying22 _ _ _ _) rfl rfl<|Bnr rfl rfl (fun _=>bc _ _ _)<|aa<|?_
 refine bG rfl (fun hc=> ?_) (fun hc=> ?_)
 ·simp only[decide_eq_true_eq]at hc
  have hmod:(x.n % 64#64).toNat=(T++bs.take x.c).length % 64:=by rw[BitVec.toNat_umod,x.hi.toNat];rfl
  have hm64:(x.n % 64#64).toNat<64:=om
  obtain ⟨xs,hxs⟩: ∃xs,(bs.drop x.c).take (64-(x.n % 64#64).toNat)=xs:=⟨_,rfl⟩
  have hxl:xs.length=Nat.min (bs.drop x.c).length (64-(x.n % 64#64).toNat):=by rw[←hxs,List.length_take];exact Nat.min_comm _ _
  have hx1:xs.length≤(bs.drop x.c).length:=by rw[hxl];exact Nat.min_le_left _ _
  have hx2:xs.length≤64-(x.n % 64#64).toNat:=by rw[hxl];exact Nat.min_le_right _ _
  have hx0:0<xs.length:=by rw[hxl];exact Nat.lt_min.2 ⟨om,om⟩
  have hdne:bs.drop x.c≠[]:=fun e=>by rw[e]at hc;simp at hc
  have hbx:BytesAt w x.a xs:=hxs▸x.hb.take _
  have hmx:(x.n % 64#64).toNat+xs.length≤x.rs.length:=by rw[x64];omega
  have hxt:T++bs.take (x.c+xs.length)=T++bs.take x.c++xs:=by
   rw[←Ed,←List.append_assoc,←List.prefix_iff_eq_take.1 (hxs▸List.take_prefix _ _)]
  have hdn:(bs.drop x.c).length-xs.length=(bs.drop (x.c+xs.length)).length:=by rw[List.length_drop,List.length_drop];omega
  have hroom:8+(x.n % 64#64).toNat+xs.length≤73:=om
  have hlen2:(T++bs.take x.c++xs).length<9223372036854775808:=by simp at hT⊢;omega
  have hb3:BytesAt w (if x.cap=xs.length then x.a else x.a.map (·.add (xs.length*1))) (bs.drop (x.c+xs.length)):=by
   have:=x.hb.drop (cap:=x.cap) (l:=xs.length) x.hcap om
   rwa [List.drop_drop]at this
  have hc3:(bs.drop (x.c+xs.length)).length≤x.cap-xs.length:=by have:=x.hcap;simp at this⊢;omega
  have hn3:bs.drop (x.c+xs.length)≠[]→∀ad,(if x.cap=xs.length then x.a else x.a.map (·.add (xs.length*1)))=some ad→ad.block≠bh:=by
   intro _ ad had
   split at had
   ·exact x.hne hdne ad had
   ·cases hxa:x.a with
    |none=>rw[hxa]at had;cases had
    |some ad0=>
     rw[hxa]at had
     cases had
     rw[sR];exact x.hne hdne ad0 hxa
  have hsum:(x.n+BitVec.ofInt 64 xs.length).toNat=(T++bs.take x.c).length+xs.length:=by
   rw[BitVec.toNat_add,x.hi.toNat,BitVec.ofInt_natCast,BitVec.toNat_ofNat]
   simp at hlen2⊢;omega
  have hsm:((x.n+BitVec.ofInt 64 xs.length) % 64#64).toNat=((T++bs.take x.c).length+xs.length) % 64:=by rw[BitVec.toNat_umod,hsum];rfl
  have hfl0:(((x.n+BitVec.ofInt 64 xs.length) % 64#64==0#64)=true→(T++bs.take x.c).length % 64+xs.length=64)∧(((x.n+BitVec.ofInt 64 xs.length) % 64#64==0#64)=false→(T++bs.take x.c).length % 64+xs.length<64):=by
   refine ⟨fun h=> ?_,fun h=> ?_⟩
   ·have:=congrArg BitVec.toNat (beq_iff_eq.1 h)
    rw[hsm]at this
    have h0:(0#64).toNat=0:=rfl
    omega
   ·have hne: ¬((x.n+BitVec.ofInt 64 xs.length) % 64#64).toNat=0:=fun e=>(beq_eq_false_iff_ne.1 h) (BitVec.eq_of_toNat_eq (by rw[e];rfl))
    rw[hsm]at hne
    omega
  refine aq<|ai<|Xp<|Mv rfl<|Cc rfl ent275 (fun w' hw' hG=>mi bh x.st x.rs x.n x8 x64 w' hG (hw'.own 0 _ _ _ rfl).1)<|Al 4 hGF zv91<|fun b4=>Sx 4 hGF rfl rfl rfl sB (nA x.hi.st8) (eT _)<|aa<|Xd []<|Mv rfl<|dN rfl rfl rfl<|Fa 8 rfl underlying291 rfl sizeOf289<|Mv rfl<|dN rfl rfl rfl<|Fa 72 rfl underlying291 rfl sizeOf24<|cT 0 rfl rfl (sW x8 x64) isAgg24 rfl rfl<|Bnr rfl rfl (fun _=>fb _ _ _ dc)<|Ky rfl underlying289 sizeOf5 rfl hm64 rfl rfl<|Mv rfl<|dB (cs:=xs) 0 hGF rfl rfl rfl underlying22 Gu hxl (fun w' h=>Ep hbx (zJ h) (x.hne hdne)) (by rw[uT x8 x64];exact hroom) rfl rfl<|?_
  rw[xz x8 _ xs hmx]
  have x64:(x.rs.take (x.n % 64#64).toNat++xs++x.rs.drop ((x.n % 64#64).toNat+xs.length)).length=64:=by rw[List.length_append,List.length_append,List.length_take,List.length_drop,x64];omega
  obtain ⟨rs1,hrs1⟩: ∃rs1,x.rs.take (x.n % 64#64).toNat++xs++x.rs.drop ((x.n % 64#64).toNat+xs.length)=rs1:=⟨_,rfl⟩
  rw[hrs1]at x64⊢
  refine Asg rfl<|aa<|Xp<|Mv rfl<|dN rfl rfl rfl<|Fa 72 rfl underlying291 rfl sizeOf24<|cT 0 rfl rfl (sW x8 x64) isAgg24 rfl rfl<|Mv rfl<|ca rfl rfl (fun _=>f9 underlying3 underlying24 _) rfl rfl<|Bnr rfl rfl (fun _=>aF _ _ _)<|dN rfl rfl rfl<|Fa 72 rfl underlying291 rfl sizeOf24<|d8 0 hGF rfl rfl rfl sizeOf24 rfl (by rw[uT x8 x64];decide) rfl<|?_
  rw[QO x8 x64]
  refine aa<|Xp<|Mv rfl<|Mv rfl<|fw (l:=xs.length) (h':=(bs.drop x.c).length) rfl underlying22 sizeOf5 rfl rfl ⟨om,x.hcap⟩ rfl rfl<|Asg rfl<|aa<|Xp<|Mv rfl<|dN rfl rfl rfl<|Fa 72 rfl underlying291 rfl sizeOf24<|cT 0 rfl rfl (sW x8 x64) isAgg24 rfl rfl<|Bnr rfl rfl (fun _=>fb _ _ _ dc)<|Bnr rfl rfl (fun _=>bx _ _ _)<|aa<|?_
  refine bG rfl (fun hc=> ?_) (fun hc=> ?_)
  ·have hfl:=hfl0.1 hc
   refine Xd []<|Mv rfl<|Lw 4 rfl rfl sB (nA x.hi.st8)<|Mv rfl<|dN rfl rfl rfl<|Fa 8 rfl underlying291 rfl sizeOf289<|Gp 0 rfl rfl isAgg289 sizeOf289 (by rw[List.length_map,x64]) (P1 x8) rfl rfl<|Ca rfl (tH _ _ (nA x.hi.st8) x64)<|dN rfl rfl rfl<|Fa 0 rfl underlying291 rfl sizeOf91<|gh 0 hGF rfl rfl rfl sizeOf91 (by rw[List.length_map,jb]) (eT _) (by rw[uT x8 x64,List.length_map,jb];decide) rfl<|?_
   rw[VL x8 (jb _ _)]
   have x8:=jb (rch x.st x.n) rs1
   refine aa<|Xq<|Mv rfl<|el zv289 underlying289 sizeOf5 rfl rfl<|dN rfl rfl rfl<|Fa 8 rfl underlying291 rfl sizeOf289<|gh 0 hGF rfl rfl rfl sizeOf289 (by rw[List.length_map,List.length_replicate]) (bH _) (by rw[uT x8 x64,List.length_map,List.length_replicate];decide) rfl<|?_
   rw[Ro x8 x64 List.length_replicate]
   refine aa ?_
   repeat (refine aP ?_)
   exact aD<|⟨rfl,⟨x.c+xs.length,sI (rch x.st x.n) rs1,List.replicate 64 0#8,x.n+BitVec.ofInt 64 xs.length,if x.cap=xs.length then x.a else x.a.map (·.add (xs.length*1)),x.cap-xs.length,om,(by rw[hxt,←hrs1,hmod,x.hi.rch];exact x.hi.fill xs hfl hlen2),hb3,hc3,hn3⟩,_,by show bs.length-(x.c+xs.length)<bs.length-x.c;omega,rfl,⟨rfl,congrArg (fun k=>some (Value.slice (if x.cap=xs.length then x.a else x.a.map (·.add (xs.length*1))) k (x.cap-xs.length))) hdn,trivial⟩,trv⟩
  ·have hfl:=hfl0.2 hc
   refine aq ?_
   repeat (refine aP ?_)
   exact aD<|⟨rfl,⟨x.c+xs.length,x.st,rs1,x.n+BitVec.ofInt 64 xs.length,if x.cap=xs.length then x.a else x.a.map (·.add (xs.length*1)),x.cap-xs.length,om,(by rw[hxt,←hrs1,hmod];exact x.hi.part xs hfl hlen2),hb3,hc3,hn3⟩,_,by show bs.length-(x.c+xs.length)<bs.length-x.c;omega,rfl,⟨rfl,congrArg (fun k=>some (Value.slice (if x.cap=xs.length then x.a else x.a.map (·.add (xs.length*1))) k (x.cap-xs.length))) hdn,trivial⟩,trv⟩
 ·simp only[decide_eq_false_iff_not]at hc
  refine aW ?_
  have hall:bs.take x.c=bs:=List.take_of_length_le (by have:=x.hc;omega)
  repeat (refine dH ?_)
  exact cq<|cQ rfl (fun w' hw'=>⟨rfl,zJ hw',x.st,x.rs,x.n,by have:=x.hi;rw[hall]at this;exact this,(hw'.own 0 _ _ _ rfl).1⟩)
end Sh
end
section
open Go.RowKit
namespace Sh
theorem ti5:TI prog 5 (.int .u8 0) 1 1:=sL kr
def Cln(w w':World)(bs:L8)(sv:Value):Prop:=
 (bs=[]∧sv=.slice none 0 0)∨∃b c cap1,sv=.slice (spt b) bs.length cap1∧w.heap.size≤b∧OwnB w' b c 5∧c.length=cap1∧bs.length≤cap1∧c.take bs.length=bs.map U8
theorem Cln.cells{w w':World}{bs:L8}{sv:Value}(h:Cln w w' bs sv):sv.cells= #[sv]:=by
 rcases h with ⟨_,rfl⟩|⟨_,_,_,rfl,_⟩<;>rfl
end Sh
end
section
open Go.RowKit
namespace Sh
def PD(bs:L8)(k:Nat):L8:=bs++([128#8]++List.replicate k 0#8)
theorem A1(bs:L8)(k:Nat):PD bs k++[0#8]=PD bs (k+1):=by
 simp[PD,List.replicate_succ']
theorem yK(bs:L8)(k:Nat):(PD bs k).length=bs.length+1+k:=by simp[PD];omega
def nz(bs:L8):Nat:=(120-(bs.length+1) % 64) % 64
def nb(n:BitVec 64)(j:Nat):BitVec 8:=(n>>>(8*(7-(j:Int))).toNat).setWidth 8
def PE(bs:L8)(n:BitVec 64):Nat→L8
 |0=>PD bs (nz bs)
 |j+1=>PE bs n j++[nb n j]
theorem n5(bs:L8)(n:BitVec 64): ∀j,(PE bs n j).length=bs.length+1+nz bs+j
 |0=>yK bs _
 |j+1=>by rw[PE,List.length_append,n5 bs n j];rfl
def PAD(bs:L8):L8:=PE bs (BitVec.ofInt 64 bs.length*8#64) 8
structure PdSt(bs:L8) where
 (k b:Nat) (c:List Value)
 hk:k+(120-(bs.length+1+k) % 64) % 64=nz bs
 h1:(PD bs k).length≤c.length
 h2:c.take (PD bs k).length=(PD bs k).map U8
structure PeSt(bs:L8)(n:BitVec 64) where
 (j b:Nat) (c:List Value)
 hj:j≤8
 h1:(PE bs n j).length≤c.length
 h2:c.take (PE bs n j).length=(PE bs n j).map U8
theorem D6(a:Option Addr)(cap:Nat)(bs:L8)(hl:bs.length≤70368744170000)(w:World)(hw:Gt w)(hby:BytesAt w a bs):
 CLS 182 [.slice a bs.length cap].toArray w (fun e w'=> ∃sv,e=.returned sv∧Grow w w'∧Cln w w' (PAD bs) sv):=by
 refine Hf func182 rfl hw<|fun hGF=>Xp<|Asg rfl<|aa<|Xp<|Mv rfl<|?_
 refine cu (xs:=[]) (ys:=bs) 3 hGF rfl rfl underlying22 underlying22 ti5 (iW _ _ _) (fun w' h=>hby.grow (ac h)) (by simpa using Nat.le_trans hl dc) rfl rfl (fun h0=> ?_) (fun b7 c7 cap7 e7 l7 t7=> ?_)
 ·have hbs:bs=[]:=h0
  subst hbs
  clear h0
  refine ek 8 [128#8] hGF rfl rfl rfl dc dc underlying22 sizeOf5 zeroValue5 rfl rfl ?_
  intro b8
  refine cu (xs:=[]) (ys:=[128#8]) 3 hGF rfl rfl underlying22 underlying22 ti5 (iW _ _ _) (fun w' h=>BytesAt.range (aH (n:=8) rfl w' h)) dc rfl rfl (fun h0=> ?_) (fun b9 c9 cap9 e9 l9 t9=> ?_)
  ·simp at h0
  subst e9
  refine Asg rfl<|aa<|ah<|ai<|bL (ι:=PdSt ([]:L8)) (fun x=>[(0,.slice a (List.length ([]:L8)) cap),(3,.slice (spt x.b) (PD ([]:L8) x.k).length x.c.length)]) (fun x=>[(3,x.b,x.c,5)]) (fun x=>nz ([]:L8)-x.k) ⟨0,b9,c9,by unfold nz;rw[Nat.zero_add,Nat.add_zero],l9,t9⟩ hGF trv trv<|?_
  intro x
  have hk:=x.hk
  have hln:=yK ([]:L8) x.k
  clear l9 t9
  refine ah<|Xp<|Mv rfl<|bi rfl (fun _=>aI underlying22 _ _ _ _) rfl rfl<|cy (v:=I (((PD ([]:L8) x.k).length % 64:Nat):Int)) rfl rfl (fun _=>rfl) (fun _=>cV _ _ _ dc) rfl rfl<|Bnr rfl rfl (fun _=>bF _ _ _)<|aa<|?_
  refine bG rfl (fun hc=> ?_) (fun hc=> ?_)
  ·have hne:(PD ([]:L8) x.k).length % 64≠56:=by have:=bne_iff_ne.1 hc;omega
   refine aq<|ai<|Xq<|Mv rfl<|ek 15 [0#8] hGF rfl rfl rfl dc dc underlying22 sizeOf5 zeroValue5 rfl rfl<|?_
   intro b15
   refine cu (xs:=PD ([]:L8) x.k) (ys:=[0#8]) 3 hGF rfl rfl underlying22 underlying22 ti5 (.inr ⟨x.b,x.c,rfl,rfl,rfl,x.h1,x.h2⟩) (fun w' h=>BytesAt.range (aH (n:=15) rfl w' h)) (by show (PD ([]:L8) x.k).length+1≤_;rw[hln];unfold nz at hk;omega) rfl rfl (fun h0=> ?_) (fun b16 c16 cap16 e16 l16 t16=> ?_)
   ·simp at h0
   subst e16
   rw[A1]at l16 t16⊢
   refine Asg rfl<|aa<|?_
   repeat (refine aP ?_)
   exact aD<|⟨rfl,⟨x.k+1,b16,c16,by unfold nz at hk⊢;omega,l16,t16⟩,_,by show nz ([]:L8)-(x.k+1)<nz ([]:L8)-x.k;unfold nz at hk⊢;omega,rfl,trv,trv⟩
  ·obtain ⟨k,bb,cc,hk',h1,h2⟩:=x
   dsimp only at hc hk hln⊢
   obtain rfl:k=nz ([]:L8):=by
    have:=bne_eq_false_iff_eq.1 hc
    unfold nz at hk⊢
    omega
   clear hc hk hln hk'
   refine aW<|Xp<|Mv rfl<|bi rfl (fun _=>aI underlying22 _ _ _ _) rfl rfl<|ca rfl rfl (fun _=>f9 underlying3 underlying24 _) rfl rfl<|Bnr rfl rfl (fun _=>cr _ _ _)<|Asg rfl<|aa<|ah<|Xp<|Asg rfl<|aa<|ai<|bL (ι:=PeSt ([]:L8) (BitVec.ofInt 64 (List.length ([]:L8))*8#64)) (fun y=>[(3,.slice (spt y.b) (PE ([]:L8) (BitVec.ofInt 64 (List.length ([]:L8))*8#64) y.j).length y.c.length),(4,U64 (BitVec.ofInt 64 (List.length ([]:L8))*8#64)),(5,I (7-(y.j:Int)))]) (fun y=>[(3,y.b,y.c,5)]) (fun y=>8-y.j) ⟨0,bb,cc,dc,h1,h2⟩ hGF trv trv<|?_
   clear h1 h2
   intro x
   have hj:=x.hj
   refine ah<|Xp<|Mv rfl<|Bnr rfl rfl (fun _=>df _ _ _)<|aa<|?_
   refine bG rfl (fun hc=> ?_) (fun hc=> ?_)
   ·simp only[decide_eq_true_eq]at hc
    refine aq<|ah<|ai<|Xq<|Mv rfl<|Mv rfl<|Mv rfl<|Bnr rfl rfl (fun _=>bB _ _ _ oi)<|Bnr rfl rfl (fun _=>cZ _ _ _ om)<|ca rfl rfl (fun _=>eV underlying24 underlying5 _) rfl rfl<|ek 31 [nb (BitVec.ofInt 64 (List.length ([]:L8))*8#64) x.j] hGF rfl rfl rfl dc dc underlying22 sizeOf5 zeroValue5 rfl rfl<|?_
    intro b31
    refine cu (xs:=PE ([]:L8) (BitVec.ofInt 64 (List.length ([]:L8))*8#64) x.j) (ys:=[nb (BitVec.ofInt 64 (List.length ([]:L8))*8#64) x.j]) 3 hGF rfl rfl underlying22 underlying22 ti5 (.inr ⟨x.b,x.c,rfl,rfl,rfl,x.h1,x.h2⟩) (fun w' h=>BytesAt.range (aH (n:=31) rfl w' h)) (by show (PE ([]:L8) (BitVec.ofInt 64 (List.length ([]:L8))*8#64) x.j).length+1≤_;rw[n5];unfold nz;omega) rfl rfl (fun h0=> ?_) (fun b32 c32 cap32 e32 l32 t32=> ?_)
    ·simp at h0
    subst e32
    refine Asg rfl<|aa<|Xq<|Mv rfl<|Bnr rfl rfl (fun _=>aX _ _ _ oi)<|Asg rfl<|aa<|?_
    repeat (refine aP ?_)
    exact aD<|⟨rfl,⟨x.j+1,b32,c32,om,l32,t32⟩,_,by show 8-(x.j+1)<8-x.j;omega,rfl,⟨rfl,rfl,congrArg (fun z=>some (I z)) (by show 7-(x.j:Int)-1=7-((x.j+1:Nat):Int);omega),trivial⟩,trv⟩
   ·simp only[decide_eq_false_iff_not]at hc
    refine aW<|Xp<|Mv rfl<|Asg rfl<|aa<|am<|Rr<|?_
    have h8:x.j=8:=om
    obtain ⟨j,b,c,hj',h1,h2⟩:=x
    dsimp only at h8
    subst h8
    exact aG rfl rfl (fun w hw=>⟨_,rfl,ac hw,.inr ⟨b,c,_,rfl,(hw.own 3 b _ _ rfl).2.elim id False.elim,(hw.own 3 b _ _ rfl).1,rfl,h1,h2⟩⟩)
 ·subst e7
  refine ek 8 [128#8] hGF rfl rfl rfl dc dc underlying22 sizeOf5 zeroValue5 rfl rfl ?_
  intro b8
  refine cu (xs:=bs) (ys:=[128#8]) 3 hGF rfl rfl underlying22 underlying22 ti5 (.inr ⟨b7,c7,rfl,rfl,rfl,l7,t7⟩) (fun w' h=>BytesAt.range (aH (n:=8) rfl w' h)) (by show bs.length+1≤_;omega) rfl rfl (fun h0=> ?_) (fun b9 c9 cap9 e9 l9 t9=> ?_)
  ·simp at h0
  subst e9
  refine Asg rfl<|aa<|ah<|ai<|bL (ι:=PdSt bs) (fun x=>[(0,.slice a (List.length bs) cap),(3,.slice (spt x.b) (PD bs x.k).length x.c.length)]) (fun x=>[(3,x.b,x.c,5)]) (fun x=>nz bs-x.k) ⟨0,b9,c9,by unfold nz;rw[Nat.zero_add,Nat.add_zero],l9,t9⟩ hGF trv trv<|?_
  intro x
  have hk:=x.hk
  have hln:=yK bs x.k
  clear l9 t9
  refine ah<|Xp<|Mv rfl<|bi rfl (fun _=>aI underlying22 _ _ _ _) rfl rfl<|Bnr (v:=I (((PD bs x.k).length % 64:Nat):Int)) rfl rfl (fun _=>cV _ _ _ dc)<|Bnr rfl rfl (fun _=>bF _ _ _)<|aa<|?_
  refine bG rfl (fun hc=> ?_) (fun hc=> ?_)
  ·have hne:(PD bs x.k).length % 64≠56:=by have:=bne_iff_ne.1 hc;omega
   refine aq<|ai<|Xq<|Mv rfl<|ek 15 [0#8] hGF rfl rfl rfl dc dc underlying22 sizeOf5 zeroValue5 rfl rfl<|?_
   intro b15
   refine cu (xs:=PD bs x.k) (ys:=[0#8]) 3 hGF rfl rfl underlying22 underlying22 ti5 (.inr ⟨x.b,x.c,rfl,rfl,rfl,x.h1,x.h2⟩) (fun w' h=>BytesAt.range (aH (n:=15) rfl w' h)) (by show (PD bs x.k).length+1≤_;rw[hln];unfold nz at hk;omega) rfl rfl (fun h0=> ?_) (fun b16 c16 cap16 e16 l16 t16=> ?_)
   ·simp at h0
   subst e16
   rw[A1]at l16 t16⊢
   refine Asg rfl<|aa<|?_
   repeat (refine aP ?_)
   exact aD<|⟨rfl,⟨x.k+1,b16,c16,by unfold nz at hk⊢;omega,l16,t16⟩,_,by show nz bs-(x.k+1)<nz bs-x.k;unfold nz at hk⊢;omega,rfl,trv,trv⟩
  ·obtain ⟨k,bb,cc,hk',h1,h2⟩:=x
   dsimp only at hc hk hln⊢
   obtain rfl:k=nz bs:=by
    have:=bne_eq_false_iff_eq.1 hc
    unfold nz at hk⊢
    omega
   clear hc hk hln hk'
   refine aW<|Xp<|Mv rfl<|bi rfl (fun _=>aI underlying22 _ _ _ _) rfl rfl<|ca rfl rfl (fun _=>f9 underlying3 underlying24 _) rfl rfl<|Bnr rfl rfl (fun _=>cr _ _ _)<|Asg rfl<|aa<|ah<|Xp<|Asg rfl<|aa<|ai<|bL (ι:=PeSt bs (BitVec.ofInt 64 bs.length*8#64)) (fun y=>[(3,.slice (spt y.b) (PE bs (BitVec.ofInt 64 bs.length*8#64) y.j).length y.c.length),(4,U64 (BitVec.ofInt 64 bs.length*8#64)),(5,I (7-(y.j:Int)))]) (fun y=>[(3,y.b,y.c,5)]) (fun y=>8-y.j) ⟨0,bb,cc,dc,h1,h2⟩ hGF trv trv<|?_
   clear h1 h2
   intro x
   have hj:=x.hj
   refine ah<|Xp<|Mv rfl<|Bnr rfl rfl (fun _=>df _ _ _)<|aa<|?_
   refine bG rfl (fun hc=> ?_) (fun hc=> ?_)
   ·simp only[decide_eq_true_eq]at hc
    refine aq<|ah<|ai<|Xq<|Mv rfl<|Mv rfl<|Mv rfl<|Bnr rfl rfl (fun _=>bB _ _ _ oi)<|Bnr rfl rfl (fun _=>cZ _ _ _ om)<|ca rfl rfl (fun _=>eV underlying24 underlying5 _) rfl rfl<|ek 31 [nb (BitVec.ofInt 64 bs.length*8#64) x.j] hGF rfl rfl rfl dc dc underlying22 sizeOf5 zeroValue5 rfl rfl<|?_
    intro b31
    refine cu (xs:=PE bs (BitVec.ofInt 64 bs.length*8#64) x.j) (ys:=[nb (BitVec.ofInt 64 bs.length*8#64) x.j]) 3 hGF rfl rfl underlying22 underlying22 ti5 (.inr ⟨x.b,x.c,rfl,rfl,rfl,x.h1,x.h2⟩) (fun w' h=>BytesAt.range (aH (n:=31) rfl w' h)) (by show (PE bs (BitVec.ofInt 64 bs.length*8#64) x.j).length+1≤_;rw[n5];unfold nz;omega) rfl rfl (fun h0=> ?_) (fun b32 c32 cap32 e32 l32 t32=> ?_)
    ·simp at h0
    subst e32
    refine Asg rfl<|aa<|Xq<|Mv rfl<|Bnr rfl rfl (fun _=>aX _ _ _ oi)<|Asg rfl<|aa<|?_
    repeat (refine aP ?_)
    exact aD<|⟨rfl,⟨x.j+1,b32,c32,om,l32,t32⟩,_,by show 8-(x.j+1)<8-x.j;omega,rfl,⟨rfl,rfl,congrArg (fun z=>some (I z)) (by show 7-(x.j:Int)-1=7-((x.j+1:Nat):Int);omega),trivial⟩,trv⟩
   ·simp only[decide_eq_false_iff_not]at hc
    refine aW<|Xp<|Mv rfl<|Asg rfl<|aa<|am<|Rr<|?_
    have h8:x.j=8:=om
    obtain ⟨j,b,c,hj',h1,h2⟩:=x
    dsimp only at h8
    subst h8
    exact aG rfl rfl (fun w hw=>⟨_,rfl,ac hw,.inr ⟨b,c,_,rfl,(hw.own 3 b _ _ rfl).2.elim id False.elim,(hw.own 3 b _ _ rfl).1,rfl,h1,h2⟩⟩)
end Sh
end
section
open Go.RowKit
namespace Sh
theorem zv94: ∀w,(zeroValue 94).run prog w=.ok (.agg ((List.replicate 72 0#32).map U32).toArray) w:=fun _=>kr
def MK:L3:=IV++KW
theorem zY:PUR 41 [] (.tuple #[.agg (IV.map U32).toArray,.agg (KW.map U32).toArray]):=by
 intro w hw
 refine Hf func41 rfl hw<|fun hGF=>Xp<|Al 0 hGF zv91<|fun b0=>Al 1 hGF zv92<|fun b1=>aa<|Xp<|bV (n:=8) rfl rfl underlying91 sizeOf90 zeroValue91 rfl rfl rfl rfl<|bV (n:=64) rfl rfl underlying92 sizeOf90 zeroValue92 rfl rfl rfl rfl<|aw (vs:=IV.map U32) 0 hGF rfl rfl rfl sizeOf91 rfl (by rw[List.length_map,List.length_replicate]) (eT _) rfl<|aw (vs:=KW.map U32) 1 hGF rfl rfl rfl sizeOf92 rfl (by rw[List.length_map,List.length_replicate]) (eT _) rfl<|aa<|am<|Rr<|?_
 exact E3 (c1:=IV.map U32) (c2:=KW.map U32) 0 1 rfl rfl rfl rfl rfl isAgg91 sizeOf91 rfl isAgg92 sizeOf92 rfl (fun w hw=>⟨rfl,ac hw⟩)
theorem DQ(w:World)(hw:Gt w):CLS 10 [].toArray w (fun e w'=> ∃bm,e=.returned (pnt bm)∧Grow w w'∧w.heap.size≤bm∧OwnB w' bm (MK.map U32) 94):=by
 refine Hf func10 rfl hw<|fun hGF=>Xp<|Asg rfl<|aa<|Xp<|eM zv94 underlying94 (fun _=>⟨#[(0,8),(8,64)],kr⟩) rfl rfl<|Bx 3 hGF rfl<|fun b3=>Asg rfl<|aa<|Xp<|Mv rfl<|Mv rfl<|Ca rfl (zY)<|Mv rfl<|Ext rfl rfl<|Ext rfl rfl<|dN rfl rfl rfl<|Fa 0 rfl underlying94 rfl sizeOf91<|gh (vs:=IV.map U32) 3 hGF rfl rfl rfl sizeOf91 rfl (eT _) dc rfl<|dN rfl rfl rfl<|Fa 8 rfl underlying94 rfl sizeOf92<|gh (vs:=KW.map U32) 3 hGF rfl rfl rfl sizeOf92 rfl (eT _) dc rfl<|?_
 rw[show lay 8 (KW.map U32) (lay 0 (IV.map U32) ((List.replicate 72 0#32).map U32))=MK.map U32 from rfl]
 refine aa<|Xp<|Mv rfl<|Asg rfl<|aa<|am<|Rr<|?_
 exact aG rfl rfl (fun w hw=>⟨b3,rfl,ac hw,(hw.own 3 b3 _ _ rfl).2.elim id False.elim,(hw.own 3 b3 _ _ rfl).1⟩)
end Sh
end
section
open Go.RowKit
set_option maxHeartbeats 2000000
namespace Sh
theorem DK(xs:L8)(tail:List Value)(i:Nat)(h:i<xs.length):(xs.map U8++tail)[i]? =some (U8 (xs.getD i 0)):=by
 rw[List.getElem?_append_left (by simpa using h)]
 exact gm U8 xs 0 i h
def wk(p:L8)(o:Nat)(x:BitVec 32):Nat→BitVec 32
 |0=>x
 |k+1=>(wk p o x k<<<8)|||(p.getD (o+k) 0).setWidth 32
def V1(p:L8)(q:Nat):Nat→L3
 |0=>List.replicate 64 0#32
 |i+1=>(V1 p q i).set i (wk p (q+4*i) ((V1 p q i).getD i 0) 4)
theorem nQ(p:L8)(q:Nat): ∀i,(V1 p q i).length=64
 |0=>by simp[V1]
 |i+1=>by simp[V1,nQ p q i]
theorem rU(l:L3)(i:Nat)(h:i<l.length):l=l.set i (l.getD i 0):=by
 have e:l.getD i 0=l[i]:=by simp[h]
 rw[e,List.set_getElem_self]
theorem rW(l:L3)(i:Nat)(x:BitVec 32)(h:i<l.length):(l.set i x).getD i 0=x:=by simp[h]
def r0(x:BitVec 32):BitVec 32:=turn x 7^^^turn x 18^^^(x>>>3)
def r1(x:BitVec 32):BitVec 32:=turn x 17^^^turn x 19^^^(x>>>10)
def r5(ws:L3)(i:Nat):BitVec 32:=ws.getD (i-16) 0+r0 (ws.getD (i-15) 0)+ws.getD (i-7) 0+r1 (ws.getD (i-2) 0)
def V2(p:L8)(q:Nat):Nat→L3
 |0=>V1 p q 16
 |j+1=>(V2 p q j).set (16+j) (r5 (V2 p q j) (16+j))
theorem mz(p:L8)(q:Nat): ∀j,(V2 p q j).length=64
 |0=>nQ p q 16
 |j+1=>by simp[V2,mz p q j]
def rt(v:L3)(k w:BitVec 32):BitVec 32:=v.getD 7 0+(turn (v.getD 4 0) 6^^^turn (v.getD 4 0) 11^^^turn (v.getD 4 0) 25)+((v.getD 4 0 &&& v.getD 5 0)^^^(~~~(v.getD 4 0) &&& v.getD 6 0))+k+w
def ru(v:L3):BitVec 32:=(turn (v.getD 0 0) 2^^^turn (v.getD 0 0) 13^^^turn (v.getD 0 0) 22)+((v.getD 0 0 &&& v.getD 1 0)^^^(v.getD 0 0 &&& v.getD 2 0)^^^(v.getD 1 0 &&& v.getD 2 0))
def rr(v:L3)(k w:BitVec 32):L3:=[rt v k w+ru v,v.getD 0 0,v.getD 1 0,v.getD 2 0,v.getD 3 0+rt v k w,v.getD 4 0,v.getD 5 0,v.getD 6 0]
def RRs(h ws:L3):Nat→L3
 |0=>h
 |j+1=>rr (RRs h ws j) (MK.getD (8+j) 0) (ws.getD j 0)
theorem dM(h ws:L3)(hh:h.length=8): ∀j,(RRs h ws j).length=8
 |0=>hh
 |_+1=>rfl
def HAs(h v:L3):Nat→L3
 |0=>h
 |i+1=>(HAs h v i).set i ((HAs h v i).getD i 0+v.getD i 0)
theorem pu(h v:L3): ∀j,(HAs h v j).length=h.length
 |0=>rfl
 |i+1=>by simp[HAs,pu h v i]
def RK(p:L8):Nat→L3
 |0=>IV
 |k+1=>HAs (RK p k) (RRs (RK p k) (V2 p (64*k) 48) 64) 8
theorem dd(p:L8): ∀k,(RK p k).length=8
 |0=>rfl
 |k+1=>by rw[RK,pu,dd p k]
def OD(h:L3):Nat→L8
 |0=>List.replicate 32 0#8
 |i+1=>(OD h i).set i ((h.getD (i / 4) 0>>>(24-8*((i % 4:Nat):Int)).toNat).setWidth 8)
theorem rY(h:L3): ∀j,(OD h j).length=32
 |0=>by simp[OD]
 |i+1=>by simp[OD,rY h i]
def K8(bs:L8):L8:=OD (RK (PAD bs) ((PAD bs).length / 64)) 32
theorem cf:MK.length=72:=rfl
theorem KE(bs:L8):(PAD bs).length % 64=0:=by
 rw[PAD,n5]
 unfold nz
 omega
theorem zD(bm:Nat)(a:Option Addr)(cap:Nat)(bs:L8)(hl:bs.length≤70368744170000)(w:World)(hw:Gt w)(ho:OwnB w bm (MK.map U32) 94)(hby:BytesAt w a bs):
 CLS 133 [pnt bm,.slice a bs.length cap].toArray w (fun e w'=>e=.returned (.agg ((K8 bs).map U8).toArray)∧Grow w w'):=by
 refine Hf func133 rfl hw<|fun hGF=>ae (E:=EE [182])<|Al 4 hGF zv98<|fun b4=>aa<|ae (E:=EE [182])<|Mv rfl<|dN rfl rfl rfl<|Fa 0 rfl underlying94 rfl sizeOf91<|?_
 refine da rfl isAgg91 sizeOf91 (cs:=IV.map U32) rfl (eX (B:=pl w) (sX ho (fun j v hv=>by rw[Nat.zero_add];show (MK.map U32)[j]? =some v;rw[MK,List.map_append,List.getElem?_append_left (by rcases Nat.lt_or_ge j (IV.map U32).length with h|h;exact h;rw[List.getElem?_eq_none h]at hv;cases hv)];exact hv)) (fun h=>h)) rfl rfl ?_
 refine Al 5 hGF zv91<|fun b5=>aw (vs:=IV.map U32) 5 hGF rfl rfl rfl sizeOf91 rfl (by rw[List.length_map,List.length_replicate]) (eT _) rfl<|aa<|ae (E:=EE [182])<|Mv rfl<|?_
 refine dz rfl rfl ent182 rfl rfl (fun w' hw'=>(D6 _ _ bs hl w' (hGF.g _ _ _ hw') (hby.grow (ac hw'))).mono fun e w'' h=> ?_)
 obtain ⟨sv,rfl,hg,hcl⟩:=h
 rcases hcl with ⟨h0,_⟩|⟨b6,c,cap6,rfl,hb6,hob,hcc,hle,htk⟩
 ·exact absurd (congrArg List.length h0) (by rw[PAD,n5];simp)
 have hm64:=KE bs
 have hpl:(PAD bs).length≤bs.length+200:=by rw[PAD,n5];unfold nz;omega
 rw[show K8 bs=OD (RK (PAD bs) ((PAD bs).length / 64)) 32 from rfl]
 generalize PAD bs=p at hle htk hm64 hpl⊢
 refine ⟨_,_,rfl,aA hGF,hw'.news ao hg [(6,b6,c,5)] ?_ bX, ?_⟩
 ·intro n' b' c' t' hl
  rcases aL hl with ⟨_,e⟩|⟨_,hl⟩
  ·cases e;exact ⟨hb6,hob⟩
  ·cases hl
 obtain ⟨tail,rfl⟩: ∃tail,c=p.map U8++tail:=⟨c.drop p.length,by rw[←htk,List.take_append_drop]⟩
 clear hw' hg hb6 hob hcc htk
 refine Asg rfl<|aa<|ah<|ae (E:=EE [182])<|Asg rfl<|aa<|ai<|bL (ι:={k:Nat // 64*k≤p.length}) (fun x=>[(0,pnt bm),(4,pnt b4),(5,pnt b5),(6,.slice (spt b6) p.length cap6),(7,I ((64*x.1:Nat):Int))]) (fun x=>[(4,b4,(List.replicate 32 0#8).map U8,98),(6,b6,p.map U8++tail,5),(5,b5,(RK p x.1).map U32,91)]) (fun x=>p.length-x.1) ⟨0,om⟩ hGF trv trv<|?_
 rintro ⟨k,hk⟩
 dsimp only
 refine ah<|ae (E:=EE [182])<|Mv rfl<|Mv rfl<|bi rfl (fun _=>aI underlying22 _ _ _ _) rfl rfl<|Bnr rfl rfl (fun _=>az _ _ _)<|aa<|?_
 refine bG rfl (fun hc=> ?_) (fun hc=> ?_)
 ·simp only[decide_eq_true_eq]at hc
  have hk64:64*k+64≤p.length:=om
  refine aq<|ah<|ai<|ae (E:=EE [182])<|Al 8 hGF zv92<|fun b8=>aa<|ah<|ae (E:=EE [182])<|Asg rfl<|aa<|ai<|bL (ι:={i:Nat // i≤16}) (fun x=>[(0,pnt bm),(4,pnt b4),(5,pnt b5),(6,.slice (spt b6) p.length cap6),(7,I ((64*k:Nat):Int)),(8,pnt b8),(9,I (x.1:Int))]) (fun x=>[(4,b4,(List.replicate 32 0#8).map U8,98),(6,b6,p.map U8++tail,5),(5,b5,(RK p k).map U32,91),(8,b8,(V1 p (64*k) x.1).map U32,92)]) (fun x=>16-x.1) ⟨0,om⟩ hGF trv trv<|?_
  rintro ⟨i,hi⟩
  dsimp only
  refine ah<|ae (E:=EE [182])<|Mv rfl<|Bnr rfl rfl (fun _=>az _ _ _)<|aa<|?_
  refine bG rfl (fun hc=> ?_) (fun hc=> ?_)
  ·simp only[decide_eq_true_eq]at hc
   refine aq<|ah<|ai<|ae (E:=EE [182])<|Asg rfl<|aa<|ai<|bL (ι:={m:Nat // m≤4}) (fun x=>[(0,pnt bm),(4,pnt b4),(5,pnt b5),(6,.slice (spt b6) p.length cap6),(7,I ((64*k:Nat):Int)),(8,pnt b8),(9,I (i:Int)),(10,I (x.1:Int))]) (fun x=>[(4,b4,(List.replicate 32 0#8).map U8,98),(6,b6,p.map U8++tail,5),(5,b5,(RK p k).map U32,91),(8,b8,((V1 p (64*k) i).set i (wk p (64*k+4*i) ((V1 p (64*k) i).getD i 0) x.1)).map U32,92)]) (fun x=>4-x.1) ⟨0,om⟩ hGF trv ⟨rfl,rfl,rfl,congrArg (fun l=>some (b8,List.map U32 l,92)) (rU _ i (by rw[nQ];omega)),trivial⟩<|?_
   rintro ⟨m,hm⟩
   dsimp only
   refine ah<|ae (E:=EE [182])<|Mv rfl<|Bnr rfl rfl (fun _=>az _ _ _)<|aa<|?_
   refine bG rfl (fun hc=> ?_) (fun hc=> ?_)
   ·simp only[decide_eq_true_eq]at hc
    have hq:64*k+4*i+m<p.length:=om
    refine aq<|ah<|ai<|Xe [182]<|Mv rfl<|Mv rfl<|Ia (i) rfl rfl underlying92 sizeOf90<|Lm 8 U32 0 rfl rfl isAgg90 (by rw[List.length_set,nQ];omega)<|?_
    rw[rW _ _ _ (by rw[nQ];omega)]
    refine Bnr rfl rfl (fun _=>io _ _ _)<|Mv rfl<|Mv rfl<|Mv rfl<|Bnr rfl rfl (fun _=>bB _ _ _ oi)<|Bnr rfl rfl (fun _=>au _ _ _ oi)<|Mv rfl<|Bnr rfl rfl (fun _=>au _ _ _ oi)<|fP (64*k+4*i+m) rfl rfl underlying22 sizeOf5 om hq rfl rfl<|?_
    rw[Nat.zero_add]
    refine cT 6 rfl rfl (DK p tail (64*k+4*i+m) hq) isAgg5 rfl rfl<|ca rfl rfl (fun _=>ir underlying5 underlying90 _) rfl rfl<|Bnr rfl rfl (fun _=>gT _ _ _)<|Ia (i) rfl rfl underlying92 sizeOf90<|aV 8 U32 hGF rfl rfl rfl sizeOf90 rfl (by rw[List.length_set,nQ];omega) rfl<|?_
    rw[List.set_set]
    refine aa<|bN (E:=EE [182])<|Mv rfl<|Bnr rfl rfl (fun _=>au _ _ _ oi)<|Asg rfl<|aa<|?_
    repeat (refine aP ?_)
    exact aD<|⟨rfl,⟨m+1,om⟩,_,by show 4-(m+1)<4-m;omega,rfl,trv,trv⟩
   ·obtain rfl:m=4:=by simp at hc;omega
    refine aW<|bN (E:=EE [182])<|Mv rfl<|Bnr rfl rfl (fun _=>au _ _ _ oi)<|Asg rfl<|aa<|?_
    repeat (refine aP ?_)
    exact aD<|⟨rfl,⟨i+1,om⟩,_,by show 16-(i+1)<16-i;omega,rfl,trv,trv⟩
  ·obtain rfl:i=16:=by simp at hc;omega
   refine aW<|ah<|ae (E:=EE [182])<|Asg rfl<|aa<|ai<|bL (ι:={j:Nat // j≤48}) (fun x=>[(0,pnt bm),(4,pnt b4),(5,pnt b5),(6,.slice (spt b6) p.length cap6),(7,I ((64*k:Nat):Int)),(8,pnt b8),(11,I ((16+x.1:Nat):Int))]) (fun x=>[(4,b4,(List.replicate 32 0#8).map U8,98),(6,b6,p.map U8++tail,5),(5,b5,(RK p k).map U32,91),(8,b8,(V2 p (64*k) x.1).map U32,92)]) (fun x=>48-x.1) ⟨0,om⟩ hGF trv trv<|?_
   rintro ⟨j,hj⟩
   dsimp only
   refine ah<|ae (E:=EE [182])<|Mv rfl<|Bnr rfl rfl (fun _=>az _ _ _)<|aa<|?_
   refine bG rfl (fun hc=> ?_) (fun hc=> ?_)
   ·simp only[decide_eq_true_eq]at hc
    refine aq<|ah<|ai<|Xd [182]<|Mv rfl<|Bnr rfl rfl (fun _=>aX _ _ _ oi)<|Ia (((16+j)-15)) rfl rfl underlying92 sizeOf90<|Lm 8 U32 0 rfl rfl isAgg90 (by rw[mz];omega)<|Mv rfl<|Bnr rfl rfl (fun _=>aX _ _ _ oi)<|Ia (((16+j)-2)) rfl rfl underlying92 sizeOf90<|Lm 8 U32 0 rfl rfl isAgg90 (by rw[mz];omega)<|Asg rfl<|Asg rfl<|aa<|Xe [182]<|Mv rfl<|Mv rfl<|Bnr rfl rfl (fun _=>aX _ _ _ oi)<|Ia (((16+j)-16)) rfl rfl underlying92 sizeOf90<|Lm 8 U32 0 rfl rfl isAgg90 (by rw[mz];omega)<|Mv rfl<|Ca rfl (eJ _ _ om om)<|Mv rfl<|Ca rfl (eJ _ _ om om)<|Bnr rfl rfl (fun _=>bS _ _ _)<|Mv rfl<|Bnr rfl rfl (fun _=>eD _ _ _)<|Bnr rfl rfl (fun _=>bS _ _ _)<|Bnr rfl rfl (fun _=>bj _ _ _)<|Mv rfl<|Bnr rfl rfl (fun _=>aX _ _ _ oi)<|Ia (((16+j)-7)) rfl rfl underlying92 sizeOf90<|Lm 8 U32 0 rfl rfl isAgg90 (by rw[mz];omega)<|Bnr rfl rfl (fun _=>bj _ _ _)<|Mv rfl<|Ca rfl (eJ _ _ om om)<|Mv rfl<|Ca rfl (eJ _ _ om om)<|Bnr rfl rfl (fun _=>bS _ _ _)<|?_
    refine Mv rfl<|Bnr rfl rfl (fun _=>eD _ _ _)<|Bnr rfl rfl (fun _=>bS _ _ _)<|Bnr rfl rfl (fun _=>bj _ _ _)<|Ia ((16+j)) rfl rfl underlying92 sizeOf90<|aV 8 U32 hGF rfl rfl rfl sizeOf90 rfl (by rw[mz];omega) rfl<|aa<|bN (E:=EE [182])<|Mv rfl<|Bnr rfl rfl (fun _=>au _ _ _ oi)<|Asg rfl<|aa<|?_
    repeat (refine aP ?_)
    exact aD<|⟨rfl,⟨j+1,om⟩,_,by show 48-(j+1)<48-j;omega,rfl,trv,trv⟩
   ·obtain rfl:j=48:=by simp at hc;omega
    refine aW<|ae (E:=EE [182])<|Lw 5 rfl rfl sB (dd _ _)<|Al 14 hGF zv91<|fun b14=>Sx 14 hGF rfl rfl rfl sB (dd p k) (eT _)<|aa<|ah<|ae (E:=EE [182])<|Asg rfl<|aa<|ai<|bL (ι:={r:Nat // r≤64}) (fun x=>[(0,pnt bm),(4,pnt b4),(5,pnt b5),(6,.slice (spt b6) p.length cap6),(7,I ((64*k:Nat):Int)),(8,pnt b8),(14,pnt b14),(15,I (x.1:Int))]) (fun x=>[(4,b4,(List.replicate 32 0#8).map U8,98),(6,b6,p.map U8++tail,5),(5,b5,(RK p k).map U32,91),(8,b8,(V2 p (64*k) 48).map U32,92),(14,b14,(RRs (RK p k) (V2 p (64*k) 48) x.1).map U32,91)]) (fun x=>64-x.1) ⟨0,om⟩ hGF trv trv<|?_
    rintro ⟨r,hr⟩
    dsimp only
    refine ah<|ae (E:=EE [182])<|Mv rfl<|Bnr rfl rfl (fun _=>az _ _ _)<|aa<|?_
    refine bG rfl (fun hc=> ?_) (fun hc=> ?_)
    ·simp only[decide_eq_true_eq]at hc
     refine aq<|ah<|ai<|Xd [182]<|Ia (4) rfl rfl underlying91 sizeOf90<|Lm 14 U32 0 rfl rfl isAgg90 (by rw[dM _ _ (dd p k)];omega)<|Ia (0) rfl rfl underlying91 sizeOf90<|Lm 14 U32 0 rfl rfl isAgg90 (by rw[dM _ _ (dd p k)];omega)<|Asg rfl<|Asg rfl<|aa<|Xd [182]<|Ia (7) rfl rfl underlying91 sizeOf90<|Lm 14 U32 0 rfl rfl isAgg90 (by rw[dM _ _ (dd p k)];omega)<|Mv rfl<|Ca rfl (eJ _ _ om om)<|Mv rfl<|Ca rfl (eJ _ _ om om)<|Bnr rfl rfl (fun _=>bS _ _ _)<|Mv rfl<|Ca rfl (eJ _ _ om om)<|Bnr rfl rfl (fun _=>bS _ _ _)<|Bnr rfl rfl (fun _=>bj _ _ _)<|Mv rfl<|Ia (5) rfl rfl underlying91 sizeOf90<|Lm 14 U32 0 rfl rfl isAgg90 (by rw[dM _ _ (dd p k)];omega)<|Bnr rfl rfl (fun _=>du _ _ _)<|Mv rfl<|bu rfl (fun _=>qB _) rfl rfl<|Ia (6) rfl rfl underlying91 sizeOf90<|Lm 14 U32 0 rfl rfl isAgg90 (by rw[dM _ _ (dd p k)];omega)<|Bnr rfl rfl (fun _=>du _ _ _)<|Bnr rfl rfl (fun _=>bS _ _ _)<|Bnr rfl rfl (fun _=>bj _ _ _)<|Mv rfl<|Mv rfl<|dN rfl rfl rfl<|Fa 8 rfl underlying94 rfl sizeOf92<|FX (r) rfl rfl underlying92 sizeOf90 om om rfl rfl<|bT rfl isAgg90 (mM (B:=pl w) ((ho.cell (8+r)).trans (gm U32 MK 0 (8+r) (by rw[cf];omega))) (fun h=>h)) rfl rfl<|?_
     refine Bnr rfl rfl (fun _=>bj _ _ _)<|Mv rfl<|Ia (r) rfl rfl underlying92 sizeOf90<|Lm 8 U32 0 rfl rfl isAgg90 (by rw[mz];omega)<|Bnr rfl rfl (fun _=>bj _ _ _)<|Asg rfl<|aa<|Xd [182]<|Mv rfl<|Ca rfl (eJ _ _ om om)<|Mv rfl<|Ca rfl (eJ _ _ om om)<|Bnr rfl rfl (fun _=>bS _ _ _)<|Mv rfl<|Ca rfl (eJ _ _ om om)<|Bnr rfl rfl (fun _=>bS _ _ _)<|Mv rfl<|Ia (1) rfl rfl underlying91 sizeOf90<|Lm 14 U32 0 rfl rfl isAgg90 (by rw[dM _ _ (dd p k)];omega)<|Bnr rfl rfl (fun _=>du _ _ _)<|Mv rfl<|Ia (2) rfl rfl underlying91 sizeOf90<|Lm 14 U32 0 rfl rfl isAgg90 (by rw[dM _ _ (dd p k)];omega)<|Bnr rfl rfl (fun _=>du _ _ _)<|Bnr rfl rfl (fun _=>bS _ _ _)<|Ia (1) rfl rfl underlying91 sizeOf90<|Lm 14 U32 0 rfl rfl isAgg90 (by rw[dM _ _ (dd p k)];omega)<|Ia (2) rfl rfl underlying91 sizeOf90<|Lm 14 U32 0 rfl rfl isAgg90 (by rw[dM _ _ (dd p k)];omega)<|Bnr rfl rfl (fun _=>du _ _ _)<|Bnr rfl rfl (fun _=>bS _ _ _)<|Bnr rfl rfl (fun _=>bj _ _ _)<|Asg rfl<|aa<|bN (E:=EE [182])<|Mv rfl<|Mv rfl<|Bnr rfl rfl (fun _=>bj _ _ _)<|Ia (0) rfl rfl underlying91 sizeOf90<|Lm 14 U32 0 rfl rfl isAgg90 (by rw[dM _ _ (dd p k)];omega)<|?_
     refine Ia (1) rfl rfl underlying91 sizeOf90<|Lm 14 U32 0 rfl rfl isAgg90 (by rw[dM _ _ (dd p k)];omega)<|Ia (2) rfl rfl underlying91 sizeOf90<|Lm 14 U32 0 rfl rfl isAgg90 (by rw[dM _ _ (dd p k)];omega)<|Ia (3) rfl rfl underlying91 sizeOf90<|Lm 14 U32 0 rfl rfl isAgg90 (by rw[dM _ _ (dd p k)];omega)<|Mv rfl<|Bnr rfl rfl (fun _=>bj _ _ _)<|Ia (4) rfl rfl underlying91 sizeOf90<|Lm 14 U32 0 rfl rfl isAgg90 (by rw[dM _ _ (dd p k)];omega)<|Ia (5) rfl rfl underlying91 sizeOf90<|Lm 14 U32 0 rfl rfl isAgg90 (by rw[dM _ _ (dd p k)];omega)<|Ia (6) rfl rfl underlying91 sizeOf90<|Lm 14 U32 0 rfl rfl isAgg90 (by rw[dM _ _ (dd p k)];omega)<|bV (n:=8) rfl rfl underlying91 sizeOf90 zeroValue91 rfl rfl rfl rfl<|aw 14 hGF rfl rfl rfl sizeOf91 rfl (by rw[List.length_map,dM _ _ (dd p k)]) rfl rfl<|aa<|bN (E:=EE [182])<|Mv rfl<|Bnr rfl rfl (fun _=>au _ _ _ oi)<|Asg rfl<|aa<|?_
     repeat (refine aP ?_)
     exact aD<|⟨rfl,⟨r+1,om⟩,_,by show 64-(r+1)<64-r;omega,rfl,trv,trv⟩
    ·obtain rfl:r=64:=by simp at hc;omega
     refine aW<|ae (E:=EE [182])<|Asg rfl<|aa<|ai<|bL (ι:={t:Nat // t≤8}) (fun x=>[(0,pnt bm),(4,pnt b4),(5,pnt b5),(6,.slice (spt b6) p.length cap6),(7,I ((64*k:Nat):Int)),(8,pnt b8),(14,pnt b14),(20,I (x.1:Int))]) (fun x=>[(4,b4,(List.replicate 32 0#8).map U8,98),(6,b6,p.map U8++tail,5),(5,b5,(HAs (RK p k) (RRs (RK p k) (V2 p (64*k) 48) 64) x.1).map U32,91),(14,b14,(RRs (RK p k) (V2 p (64*k) 48) 64).map U32,91)]) (fun x=>8-x.1) ⟨0,om⟩ hGF trv trv<|?_
     rintro ⟨t,ht⟩
     dsimp only
     refine ah<|ae (E:=EE [182])<|Mv rfl<|Bnr rfl rfl (fun _=>az _ _ _)<|aa<|?_
     refine bG rfl (fun hc=> ?_) (fun hc=> ?_)
     ·simp only[decide_eq_true_eq]at hc
      refine aq<|ah<|ai<|Xe [182]<|Mv rfl<|Ia (t) rfl rfl underlying91 sizeOf90<|Lm 5 U32 0 rfl rfl isAgg90 (by rw[pu,dd];omega)<|Mv rfl<|Ia (t) rfl rfl underlying91 sizeOf90<|Lm 14 U32 0 rfl rfl isAgg90 (by rw[dM _ _ (dd p k)];omega)<|Bnr rfl rfl (fun _=>bj _ _ _)<|Ia (t) rfl rfl underlying91 sizeOf90<|aV 5 U32 hGF rfl rfl rfl sizeOf90 rfl (by rw[pu,dd];omega) rfl<|aa<|bN (E:=EE [182])<|Mv rfl<|Bnr rfl rfl (fun _=>au _ _ _ oi)<|Asg rfl<|aa<|?_
      repeat (refine aP ?_)
      exact aD<|⟨rfl,⟨t+1,om⟩,_,by show 8-(t+1)<8-t;omega,rfl,trv,trv⟩
     ·obtain rfl:t=8:=by simp at hc;omega
      refine aW<|bN (E:=EE [182])<|Mv rfl<|Bnr rfl rfl (fun _=>au _ _ _ oi)<|Asg rfl<|aa<|?_
      repeat (refine aP ?_)
      exact aD<|⟨rfl,⟨k+1,om⟩,_,by show p.length-(k+1)<p.length-k;omega,rfl,trv,trv⟩
 ·simp only[decide_eq_false_iff_not]at hc
  obtain rfl:k=p.length / 64:=om
  clear hc hk
  refine aW<|ae (E:=EE [182])<|Al 21 hGF zv98<|fun b21=>aa<|ah<|ae (E:=EE [182])<|Asg rfl<|aa<|ai<|bL (ι:={i:Nat // i≤32}) (fun x=>[(4,pnt b4),(5,pnt b5),(21,pnt b21),(22,I (x.1:Int))]) (fun x=>[(4,b4,(List.replicate 32 0#8).map U8,98),(5,b5,(RK p (p.length / 64)).map U32,91),(21,b21,(OD (RK p (p.length / 64)) x.1).map U8,98)]) (fun x=>32-x.1) ⟨0,om⟩ hGF trv trv<|?_
  rintro ⟨i,hi⟩
  dsimp only
  refine ah<|ae (E:=EE [182])<|Mv rfl<|Bnr rfl rfl (fun _=>az _ _ _)<|aa<|?_
  refine bG rfl (fun hc=> ?_) (fun hc=> ?_)
  ·simp only[decide_eq_true_eq]at hc
   refine aq<|ah<|ai<|bN (E:=EE [182])<|Mv rfl<|Mv rfl<|Bnr (v:=I ((i / 4:Nat):Int)) rfl rfl (fun _=>fG _ _ _ dc (show inI ((i / 4:Nat):Int) by unfold inI;omega))<|Ia ((i / 4)) rfl rfl underlying91 sizeOf90<|Lm 5 U32 0 rfl rfl isAgg90 (by rw[dd];omega)<|Mv rfl<|Bnr (v:=I ((i % 4:Nat):Int)) rfl rfl (fun _=>cV _ _ _ dc)<|Bnr rfl rfl (fun _=>bB _ _ _ oi)<|Bnr rfl rfl (fun _=>aX _ _ _ oi)<|Bnr rfl rfl (fun _=>mm _ _ _ om)<|ca rfl rfl (fun _=>ii underlying90 underlying5 _) rfl rfl<|Ia (i) rfl rfl underlying98 sizeOf5<|aV 21 U8 hGF rfl rfl rfl sizeOf5 rfl (by rw[rY];omega) rfl<|aa<|bN (E:=EE [182])<|Mv rfl<|Bnr rfl rfl (fun _=>au _ _ _ oi)<|Asg rfl<|aa<|?_
   repeat (refine aP ?_)
   exact aD<|⟨rfl,⟨i+1,om⟩,_,by show 32-(i+1)<32-i;omega,rfl,trv,trv⟩
  ·obtain rfl:i=32:=by simp at hc;omega
   refine aW<|ae (E:=EE [182])<|Lw 21 rfl rfl wI (rY _ _)<|Sx 4 hGF rfl rfl rfl wI (rY _ _) (bH _)<|aa<|am<|Rr<|?_
   exact av 4 rfl rfl rfl isAgg98 sizeOf98 (by rw[List.length_map,rY]) (fun w hw=>⟨rfl,ac hw⟩)
end Sh
end
section
open Go.RowKit
namespace Sh
theorem YW(p:L8)(o:Nat):wk p o 0 4=((p.getD o 0).setWidth 32<<<24)|||((p.getD (o+1) 0).setWidth 32<<<16)|||((p.getD (o+2) 0).setWidth 32<<<8)|||(p.getD (o+3) 0).setWidth 32:=by
 simp only[wk,BitVec.shiftLeft_or_distrib,←BitVec.shiftLeft_add,Nat.add_zero,Nat.reduceAdd]
 simp
def bk(p:L8)(k:Nat):L8:=(p.drop (64*k)).take 64
theorem po(p:L8)(k i:Nat)(h:i<64):(bk p k).getD i 0=p.getD (64*k+i) 0:=by
 simp[bk,List.getD_eq_getElem?_getD,h,List.getElem?_drop]
theorem Bc(p:L8)(q:Nat): ∀i j,i≤j→(V1 p q i).getD j 0=0
 |0,j,_=>by
  simp only[V1,List.getD_eq_getElem?_getD,List.getElem?_replicate]
  split<;>rfl
 |i+1,j,h=>by
  have:=Bc p q i j om
  rw[List.getD_eq_getElem?_getD]at this⊢
  rw[V1,List.getElem?_set_ne om]
  exact this
theorem PC(p:L8)(k:Nat): ∀i,i≤16→V1 p (64*k) i=W1 (bk p k) i
 |0,_=>rfl
 |i+1,h=>by
  rw[V1,Bc p _ i i (Nat.le_refl _),YW,PC p k i om,W1,w4,po _ _ _ om,po _ _ _ om,po _ _ _ om,po _ _ _ om]
  rfl
theorem fR(x:BitVec 32)(k:Int)(m:Nat)(h1:(BitVec.ofInt 64 k &&& 31#64).toNat=32-m)(h2:(32#64-(BitVec.ofInt 64 k &&& 31#64)).toNat=m):l8 x k=turn x m:=by
 rw[l8,turn,h1,h2,BitVec.or_comm]
theorem LR(x:BitVec 32):DY x=r0 x:=by
 rw[DY,r0,fR x (-7) 7 dc dc,fR x (-18) 18 dc dc]
theorem Mg(x:BitVec 32):DI x=r1 x:=by
 rw[DI,r1,fR x (-17) 17 dc dc,fR x (-19) 19 dc dc]
theorem Uy(x:BitVec 32):yh x=turn x 2^^^turn x 13^^^turn x 22:=by
 rw[yh,fR x (-2) 2 dc dc,fR x (-13) 13 dc dc,fR x (-22) 22 dc dc]
theorem Tq(x:BitVec 32):qu x=turn x 6^^^turn x 11^^^turn x 25:=by
 rw[qu,fR x (-6) 6 dc dc,fR x (-11) 11 dc dc,fR x (-25) 25 dc dc]
theorem XH(ws:L3)(i:Nat):r5 ws i=w5 ws i:=by
 rw[r5,w5,LR,Mg]
 ac_rfl
theorem Ov(p:L8)(k:Nat): ∀j,V2 p (64*k) j=W2 (bk p k) j
 |0=>PC p k 16 om
 |j+1=>by rw[V2,W2,Ov p k j,XH]
def toL(v:V8):L3:=[v.a,v.b,v.c,v.d,v.e,v.f,v.g,v.h]
theorem RG(v:V8)(k w:BitVec 32):rr (toL v) k w=toL (rnd v k w):=by
 have e1:rt (toL v) k w=v.h+qu v.e+(v.e &&& v.f^^^ ~~~v.e &&& v.g)+k+w:=by rw[Tq];rfl
 have e2:ru (toL v)=yh v.a+(v.a &&& v.b^^^v.a &&& v.c^^^v.b &&& v.c):=by rw[Uy];rfl
 rw[rr,e1,e2]
 rfl
theorem Zt(j:Nat):MK.getD (8+j) 0=KW.getD j 0:=by
 rw[MK,List.getD_eq_getElem?_getD,List.getElem?_append_right (by show 8≤8+j;omega),show 8+j-IV.length=j from by show 8+j-8=j;omega,←List.getD_eq_getElem?_getD]
theorem SC(h:L3)(hh:h.length=8):toL (v8 h)=h:=by
 match h,hh with
 |[_,_,_,_,_,_,_,_],_=>rfl
theorem xh(h ws:L3)(hh:h.length=8): ∀j,RRs h ws j=toL (nh (v8 h) ws j)
 |0=>(SC h hh).symm
 |j+1=>by rw[RRs,xh h ws hh j,RG,Zt,nh]
theorem Ff(h:L3)(v:V8)(hh:h.length=8):HAs h (toL v) 8=Sj h v:=by
 match h,hh with
 |[_,_,_,_,_,_,_,_],_=>rfl
theorem LF(p:L8)(k:Nat):RK p (k+1)=sI (RK p k) (bk p k):=by
 rw[RK,sI,xh _ _ (dd p k),Ff _ _ (dd p k),Ov]
theorem WZ(h:L3)(hh:h.length=8):OD h 32=DG h 8:=by
 match h,hh with
 |[a,b,c,d,e,f,g,i],_=>
  have z: ∀x:BitVec 32,x>>>(0:Nat)=x:=fun x=>sm
  simp only[OD,DG,List.replicate,List.set,List.getD,Nat.reduceDiv,Nat.reduceMod,Nat.reduceMul,Nat.reduceAdd]
  simp
theorem Bd(p:L8)(L:List L8): ∀k,k≤L.length→(∀i,i<L.length→bk p i=L.getD i [])→RK p k=im IV L k
 |0,_,_=>rfl
 |k+1,h,hb=>by rw[LF,im,Bd p L k om hb,hb k om]
theorem F5(L:List L8)(h: ∀l∈L,l.length=64):L.flatten.length=64*L.length:=by
 induction L with
 |nil=>rfl
 |cons x r ih=>
  rw[List.flatten_cons,List.length_append,ih (fun l hl=>h l (by simp[hl])),h x sm,List.length_cons]
  omega
theorem Nt(L:List L8)(h: ∀l∈L,l.length=64): ∀i,i<L.length→bk L.flatten i=L.getD i []:=by
 induction L with
 |nil=>intro i hi;simp at hi
 |cons x r ih=>
  intro i hi
  have hx:x.length=64:=h x sm
  cases i with
  |zero=>simp[bk,hx]
  |succ i=>
   have e:=ih (fun l hl=>h l (by simp[hl])) i (by simpa using hi)
   rw[List.getD_cons_succ,←e,bk,bk,List.flatten_cons,show 64*(i+1)=x.length+64*i from by omega,List.drop_append,List.drop_eq_nil_of_le (by omega:x.length≤x.length+64*i),List.nil_append,Nat.add_sub_cancel_left]
theorem rH(bs:L8): ∀m,64*m≤bs.length→((List.range m).map fun k=>(bs.drop (64*k)).take 64).flatten=bs.take (64*m)
 |0,_=>sm
 |m+1,h=>by
  rw[List.range_succ,List.map_append,List.flatten_append,rH bs m om]
  simp only[List.map_cons,List.map_nil,List.flatten_cons,List.flatten_nil,List.append_nil]
  rw[show 64*(m+1)=64*m+64 from by omega,List.take_add]
theorem OF(rs:L8)(h:rs.length<64):e1 rs=rs++([128#8]++List.replicate (63-rs.length) 0#8):=by
 rw[e1,List.set_append_right _ _ (Nat.le_refl _),Nat.sub_self,show 64-rs.length=(63-rs.length)+1 from by omega,List.replicate_succ]
 rfl
def b8s(n:BitVec 64):Nat→L8
 |0=>[]
 |k+1=>b8s n k++[((8#64*n)>>>(56-8*(k:Int)).toNat).setWidth 8]
theorem ur(n:BitVec 64): ∀k,(b8s n k).length=k
 |0=>rfl
 |k+1=>by rw[b8s,List.length_append,ur n k];rfl
theorem Fo(bl:L8)(n:BitVec 64)(h:bl.length=64): ∀k,k≤8→LB bl n k=bl.take 56++(b8s n k++bl.drop (56+k))
 |0,_=>by simp[LB,b8s]
 |k+1,hk=>by
  have hd:bl.drop (56+k)=bl[56+k]::bl.drop (56+(k+1)):=by rw[List.drop_eq_getElem_cons om];rfl
  rw[LB,Fo bl n h k om,hd,List.set_append_right _ _ (by simp[h]),List.set_append_right _ _ (by simp[h,ur]),b8s]
  simp[h,ur]
theorem Om(bs:L8)(n:BitVec 64): ∀j,j≤8→PE bs (n*8#64) j=PD bs (nz bs)++b8s n j
 |0,_=>by simp[PE,b8s]
 |j+1,h=>by
  rw[PE,Om bs n j om,b8s,nb,BitVec.mul_comm,show (8*(7-(j:Int))).toNat=(56-8*(j:Int)).toNat from by omega,List.append_assoc]
theorem EQ(bs:L8):PAD bs=(rQ bs).flatten:=by
 rw[PAD,Om bs _ 8 (Nat.le_refl _),rQ,List.flatten_append,i6,rH bs _ om,PD]
 have hr:=xj bs
 have hrl:(bs.drop (64*(bs.length / 64))).length=bs.length % 64:=by rw[List.length_drop];omega
 generalize hrs:bs.drop (64*(bs.length / 64))=rs at hr hrl
 have hbs:bs=bs.take (64*(bs.length / 64))++rs:=by rw[←hrs,List.take_append_drop]
 generalize hn:BitVec.ofInt 64 (bs.length:Int)=n
 have key:(fv rs n).flatten=rs++([128#8]++(List.replicate (nz bs) 0#8++b8s n 8)):=by
  unfold fv
  split
  ·rename_i h56
   have hz:nz bs=55-rs.length:=by unfold nz;omega
   rw[List.flatten_cons,List.flatten_nil,List.append_nil,Fo _ _ (zC rs om) 8 (Nat.le_refl _),OF rs hr,hz]
   rw[List.drop_eq_nil_of_le (by simp;omega),List.append_nil,List.take_append,List.take_of_length_le (by omega:rs.length≤56)]
   rw[List.take_append,List.take_of_length_le (by simp;omega),List.take_replicate]
   simp only[List.append_assoc,List.length_cons,List.length_nil]
   rw[show min (56-rs.length-(0+1)) (63-rs.length)=55-rs.length from by omega]
  ·rename_i h56
   have hz:nz bs=(63-rs.length)+56:=by unfold nz;omega
   rw[List.flatten_cons,List.flatten_cons,List.flatten_nil,List.append_nil,Fo _ _ sm 8 (Nat.le_refl _),OF rs hr,hz,←List.replicate_append_replicate]
   simp
 rw[key]
 conv=>lhs;lhs;lhs;rw[hbs]
 simp only[List.append_assoc]
theorem E2(bs:L8):K8 bs=SHA bs:=by
 have hb:=JU bs
 have hl:=F5 (rQ bs) hb
 rw[K8,SHA,EQ,hl,Nat.mul_div_cancel_left _ dc,Bd _ (rQ bs) _ (Nat.le_refl _) (Nt _ hb),WZ _ (iq _ _ rfl _)]
end Sh
end
section
open Go.RowKit
theorem ent83:ak prog 83:=fun _ _=>kr
namespace Xm
theorem zv98(w:World):(zeroValue 98).run prog w=.ok (.agg ((List.replicate 32 (0#8)).map U8).toArray) w:=Sh.zv98 w
theorem ti5:TI prog 5 (.int .u8 0) 1 1:=Sh.ti5
def D(dst:L8):L8:=dst++[BitVec.ofInt 8 (dst.length:Int)]
theorem kK(dst:L8):(D dst).length=dst.length+1:=by simp[D]
def F(msg dst:L8)(n:Nat):L8:=((List.replicate 64 0#8++msg)++[BitVec.ofInt 8 ((n / 256:Nat):Int),BitVec.ofInt 8 (n:Int),0#8])++D dst
theorem qt(msg dst:L8)(n:Nat):(F msg dst n).length=64+msg.length+3+(dst.length+1):=by
 rw[F,List.length_append,List.length_append,List.length_append,List.length_replicate,kK];rfl
def B0(msg dst:L8)(n:Nat):L8:=Sh.SHA (F msg dst n)
theorem lI(msg dst:L8)(n:Nat):(B0 msg dst n).length=32:=Sh.hO _
def R(b l:L8):Nat→L8
 |0=>b
 |j+1=>(R b l j).set j (b.getD j 0^^^l.getD j 0)
theorem kO(b l:L8): ∀j,(R b l j).length=b.length
 |0=>rfl
 |j+1=>by rw[R,List.length_set,kO b l j]
def Xk(b d:L8):Nat→L8
 |0=>List.replicate 32 0#8
 |k+1=>Sh.SHA (((if k=0 then b else R b (Xk b d k) 32)++[BitVec.ofInt 8 ((k+1:Nat):Int)])++d)
theorem fO(b d:L8): ∀k,(Xk b d k).length=32
 |0=>List.length_replicate
 |_+1=>Sh.hO _
def O(b d:L8):Nat→L8
 |0=>[]
 |k+1=>O b d k++Xk b d (k+1)
theorem gq(b d:L8): ∀k,(O b d k).length=32*k
 |0=>rfl
 |k+1=>by rw[O,List.length_append,gq b d k,fO];omega
def E(msg dst:L8)(n:Nat):L8:=(O (B0 msg dst n) (D dst) ((n+31) / 32)).take n
theorem kN(msg dst:L8)(n:Nat):(E msg dst n).length=n:=by rw[E,List.length_take,gq];omega
structure Bk(xs:L8) where
 (b:Nat) (c:List Value)
 h1:xs.length≤c.length
 h2:c.take xs.length=xs.map U8
theorem tw(bm:Nat)(a:Option Addr)(len cap:Nat)(bs:L8)(hb:bs.length=len)(hl:len≤100000)(w:World)(hw:Gt w)(ho:OwnB w bm (Sh.MK.map U32) 94)(hby:BytesAt w a bs):CLS 133 [pnt bm,.slice a len cap].toArray w (fun e w'=>e=.returned (.agg ((Sh.SHA bs).map U8).toArray)∧Grow w w'):=by
 subst hb
 rw[←Sh.E2]
 exact Sh.zD bm a cap bs om w hw ho hby
theorem own_grow{w w':World}{b:Nat}{c:List Value}{t:TypeId}(h:OwnB w b c t)(hg:Grow w w'):OwnB w' b c t:=h.of_same (hg.block b h.lt)
theorem hmc{i:TypeInfo}(k:Nat)(h:prog.info? 5=some i∧i.zero=some (.int .u8 0)∧i.size=1∧i.bytes=1)(hk:(madeCells (Value.int .u8 0).cells (k*1)).toList=(List.replicate k 0#8).map U8):(madeCells (Value.int .u8 0).cells (k*i.size)).toList=(List.replicate k 0#8).map U8:=by
 rw[h.2.2.1];exact hk
theorem hmk(k:Nat)(h:k≤1000):k*ti5.choose.size≤16777216∧ti5.choose.bytes*k≤281474976710656∧k≤1000000:=by
 rw[ti5.choose_spec.2.2.1,ti5.choose_spec.2.2.2];omega
theorem Zj:(madeCells (Value.int .u8 0).cells (64*1)).toList=(List.replicate 64 0#8).map U8:=kr
end Xm
end
section
open Go.RowKit
namespace Xm
attribute [local simp] Sh.hO lI qt kO fO gq Sh.cf kK
theorem Xc(bm:Nat)(a1:Option Addr)(cap1:Nat)(msg:L8)(a2:Option Addr)(cap2:Nat)(dst:L8)(z:Int)(h:z<0)(w:World)(hw:Gt w):CLS 83 [pnt bm,.slice a1 msg.length cap1,.slice a2 dst.length cap2,I z].toArray w (fun e w'=>e=.returned (.tuple #[.slice none 0 0,I 130])∧Grow w w'):=by
 refine Hf func83 rfl hw<|fun hGF=>Xp<|Asg rfl<|Asg rfl<|aa<|ah<|Xp<|Mv rfl<|Bnb true rfl rfl (fun _=>az _ _ _) (decide_eq_true om)<|Mv rfl<|Sk<|Sk<|Pk rfl rfl rfl<|Mv rfl<|Sk<|Sk<|Sk<|Pk rfl rfl rfl<|Mv rfl<|Sk<|Sk<|Sk<|Pk rfl rfl rfl<|aa<|aR rfl<|Xp<|Asg rfl<|Asg rfl<|aa<|am<|Rr<|?_
 exact cj rfl rfl rfl (fun w hw=>⟨rfl,ac hw⟩)
theorem Xb(bm:Nat)(a1:Option Addr)(cap1:Nat)(msg:L8)(a2:Option Addr)(cap2:Nat)(dst:L8)(z:Int)(h:8160<z)(w:World)(hw:Gt w):CLS 83 [pnt bm,.slice a1 msg.length cap1,.slice a2 dst.length cap2,I z].toArray w (fun e w'=>e=.returned (.tuple #[.slice none 0 0,I 130])∧Grow w w'):=by
 refine Hf func83 rfl hw<|fun hGF=>Xp<|Asg rfl<|Asg rfl<|aa<|ah<|Xp<|Mv rfl<|Bnb false rfl rfl (fun _=>az _ _ _) (decide_eq_false om)<|Mv rfl<|Mv rfl<|Bnb true rfl rfl (fun _=>bc _ _ _) (decide_eq_true om)<|Pk rfl rfl rfl<|Mv rfl<|Sk<|Sk<|Sk<|Pk rfl rfl rfl<|Mv rfl<|Sk<|Sk<|Sk<|Pk rfl rfl rfl<|aa<|aR rfl<|Xp<|Asg rfl<|Asg rfl<|aa<|am<|Rr<|?_
 exact cj rfl rfl rfl (fun w hw=>⟨rfl,ac hw⟩)
theorem aaP(bm:Nat)(a1:Option Addr)(cap1:Nat)(msg:L8)(a2:Option Addr)(cap2:Nat)(dst:L8)(z:Int)(h0: ¬z<0)(h1: ¬8160<z)(h:255<dst.length)(w:World)(hw:Gt w):CLS 83 [pnt bm,.slice a1 msg.length cap1,.slice a2 dst.length cap2,I z].toArray w (fun e w'=>e=.returned (.tuple #[.slice none 0 0,I 130])∧Grow w w'):=by
 refine Hf func83 rfl hw<|fun hGF=>Xp<|Asg rfl<|Asg rfl<|aa<|ah<|Xp<|Mv rfl<|Bnb false rfl rfl (fun _=>az _ _ _) (decide_eq_false om)<|Mv rfl<|Mv rfl<|Bnb false rfl rfl (fun _=>bc _ _ _) (decide_eq_false om)<|Pk rfl rfl rfl<|Mv rfl<|Mv rfl<|bi rfl (fun _=>aI underlying22 _ _ _ _) rfl rfl<|Bnb true rfl rfl (fun _=>bc _ _ _) (decide_eq_true om)<|Pk rfl rfl rfl<|Mv rfl<|Sk<|Sk<|Sk<|Pk rfl rfl rfl<|aa<|aR rfl<|Xp<|Asg rfl<|Asg rfl<|aa<|am<|Rr<|?_
 exact cj rfl rfl rfl (fun w hw=>⟨rfl,ac hw⟩)
theorem X4(bm:Nat)(a1:Option Addr)(cap1:Nat)(msg:L8)(a2:Option Addr)(cap2:Nat)(dst:L8)(z:Int)(h0: ¬z<0)(h1: ¬8160<z)(h2: ¬255<dst.length)(h:65536<msg.length)(w:World)(hw:Gt w):CLS 83 [pnt bm,.slice a1 msg.length cap1,.slice a2 dst.length cap2,I z].toArray w (fun e w'=>e=.returned (.tuple #[.slice none 0 0,I 130])∧Grow w w'):=by
 refine Hf func83 rfl hw<|fun hGF=>Xp<|Asg rfl<|Asg rfl<|aa<|ah<|Xp<|Mv rfl<|Bnb false rfl rfl (fun _=>az _ _ _) (decide_eq_false om)<|Mv rfl<|Mv rfl<|Bnb false rfl rfl (fun _=>bc _ _ _) (decide_eq_false om)<|Pk rfl rfl rfl<|Mv rfl<|Mv rfl<|bi rfl (fun _=>aI underlying22 _ _ _ _) rfl rfl<|Bnb false rfl rfl (fun _=>bc _ _ _) (decide_eq_false om)<|Pk rfl rfl rfl<|Mv rfl<|Mv rfl<|bi rfl (fun _=>aI underlying22 _ _ _ _) rfl rfl<|Bnb true rfl rfl (fun _=>bc _ _ _) (decide_eq_true om)<|Pk rfl rfl rfl<|aa<|aR rfl<|Xp<|Asg rfl<|Asg rfl<|aa<|am<|Rr<|?_
 exact cj rfl rfl rfl (fun w hw=>⟨rfl,ac hw⟩)
theorem qd{w:World}{b:Nat}{c:List Value}{xs:L8}(h:w.rangeAt b 0 c)(h2:c.take xs.length=xs.map U8):BytesAt w (spt b) xs:=BytesAt.range fun j v hv=>h j v (by
 rw[←h2,List.getElem?_take]at hv
 split at hv
 ·exact hv
 ·cases hv)
structure LpV(b d:L8)(m:Nat) where
 (k:Nat) (a0:Option Addr) (cap:Nat) (own:Hl)
 hk:k≤m
 hs:OwnSl own 50 5 a0 cap (O b d k)
 ho:own=[]∨∃z,own=[(50,z)]
theorem ui{own L:Hl}(ho:own=[]∨∃z,own=[(50,z)])(h:lkB L 50=lkB own 50):ki L own:=by
 rcases ho with rfl|⟨z,rfl⟩
 ·exact trivial
 ·exact ⟨h,trivial⟩
theorem Ma{own:Hl}{a0:Option Addr}{cap:Nat}{xs:L8}(h:OwnSl own 50 5 a0 cap xs):xs.length≤cap:=by
 rcases h with ⟨_,rfl,rfl⟩|⟨_,_,_,_,_,h,_⟩
 ·exact Nat.le_refl _
 ·exact h
def X16(b l:L8)(k:Nat):L8:=if k=0 then b else R b l 32
theorem uB{b l:L8}(hb:b.length=32)(k:Nat):(X16 b l k).length=32:=by
 unfold X16
 split
 ·exact hb
 ·rw[kO];exact hb
theorem y8{xs ys:L8}(h:ys.length=32)(e:xs++ys=[]):False:=by
 have:=congrArg List.length e
 rw[List.length_append,h,List.length_nil]at this
 omega
theorem yf{c:List Value}{xs:L8}{n:Nat}(h:c.take xs.length=xs.map U8)(hn:n≤xs.length):c.take n=(xs.take n).map U8:=by
 have e:=congrArg (List.take n) h
 rw[List.take_take,Nat.min_eq_left hn]at e
 rw[e,List.map_take]
attribute [local simp] uB
theorem SJ(bm:Nat)(a1:Option Addr)(cap1:Nat)(msg:L8)(a2:Option Addr)(cap2:Nat)(dst:L8)(n:Nat)(hn:n≤8160)(hd:dst.length≤255)(hm:msg.length≤65536)(w:World)(hw:Gt w)(ho:OwnB w bm (Sh.MK.map U32) 94)(hb1:BytesAt w a1 msg)(hb2:BytesAt w a2 dst):CLS 83 [pnt bm,.slice a1 msg.length cap1,.slice a2 dst.length cap2,I (n:Int)].toArray w (fun e w'=> ∃sv,e=.returned (.tuple #[sv,I 0])∧Grow w w'∧Sh.Cln w w' (E msg dst n) sv):=by
 refine Hf func83 rfl hw<|fun hGF=>Xp<|Asg rfl<|Asg rfl<|aa<|ah<|Xp<|Mv rfl<|Bnb false rfl rfl (fun _=>az _ _ _) (decide_eq_false om)<|Mv rfl<|Mv rfl<|Bnb false rfl rfl (fun _=>bc _ _ _) (decide_eq_false om)<|Pk rfl rfl rfl<|Mv rfl<|Mv rfl<|bi rfl (fun _=>aI underlying22 _ _ _ _) rfl rfl<|Bnb false rfl rfl (fun _=>bc _ _ _) (decide_eq_false om)<|Pk rfl rfl rfl<|Mv rfl<|Mv rfl<|bi rfl (fun _=>aI underlying22 _ _ _ _) rfl rfl<|Bnb false rfl rfl (fun _=>bc _ _ _) (decide_eq_false om)<|Pk rfl rfl rfl<|aa<|aC rfl<|aq<|?_
 refine jy (ι:=Bk (D dst)) (fun z=>[(0,pnt bm),(1,.slice a1 msg.length cap1),(3,I (n:Int)),(10,.slice (spt z.b) (D dst).length z.c.length)]) (fun z=>[(10,z.b,z.c,5)]) hGF ?_ ?_
 ·refine Xq<|Mv rfl<|?_
  refine cu (xs:=[]) (ys:=dst) 10 hGF rfl rfl underlying22 underlying22 ti5 (iW _ _ _) (fun w' h=>hb2.grow (ac h)) (by first|omega|(simp<;>omega)) rfl rfl (fun h0=> ?_) (fun b35 c35 cap35 e35 l35 t35=> ?_)
  ·have hd:dst=[]:=h0
   subst hd
   clear h0
   refine Mv rfl<|bi rfl (fun _=>aI underlying22 _ _ _ _) rfl rfl<|ca rfl rfl (fun _=>fB underlying3 underlying5 _) rfl rfl<|ek 39 [BitVec.ofInt 8 ((List.length ([]:L8):Nat):Int)] hGF rfl rfl rfl dc dc underlying22 sizeOf5 zeroValue5 rfl rfl<|?_
   intro b39
   refine cu (xs:=[]) (ys:=[BitVec.ofInt 8 ((List.length ([]:L8):Nat):Int)]) 10 hGF rfl rfl underlying22 underlying22 ti5 (iW _ _ _) (fun w' h=>BytesAt.range (aH (n:=39) rfl w' h)) (by first|omega|(simp<;>omega)) rfl rfl (fun h0=> ?_) (fun b40 c40 cap40 e40 l40 t40=> ?_)
   ·simp at h0
   subst e40
   exact Asg rfl<|aa<|aD<|⟨rfl,⟨b40,c40,l40,t40⟩,_,rfl,trv,trv⟩
  ·subst e35
   refine Mv rfl<|bi rfl (fun _=>aI underlying22 _ _ _ _) rfl rfl<|ca rfl rfl (fun _=>fB underlying3 underlying5 _) rfl rfl<|ek 39 [BitVec.ofInt 8 (dst.length:Int)] hGF rfl rfl rfl dc dc underlying22 sizeOf5 zeroValue5 rfl rfl<|?_
   intro b39
   refine cu (xs:=dst) (ys:=[BitVec.ofInt 8 (dst.length:Int)]) 10 hGF rfl rfl underlying22 underlying22 ti5 (.inr ⟨b35,c35,rfl,rfl,rfl,l35,t35⟩) (fun w' h=>BytesAt.range (aH (n:=39) rfl w' h)) (by first|omega|(simp<;>omega)) rfl rfl (fun h0=> ?_) (fun b40 c40 cap40 e40 l40 t40=> ?_)
   ·simp at h0
   subst e40
   exact Asg rfl<|aa<|aD<|⟨rfl,⟨b40,c40,l40,t40⟩,_,rfl,trv,trv⟩
 ·intro z
  obtain ⟨bd,cd,hd1,hd2⟩:=z
  dsimp only
  refine Xp<|jg 41 hGF rfl rfl underlying22 ti5.choose_spec.1 ti5.choose_spec.2.1 (hmk 64 dc) (hmc 64 ti5.choose_spec Zj) rfl rfl<|fun b41=>Mv rfl<|?_
  refine cu (xs:=List.replicate 64 0#8) (ys:=msg) 41 hGF rfl rfl underlying22 underlying22 ti5 (.inr ⟨b41,_,rfl,rfl,sm,sm,sm⟩) (fun w' h=>hb1.grow (ac h)) (by first|omega|(simp<;>omega)) rfl rfl (fun h0=> ?_) (fun b43 c43 cap43 e43 l43 t43=> ?_)
  ·simp at h0
  subst e43
  refine Asg rfl<|aa<|Xp<|Mv rfl<|Mv rfl<|Bnr rfl rfl (fun _=>xG _ _)<|ca rfl rfl (fun _=>fB underlying3 underlying5 _) rfl rfl<|Mv rfl<|ca rfl rfl (fun _=>fB underlying3 underlying5 _) rfl rfl<|ek 50 [BitVec.ofInt 8 ((n / 256:Nat):Int),BitVec.ofInt 8 (n:Int),0#8] hGF rfl rfl rfl dc dc underlying22 sizeOf5 zeroValue5 rfl rfl<|?_
  intro b50
  refine cu (xs:=List.replicate 64 0#8++msg) (ys:=[BitVec.ofInt 8 ((n / 256:Nat):Int),BitVec.ofInt 8 (n:Int),0#8]) 41 hGF rfl rfl underlying22 underlying22 ti5 (.inr ⟨b43,c43,rfl,rfl,rfl,l43,t43⟩) (fun w' h=>BytesAt.range (aH (n:=50) rfl w' h)) (by first|omega|(simp<;>omega)) rfl rfl (fun h0=> ?_) (fun b51 c51 cap51 e51 l51 t51=> ?_)
  ·simp at h0
  subst e51
  refine Mv rfl ?_
  refine cu (xs:=(List.replicate 64 0#8++msg)++[BitVec.ofInt 8 ((n / 256:Nat):Int),BitVec.ofInt 8 (n:Int),0#8]) (ys:=(D dst)) 41 hGF rfl rfl underlying22 underlying22 ti5 (.inr ⟨b51,c51,rfl,rfl,rfl,l51,t51⟩) (fun w' h=>qd (aH (n:=10) rfl w' h) hd2) (by first|omega|(simp<;>omega)) rfl rfl (fun h0=> ?_) (fun b53 c53 cap53 e53 l53 t53=> ?_)
  ·simp at h0
  subst e53
  refine Asg rfl<|aa<|Xp<|Mv rfl<|Mv rfl<|Cc rfl ent133 (fun w' hC hG=>tw bm (spt b53) _ _ (F msg dst n) rfl (by first|omega|(simp<;>omega)) w' hG (own_grow ho (ac hC)) (qd (aH (n:=41) rfl w' hC) t53))<|Al 12 hGF zv98<|fun b12=>aw 12 hGF rfl rfl rfl sizeOf98 sm sm (bH _) rfl<|aa<|Xp<|Asg rfl<|aa<|Xp<|Al 14 hGF zv98<|fun b14=>aa<|ah<|Xp<|Asg rfl<|aa<|ai<|bL (ι:=LpV (B0 msg dst n) (D dst) ((n+31) / 32)) (fun z=>[(0,pnt bm),(3,I (n:Int)),(10,.slice (spt bd) (D dst).length cd.length),(12,pnt b12),(13,.slice z.a0 (O (B0 msg dst n) (D dst) z.k).length z.cap),(14,pnt b14),(15,I ((z.k+1:Nat):Int))]) (fun z=>(10,bd,cd,5)::(12,b12,(B0 msg dst n).map U8,98)::(14,b14,(Xk (B0 msg dst n) (D dst) z.k).map U8,98)::z.own) (fun z=>((n+31) / 32)-z.k) ⟨0,none,0,[],om,iW _ _ _,.inl rfl⟩ hGF trv trv<|?_
  rintro ⟨k,a0,cap,own,hk,hs,hown⟩
  dsimp only at hs hown⊢
  have hx:(X16 (B0 msg dst n) (Xk (B0 msg dst n) (D dst) k) k).length=32:=uB (Sh.hO _) k
  have hcap:=Ma hs
  rw[gq]at hcap
  refine ah<|Xp<|Mv rfl<|bi rfl (fun _=>aI underlying22 _ _ _ _) rfl rfl<|Mv rfl<|Bnr rfl rfl (fun _=>az _ _ _)<|aa<|?_
  refine bG rfl (fun hc=> ?_) (fun hc=> ?_)
  ·have hlt:32*k<n:=by rw[gq]at hc;simp at hc;omega
   clear hc
   refine aq<|ah<|ai<|Xp<|La 12 rfl rfl wI<|Al 16 hGF zv98<|fun b16=>aw 16 hGF rfl rfl rfl sizeOf98 sm sm (bH _) rfl<|aa<|?_
   refine jy (ι:=Unit) (fun _=>[(0,pnt bm),(3,I (n:Int)),(10,.slice (spt bd) (D dst).length cd.length),(12,pnt b12),(13,.slice a0 (O (B0 msg dst n) (D dst) k).length cap),(14,pnt b14),(15,I ((k+1:Nat):Int)),(16,pnt b16)]) (fun _=>(16,b16,(X16 (B0 msg dst n) (Xk (B0 msg dst n) (D dst) k) k).map U8,98)::(10,bd,cd,5)::(12,b12,(B0 msg dst n).map U8,98)::(14,b14,(Xk (B0 msg dst n) (D dst) k).map U8,98)::own) hGF ?_ ?_
   ·by_cases hk0:k=0
    ·refine Xp<|Mv rfl<|Bnb false rfl rfl (fun _=>bc _ _ _) (decide_eq_false om)<|aa<|aC rfl<|aq<|?_
     repeat (refine aP ?_)
     exact aD<|⟨rfl,(),_,rfl,trv,⟨by rw[X16,if_pos hk0];rfl,rfl,rfl,rfl,ui hown rfl⟩⟩
    ·refine Xp<|Mv rfl<|Bnb true rfl rfl (fun _=>bc _ _ _) (decide_eq_true om)<|aa<|aR rfl<|Xp<|Asg rfl<|aa<|ai<|bL (ι:={j:Nat // j≤32}) (fun y=>[(0,pnt bm),(3,I (n:Int)),(10,.slice (spt bd) (D dst).length cd.length),(12,pnt b12),(13,.slice a0 (O (B0 msg dst n) (D dst) k).length cap),(14,pnt b14),(15,I ((k+1:Nat):Int)),(16,pnt b16),(17,I (y.1:Int))]) (fun y=>(16,b16,(R (B0 msg dst n) (Xk (B0 msg dst n) (D dst) k) y.1).map U8,98)::(10,bd,cd,5)::(12,b12,(B0 msg dst n).map U8,98)::(14,b14,(Xk (B0 msg dst n) (D dst) k).map U8,98)::own) (fun y=>32-y.1) ⟨0,om⟩ hGF trv ⟨rfl,rfl,rfl,rfl,ui hown rfl⟩<|?_
     rintro ⟨j,hj⟩
     dsimp only
     refine ah<|Xp<|Mv rfl<|Bnr rfl rfl (fun _=>az _ _ _)<|aa<|?_
     refine bG rfl (fun hc=> ?_) (fun hc=> ?_)
     ·simp only[decide_eq_true_eq]at hc
      refine aq<|ah<|ai<|Xe []<|Mv rfl<|Mv rfl<|Ia (j) rfl rfl underlying98 sizeOf5<|Lm 12 U8 0 rfl rfl isAgg5 (by simp;try omega)<|Mv rfl<|Ia (j) rfl rfl underlying98 sizeOf5<|Lm 14 U8 0 rfl rfl isAgg5 (by simp;try omega)<|Bnr rfl rfl (fun _=>rf _ _ _)<|Ia (j) rfl rfl underlying98 sizeOf5<|aV 16 U8 hGF rfl rfl rfl sizeOf5 rfl (by simp;try omega) rfl<|aa<|Xq<|Mv rfl<|Bnr rfl rfl (fun _=>au _ _ _ oi)<|Asg rfl<|aa<|?_
      repeat (refine aP ?_)
      exact aD<|⟨rfl,⟨j+1,om⟩,_,by show 32-(j+1)<32-j;omega,rfl,trv,⟨rfl,rfl,rfl,rfl,ui hown rfl⟩⟩
     ·obtain rfl:j=32:=by simp at hc;omega
      refine aW ?_
      repeat (first|refine dH ?_|refine cq ?_)
      exact aD<|⟨rfl,(),_,rfl,trv,⟨by rw[X16,if_neg hk0];rfl,rfl,rfl,rfl,ui hown rfl⟩⟩
   ·intro _
    refine Xp<|Mv rfl<|bD (l:=0) (h':=32) rfl underlying98 sizeOf5 rfl rfl om om rfl rfl<|?_
    refine cu (xs:=[]) (ys:=X16 (B0 msg dst n) (Xk (B0 msg dst n) (D dst) k) k) 60 hGF rfl (by rw[hx];rfl) underlying22 underlying22 ti5 (iW _ _ _) (fun w' h=>BytesAt.range (aH (n:=16) rfl w' h)) (by rw[hx];decide) rfl rfl (fun h0=> ?_) (fun b81 c81 cap81 e81 l81 t81=> ?_)
    ·exact (y8 hx h0).elim
    subst e81
    refine Mv rfl<|ca rfl rfl (fun _=>fB underlying3 underlying5 _) rfl rfl<|ek 84 [BitVec.ofInt 8 ((k+1:Nat):Int)] hGF rfl rfl rfl dc dc underlying22 sizeOf5 zeroValue5 rfl rfl<|?_
    intro b84
    refine cu (xs:=X16 (B0 msg dst n) (Xk (B0 msg dst n) (D dst) k) k) (ys:=[BitVec.ofInt 8 ((k+1:Nat):Int)]) 60 hGF rfl rfl underlying22 underlying22 ti5 (.inr ⟨b81,c81,rfl,rfl,rfl,l81,t81⟩) (fun w' h=>BytesAt.range (aH (n:=84) rfl w' h)) (by rw[hx];show 32+1≤_;decide) rfl rfl (fun h0=> ?_) (fun b85 c85 cap85 e85 l85 t85=> ?_)
    ·simp at h0
    subst e85
    refine Mv rfl ?_
    refine cu (xs:=(X16 (B0 msg dst n) (Xk (B0 msg dst n) (D dst) k) k)++[BitVec.ofInt 8 ((k+1:Nat):Int)]) (ys:=(D dst)) 60 hGF rfl rfl underlying22 underlying22 ti5 (.inr ⟨b85,c85,rfl,rfl,rfl,l85,t85⟩) (fun w' h=>qd (aH (n:=10) rfl w' h) hd2) (by rw[List.length_append,hx,kK];first|omega|(simp<;>omega)) rfl rfl (fun h0=> ?_) (fun b87 c87 cap87 e87 l87 t87=> ?_)
    ·simp at h0
    subst e87
    refine kV rfl rfl ent133 (fun w' hC hG=>tw bm (spt b87) _ _ (((X16 (B0 msg dst n) (Xk (B0 msg dst n) (D dst) k) k)++[BitVec.ofInt 8 ((k+1:Nat):Int)])++(D dst)) rfl (by rw[List.length_append,List.length_append,hx,kK];first|omega|(simp<;>omega)) w' hG (own_grow ho (ac hC)) (qd (aH (n:=60) rfl w' hC) t87)) rfl rfl ?_
    rw[show Sh.SHA (((X16 (B0 msg dst n) (Xk (B0 msg dst n) (D dst) k) k)++[BitVec.ofInt 8 ((k+1:Nat):Int)])++(D dst))=Xk (B0 msg dst n) (D dst) (k+1) by rw[Xk];rfl]
    refine aw 14 hGF rfl rfl rfl sizeOf98 sm sm (bH _) rfl<|aa<|Xq<|Mv rfl<|bD (l:=0) (h':=32) rfl underlying98 sizeOf5 rfl rfl om om rfl rfl<|?_
    refine cu (xs:=O (B0 msg dst n) (D dst) k) (ys:=Xk (B0 msg dst n) (D dst) (k+1)) 50 hGF rfl (by rw[fO];rfl) underlying22 underlying22 ti5 (OwnSl.of hs rfl) (fun w' h=>BytesAt.range (aH (n:=14) rfl w' h)) (by rw[gq,fO];omega) rfl rfl (fun h0=> ?_) (fun b91 c91 cap91 e91 l91 t91=> ?_)
    ·exact (y8 (fO _ _ _) h0).elim
    subst e91
    refine Asg rfl<|aa<|Xq<|Mv rfl<|Bnr (v:=I ((k+1+1:Nat):Int)) rfl rfl (fun _=>(au _ _ _ oi).trans rr)<|Asg rfl<|aa<|?_
    repeat (first|refine aP ?_|refine cq ?_)
    exact aD<|⟨rfl,⟨k+1,some ⟨b91,0,none⟩,c91.length,[(50,b91,c91,5)],om,.inr ⟨b91,c91,rfl,rfl,rfl,l91,t91⟩,.inr ⟨_,rfl⟩⟩,_,by show ((n+31) / 32)-(k+1)<((n+31) / 32)-k;omega,rfl,trv,trv⟩
  ·have hge:n≤32*k:=by rw[gq]at hc;simp at hc;omega
   clear hc
   obtain rfl:k=(n+31) / 32:=om
   refine aW<|Xp<|Mv rfl<|Mv rfl<|fw (l:=0) (h':=n) rfl underlying22 sizeOf5 rfl rfl om rfl rfl<|Asg rfl<|Asg rfl<|aa<|am<|?_
   repeat (first|refine bP ?_|refine bR ?_|refine fH ?_)
   rcases hs with ⟨rfl,e0,rfl⟩|⟨b,c,rfl,hl,hc,hle,ht⟩
   ·have hn0:n=0:=by have:=congrArg List.length e0;rw[gq,List.length_nil]at this;omega
    subst hn0
    exact cj rfl rfl rfl (fun w hw=>⟨_,rfl,ac hw,.inl ⟨rfl,rfl⟩⟩)
   ·have e1:(if cap=0 then (some ⟨b,0,none⟩:Option Addr)else (some ⟨b,0,none⟩:Option Addr).map (·.add (0*1)))=some ⟨b,0,none⟩:=by split<;>rfl
    rcases hown with rfl|⟨z,rfl⟩
    ·cases hl
    ·have hz:z=(b,c,5):=Option.some.inj hl
     subst hz
     exact cj rfl rfl rfl (fun w hw=>⟨_,rfl,ac hw,.inr ⟨b,c,_,by rw[e1,kN];rfl,(hw.own 50 b _ _ rfl).2.elim id False.elim,(hw.own 50 b _ _ rfl).1,hc,by rw[kN];omega,by rw[kN];exact yf ht (by rw[gq];omega)⟩⟩)
end Xm
end
section
open Go.RowKit
theorem ent205:ak prog 205:=fun _ _=>kr
theorem ent171:ak prog 171:=fun _ _=>kr
namespace Xm
attribute [local simp] Sh.hO lI qt kO fO gq Sh.cf kK
def Bad(msg dst:L8)(z:Int):Prop:=z<0∨8160<z∨255<dst.length∨65536<msg.length
structure RT(msg dst:L8)(z:Int)(w:World)(v:Value):Prop where
 bad:Bad msg dst z→v=.tuple #[.slice none 0 0,I 130]
 ok: ¬Bad msg dst z→∃a cap,v=.tuple #[.slice a (E msg dst z.toNat).length cap,I 0]∧BytesAt w a (E msg dst z.toNat)∧(E msg dst z.toNat).length≤cap
theorem Sz{w w':World}{bs:L8}{sv:Value}(h:Sh.Cln w w' bs sv): ∃a cap,sv=.slice a bs.length cap∧BytesAt w' a bs∧bs.length≤cap:=by
 rcases h with ⟨rfl,rfl⟩|⟨b,c,cap,rfl,_,ho,_,hle,ht⟩
 ·exact ⟨none,0,rfl,fun j v hv=>by simp at hv,Nat.le_refl _⟩
 ·exact ⟨_,_,rfl,qd ho.range ht,hle⟩
theorem CD(bm:Nat)(a1:Option Addr)(cap1:Nat)(msg:L8)(a2:Option Addr)(cap2:Nat)(dst:L8)(z:Int)(w:World)(hw:Gt w)(ho:OwnB w bm (Sh.MK.map U32) 94)(hb1:BytesAt w a1 msg)(hb2:BytesAt w a2 dst):CLS 83 [pnt bm,.slice a1 msg.length cap1,.slice a2 dst.length cap2,I z].toArray w (fun e w'=> ∃v,e=.returned v∧Grow w w'∧RT msg dst z w' v):=by
 have err:Bad msg dst z→∀{e:Ending} {w':World},e=.returned (.tuple #[.slice none 0 0,I 130])∧Grow w w'→∃v,e=.returned v∧Grow w w'∧RT msg dst z w' v:=fun hb _ _ h=>⟨_,h.1,h.2,fun _=>rfl,fun hn=>absurd hb hn⟩
 by_cases h0:z<0
 ·exact (Xc bm a1 cap1 msg a2 cap2 dst z h0 w hw).mono fun _ _ h=>err (.inl h0) h
 by_cases h1:8160<z
 ·exact (Xb bm a1 cap1 msg a2 cap2 dst z h1 w hw).mono fun _ _ h=>err (.inr (.inl h1)) h
 by_cases h2:255<dst.length
 ·exact (aaP bm a1 cap1 msg a2 cap2 dst z h0 h1 h2 w hw).mono fun _ _ h=>err (.inr (.inr (.inl h2))) h
 by_cases h3:65536<msg.length
 ·exact (X4 bm a1 cap1 msg a2 cap2 dst z h0 h1 h2 h3 w hw).mono fun _ _ h=>err (.inr (.inr (.inr h3))) h
 obtain ⟨n,rfl⟩: ∃n:Nat,z=(n:Int):=⟨z.toNat,om⟩
 refine (SJ bm a1 cap1 msg a2 cap2 dst n om om om w hw ho hb1 hb2).mono fun e w' ⟨sv,he,hg,hc⟩=>⟨_,he,hg,fun hb=>absurd hb ?_,fun _=> ?_⟩
 ·rintro (h|h|h|h)<;>omega
 ·obtain ⟨a,cap,rfl,hby,hle⟩:=Sz hc
  exact ⟨a,cap,rfl,hby,hle⟩
def PXC:Prop:= ∀(a1:Option Addr) (cap1:Nat) (msg:L8) (a2:Option Addr) (cap2:Nat) (dst:L8) (z:Int) (w:World),msg.length≤100000→msg.length≤cap1→dst.length≤100000→dst.length≤cap2→Gt w→BytesAt w a1 msg→BytesAt w a2 dst→CLS 205 [.slice a1 msg.length cap1,.slice a2 dst.length cap2,I z].toArray w (fun e w'=> ∃v,e=.returned v∧Grow w w'∧RT msg dst z w' v)
end Xm
end
section
/-! ### Products of what has no root -/
theorem AZ{a b:Zp}(ha:IsQ a)(hb:IsQ b):IsQ (a*b):=qV (s:=SQr a*SQr b) (by
 have ha:SQr a*SQr a=a:=ha
 have hb:SQr b*SQr b=b:=hb
 generalize SQr a=s at*
 generalize SQr b=t at*
 subst ha hb
 grind)
theorem M5{a b:Zp}(ha: ¬IsQ a)(hb: ¬IsQ b):IsQ (a*b):=by
 have h:=AZ ((vr a).resolve_left ha) ((vr b).resolve_left hb)
 rw[show-a* -b=a*b by grind]at h
 exact h
def S5:Zp:=zp 0x186417302d5a65347a88b0f999ab2b504614aa5e2eebdeb1a014c40bceb7d2306c12a6d436befcf94d39c9db7b263cd4
theorem aaa:S5*S5= -(zp 5):=by decide+kernel
theorem YM: ¬IsQ (zp 5):=by
 rcases lv (a:=zp 5) (b:= -(zp 5)) (c:=zp 5) (by generalize zp 5=a;grind) (by decide+kernel)with h|h
 ·exact absurd (qV aaa) h.2
 ·exact h.1
/-! ### The other curve -/
def OA:W2:=(0,zp 240)
def OB:W2:=(zp 1012,zp 1012)
def OZ:W2:=ng2 (zp 2,zp 1)
def gO(x:W2):W2:=ad2 (ad2 (ml2 (ml2 x x) x) (ml2 OA x)) OB
def zu2(u:W2):W2:=ml2 (ml2 OZ u) u
def tu2(u:W2):W2:=ad2 (ml2 (zu2 u) (zu2 u)) (zu2 u)
def X1c:W2:=(zp 0x1a59d4b6bbf912a32d63b43028e2deeebe8d5d97ca64b6d66f64ac7a265a9305e1a40da5edb81b4e3ac4f5c28f5bd27,zp 0x15103a07f641331bb298f5ed3ba1230aa0bcc9f87d923077324df24a0f7ffa93045d3d6f94c17ae10efa11eb851e7336)
def R1c:W2:=(zp 0x28a5c165c0f2b6f84373bd5beb9a30d9ffef84fe5dc9a01a5e6825ee681d72252e4afbaf882c28f1c2935d806d2f71b,zp 0x17407d2938baedf8f3a537708747853994282b0535a8c4d8ffd7c0ebe3e31b581e4adea8190ec4a4a8ecaae9fd615d8a)
theorem Ku:ml2 X1c (ml2 OZ OA)=OB:=by decide+kernel
theorem Fp:ml2 R1c R1c=gO X1c:=by decide+kernel
theorem ZN:ml2 OZ OA≠ze2:=by decide+kernel
theorem BY:OA≠ze2:=by decide+kernel
theorem DA(a b c:W2):ml2 (ml2 a b) c=ml2 a (ml2 b c):=R2.mul_assoc a b c
theorem IK:ml2 OB (iv2 (ml2 OZ OA))=X1c:=by
 rw[←Ku,DA,dh ZN]
 exact R2.mul_one X1c
def x1O(u:W2):W2:=if tu2 u=ze2 then ml2 OB (iv2 (ml2 OZ OA))else ml2 (ml2 (ng2 OB) (iv2 OA)) (ad2 on2 (iv2 (tu2 u)))
theorem Oc{u:W2}(h:tu2 u≠ze2):ml2 (ml2 OA (x1O u)) (tu2 u)=ml2 (ng2 OB) (ad2 (tu2 u) on2):=by
 have e1:=dh BY
 have e2:=dh h
 rw[show x1O u=ml2 (ml2 (ng2 OB) (iv2 OA)) (ad2 on2 (iv2 (tu2 u)))from if_neg h]
 generalize tu2 u=t at*
 generalize iv2 t=s at*
 generalize iv2 OA=a' at*
 generalize OA=a at*
 generalize ng2 OB=b at*
 exact zl R2 [a,a',b,t,s] 0x556558742a9 0x45558942a2582 0x58492 0x45558942a5675859a (lca (lcm e1) (lcm e2))
theorem g_x2{u:W2}(h:tu2 u≠ze2):gO (ml2 (zu2 u) (x1O u))=ml2 (ml2 (ml2 (zu2 u) (zu2 u)) (zu2 u)) (gO (x1O u)):=by
 have k:=Oc h
 unfold tu2 at k
 unfold gO
 generalize zu2 u=z at*
 generalize x1O u=x at*
 generalize OA=a at*
 generalize OB=b at*
 exact zk R2 [a,b,z,x] 0x4455589589589565897 0x55588844559995697 0x4238 0x5374458882 0x556945888 k
theorem ZX(u:W2):nm2 (zu2 u)=zp 5*(nm2 u*nm2 u):=by
 rw[zu2,g8,g8,show nm2 OZ=zp 5 by decide+kernel]
 generalize zp 5=a
 generalize nm2 u=n
 grind
theorem K9{u:W2}(h: ¬IsQ (nm2 (gO (x1O u)))):IsQ (nm2 (gO (ml2 (zu2 u) (x1O u)))):=by
 by_cases ht:tu2 u=ze2
 ·refine absurd ((jJ _).1 ⟨R1c, ?_⟩) h
  rw[Fp,show x1O u=ml2 OB (iv2 (ml2 OZ OA))from if_pos ht,IK]
 ·rw[g_x2 ht,g8,g8,g8,ZX]
  have k:=AZ (M5 YM h) (oP (zp 5*(nm2 u*nm2 u)*(nm2 u)))
  generalize nm2 (gO (x1O u))=g at*
  generalize nm2 u=n at*
  generalize zp 5=a at*
  rw[show a*(n*n)*(a*(n*n))*(a*(n*n))*g=a*g*(a*(n*n)*n*(a*(n*n)*n)) by grind]
  exact k
/-! ### The map to the second curve -/
def iXN:List W2:=[(zp 0x5c759507e8e333ebb5b7a9a47d7ed8532c52d39fd3a042a88b58423c50ae15d5c2638e343d9c71c6238aaaaaaaa97d6,zp 0x5c759507e8e333ebb5b7a9a47d7ed8532c52d39fd3a042a88b58423c50ae15d5c2638e343d9c71c6238aaaaaaaa97d6),(0,zp 0x11560bf17baa99bc32126fced787c88f984f87adf7ae0c7f9a208c6b4f20a4181472aaa9cb8d555526a9ffffffffc71a),(zp 0x11560bf17baa99bc32126fced787c88f984f87adf7ae0c7f9a208c6b4f20a4181472aaa9cb8d555526a9ffffffffc71e,zp 0x8ab05f8bdd54cde190937e76bc3e447cc27c3d6fbd7063fcd104635a790520c0a395554e5c6aaaa9354ffffffffe38d),(zp 0x171d6541fa38ccfaed6dea691f5fb614cb14b4e7f4e810aa22d6108f142b85757098e38d0f671c7188e2aaaaaaaa5ed1,0)]
def iXD:List W2:=[(0,-zp 72),(zp 0xc,-zp 12),(zp 0x1,0)]
def iYN:List W2:=[(zp 0x1530477c7ab4113b59a4c18b076d11930f7da5d4a07f649bf54439d87d27e500fc8c25ebf8c92f6812cfc71c71c6d706,zp 0x1530477c7ab4113b59a4c18b076d11930f7da5d4a07f649bf54439d87d27e500fc8c25ebf8c92f6812cfc71c71c6d706),(0,zp 0x5c759507e8e333ebb5b7a9a47d7ed8532c52d39fd3a042a88b58423c50ae15d5c2638e343d9c71c6238aaaaaaaa97be),(zp 0x11560bf17baa99bc32126fced787c88f984f87adf7ae0c7f9a208c6b4f20a4181472aaa9cb8d555526a9ffffffffc71c,zp 0x8ab05f8bdd54cde190937e76bc3e447cc27c3d6fbd7063fcd104635a790520c0a395554e5c6aaaa9354ffffffffe38f),(zp 0x124c9ad43b6cf79bfbf7043de3811ad0761b0f37a1e26286b0e977c69aa274524e79097a56dc4bd9e1b371c71c718b10,0)]
def iYD:List W2:=[(-zp 432,-zp 432),(0,-zp 216),(zp 0x12,-zp 18),(zp 0x1,0)]
theorem Hs:R2.pp (R2.pp iYN iYN) (R2.pp [OB,OA,ze2,on2] (R2.pp iXD (R2.pp iXD iXD)))=R2.pp (R2.pp iYD iYD) (R2.pa (R2.pp iXN (R2.pp iXN iXN)) (R2.pk (zp 4,zp 4) (R2.pp iXD (R2.pp iXD iXD)))):=by decide+kernel
theorem Up(x:W2):R2.pev [OB,OA,ze2,on2] x=gO x:=by
 show ad2 OB (ml2 x (ad2 OA (ml2 x (ad2 ze2 (ml2 x (ad2 on2 (ml2 x ze2)))))))=ad2 (ad2 (ml2 (ml2 x x) x) (ml2 OA x)) OB
 generalize OA=a
 generalize OB=b
 exact zx R2 [a,b,x] 0x47584658415842581 0x44558885687
theorem Q3(x:W2):ml2 (ml2 (R2.pev iYN x) (R2.pev iYN x)) (ml2 (gO x) (ml2 (R2.pev iXD x) (ml2 (R2.pev iXD x) (R2.pev iXD x))))=ml2 (ml2 (R2.pev iYD x) (R2.pev iYD x)) (ad2 (ml2 (R2.pev iXN x) (ml2 (R2.pev iXN x) (R2.pev iXN x))) (ml2 (zp 4,zp 4) (ml2 (R2.pev iXD x) (ml2 (R2.pev iXD x) (R2.pev iXD x))))):=by
 have h:=congrArg (fun l=>R2.pev l x) Hs
 simp only[R2.pev_pp,R2.pev_pa,R2.pev_pk,Up]at h
 exact h
theorem Qp{x y:W2}(h:ml2 y y=gO x)(hx:R2.pev iXD x≠ze2)(hy:R2.pev iYD x≠ze2):E2w.on (ml2 (R2.pev iXN x) (iv2 (R2.pev iXD x)),ml2 (ml2 y (R2.pev iYN x)) (iv2 (R2.pev iYD x))):=by
 have e:=Q3 x
 rw[←h]at e
 have e1:=dh hx
 have e2:=dh hy
 show ml2 (ml2 (ml2 y (R2.pev iYN x)) (iv2 (R2.pev iYD x))) (ml2 (ml2 y (R2.pev iYN x)) (iv2 (R2.pev iYD x)))=ad2 (ml2 (ml2 (R2.pev iXN x) (iv2 (R2.pev iXD x))) (ml2 (ml2 (R2.pev iXN x) (iv2 (R2.pev iXD x))) (ml2 (R2.pev iXN x) (iv2 (R2.pev iXD x))))) (zp 4,zp 4)
 generalize R2.pev iXN x=xn at*
 generalize R2.pev iXD x=xd at*
 generalize R2.pev iYN x=yn at*
 generalize R2.pev iYD x=yd at*
 generalize iv2 xd=s at*
 generalize iv2 yd=t at*
 generalize ((zp 4,zp 4):W2)=b at*
 exact zl R2 [y,xn,xd,yn,yd,s,t,b] 0x55569c5569c 0x445555bbb5cc55aa4575775d585885543555665995ccd44558b58b58b2255455757755bbb5d5558b58b58b45ac22 0x4557b557b57bd 0x445555bbb5cc55995566585885543555665995ccd44558b58b58b258b55455757755bbb5d5558b58b58b45ac25ac (lca (lca (lcm e) (lcm e1)) (lcm e2))
end
section
theorem Gv{a b:W2}(ha:a≠ze2)(hb:b≠ze2):iv2 (ml2 a b)=ml2 (iv2 a) (iv2 b):=by
 have e0:=dh (x:=ml2 a b) (fun h=>(ij h).elim ha hb)
 have e1:=dh ha
 have e2:=dh hb
 generalize iv2 (ml2 a b)=w at*
 generalize iv2 a=s at*
 generalize iv2 b=t at*
 exact zl R2 [a,b,s,t,w] 0xa 0x4455892535a579253a2 0x589 0x4455895567a535a57956853a579 (lca (lca (lcm e0) (lcm e1)) (lcm e2))
theorem U9{x:W2}(h:x≠ze2):ng2 x≠ze2:=fun e=>h (by
 have:=congrArg ng2 e
 rw[Gw]at this
 exact (R2.neg_neg x).symm.trans this)
/-! ### The first x -/
theorem OX(x:W2):ad2 (ml2 (ad2 (ml2 x x) OA) x) OB=gO x:=by
 unfold gO
 generalize OA=a
 generalize OB=b
 exact zx R2 [x,a,b] 0x454566768 0x44556665768
theorem X9(u:W2):ml2 (ml2 u u) OZ=zu2 u:=by
 unfold zu2
 generalize OZ=z
 exact zx R2 [u,z] 0x55667 0x55766
theorem NE{u:W2}(h:tu2 u=ze2):ml2 (ml2 OB (ad2 (tu2 u) on2)) (iv2 (ml2 OZ OA))=x1O u:=by
 rw[show x1O u=ml2 OB (iv2 (ml2 OZ OA))from if_pos h,h,show ad2 ze2 on2=on2 from R2.zero_add on2,show ml2 OB on2=OB from R2.mul_one OB]
theorem Mi{u:W2}(h: ¬tu2 u=ze2):ml2 (ml2 OB (ad2 (tu2 u) on2)) (iv2 (ml2 (ng2 (tu2 u)) OA))=x1O u:=by
 rw[show x1O u=ml2 (ml2 (ng2 OB) (iv2 OA)) (ad2 on2 (iv2 (tu2 u)))from if_neg h]
 have e0:=dh (x:=ml2 (ng2 (tu2 u)) OA) (fun k=>(ij k).elim (U9 h) BY)
 have e1:=dh BY
 have e2:=dh h
 generalize iv2 (ml2 (ng2 (tu2 u)) OA)=w at*
 generalize tu2 u=t at*
 generalize iv2 t=s at*
 generalize iv2 OA=a' at*
 generalize OA=a at*
 generalize OB=b at*
 exact zl R2 [a,a',b,t,s,w] 0x558492b 0x4455385742a253585b5942a25358b2 0x5538742a 0x4455385742a55396b53585b5942a5675358b59a (lca (lca (lcm e0) (lcm e1)) (lcm e2))
/-! ### Signs -/
def sgS(r u:W2):W2:=if SG2 r=SG2 u then r else ng2 r
theorem ST(r u:W2):ml2 (sgS r u) (sgS r u)=ml2 r r:=by
 unfold sgS
 split
 ·rfl
 ·exact EY r
structure SwR(u x r:W2):Prop where
 sq:ml2 r r=gO x
 lg:LG2 r=false
 at1:x=x1O u∨(¬IsQ (nm2 (gO (x1O u)))∧x=ml2 (zu2 u) (x1O u))
theorem Vf(u:W2): ∃x r,SwR u x r:=by
 by_cases h:IsQ (nm2 (gO (x1O u)))
 ·obtain ⟨r,hr⟩:=(jJ _).2 h
  exact ⟨_,NL r,(Bv r).trans hr,nF r,.inl rfl⟩
 ·obtain ⟨r,hr⟩:=(jJ _).2 (K9 h)
  exact ⟨_,NL r,(Bv r).trans hr,nF r,.inr ⟨h,rfl⟩⟩
theorem SwR.on{u x r:W2}(h:SwR u x r):ml2 (sgS r u) (sgS r u)=gO x:=(ST r u).trans h.sq
theorem WH:tu2 ze2=ze2:=by decide+kernel
theorem QM:X1c≠ze2:=by decide+kernel
theorem SwR.ze{x r:W2}(h:SwR ze2 x r):x≠ze2:=by
 have e:x1O ze2=X1c:=(if_pos WH).trans IK
 rcases h.at1 with k|k
 ·rw[k,e];exact QM
 ·refine absurd ((jJ _).1 ⟨R1c, ?_⟩) k.1
  rw[Fp,e]
/-! ### The map to the second curve -/
def C6:W2:=(zp 6,-zp 6)
theorem aac:iXD=[ml2 C6 C6,ad2 C6 C6,on2]:=by decide+kernel
theorem Ww:iYD=[ml2 C6 (ml2 C6 C6),ad2 (ml2 C6 C6) (ad2 (ml2 C6 C6) (ml2 C6 C6)),ad2 C6 (ad2 C6 C6),on2]:=by decide+kernel
theorem Xu(x:W2):R2.pev iXD x=ml2 (ad2 x C6) (ad2 x C6):=by
 rw[aac]
 generalize C6=c
 exact zx R2 [x,c] 0x45775644775642561 0x5467467
theorem XF(x:W2):R2.pev iYD x=ml2 (ad2 x C6) (ml2 (ad2 x C6) (ad2 x C6)):=by
 rw[Ww]
 generalize C6=c
 exact zx R2 [x,c] 0x45757756445774577577564474775642561 0x54675467467
def R32:Zp:=zp 0x1764c4d4cfa3326ab57cbfed7f4a64378dc56542f8ff574f159cb76173021e735e4c97e34b82fa6cc8627df6f1f0af2
theorem UM:R32*R32= -(zp 32):=by decide+kernel
theorem S8: ¬IsQ (zp 32):=by
 rcases lv (a:=zp 32) (b:= -(zp 32)) (c:=zp 32) (by generalize zp 32=a;grind) (by decide+kernel)with h|h
 ·exact absurd (qV UM) h.2
 ·exact h.1
theorem VE:nm2 (gO (ng2 C6))=zp 32:=by decide+kernel
theorem nK{x y:W2}(h:ml2 y y=gO x):ad2 x C6≠ze2:=fun k=>by
 have e:x=ng2 C6:=by
  have h:=k
  generalize C6=c at*
  exact zk R2 [x,c] 0x6 0x37 0x2 0x1 0x467 h
 have q:=fM h
 rw[e,VE]at q
 exact S8 q
theorem yb{x y:W2}(h:ml2 y y=gO x):R2.pev iXD x≠ze2:=fun e=>(ij ((Xu x).symm.trans e)).elim (nK h) (nK h)
theorem wS{x y:W2}(h:ml2 y y=gO x):R2.pev iYD x≠ze2:=fun e=>(ij ((XF x).symm.trans e)).elim (nK h) (fun e=>(ij e).elim (nK h) (nK h))
def XIs(x:W2):W2:=ml2 (R2.pev iXN x) (iv2 (R2.pev iXD x))
def YIs(x y:W2):W2:=ml2 (ml2 y (R2.pev iYN x)) (iv2 (R2.pev iYD x))
theorem aas{n d e:W2}(hd:d≠ze2)(he:e≠ze2):ml2 (ml2 n e) (iv2 (ml2 d e))=ml2 n (iv2 d):=by
 rw[Gv hd he]
 have e2:=dh he
 generalize iv2 d=s at*
 generalize iv2 e=t at*
 exact zk R2 [n,d,e,s,t] 0x556859a 0x569 0x569 0x2 0x58a e2
theorem YA{n d e:W2}(hd:d≠ze2)(he:e≠ze2):ml2 (ml2 n d) (iv2 (ml2 d e))=ml2 n (iv2 e):=by
 rw[Gv hd he]
 have e1:=dh hd
 generalize iv2 d=s at*
 generalize iv2 e=t at*
 exact zk R2 [n,d,e,s,t] 0x556759a 0x56a 0x56a 0x2 0x579 e1
theorem zN{x y:W2}(h:ml2 y y=gO x):E2w.on (XIs x,YIs x y):=Qp h (yb h) (wS h)
/-! ### Coefficients, the highest first -/
def HK(f:Nat→W2)(x:W2):Nat→W2
 |0=>ze2
 |k+1=>ad2 (ml2 (HK f x k) x) (f k)
theorem Ew(f:Nat→W2)(x:W2):HK f x 4=R2.pev [f 3,f 2,f 1,f 0] x:=by
 show ad2 (ml2 (ad2 (ml2 (ad2 (ml2 (ad2 (ml2 ze2 x) (f 0)) x) (f 1)) x) (f 2)) x) (f 3)=R2.pev [f 3,f 2,f 1,f 0] x
 generalize f 0=a3
 generalize f 1=a2
 generalize f 2=a1
 generalize f 3=a0
 exact zx R2 [a0,a1,a2,a3,x] 0x454545451a9a8a7a6 0x465a475a485a495a1
theorem HK_z(f:Nat→W2)(x:W2)(h:f 0=ze2):HK f x 4=R2.pev [f 3,f 2,f 1] x:=by
 show ad2 (ml2 (ad2 (ml2 (ad2 (ml2 (ad2 (ml2 ze2 x) (f 0)) x) (f 1)) x) (f 2)) x) (f 3)=R2.pev [f 3,f 2,f 1] x
 rw[h]
 generalize f 1=a2
 generalize f 2=a1
 generalize f 3=a0
 exact zx R2 [a0,a1,a2,x] 0x45454545191989796 0x4659475948591
theorem HK_3(f:Nat→W2)(x:W2):HK f x 3=R2.pev [f 2,f 1,f 0] x:=by
 show ad2 (ml2 (ad2 (ml2 (ad2 (ml2 ze2 x) (f 0)) x) (f 1)) x) (f 2)=R2.pev [f 2,f 1,f 0] x
 generalize f 0=a2
 generalize f 1=a1
 generalize f 2=a0
 exact zx R2 [a0,a1,a2,x] 0x4545451989796 0x4659475948591
/-! ### What the laws ask besides -/
end
end Go.Proofs.YtjookodjbjabbaaGreatDoor
