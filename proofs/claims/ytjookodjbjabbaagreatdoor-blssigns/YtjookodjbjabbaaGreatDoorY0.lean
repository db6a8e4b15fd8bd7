/- Y0 -/
import Derived.Test.YtjookodjbjabbaaGreatDoorX5
import Derived.ProofKit
import Derived.ShutString
import Derived.ChangeOld
import Derived.LaidMore
import Derived.Stop.Joined
namespace Go.Proofs.YtjookodjbjabbaaGreatDoor
open Go.Proofs.Tryz
open Go.ChangeShapes Go.WideShapes Go.ChangeAt Go.RowKit
set_option maxRecDepth 100000
theorem own:ownKnob prog.godebug=none:=kr
theorem zo:laidOutB prog=true:=kr
def vq:List (String×DataW Unit):=[("pharos/fp.inverting",Rows.laid_pharos_fp_inverting),("pharos/fp.modulus",Rows.laid_pharos_fp_modulus),("pharos/fp.lift",Rows.laid_pharos_fp_lift),("pharos/fp.half",Rows.laid_pharos_fp_half),("pharos/fp.rooting",Rows.laid_pharos_fp_rooting),("pharos/fr.modulus",Rows.laid_pharos_fr_modulus),("pharos/fr.lift",Rows.laid_pharos_fr_lift),("pharos/sha.roundWords",Rows.laid_pharos_sha_roundWords)]
theorem cU24:prog.cellsOf 24=1:=kr
theorem cU90:prog.cellsOf 90=1:=kr
theorem nV{l:List Value}{i:Nat}{v:Value}(h:(l.drop i).take 1=[v]):l[i]? =some v:=by
 have:=congrArg (·[0]?) h;simpa [List.getElem?_take]using this
theorem Ds(os:Os)(args:Array Value):laidMetH prog vq ((World.doorLaid prog 400 os).forCall (λ_ _=>0) ⟨#[],args,[]⟩).memory:=
 laidMetH_of_parts3 (fuel:=8) (laidMet_of_run' 8 kr kr) kr kr
theorem fK{W:World}{n:String}{g g' t:Nat}{cs:Array Value}{f:Nat}{p:List MemPlace}{L:L6}(hL:L.length=6)(hgn:prog.globalNamed n=some g')(htn:(prog.globals[g']?).map (·.type)=some 25)
 (hg:prog.globalNamed n=some g) (ht:(prog.globals[g]?).map (·.type)=some t) (hv:W.var? prog n=some cs)
 (hd:DataW.trod (λ_=>()) prog W 0 (λ_=>true) false f t cs.toList=some (.agg (L.map λx=>.lit (.int .u64 (x.toNat:Int))),p)):W.rangeAt g' 0 (L.map U64):=by
 obtain rfl:=Option.some.inj (hgn.symm.trans hg);obtain rfl:=Option.some.inj (htn.symm.trans ht);obtain ⟨xs,m1,rfl,hx1,hlen,hn,hel⟩:=DataW.trod_array underlying25 hd;simp only[Prod.mk.injEq,DataW.agg.injEq]at hx1;intro j v hj;have hjn:j<6:=by
  rcases Nat.lt_or_ge j 6 with h|h
  ·exact h
  ·rw[List.getElem?_eq_none (by rw[List.length_map,hL];exact h)]at hj;cases hj
 have hxj:xs[j]? =some xs[j]:=List.getElem?_eq_getElem om;obtain ⟨n,e1,e2,_⟩:=DataW.trod_int underlying24 ((hel j hjn).trans hxj);rw[cU24,Nat.mul_one]at e1;have hd:=congrArg (·[j]?) hx1.1;simp only[List.getElem?_map,hxj,Option.map_some,e2]at hd;rw[List.getElem?_map]at hj
 cases hk:L[j]? with
 |none=>rw[hk]at hj;cases hj
 |some y=>
  rw[hk]at hj hd;simp only[Option.map_some,Option.some.injEq,DataW.lit.injEq,Lit.int.injEq,true_and]at hj hd;subst hj;have hc:=World.var?_cell hg hv j;rw[Nat.zero_add,hc,<-Array.getElem?_toList,nV e1,<-hd];rfl
theorem xt{W:World}{n:String}{g g' t:Nat}{cs:Array Value}{f:Nat}{p:List MemPlace}{L:L3}(hL:L.length=64)(hgn:prog.globalNamed n=some g')(htn:(prog.globals[g']?).map (·.type)=some 92)
 (hg:prog.globalNamed n=some g) (ht:(prog.globals[g]?).map (·.type)=some t) (hv:W.var? prog n=some cs)
 (hd:DataW.trod (λ_=>()) prog W 0 (λ_=>true) false f t cs.toList=some (.agg (L.map λx=>.lit (.int .u32 (x.toNat:Int))),p)):W.rangeAt g' 0 (L.map U32):=by
 obtain rfl:=Option.some.inj (hgn.symm.trans hg);obtain rfl:=Option.some.inj (htn.symm.trans ht);obtain ⟨xs,m1,rfl,hx1,hlen,hn,hel⟩:=DataW.trod_array underlying92 hd;simp only[Prod.mk.injEq,DataW.agg.injEq]at hx1;intro j v hj;have hjn:j<64:=by
  rcases Nat.lt_or_ge j 64 with h|h
  ·exact h
  ·rw[List.getElem?_eq_none (by rw[List.length_map,hL];exact h)]at hj;cases hj
 have hxj:xs[j]? =some xs[j]:=List.getElem?_eq_getElem om;obtain ⟨n,e1,e2,_⟩:=DataW.trod_int underlying90 ((hel j hjn).trans hxj);rw[cU90,Nat.mul_one]at e1;have hd:=congrArg (·[j]?) hx1.1;simp only[List.getElem?_map,hxj,Option.map_some,e2]at hd;rw[List.getElem?_map]at hj
 cases hk:L[j]? with
 |none=>rw[hk]at hj;cases hj
 |some y=>
  rw[hk]at hj hd;simp only[Option.map_some,Option.some.injEq,DataW.lit.injEq,Lit.int.injEq,true_and]at hj hd;subst hj;have hc:=World.var?_cell hg hv j;rw[Nat.zero_add,hc,<-Array.getElem?_toList,nV e1,<-hd];rfl
theorem d0{H:Type}:(Rows.laid_pharos_fp_inverting:DataW H)=.agg (IVP.map λx=>.lit (.int .u64 (x.toNat:Int))):=rr
theorem d1{H:Type}:(Rows.laid_pharos_fp_modulus:DataW H)=.agg (PL.map λx=>.lit (.int .u64 (x.toNat:Int))):=rr
theorem d2{H:Type}:(Rows.laid_pharos_fp_lift:DataW H)=.agg (TWO.map λx=>.lit (.int .u64 (x.toNat:Int))):=rr
theorem d3{H:Type}:(Rows.laid_pharos_fp_half:DataW H)=.agg (HFP.map λx=>.lit (.int .u64 (x.toNat:Int))):=rr
theorem d4{H:Type}:(Rows.laid_pharos_fp_rooting:DataW H)=.agg (RTP.map λx=>.lit (.int .u64 (x.toNat:Int))):=rr
theorem d5{H:Type}:(Rows.laid_pharos_fr_modulus:DataW H)=.agg (ML.map λx=>.lit (.int .u64 (x.toNat:Int))):=rr
theorem d6{H:Type}:(Rows.laid_pharos_fr_lift:DataW H)=.agg (LIFT.map λx=>.lit (.int .u64 (x.toNat:Int))):=rr
theorem d7{H:Type}:(Rows.laid_pharos_sha_roundWords:DataW H)=.agg (KW.map λx=>.lit (.int .u32 (x.toNat:Int))):=rr
theorem yK{W:World}(h:laidMetH prog vq W):Gt W:=by
 rw[MakeChecks.laidMetH_plain _ _ _ kr]at h;obtain ⟨ps,⟨g0,t0,cs0,f0,p0,q0,hg0,ht0,hv0,hd0,⟨g1,t1,cs1,f1,p1,q1,hg1,ht1,hv1,hd1,⟨g2,t2,cs2,f2,p2,q2,hg2,ht2,hv2,hd2,⟨g3,t3,cs3,f3,p3,q3,hg3,ht3,hv3,hd3,⟨g4,t4,cs4,f4,p4,q4,hg4,ht4,hv4,hd4,⟨g5,t5,cs5,f5,p5,q5,hg5,ht5,hv5,hd5,⟨g6,t6,cs6,f6,p6,q6,hg6,ht6,hv6,hd6,⟨g7,t7,cs7,f7,p7,q7,hg7,ht7,hv7,hd7,_,_⟩,_⟩,_⟩,_⟩,_⟩,_⟩,_⟩,_⟩,_,_⟩:=h;rw[d0]at hd0;rw[d1]at hd1;rw[d2]at hd2;rw[d3]at hd3;rw[d4]at hd4;rw[d5]at hd5;rw[d6]at hd6;rw[d7]at hd7;exact ⟨fK O kr kr hg6 ht6 hv6 hd6,fK O kr kr hg5 ht5 hv5 hd5,fK O kr kr hg3 ht3 hv3 hd3,fK O kr kr hg1 ht1 hv1 hd1,fK O kr kr hg0 ht0 hv0 hd0,fK O kr kr hg2 ht2 hv2 hd2,fK O kr kr hg4 ht4 hv4 hd4,xt O kr kr hg7 ht7 hv7 hd7⟩
def EJ(w:World)(a:Option Addr)(len cap:Nat):Prop:=len<=cap/\∃bs:L8,bs.length=len/\BytesAt w a bs
theorem uV{W:World}{a:Option Addr}{len cap:Nat}{H:Type}{enc:TypeId×Value->H}{base:Nat}{spare:Nat->Bool}{held:Bool}{fuel:Nat}{x:DataW H×List MemPlace}(hf:DataW.trod enc prog W base spare held fuel 22 (Value.slice a len cap).cells.toList=some x):EJ W a len cap:=by
 rcases open_ints underlying22 underlying5 kr hf with ⟨hcs,_⟩|⟨x,l,c,zs,hcs,_,hl,hm,hz,_,hcell,hwz⟩
 ·simp[Value.cells]at hcs
  obtain ⟨rfl,rfl,rfl⟩:=hcs;exact ⟨Nat.le_refl _,[],rfl,BH _ _⟩
 ·simp[Value.cells]at hcs
  obtain ⟨rfl,rfl,rfl⟩:=hcs;have hzl:len<=zs.length:=by rw[hz];split<;>omega
  refine ⟨hl,(zs.take len).map (λz=>BitVec.ofInt 8 z),by rw[List.length_map,List.length_take];omega, ?_⟩
  intro j v hv;have hj:j<len:=by
   rcases Nat.lt_or_ge j len with h|h
   ·exact h
   ·rw[List.getElem?_eq_none (by simp;omega)]at hv;cases hv
  have hzj:zs[j]? =some zs[j]:=List.getElem?_eq_getElem om;refine ⟨_,rfl, ?_⟩;rw[hcell j om];have hwf:=hwz _ (List.getElem_mem (l:=zs) (n:=j) om);simp only[Lit.wf,Bool.and_eq_true,decide_eq_true_eq]at hwf;have h1:IntKind.u8.min=0:=rfl;have h2:IntKind.u8.max=255:=rfl;rw[h1,h2]at hwf;simp only[List.getElem?_map,List.getElem?_take,if_pos hj,hzj,Option.map_some,Option.some.injEq]at hv;rw[<-hv,List.getD_eq_getElem?_getD,hzj];simp only[U8,Option.getD_some,BitVec.toNat_ofInt];congr 2;omega
end Go.Proofs.YtjookodjbjabbaaGreatDoor
