/- Y0 -/
import Derived.Test.YtfakhlafilbjkaaGreatDoorX5
import Derived.ProofKit
import Derived.ShutString
import Derived.ChangeOld
import Derived.LaidMore
import Derived.Stop.Joined
namespace Go.Proofs.YtfakhlafilbjkaaGreatDoor
open Go.Proofs.Tryz
open Go.ChangeShapes Go.WideShapes Go.ChangeAt Go.RowKit
set_option maxRecDepth 100000
theorem own:ownKnob prog.godebug=none:=kr
theorem rF:laidOutB prog=true:=kr
def sX:List (String×DataW Unit):=[("pharos/fp.inverting",Rows.laid_pharos_fp_inverting),("pharos/fp.modulus",Rows.laid_pharos_fp_modulus),("pharos/fp.lift",Rows.laid_pharos_fp_lift),("pharos/fp.half",Rows.laid_pharos_fp_half),("pharos/fp.rooting",Rows.laid_pharos_fp_rooting),("pharos/sha.roundWords",Rows.laid_pharos_sha_roundWords)]
theorem cU22:prog.cellsOf 22=1:=kr
theorem Ip:prog.cellsOf 154=1:=kr
theorem nF{l:List Value}{i:Nat}{v:Value}(h:(l.drop i).take 1=[v]):l[i]? =some v:=by
 have:=congrArg (·[0]?) h;simpa [List.getElem?_take]using this
theorem AA(os:Os)(args:Array Value):laidMetH prog sX ((World.doorLaid prog 400 os).forCall (λ_ _=>0) ⟨#[],args,[]⟩).memory:=
 laidMetH_of_parts3 (fuel:=8) (laidMet_of_run' 8 kr kr) kr kr
theorem gN{W:World}{n:String}{g g' t:Nat}{cs:Array Value}{f:Nat}{p:List MemPlace}{L:L6}(hL:L.length=6)(hgn:prog.globalNamed n=some g')(htn:(prog.globals[g']?).map (·.type)=some 119)
 (hg:prog.globalNamed n=some g) (ht:(prog.globals[g]?).map (·.type)=some t) (hv:W.var? prog n=some cs)
 (hd:DataW.trod (λ_=>()) prog W 0 (λ_=>true) false f t cs.toList=some (.agg (L.map λx=>.lit (.int .u64 (x.toNat:Int))),p)):W.rangeAt g' 0 (L.map U64):=by
 obtain rfl:=Option.some.inj (hgn.symm.trans hg);obtain rfl:=Option.some.inj (htn.symm.trans ht);obtain ⟨xs,m1,rfl,hx1,hlen,hn,hel⟩:=DataW.trod_array underlying119 hd;simp only[Prod.mk.injEq,DataW.agg.injEq]at hx1;intro j v hj;have hjn:j<6:=by
  rcases Nat.lt_or_ge j 6 with h|h
  ·exact h
  ·rw[List.getElem?_eq_none (by rw[List.length_map,hL];exact h)]at hj;cases hj
 have hxj:xs[j]? =some xs[j]:=List.getElem?_eq_getElem om;obtain ⟨n,e1,e2,_⟩:=DataW.trod_int underlying22 ((hel j hjn).trans hxj);rw[cU22,Nat.mul_one]at e1;have hd:=congrArg (·[j]?) hx1.1;simp only[List.getElem?_map,hxj,Option.map_some,e2]at hd;rw[List.getElem?_map]at hj
 cases hk:L[j]? with
 |none=>rw[hk]at hj;cases hj
 |some y=>
  rw[hk]at hj hd;simp only[Option.map_some,Option.some.injEq,DataW.lit.injEq,Lit.int.injEq,true_and]at hj hd;subst hj;have hc:=World.var?_cell hg hv j;rw[Nat.zero_add,hc,<-Array.getElem?_toList,nF e1,<-hd];rfl
theorem sH{W:World}{n:String}{g g' t:Nat}{cs:Array Value}{f:Nat}{p:List MemPlace}{L:Lz3}(hL:L.length=64)(hgn:prog.globalNamed n=some g')(htn:(prog.globals[g']?).map (·.type)=some 156)
 (hg:prog.globalNamed n=some g) (ht:(prog.globals[g]?).map (·.type)=some t) (hv:W.var? prog n=some cs)
 (hd:DataW.trod (λ_=>()) prog W 0 (λ_=>true) false f t cs.toList=some (.agg (L.map λx=>.lit (.int .u32 (x.toNat:Int))),p)):W.rangeAt g' 0 (L.map U32):=by
 obtain rfl:=Option.some.inj (hgn.symm.trans hg);obtain rfl:=Option.some.inj (htn.symm.trans ht);obtain ⟨xs,m1,rfl,hx1,hlen,hn,hel⟩:=DataW.trod_array underlying156 hd;simp only[Prod.mk.injEq,DataW.agg.injEq]at hx1;intro j v hj;have hjn:j<64:=by
  rcases Nat.lt_or_ge j 64 with h|h
  ·exact h
  ·rw[List.getElem?_eq_none (by rw[List.length_map,hL];exact h)]at hj;cases hj
 have hxj:xs[j]? =some xs[j]:=List.getElem?_eq_getElem om;obtain ⟨n,e1,e2,_⟩:=DataW.trod_int underlying154 ((hel j hjn).trans hxj);rw[Ip,Nat.mul_one]at e1;have hd:=congrArg (·[j]?) hx1.1;simp only[List.getElem?_map,hxj,Option.map_some,e2]at hd;rw[List.getElem?_map]at hj
 cases hk:L[j]? with
 |none=>rw[hk]at hj;cases hj
 |some y=>
  rw[hk]at hj hd;simp only[Option.map_some,Option.some.injEq,DataW.lit.injEq,Lit.int.injEq,true_and]at hj hd;subst hj;have hc:=World.var?_cell hg hv j;rw[Nat.zero_add,hc,<-Array.getElem?_toList,nF e1,<-hd];rfl
theorem d0{H:Type}:(Rows.laid_pharos_fp_inverting:DataW H)=.agg (IVP.map λx=>.lit (.int .u64 (x.toNat:Int))):=aE
theorem d1{H:Type}:(Rows.laid_pharos_fp_modulus:DataW H)=.agg (PL.map λx=>.lit (.int .u64 (x.toNat:Int))):=aE
theorem d2{H:Type}:(Rows.laid_pharos_fp_lift:DataW H)=.agg (TWO.map λx=>.lit (.int .u64 (x.toNat:Int))):=aE
theorem d3{H:Type}:(Rows.laid_pharos_fp_half:DataW H)=.agg (HFP.map λx=>.lit (.int .u64 (x.toNat:Int))):=aE
theorem d4{H:Type}:(Rows.laid_pharos_fp_rooting:DataW H)=.agg (RTP.map λx=>.lit (.int .u64 (x.toNat:Int))):=aE
theorem d5{H:Type}:(Rows.laid_pharos_sha_roundWords:DataW H)=.agg (KW.map λx=>.lit (.int .u32 (x.toNat:Int))):=aE
theorem uB{W:World}(h:laidMetH prog sX W):Gt W:=by
 rw[MakeChecks.laidMetH_plain _ _ _ kr]at h;obtain ⟨ps,⟨g0,t0,cs0,f0,p0,q0,hg0,ht0,hv0,hd0,⟨g1,t1,cs1,f1,p1,q1,hg1,ht1,hv1,hd1,⟨g2,t2,cs2,f2,p2,q2,hg2,ht2,hv2,hd2,⟨g3,t3,cs3,f3,p3,q3,hg3,ht3,hv3,hd3,⟨g4,t4,cs4,f4,p4,q4,hg4,ht4,hv4,hd4,⟨g5,t5,cs5,f5,p5,q5,hg5,ht5,hv5,hd5,_,_⟩,_⟩,_⟩,_⟩,_⟩,_⟩,_,_⟩:=h;rw[d0]at hd0;rw[d1]at hd1;rw[d2]at hd2;rw[d3]at hd3;rw[d4]at hd4;rw[d5]at hd5;exact ⟨gN O kr kr hg1 ht1 hv1 hd1,sH O kr kr hg5 ht5 hv5 hd5,gN O kr kr hg2 ht2 hv2 hd2,gN O kr kr hg4 ht4 hv4 hd4,gN O kr kr hg3 ht3 hv3 hd3,gN O kr kr hg0 ht0 hv0 hd0⟩
end Go.Proofs.YtfakhlafilbjkaaGreatDoor
