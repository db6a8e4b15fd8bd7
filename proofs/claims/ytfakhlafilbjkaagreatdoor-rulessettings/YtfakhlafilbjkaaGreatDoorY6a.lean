/- Y6a -/
import Derived.Test.YtfakhlafilbjkaaGreatDoorL7
import Derived.Test.YtfakhlafilbjkaaGreatDoorY6v
import Derived.Test.YtfakhlafilbjkaaGreatDoorY6w
namespace Go.Proofs.YtfakhlafilbjkaaGreatDoor
open Go.Proofs.Tryz
open Go.ChangeShapes Go.WideShapes Go.ChangeAt Go.RowKit
set_option maxRecDepth 100000
theorem jZ(os:Os)(started:os.Started)(H:Type)(enc:TypeId×Value->H):
 ReturnsInHanded {} Tryz.checked os 6 .any (λw args=>(Rows.rulesSettingsSpec.pre enc prog Tryz.f6 [] false w args/\laidMetH prog sX w)/\sizedMet enc prog Tryz.f6 (OpenSpec.ofChange Rows.rulesSettingsSpec) false w args)
  (Rows.rulesSettingsSpec.post enc prog Tryz.f6 false true false false):=by
 refine returnsInHanded_of_change_and (C:=Tryz.checked) (X:=λw _=>laidMetH prog sX w) (λ_ _ _ hh h=>h.of_heap hh) own started mO func6
  (ChangeSpec.witness_shaped (enc:=enc) (C:=Tryz.checked) (os:=os) (X:=λw _=>laidMetH prog sX w) false (World.doorLaid prog 400 os) #[.agg wCf.toArray,.agg wUp.toArray,.agg wSt.toArray] 8 O (nk os) (na os) (mQ os H enc) (mL os H enc) (AA os _)) ?_
 intro W base args ds gs before hval0 hW _ hZ hL _;have hval: ∀(j:Nat) t v,Tryz.f6.params[j]? =some t->args[j]? =some v->Value.okWide prog W .any base t v:=hval0;have hW':=hW;obtain ⟨p,q,hA0,hV,rfl,_,_⟩:=hW;have hA:DataW.TrodAll enc prog W 0 (λ_=>true) true Tryz.f6.params.toList args.toList ds p:=hA0;rw[Tryz.params6]at hA hval;obtain ⟨v0,vs0,d0,ds0,p0,q0,hargs,rfl,rfl,h0,r0⟩:=trodAll_cons hA;obtain ⟨v1,vs1,d1,ds1,p1,q1,rfl,rfl,rfl,h1,r1⟩:=trodAll_cons r0;obtain ⟨v2,vs2,d2,ds2,p2,q2,rfl,rfl,rfl,h2,r2⟩:=trodAll_cons r1;obtain ⟨rfl,rfl,rfl⟩:=trodAll_nil r2;obtain rfl:args= #[v0,v1,v2]:=by cases args;simp_all
 obtain ⟨rfl,rfl⟩:=trodVars_none hV;have k0:=h0;have lt0: ∀x∈p0,x.block<W.heap.size:=by obtain ⟨m,hm⟩:=k0;exact DataW.trod_lt m _ _ _ hm
 obtain ⟨cs0,rfl,_⟩:=okWide_struct underlying50 (hval 0 50 v0 O O);obtain ⟨u0,hu0,hc0⟩: ∃x:Cf,x.Ok/\cs0.toList=x.cs:=by obtain ⟨m,hm⟩:=h0;exact isCf hm
 obtain rfl:cs0=u0.cs.toArray:=by rw[<-hc0]
 have k1:=h1;have lt1: ∀x∈p1,x.block<W.heap.size:=by obtain ⟨m,hm⟩:=k1;exact DataW.trod_lt m _ _ _ hm
 obtain ⟨cs1,rfl,_⟩:=okWide_struct underlying71 (hval 1 71 v1 O O);obtain ⟨u1,hu1,hc1,hks1,hbs1,hbc1⟩: ∃x:Up,x.Ok/\cs1.toList=x.cs/\RwsAt 48 W x.nx.ka x.nx.ks/\CellsAt W x.sy.ba (x.sy.bs.map .bool)/\x.sy.bs.length<=x.sy.bc:=by obtain ⟨m,hm⟩:=h1;exact isUp hm
 obtain rfl:cs1=u1.cs.toArray:=by rw[<-hc1]
 have hle1:=h1.elim λm hm=>J9 hu1 hm (λn hn=>List.all_eq_true.1 hZ n (DataW.weights_mem_each (j:=1) O O n hn)|>of_decide_eq_true);have k2:=h2;have lt2: ∀x∈p2,x.block<W.heap.size:=by obtain ⟨m,hm⟩:=k2;exact DataW.trod_lt m _ _ _ hm
 obtain ⟨cs2,rfl,_⟩:=okWide_struct underlying53 (hval 2 53 v2 O O);obtain ⟨u2,hu2,hc2,hnw2,hnx2⟩: ∃x:St,x.Ok/\cs2.toList=x.cs/\RwsAt 48 W x.nw.ka x.nw.ks/\RwsAt 48 W x.nx.ka x.nx.ks:=by obtain ⟨m,hm⟩:=h2;exact isSt hm
 obtain rfl:cs2=u2.cs.toArray:=by rw[<-hc2]
 have hle2:=h2.elim λm hm=>IJ hu2 hm (λn hn=>List.all_eq_true.1 hZ n (DataW.weights_mem_each (j:=2) O O n hn)|>of_decide_eq_true);clear hA0 hval0;refine (rS rp u0 hu0 u1 hu1 u2 hu2 (Nat.le_trans hle1 aC) (Nat.le_trans hle2.2 aC) (Nat.le_trans hle2.1 aC) W (uB hL) ⟨hnw2,hnx2,hks1,hbs1⟩).mono λe W' ⟨he,bel⟩=> ?_;subst he;exact ⟨_,rfl,_,_,_,[],_,[],hW',trodAll_mk1 (shut_bool underlying4 _),(trodAll_cons_mk (Below.trod rF lY my k0 bel lt0) (trodAll_cons_mk (Below.trod rF lB lF k1 bel lt1) (trodAll_cons_mk (Below.trod rF lG mq k2 bel lt2) trodAll_mk0))),rfl,bel.frame _,λh=>by cases h⟩
end Go.Proofs.YtfakhlafilbjkaaGreatDoor
