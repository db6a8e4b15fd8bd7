/- Y5a -/
import Derived.Test.YtfakhlafilbjkaaGreatDoorL7
import Derived.Test.YtfakhlafilbjkaaGreatDoorY5v
import Derived.Test.YtfakhlafilbjkaaGreatDoorY5w
namespace Go.Proofs.YtfakhlafilbjkaaGreatDoor
open Go.Proofs.Tryz
open Go.ChangeShapes Go.WideShapes Go.ChangeAt Go.RowKit
set_option maxRecDepth 100000
theorem lI(os:Os)(started:os.Started)(H:Type)(enc:TypeId×Value->H):
 ReturnsInHanded {} Tryz.checked os 5 .any (λw args=>(Rows.rulesKindsSpec.pre enc prog Tryz.f5 [] false w args/\laidMetH prog sN w)/\sizedMet enc prog Tryz.f5 (OpenSpec.ofChange Rows.rulesKindsSpec) false w args)
  (Rows.rulesKindsSpec.post enc prog Tryz.f5 false true false false):=by
 refine returnsInHanded_of_change_and (C:=Tryz.checked) (X:=λw _=>laidMetH prog sN w) (λ_ _ _ hh h=>h.of_heap hh) own started pS func5
  (ChangeSpec.witness_shaped (enc:=enc) (C:=Tryz.checked) (os:=os) (X:=λw _=>laidMetH prog sN w) false (World.doorLaid prog 400 os) #[.agg wUp.toArray,.agg wSt.toArray] 8 O (pP os) (pV os) (pR os H enc) (p9 os H enc) (yH os _)) ?_
 intro W base args ds gs before hval0 hW _ hZ hL _;have hval: ∀(j:Nat) t v,Tryz.f5.params[j]? =some t->args[j]? =some v->Value.okWide prog W .any base t v:=hval0;have hW':=hW;obtain ⟨p,q,hA0,hV,rfl,_,_⟩:=hW;have hA:DataW.TrodAll enc prog W 0 (λ_=>true) true Tryz.f5.params.toList args.toList ds p:=hA0;rw[Tryz.params5]at hA hval;obtain ⟨v0,vs0,d0,ds0,p0,q0,hargs,rfl,rfl,h0,r0⟩:=trodAll_cons hA;obtain ⟨v1,vs1,d1,ds1,p1,q1,rfl,rfl,rfl,h1,r1⟩:=trodAll_cons r0;obtain ⟨rfl,rfl,rfl⟩:=trodAll_nil r1;obtain rfl:args= #[v0,v1]:=by cases args;simp_all
 obtain ⟨rfl,rfl⟩:=trodVars_none hV;have k0:=h0;have lt0: ∀x∈p0,x.block<W.heap.size:=by obtain ⟨m,hm⟩:=k0;exact DataW.trod_lt m _ _ _ hm
 obtain ⟨cs0,rfl,_⟩:=okWide_struct underlying71 (hval 0 71 v0 O O);obtain ⟨u0,hu0,hc0,hks0,hbs0,hbc0⟩: ∃x:Up,x.Ok/\cs0.toList=x.cs/\RwsAt 48 W x.nx.ka x.nx.ks/\CellsAt W x.sy.ba (x.sy.bs.map .bool)/\x.sy.bs.length<=x.sy.bc:=by obtain ⟨m,hm⟩:=h0;exact isUp hm
 obtain rfl:cs0=u0.cs.toArray:=by rw[<-hc0]
 have hle0:=h0.elim λm hm=>K7 hu0 hm (λn hn=>List.all_eq_true.1 hZ n (DataW.weights_mem_each (j:=0) O O n hn)|>of_decide_eq_true);have k1:=h1;have lt1: ∀x∈p1,x.block<W.heap.size:=by obtain ⟨m,hm⟩:=k1;exact DataW.trod_lt m _ _ _ hm
 obtain ⟨cs1,rfl,_⟩:=okWide_struct underlying53 (hval 1 53 v1 O O);obtain ⟨u1,hu1,hc1,hnw1,hnx1⟩: ∃x:St,x.Ok/\cs1.toList=x.cs/\RwsAt 48 W x.nw.ka x.nw.ks/\RwsAt 48 W x.nx.ka x.nx.ks:=by obtain ⟨m,hm⟩:=h1;exact isSt hm
 obtain rfl:cs1=u1.cs.toArray:=by rw[<-hc1]
 have hle1:=h1.elim λm hm=>Jd hu1 hm (λn hn=>List.all_eq_true.1 hZ n (DataW.weights_mem_each (j:=1) O O n hn)|>of_decide_eq_true);clear hA0 hval0;refine (xj rp u0 hu0 u1 hu1 W (t8 hL) hnx1).mono λe W' ⟨he,bel⟩=> ?_;subst he;exact ⟨_,rfl,_,_,_,[],_,[],hW',trodAll_mk1 (shut_bool underlying4 _),(trodAll_cons_mk (Below.trod vr oo oT k0 bel lt0) (trodAll_cons_mk (Below.trod vr oN n0 k1 bel lt1) trodAll_mk0)),rfl,bel.frame _,λh=>by cases h⟩
end Go.Proofs.YtfakhlafilbjkaaGreatDoor
