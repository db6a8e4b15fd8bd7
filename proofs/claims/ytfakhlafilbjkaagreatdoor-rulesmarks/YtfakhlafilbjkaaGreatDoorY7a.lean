/- Y7a -/
import Derived.Test.YtfakhlafilbjkaaGreatDoorL7
import Derived.Test.YtfakhlafilbjkaaGreatDoorY7v
import Derived.Test.YtfakhlafilbjkaaGreatDoorY7w
namespace Go.Proofs.YtfakhlafilbjkaaGreatDoor
open Go.Proofs.Tryz
open Go.ChangeShapes Go.WideShapes Go.ChangeAt Go.RowKit
set_option maxRecDepth 100000
theorem lJ(os:Os)(started:os.Started)(H:Type)(enc:TypeId×Value->H):
 ReturnsInHanded {} Tryz.checked os 7 .any (λw args=>(Rows.rulesMarksSpec.pre enc prog Tryz.f7 [] false w args/\laidMetH prog tz w)/\sizedMet enc prog Tryz.f7 (OpenSpec.ofChange Rows.rulesMarksSpec) false w args)
  (Rows.rulesMarksSpec.post enc prog Tryz.f7 false true false false):=by
 refine returnsInHanded_of_change_and (C:=Tryz.checked) (X:=λw _=>laidMetH prog tz w) (λ_ _ _ hh h=>h.of_heap hh) own started qi func7
  (ChangeSpec.witness_shaped (enc:=enc) (C:=Tryz.checked) (os:=os) (X:=λw _=>laidMetH prog tz w) false (World.doorLaid prog 400 os) #[.int .i64 0,.int .i64 0,.int .u16 0] 8 O (qd os) (p8 os) (pV os H enc) (qh os H enc) (zi os _)) ?_
 intro W base args ds gs before hval0 hW _ hZ hL _;have hval: ∀(j:Nat) t v,Tryz.f7.params[j]? =some t->args[j]? =some v->Value.okWide prog W .any base t v:=hval0;have hW':=hW;obtain ⟨p,q,hA0,hV,rfl,_,_⟩:=hW;have hA:DataW.TrodAll enc prog W 0 (λ_=>true) true Tryz.f7.params.toList args.toList ds p:=hA0;rw[Tryz.params7]at hA hval;obtain ⟨v0,vs0,d0,ds0,p0,q0,hargs,rfl,rfl,h0,r0⟩:=trodAll_cons hA;obtain ⟨v1,vs1,d1,ds1,p1,q1,rfl,rfl,rfl,h1,r1⟩:=trodAll_cons r0;obtain ⟨v2,vs2,d2,ds2,p2,q2,rfl,rfl,rfl,h2,r2⟩:=trodAll_cons r1;obtain ⟨rfl,rfl,rfl⟩:=trodAll_nil r2;obtain rfl:args= #[v0,v1,v2]:=by cases args;simp_all
 obtain ⟨rfl,rfl⟩:=trodVars_none hV;have k0:=h0;have lt0: ∀x∈p0,x.block<W.heap.size:=by obtain ⟨m,hm⟩:=k0;exact DataW.trod_lt m _ _ _ hm
 obtain ⟨n0,rfl,_⟩: ∃n,v0=I n/\inI n:=by
  obtain ⟨n,rfl⟩:=okWide_int underlying3 (hval 0 3 v0 O O);obtain ⟨m,hm⟩:=h0;obtain ⟨z,e1,_,e3⟩:=DataW.trod_int underlying3 hm;simp[Value.cells]at e1;subst e1;exact ⟨n,rfl,qs e3⟩
 have k1:=h1;have lt1: ∀x∈p1,x.block<W.heap.size:=by obtain ⟨m,hm⟩:=k1;exact DataW.trod_lt m _ _ _ hm
 obtain ⟨n1,rfl,_⟩: ∃n,v1=I n/\inI n:=by
  obtain ⟨n,rfl⟩:=okWide_int underlying3 (hval 1 3 v1 O O);obtain ⟨m,hm⟩:=h1;obtain ⟨z,e1,_,e3⟩:=DataW.trod_int underlying3 hm;simp[Value.cells]at e1;subst e1;exact ⟨n,rfl,qs e3⟩
 have k2:=h2;have lt2: ∀x∈p2,x.block<W.heap.size:=by obtain ⟨m,hm⟩:=k2;exact DataW.trod_lt m _ _ _ hm
 obtain ⟨n2,T2,rfl,hT2,hTl2⟩: ∃(n:Int) (T:BitVec 64),v2=.int .u16 n/\T=BitVec.ofInt 64 n/\T.toNat<65536:=by
  obtain ⟨n,rfl⟩:=okWide_int underlying23 (hval 2 23 v2 O O);obtain ⟨m,hm⟩:=h2;obtain ⟨z,e1,_,e3⟩:=DataW.trod_int underlying23 hm;simp[Value.cells]at e1;subst e1;obtain ⟨T,h1,h2⟩:=yD e3;exact ⟨n,T,rfl,h1,h2⟩
 clear hA0 hval0;refine (xN rp n0 n1 n2 T2 hT2 hTl2 W (u5 hL)).mono λe W' ⟨he,bel⟩=> ?_;subst he;exact ⟨_,rfl,_,_,_,[],_,[],hW',trodAll_mk1 (shut_bool underlying4 _),(trodAll_cons_mk (Below.trod ry k6 kX k0 bel lt0) (trodAll_cons_mk (Below.trod ry k6 kX k1 bel lt1) (trodAll_cons_mk (Below.trod ry oF oV k2 bel lt2) trodAll_mk0))),rfl,bel.frame _,λh=>by cases h⟩
end Go.Proofs.YtfakhlafilbjkaaGreatDoor
