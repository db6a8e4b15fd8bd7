/- Y3a -/
import Derived.Test.YtfakhlafilbjkaaGreatDoorL8
import Derived.Test.YtfakhlafilbjkaaGreatDoorY3v
import Derived.Test.YtfakhlafilbjkaaGreatDoorY3w
namespace Go.Proofs.YtfakhlafilbjkaaGreatDoor
open Go.Proofs.Tryz
open Go.ChangeShapes Go.WideShapes Go.ChangeAt Go.RowKit
set_option maxRecDepth 100000
theorem mD(os:Os)(started:os.Started)(H:Type)(enc:TypeId×Value->H):
 ReturnsInHanded {} Tryz.checked os 3 .any (λw args=>(Rows.rulesBeginSpec.pre enc prog Tryz.f3 [] false w args/\laidMetH prog tK w)/\sizedMet enc prog Tryz.f3 (OpenSpec.ofChange Rows.rulesBeginSpec) false w args)
  (Rows.rulesBeginSpec.post enc prog Tryz.f3 false true false false):=by
 refine returnsInHanded_of_change_and (C:=Tryz.checked) (X:=λw _=>laidMetH prog tK w) (λ_ _ _ hh h=>h.of_heap hh) own started qn func3
  (ChangeSpec.witness_shaped (enc:=enc) (C:=Tryz.checked) (os:=os) (X:=λw _=>laidMetH prog tK w) false (World.doorLaid prog 400 os) #[.int .u64 0,.int .i64 0,.int .u16 0,.int .i64 0,.int .i64 0] 8 O (qu os) (qt os) (qD os H enc) (qp os H enc) (AX os _)) ?_
 intro W base args ds gs before hval0 hW _ hZ hL _;have hval: ∀(j:Nat) t v,Tryz.f3.params[j]? =some t->args[j]? =some v->Value.okWide prog W .any base t v:=hval0;have hW':=hW;obtain ⟨p,q,hA0,hV,rfl,_,_⟩:=hW;have hA:DataW.TrodAll enc prog W 0 (λ_=>true) true Tryz.f3.params.toList args.toList ds p:=hA0;rw[Tryz.params3]at hA hval;obtain ⟨v0,vs0,d0,ds0,p0,q0,hargs,rfl,rfl,h0,r0⟩:=trodAll_cons hA;obtain ⟨v1,vs1,d1,ds1,p1,q1,rfl,rfl,rfl,h1,r1⟩:=trodAll_cons r0;obtain ⟨v2,vs2,d2,ds2,p2,q2,rfl,rfl,rfl,h2,r2⟩:=trodAll_cons r1;obtain ⟨v3,vs3,d3,ds3,p3,q3,rfl,rfl,rfl,h3,r3⟩:=trodAll_cons r2;obtain ⟨v4,vs4,d4,ds4,p4,q4,rfl,rfl,rfl,h4,r4⟩:=trodAll_cons r3;obtain ⟨rfl,rfl,rfl⟩:=trodAll_nil r4;obtain rfl:args= #[v0,v1,v2,v3,v4]:=by cases args;simp_all
 obtain ⟨rfl,rfl⟩:=trodVars_none hV;have k0:=h0;have lt0: ∀x∈p0,x.block<W.heap.size:=by obtain ⟨m,hm⟩:=k0;exact DataW.trod_lt m _ _ _ hm
 obtain ⟨x0,rfl⟩: ∃x:BitVec 64,v0=U64 x:=by
  obtain ⟨n,rfl⟩:=okWide_int underlying22 (hval 0 22 v0 O O);obtain ⟨m,hm⟩:=h0;obtain ⟨z,e1,_,e3⟩:=DataW.trod_int underlying22 hm;simp[Value.cells]at e1;subst e1;exact yp e3
 have k1:=h1;have lt1: ∀x∈p1,x.block<W.heap.size:=by obtain ⟨m,hm⟩:=k1;exact DataW.trod_lt m _ _ _ hm
 obtain ⟨n1,rfl,_⟩: ∃n,v1=I n/\inI n:=by
  obtain ⟨n,rfl⟩:=okWide_int underlying3 (hval 1 3 v1 O O);obtain ⟨m,hm⟩:=h1;obtain ⟨z,e1,_,e3⟩:=DataW.trod_int underlying3 hm;simp[Value.cells]at e1;subst e1;exact ⟨n,rfl,m5 e3⟩
 have k2:=h2;have lt2: ∀x∈p2,x.block<W.heap.size:=by obtain ⟨m,hm⟩:=k2;exact DataW.trod_lt m _ _ _ hm
 obtain ⟨n2,T2,rfl,hT2,hTl2⟩: ∃(n:Int) (T:BitVec 64),v2=.int .u16 n/\T=BitVec.ofInt 64 n/\T.toNat<65536:=by
  obtain ⟨n,rfl⟩:=okWide_int underlying23 (hval 2 23 v2 O O);obtain ⟨m,hm⟩:=h2;obtain ⟨z,e1,_,e3⟩:=DataW.trod_int underlying23 hm;simp[Value.cells]at e1;subst e1;obtain ⟨T,h1,h2⟩:=y4 e3;exact ⟨n,T,rfl,h1,h2⟩
 have k3:=h3;have lt3: ∀x∈p3,x.block<W.heap.size:=by obtain ⟨m,hm⟩:=k3;exact DataW.trod_lt m _ _ _ hm
 obtain ⟨n3,rfl,_⟩: ∃n,v3=I n/\inI n:=by
  obtain ⟨n,rfl⟩:=okWide_int underlying3 (hval 3 3 v3 O O);obtain ⟨m,hm⟩:=h3;obtain ⟨z,e1,_,e3⟩:=DataW.trod_int underlying3 hm;simp[Value.cells]at e1;subst e1;exact ⟨n,rfl,m5 e3⟩
 have k4:=h4;have lt4: ∀x∈p4,x.block<W.heap.size:=by obtain ⟨m,hm⟩:=k4;exact DataW.trod_lt m _ _ _ hm
 obtain ⟨n4,rfl,_⟩: ∃n,v4=I n/\inI n:=by
  obtain ⟨n,rfl⟩:=okWide_int underlying3 (hval 4 3 v4 O O);obtain ⟨m,hm⟩:=h4;obtain ⟨z,e1,_,e3⟩:=DataW.trod_int underlying3 hm;simp[Value.cells]at e1;subst e1;exact ⟨n,rfl,m5 e3⟩
 clear hA0 hval0;refine (yv rp x0 n1 n3 n4 n2 T2 hT2 W (vA hL)).mono λe W' ⟨he,bel⟩=> ?_;subst he;exact ⟨_,rfl,_,_,_,[],_,[],hW',trodAll_mk1 (shut_bool underlying4 _),(trodAll_cons_mk (Below.trod mA pL oV k0 bel lt0) (trodAll_cons_mk (Below.trod mA jx jD k1 bel lt1) (trodAll_cons_mk (Below.trod mA pY pX k2 bel lt2) (trodAll_cons_mk (Below.trod mA jx jD k3 bel lt3) (trodAll_cons_mk (Below.trod mA jx jD k4 bel lt4) trodAll_mk0))))),rfl,bel.frame _,λh=>by cases h⟩
end Go.Proofs.YtfakhlafilbjkaaGreatDoor
