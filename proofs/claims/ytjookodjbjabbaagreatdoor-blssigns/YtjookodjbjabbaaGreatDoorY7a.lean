/- Y7a -/
import Derived.Test.YtjookodjbjabbaaGreatDoorY0
import Derived.Test.YtjookodjbjabbaaGreatDoorL7
import Derived.Test.YtjookodjbjabbaaGreatDoorCards
import Derived.Test.YtjookodjbjabbaaGreatDoorTie
namespace Go.Proofs.YtjookodjbjabbaaGreatDoor
open Go.Proofs.Tryz
open Go.ChangeShapes Go.WideShapes Go.ChangeAt Go.RowKit
set_option maxRecDepth 100000
theorem oa(os:Os)(started:os.Started)(H:Type)(enc:TypeId×Value->H):
 ReturnsInHanded {} Tryz.checked os 3 .any (λw args=>(Rows.blsSignsSpec.pre enc prog Tryz.f3 [] false w args/\laidMetH prog vq w)/\sizedMet enc prog Tryz.f3 (OpenSpec.ofChange Rows.blsSignsSpec) false w args)
  (Rows.blsSignsSpec.post enc prog Tryz.f3 false true false false):=by
 refine returnsInHanded_of_change_and (C:=Tryz.checked) (X:=λw _=>laidMetH prog vq w) (λ_ _ _ hh h=>h.of_heap hh) own started kr func3
  (ChangeSpec.witness_shaped (enc:=enc) (C:=Tryz.checked) (os:=os) (X:=λw _=>laidMetH prog vq w) false (World.doorLaid prog 400 os) #[.slice none 0 0,.slice none 0 0] 8 O (World.shaped_of_RefB kr kr) kr kr kr (Ds os _)) ?_
 intro W base args ds gs before hval0 hW _ _ hL _;have hval: ∀(j:Nat) t v,Tryz.f3.params[j]? =some t->args[j]? =some v->Value.okWide prog W .any base t v:=hval0;have hW':=hW;obtain ⟨p,q,hA0,hV,rfl,_,_⟩:=hW;have hA:DataW.TrodAll enc prog W 0 (λ_=>true) true Tryz.f3.params.toList args.toList ds p:=hA0;rw[Tryz.params3]at hA hval;obtain ⟨v0,vs0,d0,ds0,p0,q0,hargs,rfl,rfl,h0,r0⟩:=trodAll_cons hA;obtain ⟨v1,vs1,d1,ds1,p1,q1,rfl,rfl,rfl,h1,r1⟩:=trodAll_cons r0;obtain ⟨rfl,rfl,rfl⟩:=trodAll_nil r1;obtain rfl:args= #[v0,v1]:=by cases args;simp_all
 obtain ⟨rfl,rfl⟩:=trodVars_none hV;have k0:=h0;have lt0: ∀x∈p0,x.block<W.heap.size:=by obtain ⟨m,hm⟩:=k0;exact DataW.trod_lt m _ _ _ hm
 obtain ⟨a0,len0,cap0,rfl⟩:=okWide_slice underlying22 (hval 0 22 v0 O O);obtain ⟨hc0,bs0,hl0,hb0⟩:EJ W a0 len0 cap0:=by obtain ⟨m,hm⟩:=h0;exact uV hm
 subst hl0;have k1:=h1;have lt1: ∀x∈p1,x.block<W.heap.size:=by obtain ⟨m,hm⟩:=k1;exact DataW.trod_lt m _ _ _ hm
 obtain ⟨a1,len1,cap1,rfl⟩:=okWide_slice underlying22 (hval 1 22 v1 O O);obtain ⟨hc1,bs1,hl1,hb1⟩:EJ W a1 len1 cap1:=by obtain ⟨m,hm⟩:=h1;exact uV hm
 subst hl1;clear hA0 hval0;refine (PZ a0 cap0 bs0 a1 cap1 bs1 hc0 hc1 W (yK hL) hb0 hb1).mono λe W' ⟨he,bel⟩=> ?_;subst he;exact ⟨_,rfl,_,_,_,[],_,[],hW',trodAll_mk1 (shut_bool underlying4 _),(trodAll_cons_mk (Below.trod zo kr (of_decide_eq_true kr) k0 bel lt0) (trodAll_cons_mk (Below.trod zo kr (of_decide_eq_true kr) k1 bel lt1) trodAll_mk0)),rfl,bel.frame _,λh=>by cases h⟩
end Go.Proofs.YtjookodjbjabbaaGreatDoor
