/- Y5a -/
import Derived.Test.YtfgacclgjklgnaaGreatDoorY0
import Derived.Test.YtfgacclgjklgnaaGreatDoorL7
import Derived.Test.YtfgacclgjklgnaaGreatDoorCards
import Derived.Test.YtfgacclgjklgnaaGreatDoorTie
namespace Go.Proofs.YtfgacclgjklgnaaGreatDoor
open Go.Proofs.Tryz
open Go.ChangeShapes Go.WideShapes Go.ChangeAt Go.RowKit
set_option maxRecDepth 100000
theorem pV(os:Os)(started:os.Started)(H:Type)(enc:TypeId×Value->H):
 ReturnsInHanded {} Tryz.checked os 5 .any (λw args=>(Rows.blsKeysSpec.pre enc prog Tryz.f5 [] false w args/\laidMetH prog u7 w)/\sizedMet enc prog Tryz.f5 (OpenSpec.ofChange Rows.blsKeysSpec) false w args)
  (Rows.blsKeysSpec.post enc prog Tryz.f5 false true false false):=by
 refine returnsInHanded_of_change_and (C:=Tryz.checked) (X:=λw _=>laidMetH prog u7 w) (λ_ _ _ hh h=>h.of_heap hh) own started kr func5
  (ChangeSpec.witness_shaped (enc:=enc) (C:=Tryz.checked) (os:=os) (X:=λw _=>laidMetH prog u7 w) false (World.doorLaid prog 400 os) #[.slice none 0 0] 8 O (World.shaped_of_RefB kr kr) kr kr kr (ED os _)) ?_
 intro W base args ds gs before hval0 hW _ _ hL _;have hval: ∀(j:Nat) t v,Tryz.f5.params[j]? =some t->args[j]? =some v->Value.okWide prog W .any base t v:=hval0;have hW':=hW;obtain ⟨p,q,hA0,hV,rfl,_,_⟩:=hW;have hA:DataW.TrodAll enc prog W 0 (λ_=>true) true Tryz.f5.params.toList args.toList ds p:=hA0;rw[Tryz.params5]at hA hval;obtain ⟨v0,vs0,d0,ds0,p0,q0,hargs,rfl,rfl,h0,r0⟩:=trodAll_cons hA;obtain ⟨rfl,rfl,rfl⟩:=trodAll_nil r0;obtain rfl:args= #[v0]:=by cases args;simp_all
 obtain ⟨rfl,rfl⟩:=trodVars_none hV;have k0:=h0;have lt0: ∀x∈p0,x.block<W.heap.size:=by obtain ⟨m,hm⟩:=k0;exact DataW.trod_lt m _ _ _ hm
 obtain ⟨a0,len0,cap0,rfl⟩:=okWide_slice underlying22 (hval 0 22 v0 O O);obtain ⟨_,bs0,hl0,hb0⟩:Ou W a0 len0 cap0:=by obtain ⟨m,hm⟩:=h0;exact HJ hm
 subst hl0;clear hA0 hval0;refine (YK a0 cap0 bs0 W (zd hL) hb0).mono λe W' ⟨he,bel⟩=> ?_;subst he;exact ⟨_,rfl,_,_,_,[],_,[],hW',trodAll_mk1 (shut_bool underlying4 _),(trodAll_cons_mk (Below.trod LA kr (of_decide_eq_true kr) k0 bel lt0) trodAll_mk0),rfl,bel.frame _,λh=>by cases h⟩
end Go.Proofs.YtfgacclgjklgnaaGreatDoor
