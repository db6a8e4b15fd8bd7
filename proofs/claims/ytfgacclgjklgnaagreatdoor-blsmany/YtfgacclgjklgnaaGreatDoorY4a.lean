/- Y4a -/
import Derived.Test.YtfgacclgjklgnaaGreatDoorY0
import Derived.Test.YtfgacclgjklgnaaGreatDoorL16
import Derived.Test.YtfgacclgjklgnaaGreatDoorCards
import Derived.Test.YtfgacclgjklgnaaGreatDoorTie
import Derived.SevenTiedAt
namespace Go.Proofs.YtfgacclgjklgnaaGreatDoor
open Go.Proofs.Tryz
open Go.ChangeShapes Go.WideShapes Go.ChangeAt Go.RowKit
set_option maxRecDepth 100000
theorem o7(os:Os)(started:os.Started)(H:Type)(enc:TypeId×Value→H):
 ReturnsInHanded {} Tryz.checked os 9 .any (fun w args=>(Rows.blsManySpec.pre enc prog Tryz.f9 [] false w args∧laidMetH prog u3 w)∧sizedMet enc prog Tryz.f9 (OpenSpec.ofChange Rows.blsManySpec) false w args)
  (Rows.blsManySpec.post enc prog Tryz.f9 false true false false):=by
 refine returnsInHanded_of_change_and (C:=Tryz.checked) (X:=fun w _=>laidMetH prog u3 w) (fun _ _ _ hh h=>h.of_heap hh) own started kr func9
  (ChangeSpec.witness_shaped (enc:=enc) (C:=Tryz.checked) (os:=os) (X:=fun w _=>laidMetH prog u3 w) false (World.doorLaid prog 400 os) #[.int .i64 0] 8 rfl (World.shaped_of_RefB kr kr) kr kr kr (Da os _)) ?_
 intro W base args ds gs before hval0 hW _ _ hL _
 have hval: ∀(j:Nat) t v,Tryz.f9.params[j]? =some t→args[j]? =some v→Value.okWide prog W .any base t v:=hval0
 have hW':=hW
 obtain ⟨p,q,hA0,hV,rfl,_,_⟩:=hW
 have hA:DataW.TrodAll enc prog W 0 (fun _=>true) true Tryz.f9.params.toList args.toList ds p:=hA0
 rw[Tryz.params9]at hA hval
 obtain ⟨v0,vs0,d0,ds0,p0,q0,hargs,rfl,rfl,h0,r0⟩:=trodAll_cons hA
 obtain ⟨rfl,rfl,rfl⟩:=trodAll_nil r0
 obtain rfl:args= #[v0]:=by cases args;simp_all
 obtain ⟨rfl,rfl⟩:=trodVars_none hV
 have k0:=h0
 have lt0: ∀x∈p0,x.block<W.heap.size:=by obtain ⟨m,hm⟩:=k0;exact DataW.trod_lt m _ _ _ hm
 obtain ⟨n0,rfl,_⟩: ∃n,v0=I n∧inI n:=by
  obtain ⟨n,rfl⟩:=okWide_int underlying3 (hval 0 3 v0 rfl rfl)
  obtain ⟨m,hm⟩:=h0
  obtain ⟨z,e1,_,e3⟩:=DataW.trod_int underlying3 hm
  simp[Value.cells]at e1
  subst e1
  exact ⟨n,rfl,Ak e3⟩
 clear hA0 hval0
 refine (T7 n0 W (vR hL)).mono fun e W' ⟨he,bel⟩=> ?_
 subst he
 exact ⟨_,rfl,_,_,_,[],_,[],hW',trodAll_mk1 (shut_bool underlying4 _),(trodAll_cons_mk (Below.trod Ib kr (of_decide_eq_true kr) k0 bel lt0) trodAll_mk0),rfl,bel.frame _,fun h=>by cases h⟩
end Go.Proofs.YtfgacclgjklgnaaGreatDoor
