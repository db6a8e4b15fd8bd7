/- Y6a -/
import Derived.Test.YtfgacclgjklgnaaGreatDoorY0
import Derived.Test.YtfgacclgjklgnaaGreatDoorL8
import Derived.Test.YtfgacclgjklgnaaGreatDoorCards
import Derived.Test.YtfgacclgjklgnaaGreatDoorTie
import Derived.SevenTiedAt
namespace Go.Proofs.YtfgacclgjklgnaaGreatDoor
open Go.Proofs.Tryz
open Go.ChangeShapes Go.WideShapes Go.ChangeAt Go.RowKit
set_option maxRecDepth 100000
theorem nP(os:Os)(started:os.Started)(H:Type)(enc:TypeId×Value→H):
 ReturnsInHanded {} Tryz.checked os 10 .any (fun w args=>(Rows.blsPartsSpec.pre enc prog Tryz.f10 [] false w args∧laidMetH prog uJ w)∧sizedMet enc prog Tryz.f10 (OpenSpec.ofChange Rows.blsPartsSpec) false w args)
  (Rows.blsPartsSpec.post enc prog Tryz.f10 false true false false):=by
 refine returnsInHanded_of_change_and (C:=Tryz.checked) (X:=fun w _=>laidMetH prog uJ w) (fun _ _ _ hh h=>h.of_heap hh) own started kr func10
  (ChangeSpec.witness_shaped (enc:=enc) (C:=Tryz.checked) (os:=os) (X:=fun w _=>laidMetH prog uJ w) false (World.doorLaid prog 400 os) #[.slice none 0 0,.slice none 0 0,.slice none 0 0] 8 rfl (World.shaped_of_RefB kr kr) kr kr kr (ES os _)) ?_
 intro W base args ds gs before hval0 hW _ _ hL _
 have hval: ∀(j:Nat) t v,Tryz.f10.params[j]? =some t→args[j]? =some v→Value.okWide prog W .any base t v:=hval0
 have hW':=hW
 obtain ⟨p,q,hA0,hV,rfl,_,_⟩:=hW
 have hA:DataW.TrodAll enc prog W 0 (fun _=>true) true Tryz.f10.params.toList args.toList ds p:=hA0
 rw[Tryz.params10]at hA hval
 obtain ⟨v0,vs0,d0,ds0,p0,q0,hargs,rfl,rfl,h0,r0⟩:=trodAll_cons hA
 obtain ⟨v1,vs1,d1,ds1,p1,q1,rfl,rfl,rfl,h1,r1⟩:=trodAll_cons r0
 obtain ⟨v2,vs2,d2,ds2,p2,q2,rfl,rfl,rfl,h2,r2⟩:=trodAll_cons r1
 obtain ⟨rfl,rfl,rfl⟩:=trodAll_nil r2
 obtain rfl:args= #[v0,v1,v2]:=by cases args;simp_all
 obtain ⟨rfl,rfl⟩:=trodVars_none hV
 have k0:=h0
 have lt0: ∀x∈p0,x.block<W.heap.size:=by obtain ⟨m,hm⟩:=k0;exact DataW.trod_lt m _ _ _ hm
 obtain ⟨a0,len0,cap0,rfl⟩:=okWide_slice underlying22 (hval 0 22 v0 rfl rfl)
 obtain ⟨hc0,bs0,hl0,hb0⟩:yG W a0 len0 cap0:=by obtain ⟨m,hm⟩:=h0;exact pD hm
 subst hl0
 have k1:=h1
 have lt1: ∀x∈p1,x.block<W.heap.size:=by obtain ⟨m,hm⟩:=k1;exact DataW.trod_lt m _ _ _ hm
 obtain ⟨a1,len1,cap1,rfl⟩:=okWide_slice underlying22 (hval 1 22 v1 rfl rfl)
 obtain ⟨hc1,bs1,hl1,hb1⟩:yG W a1 len1 cap1:=by obtain ⟨m,hm⟩:=h1;exact pD hm
 subst hl1
 have k2:=h2
 have lt2: ∀x∈p2,x.block<W.heap.size:=by obtain ⟨m,hm⟩:=k2;exact DataW.trod_lt m _ _ _ hm
 obtain ⟨a2,len2,cap2,rfl⟩:=okWide_slice underlying22 (hval 2 22 v2 rfl rfl)
 obtain ⟨hc2,bs2,hl2,hb2⟩:yG W a2 len2 cap2:=by obtain ⟨m,hm⟩:=h2;exact pD hm
 subst hl2
 clear hA0 hval0
 refine (NC a0 cap0 bs0 a1 cap1 bs1 a2 cap2 bs2 hc0 hc1 hc2 W (xw hL) hb0 hb1 hb2).mono fun e W' ⟨he,bel⟩=> ?_
 subst he
 exact ⟨_,rfl,_,_,_,[],_,[],hW',trodAll_mk1 (shut_bool underlying4 _),(trodAll_cons_mk (Below.trod tG kr (of_decide_eq_true kr) k0 bel lt0) (trodAll_cons_mk (Below.trod tG kr (of_decide_eq_true kr) k1 bel lt1) (trodAll_cons_mk (Below.trod tG kr (of_decide_eq_true kr) k2 bel lt2) trodAll_mk0))),rfl,bel.frame _,fun h=>by cases h⟩
end Go.Proofs.YtfgacclgjklgnaaGreatDoor
