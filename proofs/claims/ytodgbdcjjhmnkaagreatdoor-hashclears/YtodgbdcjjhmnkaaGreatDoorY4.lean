/-
 The law HashClears returns true at every input, and the input reads behind the call as it read before; the listed variables (pharos/fp's inverting, modulus, lift, half and rooting, pharos/sha's roundWords) read as the program's own text lays them (the tied card).
-/
import Derived.Test.YtodgbdcjjhmnkaaGreatDoorY0
import Derived.Test.YtodgbdcjjhmnkaaGreatDoorQB
import Derived.Test.YtodgbdcjjhmnkaaGreatDoorCards
import Derived.Test.YtodgbdcjjhmnkaaGreatDoorTie
import Derived.SevenTiedAt
namespace Go.Proofs.YtodgbdcjjhmnkaaGreatDoor
open Go.Proofs.Tryz
open Go.ChangeShapes Go.WideShapes Go.ChangeAt Go.RowKit
set_option maxRecDepth 100000
theorem jp(os:Os)(started:os.Started)(H:Type)(enc:TypeId×Value→H):
 ReturnsInHanded {} Tryz.checked os 4 .any (fun w args=>(Rows.hashClearsSpec.pre enc Tryz.prog Tryz.f4 [] false w args∧laidMetH Tryz.prog pX w)∧sizedMet enc Tryz.prog Tryz.f4 (OpenSpec.ofChange Rows.hashClearsSpec) false w args)
  (Rows.hashClearsSpec.post enc Tryz.prog Tryz.f4 false true false false):=by
 refine returnsInHanded_of_change_and (C:=Tryz.checked) (X:=fun w _=>laidMetH Tryz.prog pX w) (fun _ _ _ hh h=>h.of_heap hh) own started (by kernel_rfl) func4
  (ChangeSpec.witness_shaped (enc:=enc) (C:=Tryz.checked) (os:=os) (X:=fun w _=>laidMetH Tryz.prog pX w) false (World.doorLaid Tryz.prog 400 os) #[.slice none 0 0,.slice none 0 0,.bool false,.bool false] 8 rfl (World.shaped_of_RefB (by kernel_rfl) (by kernel_rfl)) (by kernel_rfl) (by kernel_rfl) (by kernel_rfl) (zo os _)) ?_
 intro W base args ds gs before hval0 hW _ _ hL _
 have hval: ∀(j:Nat) t v,Tryz.f4.params[j]? =some t→args[j]? =some v→Value.okWide Tryz.prog W .any base t v:=hval0
 have hW':=hW
 obtain ⟨p,q,hA0,hV,rfl,_,_⟩:=hW
 have hA:DataW.TrodAll enc Tryz.prog W 0 (fun _=>true) true Tryz.f4.params.toList args.toList ds p:=hA0
 rw[Tryz.params4]at hA hval
 obtain ⟨v0,vs0,d0,ds0,p0,q0,hargs,rfl,rfl,h0,r0⟩:=trodAll_cons hA
 obtain ⟨v1,vs1,d1,ds1,p1,q1,rfl,rfl,rfl,h1,r1⟩:=trodAll_cons r0
 obtain ⟨v2,vs2,d2,ds2,p2,q2,rfl,rfl,rfl,h2,r2⟩:=trodAll_cons r1
 obtain ⟨v3,vs3,d3,ds3,p3,q3,rfl,rfl,rfl,h3,r3⟩:=trodAll_cons r2
 obtain ⟨rfl,rfl,rfl⟩:=trodAll_nil r3
 obtain rfl:args= #[v0,v1,v2,v3]:=by cases args;simp_all
 obtain ⟨rfl,rfl⟩:=trodVars_none hV
 have k0:=h0
 have lt0: ∀x∈p0,x.block<W.heap.size:=by obtain ⟨m,hm⟩:=k0;exact DataW.trod_lt m _ _ _ hm
 obtain ⟨a0,len0,cap0,rfl⟩:=okWide_slice underlying22 (hval 0 22 v0 rfl rfl)
 obtain ⟨hc0,bs0,hl0,hb0⟩:v7 W a0 len0 cap0:=by obtain ⟨m,hm⟩:=h0;exact pD hm
 subst hl0
 have k1:=h1
 have lt1: ∀x∈p1,x.block<W.heap.size:=by obtain ⟨m,hm⟩:=k1;exact DataW.trod_lt m _ _ _ hm
 obtain ⟨a1,len1,cap1,rfl⟩:=okWide_slice underlying22 (hval 1 22 v1 rfl rfl)
 obtain ⟨_,bs1,hl1,hb1⟩:v7 W a1 len1 cap1:=by obtain ⟨m,hm⟩:=h1;exact pD hm
 subst hl1
 have k2:=h2
 have lt2: ∀x∈p2,x.block<W.heap.size:=by obtain ⟨m,hm⟩:=k2;exact DataW.trod_lt m _ _ _ hm
 obtain ⟨b2,rfl,_,_⟩:=open_bool underlying4 (hval 2 4 v2 rfl rfl) h2
 have k3:=h3
 have lt3: ∀x∈p3,x.block<W.heap.size:=by obtain ⟨m,hm⟩:=k3;exact DataW.trod_lt m _ _ _ hm
 obtain ⟨b3,rfl,_,_⟩:=open_bool underlying4 (hval 3 4 v3 rfl rfl) h3
 clear hA0 hval0
 refine (zT phs H6 pcl a0 cap0 bs0 a1 cap1 bs1 b2 b3 hc0 W (rN hL) hb0 hb1).mono fun e W' ⟨he,bel⟩=> ?_
 subst he
 exact ⟨_,rfl,_,_,_,[],_,[],hW',trodAll_mk1 (shut_bool underlying4 _),(trodAll_cons_mk (Below.trod kO (by kernel_rfl) (of_decide_eq_true (by kernel_rfl)) k0 bel lt0) (trodAll_cons_mk (Below.trod kO (by kernel_rfl) (of_decide_eq_true (by kernel_rfl)) k1 bel lt1) (trodAll_cons_mk (Below.trod kO (by kernel_rfl) (of_decide_eq_true (by kernel_rfl)) k2 bel lt2) (trodAll_cons_mk (Below.trod kO (by kernel_rfl) (of_decide_eq_true (by kernel_rfl)) k3 bel lt3) trodAll_mk0)))),rfl,bel.frame _,fun h=>by cases h⟩
theorem kD:Rows.HashClearsSaid:=
 OpenClaim.holds_of_wide 4 Tryz.f4 rfl rfl rfl rfl rfl rfl rfl ⟨rfl,rfl,rfl,rfl,rfl⟩ rfl rfl rfl rfl rfl (by kernel_rfl) func4 (by kernel_rfl)
  (of_decide_eq_true (by kernel_rfl)) (by unfold Func.isWrapper;first|(rw[if_pos (by decide+kernel)];kernel_rfl)|(rw[if_neg (by decide+kernel)];exact ⟨rfl,rfl⟩))
  (fun os started H enc _=>jp os started H enc)
theorem hashClears_card:Rows.HashClearsCardSaid:=
 Claim7.holds_tied_plain_at .later [] [.data,.data,.data,.data,.data,.data] true (true, "c6ddaabfd1edb2953cf9cf8e25b8bddaad4f5ee45b80af405c06916618b9eb16") false
  kD (fun _ h=>by cases h) (by kernel_rfl) (fun _ h=>by cases h) hashClears_row_tie rfl ⟨rfl,rfl⟩ (by kernel_rfl) rfl
  (fun f fn hf hfn=>by
   obtain rfl:f=4:=Option.some.inj ((show Tryz.prog.funcNamed "pharos/pharoslaw15.HashClears" =some 4 by kernel_rfl).symm.trans hf)|>.symm
   obtain rfl:fn=Tryz.f4:=(Option.some.inj (func4.symm.trans hfn)).symm
   exact ⟨by kernel_rfl,fun j t ht=>by
    rw[Tryz.params4]at ht
    have h3:t=22∨t=4:=by
     match j,ht with
     |0,ht=>simp at ht;first|exact ht.symm|exact .inl ht.symm|exact .inr ht.symm|exact .inr (.inl ht.symm)|exact .inr (.inr ht.symm)
     |1,ht=>simp at ht;first|exact ht.symm|exact .inl ht.symm|exact .inr ht.symm|exact .inr (.inl ht.symm)|exact .inr (.inr ht.symm)
     |2,ht=>simp at ht;first|exact ht.symm|exact .inl ht.symm|exact .inr ht.symm|exact .inr (.inl ht.symm)|exact .inr (.inr ht.symm)
     |3,ht=>simp at ht;first|exact ht.symm|exact .inl ht.symm|exact .inr ht.symm|exact .inr (.inl ht.symm)|exact .inr (.inr ht.symm)
     |_+4,ht=>simp at ht
    rcases h3 with rfl|rfl
    ·exact (show Tryz.prog.wantsStandIn 22=false by kernel_rfl)
    ·exact (show Tryz.prog.wantsStandIn 4=false by kernel_rfl)⟩)
  (by kernel_rfl)
end Go.Proofs.YtodgbdcjjhmnkaaGreatDoor
