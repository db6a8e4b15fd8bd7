/-
 The law HashIs returns true at every input, and the input reads behind the call as it read before; the listed variables (pharos/fp's inverting, modulus, lift, half and rooting, pharos/sha's roundWords) read as the program's own text lays them (the tied card).
-/
import Derived.Test.YtodgbdcjjhmnkaaGreatDoorY0
import Derived.Test.YtodgbdcjjhmnkaaGreatDoorQB
import Derived.Test.YtodgbdcjjhmnkaaGreatDoorCards
import Derived.Test.YtodgbdcjjhmnkaaGreatDoorTie
import Derived.SevenTiedAt
namespace Go.Proofs.YtodgbdcjjhmnkaaGreatDoor
open Go.Proofs.Tryz
open Go.ChangeShapes Go.WideShapes Go.ChangeAt Go.RowKit
set_option maxRecDepth 100000
theorem nv(os:Os)(started:os.Started)(H:Type)(enc:TypeId×Value→H):
 ReturnsInHanded {} Tryz.checked os 3 .any (fun w args=>(Rows.hashIsSpec.pre enc Tryz.prog Tryz.f3 [] false w args∧laidMetH Tryz.prog qJ w)∧sizedMet enc Tryz.prog Tryz.f3 (OpenSpec.ofChange Rows.hashIsSpec) false w args)
  (Rows.hashIsSpec.post enc Tryz.prog Tryz.f3 false true false false):=by
 refine returnsInHanded_of_change_and (C:=Tryz.checked) (X:=fun w _=>laidMetH Tryz.prog qJ w) (fun _ _ _ hh h=>h.of_heap hh) own started (by kernel_rfl) func3
  (ChangeSpec.witness_shaped (enc:=enc) (C:=Tryz.checked) (os:=os) (X:=fun w _=>laidMetH Tryz.prog qJ w) false (World.doorLaid Tryz.prog 400 os) #[.slice none 0 0,.slice none 0 0] 8 rfl (World.shaped_of_RefB (by kernel_rfl) (by kernel_rfl)) (by kernel_rfl) (by kernel_rfl) (by kernel_rfl) (ya os _)) ?_
 intro W base args ds gs before hval0 hW _ _ hL _
 have hval: ∀(j:Nat) t v,Tryz.f3.params[j]? =some t→args[j]? =some v→Value.okWide Tryz.prog W .any base t v:=hval0
 have hW':=hW
 obtain ⟨p,q,hA0,hV,rfl,_,_⟩:=hW
 have hA:DataW.TrodAll enc Tryz.prog W 0 (fun _=>true) true Tryz.f3.params.toList args.toList ds p:=hA0
 rw[Tryz.params3]at hA hval
 obtain ⟨v0,vs0,d0,ds0,p0,q0,hargs,rfl,rfl,h0,r0⟩:=trodAll_cons hA
 obtain ⟨v1,vs1,d1,ds1,p1,q1,rfl,rfl,rfl,h1,r1⟩:=trodAll_cons r0
 obtain ⟨rfl,rfl,rfl⟩:=trodAll_nil r1
 obtain rfl:args= #[v0,v1]:=by cases args;simp_all
 obtain ⟨rfl,rfl⟩:=trodVars_none hV
 have k0:=h0
 have lt0: ∀x∈p0,x.block<W.heap.size:=by obtain ⟨m,hm⟩:=k0;exact DataW.trod_lt m _ _ _ hm
 obtain ⟨a0,len0,cap0,rfl⟩:=okWide_slice underlying22 (hval 0 22 v0 rfl rfl)
 obtain ⟨hc0,bs0,hl0,hb0⟩:yA W a0 len0 cap0:=by obtain ⟨m,hm⟩:=h0;exact qC hm
 subst hl0
 have k1:=h1
 have lt1: ∀x∈p1,x.block<W.heap.size:=by obtain ⟨m,hm⟩:=k1;exact DataW.trod_lt m _ _ _ hm
 obtain ⟨a1,len1,cap1,rfl⟩:=okWide_slice underlying22 (hval 1 22 v1 rfl rfl)
 obtain ⟨hc1,bs1,hl1,hb1⟩:yA W a1 len1 cap1:=by obtain ⟨m,hm⟩:=h1;exact qC hm
 subst hl1
 clear hA0 hval0
 refine (yX phs IJ a0 cap0 bs0 a1 cap1 bs1 hc0 hc1 W (tC hL) hb0 hb1).mono fun e W' ⟨he,bel⟩=> ?_
 subst he
 exact ⟨_,rfl,_,_,_,[],_,[],hW',trodAll_mk1 (shut_bool underlying4 _),(trodAll_cons_mk (Below.trod vn (by kernel_rfl) (of_decide_eq_true (by kernel_rfl)) k0 bel lt0) (trodAll_cons_mk (Below.trod vn (by kernel_rfl) (of_decide_eq_true (by kernel_rfl)) k1 bel lt1) trodAll_mk0)),rfl,bel.frame _,fun h=>by cases h⟩
theorem qE:Rows.HashIsSaid:=
 OpenClaim.holds_of_wide 3 Tryz.f3 rfl rfl rfl rfl rfl rfl rfl ⟨rfl,rfl,rfl,rfl,rfl⟩ rfl rfl rfl rfl rfl (by kernel_rfl) func3 (by kernel_rfl)
  (of_decide_eq_true (by kernel_rfl)) (by unfold Func.isWrapper;first|(rw[if_pos (by decide+kernel)];kernel_rfl)|(rw[if_neg (by decide+kernel)];exact ⟨rfl,rfl⟩))
  (fun os started H enc _=>nv os started H enc)
theorem hashIs_card:Rows.HashIsCardSaid:=
 Claim7.holds_tied_plain_at .later [] [.data,.data,.data,.data,.data,.data] true (true, "c6ddaabfd1edb2953cf9cf8e25b8bddaad4f5ee45b80af405c06916618b9eb16") false
  qE (fun _ h=>by cases h) (by kernel_rfl) (fun _ h=>by cases h) hashIs_row_tie rfl ⟨rfl,rfl⟩ (by kernel_rfl) rfl
  (fun f fn hf hfn=>by
   obtain rfl:f=3:=Option.some.inj ((show Tryz.prog.funcNamed "pharos/pharoslaw15.HashIs" =some 3 by kernel_rfl).symm.trans hf)|>.symm
   obtain rfl:fn=Tryz.f3:=(Option.some.inj (func3.symm.trans hfn)).symm
   exact ⟨by kernel_rfl,fun j t ht=>by
    rw[Tryz.params3]at ht
    have h3:t=22:=by
     match j,ht with
     |0,ht=>simp at ht;first|exact ht.symm|exact .inl ht.symm|exact .inr ht.symm|exact .inr (.inl ht.symm)|exact .inr (.inr ht.symm)
     |1,ht=>simp at ht;first|exact ht.symm|exact .inl ht.symm|exact .inr ht.symm|exact .inr (.inl ht.symm)|exact .inr (.inr ht.symm)
     |_+2,ht=>simp at ht
    subst h3
    exact (show Tryz.prog.wantsStandIn 22=false by kernel_rfl)⟩)
  (by kernel_rfl)
end Go.Proofs.YtodgbdcjjhmnkaaGreatDoor
