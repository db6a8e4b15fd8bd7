/-
 The law BlsLong returns true at every input, and the input reads behind the call as it read before; the listed variables (pharos/fp's inverting, modulus, lift, half and rooting, pharos/fr's modulus, pharos/sha's roundWords) read as the program's own text lays them (the tied card).
-/
import Derived.Test.YtfgacclgjklgnaaGreatDoorY3b
namespace Go.Proofs.YtfgacclgjklgnaaGreatDoor
open Go.Proofs.Tryz
open Go.ChangeShapes Go.WideShapes Go.ChangeAt Go.RowKit
set_option maxRecDepth 100000
theorem blsLong_card:Rows.BlsLongCardSaid:=
 Claim7.holds_tied_plain_at .later [] [.data,.data,.data,.data,.data,.data,.data] true (true, "9c1fc21e59a65755eedef7f38c6f09627e1892a4f07c52f27b3b74220f93fe2d") false
  sY (fun _ h=>by cases h) kr (fun _ h=>by cases h) blsLong_row_tie rfl ⟨rfl,rfl⟩ kr rfl
  (fun f fn hf hfn=>by
   obtain rfl:f=4:=Option.some.inj ((show prog.funcNamed "pharos/pharoslaw16.BlsLong" =some 4 by kernel_rfl).symm.trans hf)|>.symm
   obtain rfl:fn=Tryz.f4:=(Option.some.inj (func4.symm.trans hfn)).symm
   exact ⟨kr,fun j t ht=>by
    rw[Tryz.params4]at ht
    have h3:t=3∨t=24:=by
     match j,ht with
     |0,ht=>simp at ht;first|exact ht.symm|exact .inl ht.symm|exact .inr ht.symm|exact .inr (.inl ht.symm)|exact .inr (.inr ht.symm)
     |1,ht=>simp at ht;first|exact ht.symm|exact .inl ht.symm|exact .inr ht.symm|exact .inr (.inl ht.symm)|exact .inr (.inr ht.symm)
     |_+2,ht=>simp at ht
    rcases h3 with rfl|rfl
    ·exact (show prog.wantsStandIn 3=false by kernel_rfl)
    ·exact (show prog.wantsStandIn 24=false by kernel_rfl)⟩)
  kr
end Go.Proofs.YtfgacclgjklgnaaGreatDoor
