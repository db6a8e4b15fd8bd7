/-
 The law BlsKeys returns true at every input, and the input reads behind the call as it read before; the listed variables (pharos/fp's inverting, modulus, lift, half and rooting, pharos/fr's modulus, pharos/sha's roundWords) read as the program's own text lays them (the tied card).
-/
import Derived.Test.YtfgacclgjklgnaaGreatDoorY5b
namespace Go.Proofs.YtfgacclgjklgnaaGreatDoor
open Go.Proofs.Tryz
open Go.ChangeShapes Go.WideShapes Go.ChangeAt Go.RowKit
set_option maxRecDepth 100000
theorem blsKeys_card:Rows.BlsKeysCardSaid:=
 Claim7.holds_tied_plain_at .later [] [.data,.data,.data,.data,.data,.data,.data] true (true, "9c1fc21e59a65755eedef7f38c6f09627e1892a4f07c52f27b3b74220f93fe2d") false
  tM (λ_ h=>by cases h) kr (λ_ h=>by cases h) blsKeys_row_tie O ⟨rfl,rfl⟩ kr O
  (λf fn hf hfn=>by
   obtain rfl:f=5:=Option.some.inj ((show prog.funcNamed "pharos/pharoslaw16.BlsKeys" =some 5 by kernel_rfl).symm.trans hf)|>.symm
   obtain rfl:fn=Tryz.f5:=(Option.some.inj (func5.symm.trans hfn)).symm;exact ⟨kr,λj t ht=>by
    rw[Tryz.params5]at ht;have h3:t=22:=by
     match j,ht with
     |0,ht=>simp at ht;first|exact ht.symm|exact .inl ht.symm|exact .inr ht.symm|exact .inr (.inl ht.symm)|exact .inr (.inr ht.symm)
     |_+1,ht=>simp at ht
    subst h3;exact (show prog.wantsStandIn 22=false by kernel_rfl)⟩)
  kr
end Go.Proofs.YtfgacclgjklgnaaGreatDoor
