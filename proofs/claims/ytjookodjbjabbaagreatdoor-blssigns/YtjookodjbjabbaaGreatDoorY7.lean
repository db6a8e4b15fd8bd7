/-
 The law BlsSigns returns true at every input, and the input reads behind the call as it read before; the listed variables (pharos/fp's inverting, modulus, lift, half and rooting, pharos/fr's modulus and lift, pharos/sha's roundWords) read as the program's own text lays them (the tied card).
-/
import Derived.Test.YtjookodjbjabbaaGreatDoorY7b
namespace Go.Proofs.YtjookodjbjabbaaGreatDoor
open Go.Proofs.Tryz
open Go.ChangeShapes Go.WideShapes Go.ChangeAt Go.RowKit
set_option maxRecDepth 100000
theorem blsSigns_card:Rows.BlsSignsCardSaid:=
 Claim7.holds_tied_plain_at .later [] [.data,.data,.data,.data,.data,.data,.data,.data] true (true, "29a69f61b534b7818efc679ee1298faa42921e49cbaa610f4fdaa6895bf101cc") false
  rf (λ_ h=>by cases h) kr (λ_ h=>by cases h) blsSigns_row_tie O ⟨rfl,rfl⟩ kr O
  (λf fn hf hfn=>by
   obtain rfl:f=3:=Option.some.inj ((show prog.funcNamed "pharos/pharoslaw16.BlsSigns" =some 3 by kernel_rfl).symm.trans hf)|>.symm
   obtain rfl:fn=Tryz.f3:=(Option.some.inj (func3.symm.trans hfn)).symm;exact ⟨kr,λj t ht=>by
    rw[Tryz.params3]at ht;have h3:t=22:=by
     match j,ht with
     |0,ht=>simp at ht;first|exact ht.symm|exact .inl ht.symm|exact .inr ht.symm|exact .inr (.inl ht.symm)|exact .inr (.inr ht.symm)
     |1,ht=>simp at ht;first|exact ht.symm|exact .inl ht.symm|exact .inr ht.symm|exact .inr (.inl ht.symm)|exact .inr (.inr ht.symm)
     |_+2,ht=>simp at ht
    subst h3;exact (show prog.wantsStandIn 22=false by kernel_rfl)⟩)
  kr
end Go.Proofs.YtjookodjbjabbaaGreatDoor
