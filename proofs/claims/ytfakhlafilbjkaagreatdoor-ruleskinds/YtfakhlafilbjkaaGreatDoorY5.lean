/-
 The law RulesKinds returns true at every input, and the input reads behind the call as it read before; the listed variables (pharos/fp's inverting, modulus, lift, half and rooting, pharos/sha's roundWords) read as the program's own text lays them (the tied card).
-/
import Derived.Test.YtfakhlafilbjkaaGreatDoorY5b
import Derived.Test.YtfakhlafilbjkaaGreatDoorY5c
import Derived.Test.YtfakhlafilbjkaaGreatDoorY5d
import Derived.Test.YtfakhlafilbjkaaGreatDoorY5e
import Derived.Test.YtfakhlafilbjkaaGreatDoorTie
namespace Go.Proofs.YtfakhlafilbjkaaGreatDoor
open Go.Proofs.Tryz
open Go.ChangeShapes Go.WideShapes Go.ChangeAt Go.RowKit
set_option maxRecDepth 100000
theorem rulesKinds_card:Rows.RulesKindsCardSaid:=
 Claim7.holds_tied_plain_at .later [] [.data,.data,.data,.data,.data,.data] true (true, "6b16bc03c34bd4f6e4e12d4743638303f4650dea26c87840b8e1c73dfcbb475c") false
  nq (λ_ h=>by cases h) kr (λ_ h=>by cases h) rulesKinds_row_tie O ⟨rfl,rfl⟩ pT O
  (λf fn hf hfn=>by
   obtain rfl:f=5:=Option.some.inj (rulesKinds_c3.symm.trans hf)|>.symm;obtain rfl:fn=Tryz.f5:=(Option.some.inj (func5.symm.trans hfn)).symm;exact ⟨p8,λj t ht=>by
    rw[Tryz.params5]at ht;have h3:t=71\/t=53:=by
     match j,ht with
     |0,ht=>simp at ht;first|exact ht.symm|exact .inl ht.symm|exact .inr ht.symm|exact .inr (.inl ht.symm)|exact .inr (.inr ht.symm)|exact .inr (.inr (.inl ht.symm))|exact .inr (.inr (.inr ht.symm))
     |1,ht=>simp at ht;first|exact ht.symm|exact .inl ht.symm|exact .inr ht.symm|exact .inr (.inl ht.symm)|exact .inr (.inr ht.symm)|exact .inr (.inr (.inl ht.symm))|exact .inr (.inr (.inr ht.symm))
     |_+2,ht=>simp at ht
    rcases h3 with rfl|rfl
    ·exact (show prog.wantsStandIn 71=false by kernel_rfl)
    ·exact (show prog.wantsStandIn 53=false by kernel_rfl)⟩)
  pU
end Go.Proofs.YtfakhlafilbjkaaGreatDoor
