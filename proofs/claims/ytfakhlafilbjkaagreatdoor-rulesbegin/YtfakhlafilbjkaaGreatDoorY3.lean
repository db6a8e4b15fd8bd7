/-
 The law RulesBegin returns true at every input, and the input reads behind the call as it read before; the listed variables (pharos/fp's inverting, modulus, lift, half and rooting, pharos/sha's roundWords) read as the program's own text lays them (the tied card).
-/
import Derived.Test.YtfakhlafilbjkaaGreatDoorY3b
import Derived.Test.YtfakhlafilbjkaaGreatDoorY3c
import Derived.Test.YtfakhlafilbjkaaGreatDoorY3d
import Derived.Test.YtfakhlafilbjkaaGreatDoorY3e
import Derived.Test.YtfakhlafilbjkaaGreatDoorTie
namespace Go.Proofs.YtfakhlafilbjkaaGreatDoor
open Go.Proofs.Tryz
open Go.ChangeShapes Go.WideShapes Go.ChangeAt Go.RowKit
set_option maxRecDepth 100000
theorem rulesBegin_card:Rows.RulesBeginCardSaid:=
 Claim7.holds_tied_plain_at .later [] [.data,.data,.data,.data,.data,.data] true (true, "6b16bc03c34bd4f6e4e12d4743638303f4650dea26c87840b8e1c73dfcbb475c") false
  nX (λ_ h=>by cases h) kr (λ_ h=>by cases h) rulesBegin_row_tie O ⟨rfl,rfl⟩ qq O
  (λf fn hf hfn=>by
   obtain rfl:f=3:=Option.some.inj (rulesBegin_c3.symm.trans hf)|>.symm;obtain rfl:fn=Tryz.f3:=(Option.some.inj (func3.symm.trans hfn)).symm;exact ⟨qw,λj t ht=>by
    rw[Tryz.params3]at ht;have h3:t=22\/t=3\/t=23:=by
     match j,ht with
     |0,ht=>simp at ht;first|exact ht.symm|exact .inl ht.symm|exact .inr ht.symm|exact .inr (.inl ht.symm)|exact .inr (.inr ht.symm)|exact .inr (.inr (.inl ht.symm))|exact .inr (.inr (.inr ht.symm))
     |1,ht=>simp at ht;first|exact ht.symm|exact .inl ht.symm|exact .inr ht.symm|exact .inr (.inl ht.symm)|exact .inr (.inr ht.symm)|exact .inr (.inr (.inl ht.symm))|exact .inr (.inr (.inr ht.symm))
     |2,ht=>simp at ht;first|exact ht.symm|exact .inl ht.symm|exact .inr ht.symm|exact .inr (.inl ht.symm)|exact .inr (.inr ht.symm)|exact .inr (.inr (.inl ht.symm))|exact .inr (.inr (.inr ht.symm))
     |3,ht=>simp at ht;first|exact ht.symm|exact .inl ht.symm|exact .inr ht.symm|exact .inr (.inl ht.symm)|exact .inr (.inr ht.symm)|exact .inr (.inr (.inl ht.symm))|exact .inr (.inr (.inr ht.symm))
     |4,ht=>simp at ht;first|exact ht.symm|exact .inl ht.symm|exact .inr ht.symm|exact .inr (.inl ht.symm)|exact .inr (.inr ht.symm)|exact .inr (.inr (.inl ht.symm))|exact .inr (.inr (.inr ht.symm))
     |_+5,ht=>simp at ht
    rcases h3 with rfl|rfl|rfl
    ·exact (show prog.wantsStandIn 22=false by kernel_rfl)
    ·exact (show prog.wantsStandIn 3=false by kernel_rfl)
    ·exact (show prog.wantsStandIn 23=false by kernel_rfl)⟩)
  qx
end Go.Proofs.YtfakhlafilbjkaaGreatDoor
