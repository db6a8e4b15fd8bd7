/-
 The law RulesSettings returns true at every input, and the input reads behind the call as it read before; the listed variables (pharos/fp's inverting, modulus, lift, half and rooting, pharos/sha's roundWords) read as the program's own text lays them (the tied card).
-/
import Derived.Test.YtfakhlafilbjkaaGreatDoorY6b
import Derived.Test.YtfakhlafilbjkaaGreatDoorY6c
import Derived.Test.YtfakhlafilbjkaaGreatDoorY6d
import Derived.Test.YtfakhlafilbjkaaGreatDoorY6e
import Derived.Test.YtfakhlafilbjkaaGreatDoorTie
namespace Go.Proofs.YtfakhlafilbjkaaGreatDoor
open Go.Proofs.Tryz
open Go.ChangeShapes Go.WideShapes Go.ChangeAt Go.RowKit
set_option maxRecDepth 100000
theorem rulesSettings_card:Rows.RulesSettingsCardSaid:=
 Claim7.holds_tied_plain_at .later [] [.data,.data,.data,.data,.data,.data] true (true, "6b16bc03c34bd4f6e4e12d4743638303f4650dea26c87840b8e1c73dfcbb475c") false
  li (λ_ h=>by cases h) kr (λ_ h=>by cases h) rulesSettings_row_tie O ⟨rfl,rfl⟩ nq O
  (λf fn hf hfn=>by
   obtain rfl:f=6:=Option.some.inj (rulesSettings_c3.symm.trans hf)|>.symm;obtain rfl:fn=Tryz.f6:=(Option.some.inj (func6.symm.trans hfn)).symm;exact ⟨mN,λj t ht=>by
    rw[Tryz.params6]at ht;have h3:t=50\/t=71\/t=53:=by
     match j,ht with
     |0,ht=>simp at ht;first|exact ht.symm|exact .inl ht.symm|exact .inr ht.symm|exact .inr (.inl ht.symm)|exact .inr (.inr ht.symm)|exact .inr (.inr (.inl ht.symm))|exact .inr (.inr (.inr ht.symm))
     |1,ht=>simp at ht;first|exact ht.symm|exact .inl ht.symm|exact .inr ht.symm|exact .inr (.inl ht.symm)|exact .inr (.inr ht.symm)|exact .inr (.inr (.inl ht.symm))|exact .inr (.inr (.inr ht.symm))
     |2,ht=>simp at ht;first|exact ht.symm|exact .inl ht.symm|exact .inr ht.symm|exact .inr (.inl ht.symm)|exact .inr (.inr ht.symm)|exact .inr (.inr (.inl ht.symm))|exact .inr (.inr (.inr ht.symm))
     |_+3,ht=>simp at ht
    rcases h3 with rfl|rfl|rfl
    ·exact (show prog.wantsStandIn 50=false by kernel_rfl)
    ·exact (show prog.wantsStandIn 71=false by kernel_rfl)
    ·exact (show prog.wantsStandIn 53=false by kernel_rfl)⟩)
  m7
end Go.Proofs.YtfakhlafilbjkaaGreatDoor
