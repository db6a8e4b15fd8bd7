/-
 The program's digits.
 The reference's digits; to the power of x; the sixth.
-/
import Derived.Test.YthkmeodnlidpfaaDoorXG
import Derived.Test.YthkmeodnlidpfaaDoorX3
set_option maxRecDepth 100000
set_option maxHeartbeats 1000000
namespace Go.Proofs.YthkmeodnlidpfaaDoor
section
open Go.RowKit
attribute [local simp] fe_len nm_len AS_len SS_len MONT_len RM_len FRs_len BYs_len by48_len PLl TWOl ONEl N1l IVPl HFPl RTPl FL_len SP_len fe2_len SP2_len FM_len
theorem ent18 : Enters Tryd.prog 18 := fun _ _ => by kernel_rfl
theorem len64u : Pure Tryd.prog Gt 18 [U64 15132376222941642752#64] (I 64) := by
 intro w hw
 have hGF : BOk Gt (pl w) := gt_low.plain hw
 refine calls_of_X (G := Gt) Tryd.func18 rfl rfl (Hp (pl w) []) (hp_refl (pl w) trivial rides_true) (good_hp hGF) ?_
 refine xs_plain (E := EE []) ?_
 refine lx_assign rfl rfl rfl ?_
 refine lx_nil ?_
 refine x_seq ?_
 refine xs_plain (E := EE []) ?_
 refine lx_move rfl rfl rfl ?_
 refine lx_binB true rfl rfl (fun _ => rfl) (fun _ => bin_geq_u64 _ _ _) (by decide) rfl rfl ?_
 refine lx_nil ?_
 refine x_true rfl ?_
 refine xs_plain (E := EE []) ?_
 refine lx_move rfl rfl rfl ?_
 refine lx_bin (v := U64 3523280896#64) rfl rfl (fun _ => rfl) (fun _ => (bin_shr_u64 _ _ 32#64).trans (by rfl)) rfl rfl ?_
 refine lx_assign rfl rfl rfl ?_
 refine lx_nil ?_
 refine x_plain (E := EE []) ?_
 refine lx_assign rfl rfl rfl ?_
 refine lx_nil ?_
 refine x_seq ?_
 refine xs_plain (E := EE []) ?_
 refine lx_move rfl rfl rfl ?_
 refine lx_binB true rfl rfl (fun _ => rfl) (fun _ => bin_geq_u64 _ _ _) (by decide) rfl rfl ?_
 refine lx_nil ?_
 refine x_true rfl ?_
 refine xs_plain (E := EE []) ?_
 refine lx_move rfl rfl rfl ?_
 refine lx_bin (v := U64 53761#64) rfl rfl (fun _ => rfl) (fun _ => (bin_shr_u64 _ _ 16#64).trans (by rfl)) rfl rfl ?_
 refine lx_assign rfl rfl rfl ?_
 refine lx_nil ?_
 refine x_plain (E := EE []) ?_
 refine lx_move rfl rfl rfl ?_
 refine lx_bin (v := I 48) rfl rfl (fun _ => rfl) (fun _ => (bin_add_i _ _ _ (by unfold inI; decide)).trans (by rfl)) rfl rfl ?_
 refine lx_assign rfl rfl rfl ?_
 refine lx_nil ?_
 refine x_seq ?_
 refine xs_plain (E := EE []) ?_
 refine lx_move rfl rfl rfl ?_
 refine lx_binB true rfl rfl (fun _ => rfl) (fun _ => bin_geq_u64 _ _ _) (by decide) rfl rfl ?_
 refine lx_nil ?_
 refine x_true rfl ?_
 refine xs_plain (E := EE []) ?_
 refine lx_move rfl rfl rfl ?_
 refine lx_bin (v := U64 210#64) rfl rfl (fun _ => rfl) (fun _ => (bin_shr_u64 _ _ 8#64).trans (by rfl)) rfl rfl ?_
 refine lx_assign rfl rfl rfl ?_
 refine lx_nil ?_
 refine x_plain (E := EE []) ?_
 refine lx_move rfl rfl rfl ?_
 refine lx_bin (v := I 56) rfl rfl (fun _ => rfl) (fun _ => (bin_add_i _ _ _ (by unfold inI; decide)).trans (by rfl)) rfl rfl ?_
 refine lx_assign rfl rfl rfl ?_
 refine lx_nil ?_
 refine xs_plain (E := EE []) ?_
 refine lx_move rfl rfl rfl ?_
 refine lx_move rfl rfl rfl ?_
 refine lx_conv rfl rfl (fun _ => conv_u64_u8 Tryd.underlying32 Tryd.underlying5 _) rfl rfl ?_
 refine lx_idxs (n := 8#8) rfl rfl Tryd.underlying9 (by decide) (by kernel_rfl) rfl rfl ?_
 refine lx_conv rfl rfl (fun _ => conv_u8_i Tryd.underlying5 Tryd.underlying3 _) rfl rfl ?_
 refine lx_bin (v := I 64) rfl rfl (fun _ => rfl) (fun _ => (bin_add_i _ _ _ (by unfold inI; decide)).trans (by rfl)) rfl rfl ?_
 refine lx_assign rfl rfl rfl ?_
 refine lx_nil ?_
 refine x_ret ?_
 repeat (first | refine kseq_ret ?_ | refine kblk_ret ?_)
 exact kret_tmp rfl rfl (fun w hw => ⟨rfl, hp_below hw⟩)
theorem mdig_p : Pure Tryd.prog Gt 9 [] (.func (.func 17) #[] #[]) := by
 intro w hw
 have hGF : BOk Gt (pl w) := gt_low.plain hw
 refine calls_of_X (G := Gt) Tryd.func9 rfl rfl (Hp (pl w) []) (hp_refl (pl w) trivial rides_true) (good_hp hGF) ?_
 refine xs_plain (E := EE []) ?_
 refine lx_assign rfl rfl rfl ?_
 refine lx_nil ?_
 refine xs_plain (E := EE []) ?_
 refine lx_assign rfl rfl rfl ?_
 refine lx_nil ?_
 refine x_ret ?_
 repeat (first | refine kseq_ret ?_ | refine kblk_ret ?_)
 exact kret_tmp rfl rfl (fun w hw => ⟨rfl, hp_below hw⟩)
def DGb (k : Nat) : Bool := 15132376222941642752#64 >>> (62 - k) &&& 1#64 == 1#64
def D63 : List Bool := (List.range 63).map DGb
theorem D63_len : D63.length = 63 := by rw [D63, List.length_map, List.length_range]
theorem D63_get {k : Nat} (h : k < 63) : D63[k]? = some (DGb k) := by rw [D63, List.getElem?_map, List.getElem?_range h]; rfl
def DGs : List (List Value) := D63.map fun d => [.bool d]
theorem DGs_len : DGs.length = 63 := by rw [DGs, List.length_map, D63_len]
theorem DGs_get {k : Nat} (h : k < 63) : DGs[k]? = some [.bool (DGb k)] := by rw [DGs, List.getElem?_map, D63_get h]; rfl
theorem DGs_at {k : Nat} {v : List Value} (h : DGs[k]? = some v) : k < 63 ∧ v = [.bool (DGb k)] := by
 have hk : k < 63 := by
  rcases Nat.lt_or_ge k 63 with hk | hk
  ·exact hk
  ·rw [List.getElem?_eq_none (by rw [DGs_len]; exact hk)] at h; cases h
 exact ⟨hk, (Option.some.inj ((DGs_get hk).symm.trans h)).symm⟩
theorem mdig_seq : SeqOk Tryd.prog Gt 17 [] DGs (fun _ => True) := by
 intro l J Jx hJ hJx hRd hGx hY w hj
 have okJ : ∀ k, BOk Gt (Bi w (fun Y => J Y k)) := fun k => ⟨fun _ _ _ h => (hRd _ _ _ h.rid).1, hJ k⟩
 have okX : ∀ k, BOk Gt (Bi w (fun Y => Jx Y k)) := fun k => ⟨fun _ _ _ h => hGx _ _ _ h.rid, hJx k⟩
 refine calls_of_X (G := Gt) Tryd.func17 rfl rfl (Hp (Bi w (fun Y => J Y 0)) []) (hp_refl (Bi w _) hj (hJ 0)) (good_hp (okJ 0)) ?_
 refine xs_plain (E := EE []) ?_
 refine lx_call rfl rfl ent18 (len64u) rfl rfl ?_
 refine lx_bin (v := I 62) rfl rfl (fun _ => rfl) (fun _ => (bin_sub_i _ _ _ (by unfold inI; decide)).trans (by rfl)) rfl rfl ?_
 refine lx_assign rfl rfl rfl ?_
 refine lx_nil ?_
 refine x_block ?_
 refine x_forB (ι := { k : Nat // k ≤ 63 }) (fun x => [(0, .func (.yield l) #[] #[]), (2, I (62 - (x.1 : Int)))]) (fun x => Bi w (fun Y => J Y x.1)) (fun x => []) (fun x => 63 - x.1) ⟨0, Nat.zero_le _⟩ (fun _ => okJ _) rfl ⟨rfl, rfl, trivial⟩ trivial ?_
 rintro ⟨k, hk⟩
 dsimp only
 refine x_seq ?_
 refine xs_plain (E := EE []) ?_
 refine lx_move rfl rfl rfl ?_
 refine lx_bin (v := .bool (decide (k < 63))) rfl rfl (fun _ => rfl) (fun _ => (bin_geq_i _ _ _).trans (by rw [show decide ((62 - (k : Int)) ≥ 0) = decide (k < 63) from decide_eq_decide.2 (by omega)])) rfl rfl ?_
 refine lx_nil ?_
 refine x_if rfl (fun hc => ?_) (fun hc => ?_)
 ·have hk2 : k < 63 := by simpa using hc
  refine x_skip ?_
  refine x_seq ?_
  refine x_block ?_
  refine xs_plain (E := EE []) ?_
  refine lx_move rfl rfl rfl ?_
  refine lx_move rfl rfl rfl ?_
  refine lx_bin (v := U64 (15132376222941642752#64 >>> (62 - k))) rfl rfl (fun _ => rfl) (fun _ => (bin_shr_i_u64 _ _ _ (by omega)).trans (by rw [show (62 - (k : Int)).toNat = 62 - k by omega])) rfl rfl ?_
  refine lx_bin (v := U64 (15132376222941642752#64 >>> (62 - k) &&& 1#64)) rfl rfl (fun _ => rfl) (fun _ => bin_and_u64 _ _ 1#64) rfl rfl ?_
  refine lx_bin (v := .bool (DGb k)) rfl rfl (fun _ => rfl) (fun _ => bin_eql_u64 _ _ 1#64) rfl rfl ?_
  refine lx_yield (hY.b (k := k) (DGs_get hk2) w) (okJ _) (okX _) rfl rfl rfl rfl rfl ?_ ?_
  ·skip
   refine lx_un rfl (fun _ => un_not _) rfl rfl ?_
   refine lx_nil ?_
   refine x_false rfl ?_
   refine x_skip ?_
   refine x_plain (E := EE []) ?_
   refine lx_move rfl rfl rfl ?_
   refine lx_bin (v := I (62 - ((k + 1 : Nat) : Int))) rfl rfl (fun _ => rfl) (fun _ => (bin_sub_i _ _ _ (by unfold inI; omega)).trans (by rw [show 62 - (k : Int) - 1 = 62 - ((k + 1 : Nat) : Int) by omega])) rfl rfl ?_
   refine lx_assign rfl rfl rfl ?_
   refine lx_nil ?_
   repeat (refine kblk_n ?_)
   refine kseq_n ?_
   exact ⟨rfl, ⟨k + 1, by omega⟩, _, by show 63 - (k + 1) < 63 - k; omega, rfl, ⟨rfl, rfl, trivial⟩, trivial⟩
  ·skip
   refine lx_un rfl (fun _ => un_not _) rfl rfl ?_
   refine lx_nil ?_
   refine x_true rfl ?_
   refine x_ret ?_
   repeat (first | refine kseq_ret ?_ | refine kblk_ret ?_)
   repeat (first | refine kseq_x ?_ | refine kblk_x ?_ | refine kblk_p rfl ?_ | refine kseq_ret ?_ | refine kblk_ret ?_)
   exact kret_none rfl (fun w hw => ⟨⟨_, rfl⟩, .inr ⟨_, drop_yof (hJx _) hw.rid⟩⟩)
 ·obtain rfl : k = 63 := by simp at hc; omega
  refine x_exit ?_
  repeat (first | refine kseq_x ?_ | refine kblk_x ?_ | refine kblk_p rfl ?_ | refine kseq_ret ?_ | refine kblk_ret ?_)
  refine kend_none rfl (fun w hw => ⟨⟨_, rfl⟩, .inl ?_⟩)
  have := drop_yof (hJ _) hw.rid
  rw [DGs_len]
  exact this
end
section
open Go.RowKit
attribute [local simp] fe_len nm_len AS_len SS_len MONT_len RM_len FRs_len BYs_len by48_len PLl TWOl ONEl N1l IVPl HFPl RTPl FL_len SP_len fe2_len SP2_len FM_len J2.GL_len Q6.FF_len
theorem ent5 : Enters Tryd.prog 5 := fun _ _ => by kernel_rfl
structure AppV (f : Nat → List Value) (e N : Nat) where
 (k : Nat) (a0 : Option Addr) (cap : Nat) (own : Hl)
 hk : k ≤ N
 hs : OwnV own 50 e a0 cap (f k)
def BLk (k : Nat) : List Value := (D63.take k).map .bool
theorem BLk_len {k : Nat} (h : k ≤ 63) : (BLk k).length = k := by rw [BLk, List.length_map, List.length_take, D63_len]; omega
theorem BLk_snoc {k : Nat} (h : k < 63) : BLk k ++ [.bool (DGb k)] = BLk (k + 1) := by
 rw [BLk, BLk, List.take_add_one, D63_get h, List.map_append]; rfl
theorem BLk_get {k j : Nat} (hk : k ≤ 63) (h : j < k) : (BLk k)[j]? = some (.bool (DGb j)) := by
 rw [BLk, List.getElem?_map, List.getElem?_take, if_pos h, D63_get (by omega)]; rfl
theorem ti4 : TI Tryd.prog 4 (.bool false) 1 1 := ti_mk (by kernel_rfl)
theorem OwnV.skip {L : Hl} {n : Nat} {e : TypeId} {a0 : Option Addr} {cap : Nat} {xs : List Value} (h : OwnV L n e a0 cap xs) (m : Nat) {x : Nat × List Value × TypeId} (hm : Nat.beq m n = false) : OwnV ((m, x) :: L) n e a0 cap xs := by
 rcases h with h | ⟨b, c, h1, h2, h3⟩
 ·exact .inl h
 ·exact .inr ⟨b, c, h1, by show (bif Nat.beq m n then some x else lkB L n) = _; rw [hm]; exact h2, h3⟩
theorem r12digits (w : World) (hw : Gt w) : Calls Tryd.prog 5 [].toArray w (fun e w' => ∃ b c cap, e = .returned (.slice (some ⟨b, 0, none⟩) 63 cap) ∧ 63 ≤ cap ∧ Grow w w' ∧ w.heap.size ≤ b ∧ OwnB w' b c 4 ∧ ∀ j, j < 63 → c[j]? = some (.bool (DGb j))) := by
 have hGF : BOk Gt (pl w) := gt_low.plain hw
 have fin : ∀ {L : Hl} {a0 : Option Addr} {cap : Nat} {w' : World}, OwnV L 50 4 a0 cap (BLk 63) → Hp (pl w) L w' → ∃ b c cap', Ending.returned (.slice a0 (BLk 63).length cap) = .returned (.slice (some ⟨b, 0, none⟩) 63 cap') ∧ 63 ≤ cap' ∧ Grow w w' ∧ w.heap.size ≤ b ∧ OwnB w' b c 4 ∧ ∀ j, j < 63 → c[j]? = some (.bool (DGb j)) := fun {L a0 cap w'} h hp => by
  have hcp := h.le
  rw [BLk_len (by omega)] at hcp
  rcases h with ⟨_, h, _⟩ | ⟨b, c, rfl, hl, hc, hle, ht⟩
  ·have e := BLk_len (k := 63) (by omega); rw [h] at e; cases e
  ·refine ⟨b, c, cap, by rw [BLk_len (by omega)], hcp, hp_below hp, (hp.own _ _ _ _ hl).2.elim id False.elim, (hp.own _ _ _ _ hl).1, fun j hj => ?_⟩
   have e := BLk_get (k := 63) (by omega) hj
   rw [← ht, BLk_len (by omega), List.getElem?_take, if_pos hj] at e
   exact e
 refine calls_of_X (G := Gt) Tryd.func5 rfl rfl (Hp (pl w) []) (hp_refl (pl w) trivial rides_true) (good_hp hGF) ?_
 refine xs_plain (E := EE []) ?_
 refine lx_assign rfl rfl rfl ?_
 refine lx_nil ?_
 refine xs_plain (E := EE []) ?_
 refine lx_assign rfl rfl rfl ?_
 refine lx_nil ?_
 refine x_seq ?_
 refine xs_plain (E := EE []) ?_
 refine lx_assign rfl rfl rfl ?_
 refine lx_nil ?_
 refine x_block ?_
 refine x_for (ι := AppV BLk 4 63) (fun x => [(1, .slice x.a0 (BLk x.k).length x.cap), (2, I (62 - (x.k : Int)))]) (fun x => x.own) (fun x => 63 - x.k) ⟨0, none, 0, [], by omega, ownV_nil _ _ _⟩ hGF ⟨rfl, rfl, trivial⟩ trivial ?_
 rintro ⟨k, a0, cap, own, hk, hs⟩
 dsimp only at hs ⊢
 refine x_seq ?_
 refine xs_plain (E := EE []) ?_
 refine lx_move rfl rfl rfl ?_
 refine lx_bin (v := .bool (decide (k < 63))) rfl rfl (fun _ => rfl) (fun _ => (bin_geq_i _ _ _).trans (by rw [show decide ((62 - (k : Int)) ≥ 0) = decide (k < 63) from decide_eq_decide.2 (by omega)])) rfl rfl ?_
 refine lx_nil ?_
 refine x_if rfl (fun hc => ?_) (fun hc => ?_)
 ·have hk2 : k < 63 := by simpa using hc
  refine x_skip ?_
  refine x_seq ?_
  refine x_block ?_
  refine x_plain (E := EE []) ?_
  refine lx_move rfl rfl rfl ?_
  refine lx_move rfl rfl rfl ?_
  refine lx_bin (v := U64 (15132376222941642752#64 >>> (62 - k))) rfl rfl (fun _ => rfl) (fun _ => (bin_shr_i_u64 _ _ _ (by omega)).trans (by rw [show (62 - (k : Int)).toNat = 62 - k by omega])) rfl rfl ?_
  refine lx_bin (v := U64 (15132376222941642752#64 >>> (62 - k) &&& 1#64)) rfl rfl (fun _ => rfl) (fun _ => bin_and_u64 _ _ 1#64) rfl rfl ?_
  refine lx_bin (v := .bool (DGb k)) rfl rfl (fun _ => rfl) (fun _ => bin_eql_u64 _ _ 1#64) rfl rfl ?_
  refine lx_bslV 12 [.bool (DGb k)] hGF rfl rfl rfl (by decide) (by decide) Tryd.underlying23 Tryd.sizeOf4 Tryd.zeroValue4 rfl rfl rfl ?_
  intro b12
  refine lx_appendV (xs := BLk k) (ys := [.bool (DGb k)]) 50 hGF rfl rfl Tryd.underlying23 Tryd.underlying23 ti4 rfl (hs.skip 12 rfl) (fun w' h => hp_row (n := 12) rfl w' h) rfl (by simp) (by rw [BLk_len hk]; show (k + 1) * 1 ≤ _; omega) (by rw [BLk_len hk]; show k + 1 ≤ _; omega) rfl rfl (fun bA cA capA eA lA tA => ?_)
  subst eA
  rw [BLk_snoc hk2] at lA tA ⊢
  refine lx_assign rfl rfl rfl ?_
  refine lx_nil ?_
  refine x_plain (E := EE []) ?_
  refine lx_move rfl rfl rfl ?_
  refine lx_bin (v := I (62 - ((k + 1 : Nat) : Int))) rfl rfl (fun _ => rfl) (fun _ => (bin_sub_i _ _ _ (by unfold inI; omega)).trans (by rw [show 62 - (k : Int) - 1 = 62 - ((k + 1 : Nat) : Int) by omega])) rfl rfl ?_
  refine lx_assign rfl rfl rfl ?_
  refine lx_nil ?_
  repeat (refine kblk_n ?_)
  refine kseq_n ?_
  exact ⟨rfl, ⟨k + 1, some ⟨bA, 0, none⟩, _, [(50, bA, cA, 4)], by omega, .inr ⟨bA, cA, rfl, rfl, rfl, lA, tA⟩⟩, _, by show 63 - (k + 1) < 63 - k; omega, rfl, ⟨rfl, rfl, trivial⟩, ⟨rfl, trivial⟩⟩
 ·obtain rfl : k = 63 := by simp at hc; omega
  refine x_exit ?_
  refine xs_plain (E := EE []) ?_
  refine lx_move rfl rfl rfl ?_
  refine lx_assign rfl rfl rfl ?_
  refine lx_nil ?_
  refine x_ret ?_
  repeat (first | refine kseq_ret ?_ | refine kblk_ret ?_)
  exact kret_tmp rfl rfl (fun w' hw' => fin hs hw')
end
end Go.Proofs.YthkmeodnlidpfaaDoor
