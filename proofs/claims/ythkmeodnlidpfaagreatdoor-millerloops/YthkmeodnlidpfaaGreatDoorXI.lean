/-
 The program's digits.
 The reference's digits; to the power of x; the sixth.
 The reference's sixth, the power of p, the long power; the laws' gone.
 The reference's value of a pair.
-/
import Derived.Test.YthkmeodnlidpfaaGreatDoorXH
import Derived.Test.YthkmeodnlidpfaaGreatDoorX3
import Derived.Test.YthkmeodnlidpfaaGreatDoorX5
import Derived.Test.YthkmeodnlidpfaaGreatDoorXA
set_option maxRecDepth 100000
set_option maxHeartbeats 1000000
namespace Go.Proofs.YthkmeodnlidpfaaGreatDoor
section
open Go.RowKit
attribute [local simp] fe_len nm_len AS_len SS_len MONT_len RM_len FRs_len BYs_len by48_len PLl TWOl ONEl N1l IVPl HFPl RTPl FL_len SP_len fe2_len SP2_len FM_len
theorem rTA {Q P : Prop} (k : Q) (h : Q → P := by intro k; (refine LY.run ?_); (repeat (first | refine y_move rfl rfl rfl ?_ | refine y_assign rfl rfl rfl ?_)); (first | refine y_nil ?_ | refine LY.mk ?_); exact k) : P := h k
theorem pTA {Q P : Prop} (k : Q) (h : Q → P := by intro k; (refine xp ?_); (refine rTA ?_); exact k) : P := h k
theorem ent80 : Enters Tryz.prog 80 := fun _ _ => by kernel_rfl
theorem len64u : Pure Tryz.prog Gt 80 [U64 15132376222941642752#64] (I 64) := by
 refine pure_X Tryz.func80 fun w hw hGF => ?_
 refine pTA ?_
 refine x_seq ?_
 refine pTA ?_
 refine lx_binB true rfl rfl (fun _ => rfl) (fun _ => bin_geq_u64 _ _ _) (by decide) rfl rfl ?_
 refine lx_nil ?_
 refine x_true rfl ?_
 refine pTA ?_
 refine lx_bin (v := U64 3523280896#64) rfl rfl (fun _ => rfl) (fun _ => (bin_shr_u64 _ _ 32#64).trans (by rfl)) rfl rfl ?_
 refine rTA ?_
 refine x_plain (E := EE []) ?_
 refine rTA ?_
 refine x_seq ?_
 refine pTA ?_
 refine lx_binB true rfl rfl (fun _ => rfl) (fun _ => bin_geq_u64 _ _ _) (by decide) rfl rfl ?_
 refine lx_nil ?_
 refine x_true rfl ?_
 refine pTA ?_
 refine lx_bin (v := U64 53761#64) rfl rfl (fun _ => rfl) (fun _ => (bin_shr_u64 _ _ 16#64).trans (by rfl)) rfl rfl ?_
 refine rTA ?_
 refine x_plain (E := EE []) ?_
 refine rTA ?_
 refine lx_bin (v := I 48) rfl rfl (fun _ => rfl) (fun _ => (bin_add_i _ _ _ (by unfold inI; decide)).trans (by rfl)) rfl rfl ?_
 refine rTA ?_
 refine x_seq ?_
 refine pTA ?_
 refine lx_binB true rfl rfl (fun _ => rfl) (fun _ => bin_geq_u64 _ _ _) (by decide) rfl rfl ?_
 refine lx_nil ?_
 refine x_true rfl ?_
 refine pTA ?_
 refine lx_bin (v := U64 210#64) rfl rfl (fun _ => rfl) (fun _ => (bin_shr_u64 _ _ 8#64).trans (by rfl)) rfl rfl ?_
 refine rTA ?_
 refine x_plain (E := EE []) ?_
 refine rTA ?_
 refine lx_bin (v := I 56) rfl rfl (fun _ => rfl) (fun _ => (bin_add_i _ _ _ (by unfold inI; decide)).trans (by rfl)) rfl rfl ?_
 refine rTA ?_
 refine pTA ?_
 refine lx_conv rfl rfl (fun _ => conv_u64_u8 Tryz.underlying24 Tryz.underlying5 _) rfl rfl ?_
 refine lx_idxs (n := 8#8) rfl rfl Tryz.underlying9 (by decide) (by kernel_rfl) rfl rfl ?_
 refine lx_conv rfl rfl (fun _ => conv_u8_i Tryz.underlying5 Tryz.underlying3 _) rfl rfl ?_
 refine lx_bin (v := I 64) rfl rfl (fun _ => rfl) (fun _ => (bin_add_i _ _ _ (by unfold inI; decide)).trans (by rfl)) rfl rfl ?_
 refine rTA ?_
 refine rt ?_
 exact kret_tmp rfl rfl (fun w hw => ⟨rfl, hp_below hw⟩)
theorem mdig_p : Pure Tryz.prog Gt 24 [] (.func (.func 79) #[] #[]) := by
 refine pure_X Tryz.func24 fun w hw hGF => ?_
 refine pTA ?_
 refine pTA ?_
 refine rt ?_
 exact kret_tmp rfl rfl (fun w hw => ⟨rfl, hp_below hw⟩)
def DGb (k : Nat) : Bool := 15132376222941642752#64 >>> (62 - k) &&& 1#64 == 1#64
def D63 : List Bool := (List.range 63).map DGb
theorem D63_len : D63.length = 63 := by rw [D63, List.length_map, List.length_range]
theorem D63_get {k : Nat} (h : k < 63) : D63[k]? = some (DGb k) := by rw [D63, List.getElem?_map, List.getElem?_range h]; rfl
def DGs : List (List Value) := D63.map fun d => [.bool d]
theorem DGs_len : DGs.length = 63 := by rw [DGs, List.length_map, D63_len]
theorem DGs_get {k : Nat} (h : k < 63) : DGs[k]? = some [.bool (DGb k)] := by rw [DGs, List.getElem?_map, D63_get h]; rfl
theorem DGs_at {k : Nat} {v : List Value} (h : DGs[k]? = some v) : k < 63 ∧ v = [.bool (DGb k)] := by
 have hk : k < 63 := by
  rcases Nat.lt_or_ge k 63 with hk | hk
  ·exact hk
  ·rw [List.getElem?_eq_none (by rw [DGs_len]; exact hk)] at h; cases h
 exact ⟨hk, (Option.some.inj ((DGs_get hk).symm.trans h)).symm⟩
theorem mdig_seq : SeqOk Tryz.prog Gt 79 [] DGs (fun _ => True) := by
 intro l J Jx hJ hJx hRd hGx hY w hj
 have okJ : ∀ k, BOk Gt (Bi w (fun Y => J Y k)) := fun k => ⟨fun _ _ _ h => (hRd _ _ _ h.rid).1, hJ k⟩
 have okX : ∀ k, BOk Gt (Bi w (fun Y => Jx Y k)) := fun k => ⟨fun _ _ _ h => hGx _ _ _ h.rid, hJx k⟩
 refine calls_of_X (G := Gt) Tryz.func79 rfl rfl (Hp (Bi w (fun Y => J Y 0)) []) (hp_refl (Bi w _) hj (hJ 0)) (good_hp (okJ 0)) ?_
 refine xp ?_
 refine lc ent80 (len64u) ?_
 refine lx_bin (v := I 62) rfl rfl (fun _ => rfl) (fun _ => (bin_sub_i _ _ _ (by unfold inI; decide)).trans (by rfl)) rfl rfl ?_
 refine rTA ?_
 refine x_block ?_
 refine x_forB (ι := { k : Nat // k ≤ 63 }) (fun x => [(0, .func (.yield l) #[] #[]), (2, I (62 - (x.1 : Int)))]) (fun x => Bi w (fun Y => J Y x.1)) (fun x => []) (fun x => 63 - x.1) ⟨0, Nat.zero_le _⟩ (fun _ => okJ _) rfl ⟨rfl, rfl, trivial⟩ trivial ?_
 rintro ⟨k, hk⟩
 dsimp only
 refine x_seq ?_
 refine pTA ?_
 refine lx_bin (v := .bool (decide (k < 63))) rfl rfl (fun _ => rfl) (fun _ => (bin_geq_i _ _ _).trans (by rw [show decide ((62 - (k : Int)) ≥ 0) = decide (k < 63) from decide_eq_decide.2 (by omega)])) rfl rfl ?_
 refine lx_nil ?_
 refine x_if rfl (fun hc => ?_) (fun hc => ?_)
 ·have hk2 : k < 63 := by simpa using hc
  refine x_skip ?_
  refine x_seq ?_
  refine x_block ?_
  refine pTA ?_
  refine lx_bin (v := U64 (15132376222941642752#64 >>> (62 - k))) rfl rfl (fun _ => rfl) (fun _ => (bin_shr_i_u64 _ _ _ (by omega)).trans (by rw [show (62 - (k : Int)).toNat = 62 - k by omega])) rfl rfl ?_
  refine lx_bin (v := U64 (15132376222941642752#64 >>> (62 - k) &&& 1#64)) rfl rfl (fun _ => rfl) (fun _ => bin_and_u64 _ _ 1#64) rfl rfl ?_
  refine lx_bin (v := .bool (DGb k)) rfl rfl (fun _ => rfl) (fun _ => bin_eql_u64 _ _ 1#64) rfl rfl ?_
  refine lx_yield (hY.b (k := k) (DGs_get hk2) w) (okJ _) (okX _) rfl rfl rfl rfl rfl ?_ ?_
  ·skip
   refine lx_un rfl (fun _ => un_not _) rfl rfl ?_
   refine lx_nil ?_
   refine x_false rfl ?_
   refine x_skip ?_
   refine x_plain (E := EE []) ?_
   refine rTA ?_
   refine lx_bin (v := I (62 - ((k + 1 : Nat) : Int))) rfl rfl (fun _ => rfl) (fun _ => (bin_sub_i _ _ _ (by unfold inI; omega)).trans (by rw [show 62 - (k : Int) - 1 = 62 - ((k + 1 : Nat) : Int) by omega])) rfl rfl ?_
   refine rTA ?_
   repeat (refine kblk_n ?_)
   refine kseq_n ?_
   exact ⟨rfl, ⟨k + 1, by omega⟩, _, by show 63 - (k + 1) < 63 - k; omega, rfl, ⟨rfl, rfl, trivial⟩, trivial⟩
  ·skip
   refine lx_un rfl (fun _ => un_not _) rfl rfl ?_
   refine lx_nil ?_
   refine x_true rfl ?_
   refine rt ?_
   repeat (first | refine kseq_x ?_ | refine kblk_x ?_ | refine kblk_p rfl ?_ | refine kseq_ret ?_ | refine kblk_ret ?_)
   exact kret_none rfl (fun w hw => ⟨⟨_, rfl⟩, .inr ⟨_, drop_yof (hJx _) hw.rid⟩⟩)
 ·obtain rfl : k = 63 := by simp at hc; omega
  refine x_exit ?_
  repeat (first | refine kseq_x ?_ | refine kblk_x ?_ | refine kblk_p rfl ?_ | refine kseq_ret ?_ | refine kblk_ret ?_)
  refine kend_none rfl (fun w hw => ⟨⟨_, rfl⟩, .inl ?_⟩)
  have := drop_yof (hJ _) hw.rid
  rw [DGs_len]
  exact this
end
section
open Go.RowKit
attribute [local simp] fe_len nm_len AS_len SS_len MONT_len RM_len FRs_len BYs_len by48_len PLl TWOl ONEl N1l IVPl HFPl RTPl FL_len SP_len fe2_len SP2_len FM_len J1.GL_len J2.GL_len Q6.FF_len
theorem rTB {Q P : Prop} (k : Q) (h : Q → P := by intro k; (refine LY.run ?_); (repeat (first | refine y_move rfl rfl rfl ?_ | refine y_assign rfl rfl rfl ?_ | ((refine ra48 rfl rfl ?_ rfl rfl ?_); (· simp)) | ((refine sa48 hGF rfl rfl rfl ?_ ?_ (one_u64 _) rfl ?_); (· simp); (· simp)) | refine y_call (f := 72) rfl rfl ent72 (tmul _ _) rfl rfl ?_)); (first | refine y_nil ?_ | refine LY.mk ?_); exact k) : P := h k
theorem pTB {Q P : Prop} (k : Q) (h : Q → P := by intro k; (refine xp ?_); (refine rTB ?_); exact k) : P := h k
theorem ent71 : Enters Tryz.prog 71 := fun _ _ => by kernel_rfl
theorem ent130 : Enters Tryz.prog 130 := fun _ _ => by kernel_rfl
theorem ent152 : Enters Tryz.prog 152 := fun _ _ => by kernel_rfl
theorem ent128 : Enters Tryz.prog 128 := fun _ _ => by kernel_rfl
theorem ent129 : Enters Tryz.prog 129 := fun _ _ => by kernel_rfl
theorem ent77 : Enters Tryz.prog 77 := fun _ _ => by kernel_rfl
theorem ent21 : Enters Tryz.prog 21 := fun _ _ => by kernel_rfl
structure AppV (f : Nat → List Value) (e N : Nat) where
 (k : Nat) (a0 : Option Addr) (cap : Nat) (own : Hl)
 hk : k ≤ N
 hs : OwnV own 50 e a0 cap (f k)
def BLk (k : Nat) : List Value := (D63.take k).map .bool
theorem BLk_len {k : Nat} (h : k ≤ 63) : (BLk k).length = k := by rw [BLk, List.length_map, List.length_take, D63_len]; omega
theorem BLk_snoc {k : Nat} (h : k < 63) : BLk k ++ [.bool (DGb k)] = BLk (k + 1) := by
 rw [BLk, BLk, List.take_add_one, D63_get h, List.map_append]; rfl
theorem BLk_get {k j : Nat} (hk : k ≤ 63) (h : j < k) : (BLk k)[j]? = some (.bool (DGb j)) := by
 rw [BLk, List.getElem?_map, List.getElem?_take, if_pos h, D63_get (by omega)]; rfl
theorem ti4 : TI Tryz.prog 4 (.bool false) 1 1 := ti_mk (by kernel_rfl)
theorem OwnV.skip {L : Hl} {n : Nat} {e : TypeId} {a0 : Option Addr} {cap : Nat} {xs : List Value} (h : OwnV L n e a0 cap xs) (m : Nat) {x : Nat × List Value × TypeId} (hm : Nat.beq m n = false) : OwnV ((m, x) :: L) n e a0 cap xs := by
 rcases h with h | ⟨b, c, h1, h2, h3⟩
 ·exact .inl h
 ·exact .inr ⟨b, c, h1, by show (bif Nat.beq m n then some x else lkB L n) = _; rw [hm]; exact h2, h3⟩
theorem r12digits (w : World) (hw : Gt w) : Calls Tryz.prog 71 [].toArray w (fun e w' => ∃ b c cap, e = .returned (.slice (some ⟨b, 0, none⟩) 63 cap) ∧ Grow w w' ∧ w.heap.size ≤ b ∧ OwnB w' b c 4 ∧ ∀ j, j < 63 → c[j]? = some (.bool (DGb j))) := by
 have hGF : BOk Gt (pl w) := gt_low.plain hw
 have fin : ∀ {L : Hl} {a0 : Option Addr} {cap : Nat} {w' : World}, OwnV L 50 4 a0 cap (BLk 63) → Hp (pl w) L w' → ∃ b c cap', Ending.returned (.slice a0 (BLk 63).length cap) = .returned (.slice (some ⟨b, 0, none⟩) 63 cap') ∧ Grow w w' ∧ w.heap.size ≤ b ∧ OwnB w' b c 4 ∧ ∀ j, j < 63 → c[j]? = some (.bool (DGb j)) := fun {L a0 cap w'} h hp => by
  rcases h with ⟨_, h, _⟩ | ⟨b, c, rfl, hl, hc, hle, ht⟩
  ·have e := BLk_len (k := 63) (by omega); rw [h] at e; cases e
  ·refine ⟨b, c, cap, by rw [BLk_len (by omega)], hp_below hp, (hp.own _ _ _ _ hl).2.elim id False.elim, (hp.own _ _ _ _ hl).1, fun j hj => ?_⟩
   have e := BLk_get (k := 63) (by omega) hj
   rw [← ht, BLk_len (by omega), List.getElem?_take, if_pos hj] at e
   exact e
 refine calls_of_X (G := Gt) Tryz.func71 rfl rfl (Hp (pl w) []) (hp_refl (pl w) trivial rides_true) (good_hp hGF) ?_
 refine pTB ?_
 refine pTB ?_
 refine x_seq ?_
 refine pTB ?_
 refine x_block ?_
 refine x_for (ι := AppV BLk 4 63) (fun x => [(1, .slice x.a0 (BLk x.k).length x.cap), (2, I (62 - (x.k : Int)))]) (fun x => x.own) (fun x => 63 - x.k) ⟨0, none, 0, [], by omega, ownV_nil _ _ _⟩ hGF ⟨rfl, rfl, trivial⟩ trivial ?_
 rintro ⟨k, a0, cap, own, hk, hs⟩
 dsimp only at hs ⊢
 refine x_seq ?_
 refine pTB ?_
 refine lx_bin (v := .bool (decide (k < 63))) rfl rfl (fun _ => rfl) (fun _ => (bin_geq_i _ _ _).trans (by rw [show decide ((62 - (k : Int)) ≥ 0) = decide (k < 63) from decide_eq_decide.2 (by omega)])) rfl rfl ?_
 refine lx_nil ?_
 refine x_if rfl (fun hc => ?_) (fun hc => ?_)
 ·have hk2 : k < 63 := by simpa using hc
  refine x_skip ?_
  refine x_seq ?_
  refine x_block ?_
  refine x_plain (E := EE []) ?_
  refine rTB ?_
  refine lx_bin (v := U64 (15132376222941642752#64 >>> (62 - k))) rfl rfl (fun _ => rfl) (fun _ => (bin_shr_i_u64 _ _ _ (by omega)).trans (by rw [show (62 - (k : Int)).toNat = 62 - k by omega])) rfl rfl ?_
  refine lx_bin (v := U64 (15132376222941642752#64 >>> (62 - k) &&& 1#64)) rfl rfl (fun _ => rfl) (fun _ => bin_and_u64 _ _ 1#64) rfl rfl ?_
  refine lx_bin (v := .bool (DGb k)) rfl rfl (fun _ => rfl) (fun _ => bin_eql_u64 _ _ 1#64) rfl rfl ?_
  refine lx_bslV 12 [.bool (DGb k)] hGF rfl rfl rfl (by decide) (by decide) Tryz.underlying117 Tryz.sizeOf4 Tryz.zeroValue4 rfl rfl rfl ?_
  intro b12
  refine lx_appendV (xs := BLk k) (ys := [.bool (DGb k)]) 50 hGF rfl rfl Tryz.underlying117 Tryz.underlying117 ti4 rfl (hs.skip 12 rfl) (fun w' h => hp_row (n := 12) rfl w' h) rfl (by simp) (by rw [BLk_len hk]; show (k + 1) * 1 ≤ _; omega) (by rw [BLk_len hk]; show k + 1 ≤ _; omega) rfl rfl (fun bA cA capA eA lA tA => ?_)
  subst eA
  rw [BLk_snoc hk2] at lA tA ⊢
  refine rTB ?_
  refine x_plain (E := EE []) ?_
  refine rTB ?_
  refine lx_bin (v := I (62 - ((k + 1 : Nat) : Int))) rfl rfl (fun _ => rfl) (fun _ => (bin_sub_i _ _ _ (by unfold inI; omega)).trans (by rw [show 62 - (k : Int) - 1 = 62 - ((k + 1 : Nat) : Int) by omega])) rfl rfl ?_
  refine rTB ?_
  repeat (refine kblk_n ?_)
  refine kseq_n ?_
  exact ⟨rfl, ⟨k + 1, some ⟨bA, 0, none⟩, _, [(50, bA, cA, 4)], by omega, .inr ⟨bA, cA, rfl, rfl, rfl, lA, tA⟩⟩, _, by show 63 - (k + 1) < 63 - k; omega, rfl, ⟨rfl, rfl, trivial⟩, ⟨rfl, trivial⟩⟩
 ·obtain rfl : k = 63 := by simp at hc; omega
  refine x_exit ?_
  refine pTB ?_
  refine rt ?_
  exact kret_tmp rfl rfl (fun w' hw' => fin hs hw')
def pwD (x : W12) (k : Nat) : W12 := K12.pw x (bitsM (D63.take k) 1)
theorem D63_take {k : Nat} (h : k < 63) : D63.take (k + 1) = D63.take k ++ [DGb k] := by rw [List.take_add_one, D63_get h]; rfl
theorem pwD_t (x : W12) {k : Nat} (h : k < 63) (hd : DGb k = true) : K12.mul (K12.mul (pwD x k) (pwD x k)) x = pwD x (k + 1) := by
 rw [pwD, pwD, D63_take h, bitsM_app, hd, ← K12.pw_add, ← Nat.two_mul]; rfl
theorem pwD_f (x : W12) {k : Nat} (h : k < 63) (hd : DGb k = false) : K12.mul (pwD x k) (pwD x k) = pwD x (k + 1) := by
 rw [pwD, pwD, D63_take h, bitsM_app, hd, ← K12.pw_add, ← Nat.two_mul]; rfl
theorem D63_L : D63 = L63 := by decide +kernel
theorem pwD_63 (x : W12) : pwD x 63 = K12.pw x UG := by rw [pwD, List.take_of_length_le (by rw [D63_len]; exact Nat.le_refl _), D63_L, L63_n]
namespace Q6
theorem tturned (x : W12) : Pure Tryz.prog Gt 130 [TT x] (TT (tnd UG x)) := by
 refine pure_X Tryz.func130 fun w hw hGF => ?_
 refine xs_plain (E := EE [71]) ?_
 refine lb fun b1 => ?_
 refine la zv48 fun b2 => ?_
 refine lx_nil ?_
 refine xs_plain (E := EE [71]) ?_
 refine rTB ?_
 refine la zv48 fun b3 => ?_
 refine rTB ?_
 refine xs_plain (E := EE [71]) ?_
 refine lx_callE rfl rfl ent71 rfl rfl (fun w' hw' => (r12digits w' (hGF.g _ _ _ hw')).mono fun e' w'' h => ?_)
 obtain ⟨bD, cD, capD, rfl, hg, hbD, hoD, hcD⟩ := h
 refine ⟨_, _, rfl, good_hp hGF, hw'.news rides_true hg [(50, bD, cD, 4)] ?_ inj_one, ?_⟩
 ·intro n' b' c' t' hl
  rcases lkB_cons hl with ⟨_, e⟩ | ⟨_, hl⟩
  ·cases e; exact ⟨hbD, hoD⟩
  ·cases hl
 clear hw' hg hbD hoD
 refine rTB ?_
 refine x_seq ?_
 refine xs_plain (E := EE [71]) ?_
 refine rTB ?_
 refine x_block ?_
 refine x_for (ι := { k : Nat // k ≤ 63 }) (fun y => [(1, .pointer (some ⟨b1, 0, none⟩)), (2, .pointer (some ⟨b2, 0, none⟩)), (3, .pointer (some ⟨b3, 0, none⟩)), (4, .slice (some ⟨bD, 0, none⟩) 63 capD), (5, I (y.1 : Int))]) (fun y => [(1, b1, (FM (FF (p12 (x))) 6).map U64, 48), (2, b2, (FM (FF fun _ => ze2) 6).map U64, 48), (3, b3, (FM (FF (p12 (pwD x y.1))) 6).map U64, 48), (50, bD, cD, 4)]) (fun y => 63 - y.1) ⟨0, by omega⟩ hGF ⟨rfl, rfl, rfl, rfl, rfl, trivial⟩ ⟨rfl, rfl, by rw [show pwD x 0 = x from K12.pw_one x]; rfl, rfl, trivial⟩ ?_
 rintro ⟨k, hk⟩
 dsimp only
 refine x_seq ?_
 refine xs_plain (E := EE [71]) ?_
 refine rTB ?_
 refine lx_len rfl (fun _ => len_slice Tryz.underlying117 _ _ _ _) rfl rfl ?_
 refine lx_bin rfl rfl (fun _ => rfl) (fun _ => bin_lss_i _ _ _) rfl rfl ?_
 refine lx_nil ?_
 refine x_if rfl (fun hc => ?_) (fun hc => ?_)
 ·have hk2 : k < 63 := by simp at hc; omega
  refine x_skip ?_
  refine x_seq ?_
  refine x_block ?_
  refine xs_plain (E := EE [71]) ?_
  refine rTB ?_
  refine xs_plain (E := EE [71]) ?_
  refine rTB ?_
  refine lx_is1 k rfl rfl Tryz.underlying117 Tryz.sizeOf4 (by omega) (by omega) rfl rfl ?_
  refine lx_load (v := .bool (DGb k)) rfl Tryz.isAgg4 (fun w' h => hp_cell (n := 50) rfl (by rw [Nat.zero_add]; exact hcD k (by omega)) w' h) rfl rfl ?_
  refine lx_nil ?_
  refine x_if rfl (fun hc => ?_) (fun hc => ?_)
  ·skip
   refine x_plain (E := EE [71]) ?_
   refine rTB ?_
   refine x_plain (E := EE [71]) ?_
   refine rTB ?_
   refine lx_bin rfl rfl (fun _ => rfl) (fun _ => bin_add_i _ _ _ (by unfold inI; omega)) rfl rfl ?_
   refine rTB ?_
   repeat (refine kblk_n ?_)
   refine kseq_n ?_
   exact ⟨rfl, ⟨k + 1, by omega⟩, _, by show 63 - (k + 1) < 63 - k; omega, rfl, ⟨rfl, rfl, rfl, rfl, rfl, trivial⟩, ⟨rfl, rfl, by rw [← pwD_t x hk2 hc]; rfl, rfl, trivial⟩⟩
  ·skip
   refine x_skip ?_
   refine x_plain (E := EE [71]) ?_
   refine rTB ?_
   refine lx_bin rfl rfl (fun _ => rfl) (fun _ => bin_add_i _ _ _ (by unfold inI; omega)) rfl rfl ?_
   refine rTB ?_
   repeat (refine kblk_n ?_)
   refine kseq_n ?_
   exact ⟨rfl, ⟨k + 1, by omega⟩, _, by show 63 - (k + 1) < 63 - k; omega, rfl, ⟨rfl, rfl, rfl, rfl, rfl, trivial⟩, ⟨rfl, rfl, by rw [← pwD_f x hk2 hc]; rfl, rfl, trivial⟩⟩
 ·obtain rfl : k = 63 := by simp at hc; omega
  refine x_exit ?_
  refine xs_plain (E := EE [71]) ?_
  refine rTB ?_
  refine lc ent75 (tconj _) ?_
  refine rTB ?_
  refine rt ?_
  exact kret_own 2 rfl rfl rfl Tryz.isAgg48 Tryz.sizeOf48 (by simp) (fun w hw => ⟨by rw [tnd, ← pwD_63], hp_below hw⟩)
def TO228 : Tb Tryz.prog Gt := TO227.add (wqTag_qTrd (g := fun x => tnd UG x) ent130 tturned)
end Q6
end
section
open Go.RowKit
attribute [local simp] fe_len nm_len AS_len SS_len MONT_len RM_len FRs_len BYs_len by48_len PLl TWOl ONEl N1l IVPl HFPl RTPl FL_len SP_len fe2_len SP2_len FM_len J1.GL_len J2.GL_len Q6.FF_len
theorem rTC {Q P : Prop} (k : Q) (h : Q → P := by intro k; (refine LY.run ?_); (repeat (first | refine y_move rfl rfl rfl ?_ | refine y_assign rfl rfl rfl ?_ | ((refine ra48 rfl rfl ?_ rfl rfl ?_); (· simp)) | ((refine ra46 rfl rfl ?_ rfl rfl ?_); (· simp)) | ((refine sa48 hGF rfl rfl rfl ?_ ?_ (one_u64 _) rfl ?_); (· simp); (· simp)) | ((refine sa46 hGF rfl rfl rfl ?_ ?_ (one_u64 _) rfl ?_); (· simp); (· simp)) | refine y_call (f := 72) rfl rfl ent72 (tmul _ _) rfl rfl ?_ | refine y_call (f := 130) rfl rfl ent130 (tturned _) rfl rfl ?_ | refine y_call (f := 75) rfl rfl ent75 (tconj _) rfl rfl ?_)); (first | refine y_nil ?_ | refine LY.mk ?_); exact k) : P := h k
theorem pTC {Q P : Prop} (k : Q) (h : Q → P := by intro k; (refine xp ?_); (refine rTC ?_); exact k) : P := h k
def dgt (c : BitVec 8) : BitVec 8 := if 97#8 ≤ c then c - 97#8 + 10#8 else c - 48#8
theorem r12digit (c : BitVec 8) : Pure Tryz.prog Gt 152 [U8 c] (U8 (dgt c)) := by
 intro w hw
 have hGF : BOk Gt (pl w) := gt_low.plain hw
 by_cases h : 97#8 ≤ c
 ·rw [show dgt c = _ from if_pos h]
  refine calls_of_X (G := Gt) Tryz.func152 rfl rfl (Hp (pl w) []) (hp_refl (pl w) trivial rides_true) (good_hp hGF) ?_
  refine pTC ?_
  refine x_seq ?_
  refine pTC ?_
  refine lx_binB true rfl rfl (fun _ => rfl) (fun _ => bin_geq_u8 _ _ 97#8) (decide_eq_true h) rfl rfl ?_
  refine lx_nil ?_
  refine x_true rfl ?_
  refine pTC ?_
  refine lx_bin rfl rfl (fun _ => rfl) (fun _ => bin_sub_u8 _ _ _) rfl rfl ?_
  refine lx_bin rfl rfl (fun _ => rfl) (fun _ => bin_add_u8 _ _ _) rfl rfl ?_
  refine rTC ?_
  refine rt ?_
  exact kret_tmp rfl rfl (fun w hw => ⟨rfl, hp_below hw⟩)
 ·rw [show dgt c = _ from if_neg h]
  refine calls_of_X (G := Gt) Tryz.func152 rfl rfl (Hp (pl w) []) (hp_refl (pl w) trivial rides_true) (good_hp hGF) ?_
  refine pTC ?_
  refine x_seq ?_
  refine pTC ?_
  refine lx_binB false rfl rfl (fun _ => rfl) (fun _ => bin_geq_u8 _ _ 97#8) (decide_eq_false h) rfl rfl ?_
  refine lx_nil ?_
  refine x_false rfl ?_
  refine x_skip ?_
  refine pTC ?_
  refine lx_bin rfl rfl (fun _ => rfl) (fun _ => bin_sub_u8 _ _ _) rfl rfl ?_
  refine rTC ?_
  refine rt ?_
  exact kret_tmp rfl rfl (fun w hw => ⟨rfl, hp_below hw⟩)
def HXL : List UInt8 := List.append [48, 52, 53, 53, 56, 50, 102, 99, 53, 101, 101, 97, 97, 54, 54, 102, 48, 99, 56, 52, 57, 98, 102, 51, 98, 53, 101, 49, 102, 50, 50, 51, 101, 54, 49, 51, 101, 49, 101, 98, 55, 100, 101, 98, 56, 51, 49, 102] [101, 54, 56, 56, 50, 51, 49, 97, 100, 51, 99, 56, 50, 57, 48, 54, 48, 53, 49, 99, 97, 97, 97, 97, 55, 50, 101, 51, 53, 53, 53, 53, 52, 57, 97, 97, 55, 102, 102, 102, 102, 102, 102, 102, 102, 49, 99, 55]
def HX : List (BitVec 8) := [48#8, 52#8, 53#8, 53#8, 56#8, 50#8, 102#8, 99#8, 53#8, 101#8, 101#8, 97#8, 97#8, 54#8, 54#8, 102#8, 48#8, 99#8, 56#8, 52#8, 57#8, 98#8, 102#8, 51#8, 98#8, 53#8, 101#8, 49#8, 102#8, 50#8, 50#8, 51#8, 101#8, 54#8, 49#8, 51#8, 101#8, 49#8, 101#8, 98#8, 55#8, 100#8, 101#8, 98#8, 56#8, 51#8, 49#8, 102#8, 101#8, 54#8, 56#8, 56#8, 50#8, 51#8, 49#8, 97#8, 100#8, 51#8, 99#8, 56#8, 50#8, 57#8, 48#8, 54#8, 48#8, 53#8, 49#8, 99#8, 97#8, 97#8, 97#8, 97#8, 55#8, 50#8, 101#8, 51#8, 53#8, 53#8, 53#8, 53#8, 52#8, 57#8, 97#8, 97#8, 55#8, 102#8, 102#8, 102#8, 102#8, 102#8, 102#8, 102#8, 102#8, 49#8, 99#8, 55#8]
def SIX : List (BitVec 8) := [4#8, 85#8, 130#8, 252#8, 94#8, 234#8, 166#8, 111#8, 12#8, 132#8, 155#8, 243#8, 181#8, 225#8, 242#8, 35#8, 230#8, 19#8, 225#8, 235#8, 125#8, 235#8, 131#8, 31#8, 230#8, 136#8, 35#8, 26#8, 211#8, 200#8, 41#8, 6#8, 5#8, 28#8, 170#8, 170#8, 114#8, 227#8, 85#8, 85#8, 73#8, 170#8, 127#8, 255#8, 255#8, 255#8, 241#8, 199#8]
theorem HX_all : ∀ i : Fin 96, HXL.toArray[i.val]? = some (UInt8.ofBitVec (HX.getD i.val 0)) := by decide +kernel
theorem HX_at {i : Nat} {z : Int} (hz : z = (i : Int)) (h : i < 96) : HXL.toArray[z.toNat]? = some (UInt8.ofBitVec (HX.getD i 0)) := by
 subst hz
 rw [Int.toNat_natCast]; exact HX_all ⟨i, h⟩
theorem SIX_all : ∀ k : Fin 48, dgt (HX.getD (2 * k.val) 0) <<< (4#64).toNat ||| dgt (HX.getD (2 * k.val + 1) 0) = SIX.getD k.val 0 := by decide +kernel
theorem SIX_at {k : Nat} (h : k < 48) : dgt (HX.getD (2 * k) 0) <<< (4#64).toNat ||| dgt (HX.getD (2 * k + 1) 0) = SIX.getD k 0 := SIX_all ⟨k, h⟩
theorem SIX_n : BN SIX 48 = sx := by decide +kernel
def SXk (k : Nat) : List Value := (SIX.take k).map U8
theorem SXk_len {k : Nat} (h : k ≤ 48) : (SXk k).length = k := by rw [SXk, List.length_map, List.length_take, show SIX.length = 48 from rfl]; omega
theorem SXk_snoc {k : Nat} (h : k < 48) : SXk k ++ [U8 (SIX.getD k 0)] = SXk (k + 1) := by
 rw [SXk, SXk, List.take_add_one, List.getD_eq_getElem?_getD, List.getElem?_eq_getElem (show k < SIX.length from h), List.map_append]; rfl
theorem SXk_48 : SXk 48 = SIX.map U8 := rfl
theorem ti5s : TI Tryz.prog 5 (.int .u8 0) 1 1 := ti_mk (by kernel_rfl)
theorem r12sixth (w : World) (hw : Gt w) : Calls Tryz.prog 128 [].toArray w (fun e w' => ∃ b c cap, e = .returned (.slice (some ⟨b, 0, none⟩) 48 cap) ∧ Grow w w' ∧ w.heap.size ≤ b ∧ OwnB w' b c 5 ∧ c.take SIX.length = SIX.map U8) := by
 have hGF : BOk Gt (pl w) := gt_low.plain hw
 have fin : ∀ {L : Hl} {a0 : Option Addr} {cap : Nat} {w' : World}, OwnV L 50 5 a0 cap (SXk 48) → Hp (pl w) L w' → ∃ b c cap', Ending.returned (.slice a0 (SXk 48).length cap) = .returned (.slice (some ⟨b, 0, none⟩) 48 cap') ∧ Grow w w' ∧ w.heap.size ≤ b ∧ OwnB w' b c 5 ∧ c.take SIX.length = SIX.map U8 := fun {L a0 cap w'} h hp => by
  rcases h with ⟨_, h, _⟩ | ⟨b, c, rfl, hl, hc, hle, ht⟩
  ·have e := SXk_len (k := 48) (by omega); rw [h] at e; cases e
  ·refine ⟨b, c, cap, by rw [SXk_len (by omega)], hp_below hp, (hp.own _ _ _ _ hl).2.elim id False.elim, (hp.own _ _ _ _ hl).1, ?_⟩
   rw [SXk_len (by omega), SXk_48] at ht
   exact ht
 refine calls_of_X (G := Gt) Tryz.func128 rfl rfl (Hp (pl w) []) (hp_refl (pl w) trivial rides_true) (good_hp hGF) ?_
 refine pTC ?_
 refine pTC ?_
 refine x_seq ?_
 refine pTC ?_
 refine x_block ?_
 refine x_for (ι := AppV SXk 5 48) (fun x => [(1, .slice x.a0 (SXk x.k).length x.cap), (2, I ((2 * x.k : Nat) : Int))]) (fun x => x.own) (fun x => 48 - x.k) ⟨0, none, 0, [], by omega, ownV_nil _ _ _⟩ hGF ⟨rfl, rfl, trivial⟩ trivial ?_
 rintro ⟨k, a0, cap, own, hk, hs⟩
 dsimp only at hs ⊢
 refine x_seq ?_
 refine pTC ?_
 refine lx_bin (v := .bool (decide (k < 48))) rfl rfl (fun _ => rfl) (fun _ => (bin_lss_i _ _ _).trans (by rw [show decide (((2 * k : Nat) : Int) < 96) = decide (k < 48) from decide_eq_decide.2 (by omega)])) rfl rfl ?_
 refine lx_nil ?_
 refine x_if rfl (fun hc => ?_) (fun hc => ?_)
 ·have hk2 : k < 48 := by simpa using hc
  refine x_skip ?_
  refine x_seq ?_
  refine x_block ?_
  refine x_drawn (E := EE []) mixed (by kernel_rfl) (by kernel_rfl) (by kernel_rfl) ?_
  refine rTC ?_
  refine lx_idxs (n := HX.getD (2 * k) 0) rfl rfl Tryz.underlying9 (by omega) (HX_at (i := 2 * k) (rfl) (by omega)) rfl rfl ?_
  refine lc ent152 (r12digit _) ?_
  refine lx_bin (v := U8 (dgt (HX.getD (2 * k) 0) <<< (4#64).toNat)) rfl rfl (fun _ => rfl) (fun _ => bin_shl_u8 _ _ 4#64) rfl rfl ?_
  refine rTC ?_
  refine lx_bin (v := I (((2 * k : Nat) : Int) + 1)) rfl rfl (fun _ => rfl) (fun _ => bin_add_i _ _ _ (by unfold inI; omega)) rfl rfl ?_
  refine lx_idxs (n := HX.getD (2 * k + 1) 0) rfl rfl Tryz.underlying9 (by omega) (HX_at (i := 2 * k + 1) (by omega) (by omega)) rfl rfl ?_
  refine lc ent152 (r12digit _) ?_
  refine lx_bin (v := U8 (SIX.getD k 0)) rfl rfl (fun _ => rfl) (fun _ => (bin_or_u8 _ _ _).trans (by rw [SIX_at hk2])) rfl rfl ?_
  refine lx_bslV 17 [U8 (SIX.getD k 0)] hGF rfl rfl rfl (by decide) (by decide) Tryz.underlying22 Tryz.sizeOf5 Tryz.zeroValue5 rfl rfl rfl ?_
  intro b17
  refine lx_appendV (xs := SXk k) (ys := [U8 (SIX.getD k 0)]) 50 hGF rfl rfl Tryz.underlying22 Tryz.underlying22 ti5s rfl (hs.skip 17 rfl) (fun w' h => hp_row (n := 17) rfl w' h) rfl (by simp) (by rw [SXk_len hk]; show (k + 1) * 1 ≤ _; omega) (by rw [SXk_len hk]; show k + 1 ≤ _; omega) rfl rfl (fun bA cA capA eA lA tA => ?_)
  subst eA
  rw [SXk_snoc hk2] at lA tA ⊢
  refine rTC ?_
  refine x_plain (E := EE []) ?_
  refine rTC ?_
  refine lx_bin (v := I ((2 * (k + 1) : Nat) : Int)) rfl rfl (fun _ => rfl) (fun _ => (bin_add_i _ _ _ (by unfold inI; omega)).trans (by rw [show ((2 * k : Nat) : Int) + 2 = ((2 * (k + 1) : Nat) : Int) by omega])) rfl rfl ?_
  refine rTC ?_
  repeat (refine kblk_n ?_)
  refine kseq_n ?_
  exact ⟨rfl, ⟨k + 1, some ⟨bA, 0, none⟩, _, [(50, bA, cA, 5)], by omega, .inr ⟨bA, cA, rfl, rfl, rfl, lA, tA⟩⟩, _, by show 48 - (k + 1) < 48 - k; omega, rfl, ⟨rfl, rfl, trivial⟩, ⟨rfl, trivial⟩⟩
 ·obtain rfl : k = 48 := by simp at hc; omega
  refine x_exit ?_
  refine pTC ?_
  refine rt ?_
  exact kret_tmp rfl rfl (fun w' hw' => fin hs hw')
namespace Q6
def frJ (c : W2) (x : W12) (j : Nat) : W2 := ml2 (cj2 (p12 x j)) (pw2 c j)
def frG (c : W2) (x : W12) : W12 := tq (frJ c x)
theorem frG_GA (x : W12) : frG GA x = FR12 x := rfl
theorem tfrob0 (x : W12) (c : W2) : Pure Tryz.prog Gt 129 [TT x, EV2 c] (TV (frJ c x)) := by
 refine pure_X Tryz.func129 fun w hw hGF => ?_
 refine xp ?_
 refine lb fun b2 => ?_
 refine lb fun b3 => ?_
 refine la zv48 fun b4 => ?_
 refine lx_nil ?_
 refine xp ?_
 refine lc ent100 (r5one) ?_
 refine la zv46 fun b5 => ?_
 refine rTC ?_
 refine x_seq ?_
 refine pTC ?_
 refine x_block ?_
 refine x_for (ι := { i : Nat // i ≤ 6 }) (fun y => [(2, .pointer (some ⟨b2, 0, none⟩)), (3, .pointer (some ⟨b3, 0, none⟩)), (4, .pointer (some ⟨b4, 0, none⟩)), (5, .pointer (some ⟨b5, 0, none⟩)), (6, I (y.1 : Int))]) (fun y => [(2, b2, (FM (FF (fun j => if j < y.1 then frJ c x j else p12 x j)) 6).map U64, 48), (3, b3, (fe (c).1 ++ fe (c).2).map U64, 46), (4, b4, (FM (FF fun _ => ze2) 6).map U64, 48), (5, b5, (fe (pw2 c y.1).1 ++ fe (pw2 c y.1).2).map U64, 46)]) (fun y => 6 - y.1) ⟨0, by omega⟩ hGF ⟨rfl, rfl, rfl, rfl, rfl, trivial⟩ ⟨congrArg (fun l => some (b2, l, _)) (congrArg (List.map U64) (FF_congr fun j _ => (if_neg (Nat.not_lt_zero j)).symm)), rfl, rfl, rfl, trivial⟩ ?_
 rintro ⟨i, hi⟩
 dsimp only
 refine x_seq ?_
 refine pTC ?_
 refine lx_bin rfl rfl (fun _ => rfl) (fun _ => bin_lss_i _ _ _) rfl rfl ?_
 refine lx_nil ?_
 refine x_if rfl (fun hc => ?_) (fun hc => ?_)
 ·simp only [decide_eq_true_eq] at hc
  refine x_skip ?_
  refine x_seq ?_
  refine x_block ?_
  refine xs_drawn (E := EE []) mixed (by kernel_rfl) (by kernel_rfl) (by kernel_rfl) ?_
  refine rTC ?_
  refine lx_iak (i) (12 * (i)) rfl rfl Tryz.underlying48 Tryz.sizeOf46 (by omega) (by omega) (by omega) rfl rfl ?_
  refine lx_loado 2 ((fe (p12 x i).1 ++ fe (p12 x i).2).map U64) rfl rfl Tryz.isAgg46 Tryz.sizeOf46 (by simp) (FF_load _ (p12 x i) 6 (i) _ (by omega) rfl (not_lt_self (frJ c x) (p12 x) i)) rfl rfl ?_
  refine lc ent153 (r5conj _) ?_
  refine rTC ?_
  refine lx_call rfl rfl ent51 (r5mul (cj2 (p12 x i)) (pw2 c i)) rfl rfl ?_
  refine lx_iak (i) (12 * (i)) rfl rfl Tryz.underlying48 Tryz.sizeOf46 (by omega) (by omega) (by omega) rfl rfl ?_
  refine lx_storeo 2 ((FM (FF (fun j => if j < i + 1 then frJ c x j else p12 x j)) 6).map U64) hGF rfl rfl rfl Tryz.sizeOf46 (by simp) (one_u64 _) (by simp; omega) (FF_step _ _ (ml2 (cj2 (p12 x i)) (pw2 c i)) 6 (i) _ (by omega) rfl (fun j _ => upd_lt (frJ c x) (p12 x) i j)) rfl ?_
  refine lx_nil ?_
  refine x_plain (E := EE []) ?_
  refine rTC ?_
  refine lx_call rfl rfl ent51 (r5mul (pw2 c i) c) rfl rfl ?_
  refine rTC ?_
  refine x_plain (E := EE []) ?_
  refine rTC ?_
  refine lx_bin rfl rfl (fun _ => rfl) (fun _ => bin_add_i _ _ _ (by unfold inI; omega)) rfl rfl ?_
  refine rTC ?_
  repeat (refine kblk_n ?_)
  refine kseq_n ?_
  exact ⟨rfl, ⟨i + 1, by omega⟩, _, by show 6 - (i + 1) < 6 - i; omega, rfl, ⟨rfl, rfl, rfl, rfl, rfl, trivial⟩, ⟨rfl, rfl, rfl, rfl, trivial⟩⟩
 ·obtain rfl : i = 6 := by simp at hc; omega
  refine x_exit ?_
  refine pTC ?_
  refine rt ?_
  exact kret_own 4 rfl rfl rfl Tryz.isAgg48 Tryz.sizeOf48 (by simp) (fun w hw => ⟨rT fun j hj => if_pos hj, hp_below hw⟩)
theorem tfrob (x : W12) (c : W2) : Pure Tryz.prog Gt 129 [TT x, EV2 c] (TT (frG c x)) := by rw [← tt_of (f := frJ c x) (x := frG c x) rfl]; exact tfrob0 x c
theorem wqTag_q2ag_qTrd {f : Nat} {g : W12 → W2 → W12} (en : Enters Tryz.prog f) (h : ∀ a b, Pure Tryz.prog Gt f [TT a, EV2 b] (TT (g a b))) : Snd Tryz.prog Gt f (c2 qT.ag q2.ag qT.rd g) := c2_ok qT.ag q2.ag qT.rd en (fun a b => pcast (l2 (VT _).symm rfl) (VT _).symm (h a b))
def TO229 : Tb Tryz.prog Gt := TO228.add (wqTag_q2ag_qTrd (g := fun x c => frG c x) ent129 tfrob)
def fj2 (c : W2) (x : W12) : W12 := K12.mul (frG c (frG c x)) x
def fj4 (c : W2) (x : W12) : W12 := K12.mul (tnd UG x) (frG c x)
def fj5 (c : W2) (x : W12) : W12 := K12.mul (K12.mul (tnd UG (tnd UG x)) (frG c (frG c x))) (cj12 x)
def fj6 (c : W2) (x : W12) : W12 := K12.mul (K12.mul (K12.mul (fj5 c (fj4 c (fi3 UG (fi3 UG x)))) x) x) x
def FINg (c : W2) (x : W12) : W12 := fj6 c (fj2 c (fi1 x))
theorem fj2_GA (x : W12) : fj2 GA x = fi2 x := by rw [fj2, frG_GA, frG_GA, fi2]
theorem fj4_GA (x : W12) : fj4 GA x = fi4 UG x := by rw [fj4, frG_GA, fi4]
theorem fj5_GA (x : W12) : fj5 GA x = fi5 UG x := by rw [fj5, frG_GA, frG_GA, fi5]
theorem fj6_GA (x : W12) : fj6 GA x = fi6 UG x := by rw [fj6, fj5_GA, fj4_GA, fi6]
theorem FINg_GA (x : W12) : FINg GA x = FINr UG x := by rw [FINg, fj6_GA, fj2_GA, FINr]
theorem tfinal0 (x : W12) (s c : W2) (hS : Pure Tryz.prog Gt 126 [U64 1#64, U64 1#64] (EV2 s)) (hP : ∀ (b : Nat) (d : List Value) (cap : Nat) (w' : World), Gt w' → w'.rangeAt b 0 d → d.take SIX.length = SIX.map U8 → Calls Tryz.prog 127 [EV2 s, .slice (some ⟨b, 0, none⟩) 48 cap].toArray w' (fun r w'' => r = .returned (EV2 c) ∧ Grow w' w'')) : Pure Tryz.prog Gt 77 [TT x] (TT (FINg c x)) := by
 refine pure_X Tryz.func77 fun w hw hGF => ?_
 refine xs_plain (E := EE [128]) ?_
 refine lb fun b1 => ?_
 refine la zv48 fun b2 => ?_
 refine lx_nil ?_
 refine xs_plain (E := EE [128]) ?_
 refine lc ent126 (hS) ?_
 refine lx_callE rfl rfl ent128 rfl rfl (fun w' hw' => (r12sixth w' (hGF.g _ _ _ hw')).mono fun e' w'' h => ?_)
 obtain ⟨bD, cD, capD, rfl, hg, hbD, hoD, hcD⟩ := h
 refine ⟨_, _, rfl, good_hp hGF, hw'.news rides_true hg [(50, bD, cD, 5)] ?_ inj_one, ?_⟩
 ·intro n' b' c' t' hl
  rcases lkB_cons hl with ⟨_, e⟩ | ⟨_, hl⟩
  ·cases e; exact ⟨hbD, hoD⟩
  ·cases hl
 clear hw' hg hbD hoD
 refine lx_callC rfl rfl ent127 (fun w' hC hG => hP bD cD capD w' hG (hp_row (n := 50) rfl w' hC) hcD) rfl rfl ?_
 refine la zv46 fun b3 => ?_
 refine rTC ?_
 refine xs_drawn (E := EE [128]) mixed (by kernel_rfl) (by kernel_rfl) (by kernel_rfl) ?_
 refine rTC ?_
 refine lc ent78 (tinv _) ?_
 refine rTC ?_
 refine xs_drawn (E := EE [128]) mixed (by kernel_rfl) (by kernel_rfl) (by kernel_rfl) ?_
 refine rTC ?_
 refine lc ent129 (tfrob _ _) ?_
 refine rTC ?_
 refine lc ent129 (tfrob _ _) ?_
 refine rTC ?_
 refine xs_drawA (E := EE [128, 2999999]) [0, 1, 2, 3, 4] [⟨5, 4, 48, (FM (FF fun _ => ze2) 6).map U64⟩] [6] mixed rfl (by kernel_rfl) (by kernel_rfl) (by kernel_rfl) (by kernel_rfl) (by kernel_rfl) (by kernel_rfl) (by decide) (by intro x hx; simp only [List.mem_cons, List.not_mem_nil, or_false] at hx; subst hx; exact isAlloc_mk rfl zv48 rfl) ?_
 refine rTC ?_
 refine ⟨_, _, rfl, hGF, by intro x hx; simp only [List.mem_cons, List.not_mem_nil, or_false] at hx; subst hx; rfl, by intro x hx; simp only [List.mem_cons, List.not_mem_nil, or_false] at hx; subst hx; rfl, fun adr => ?_⟩
 refine rTC ?_
 refine xs_drawn (E := EE [128]) mixed (by kernel_rfl) (by kernel_rfl) (by kernel_rfl) ?_
 refine rTC ?_
 refine xs_drawA (E := EE [128, 2999999]) [0, 1, 2, 3, 4, 5] [⟨6, 5, 48, (FM (FF fun _ => ze2) 6).map U64⟩] [7] mixed rfl (by kernel_rfl) (by kernel_rfl) (by kernel_rfl) (by kernel_rfl) (by kernel_rfl) (by kernel_rfl) (by decide) (by intro x hx; simp only [List.mem_cons, List.not_mem_nil, or_false] at hx; subst hx; exact isAlloc_mk rfl zv48 rfl) ?_
 refine rTC ?_
 refine lc ent129 (tfrob _ _) ?_
 refine rTC ?_
 refine ⟨_, _, rfl, hGF, by intro x hx; simp only [List.mem_cons, List.not_mem_nil, or_false] at hx; subst hx; rfl, by intro x hx; simp only [List.mem_cons, List.not_mem_nil, or_false] at hx; subst hx; rfl, fun adr => ?_⟩
 refine rTC ?_
 refine xs_drawA (E := EE [128, 2999999]) [0, 1, 2, 3, 4, 5, 6, 7, 8, 9, 10, 11] [⟨12, 6, 48, (FM (FF fun _ => ze2) 6).map U64⟩] [13] mixed rfl (by kernel_rfl) (by kernel_rfl) (by kernel_rfl) (by kernel_rfl) (by kernel_rfl) (by kernel_rfl) (by decide) (by intro x hx; simp only [List.mem_cons, List.not_mem_nil, or_false] at hx; subst hx; exact isAlloc_mk rfl zv48 rfl) ?_
 refine rTC ?_
 refine lc ent129 (tfrob _ _) ?_
 refine rTC ?_
 refine lc ent129 (tfrob _ _) ?_
 refine rTC ?_
 refine ⟨_, _, rfl, hGF, by intro x hx; simp only [List.mem_cons, List.not_mem_nil, or_false] at hx; subst hx; rfl, by intro x hx; simp only [List.mem_cons, List.not_mem_nil, or_false] at hx; subst hx; rfl, fun adr => ?_⟩
 refine rTC ?_
 refine xs_drawn (E := EE [128]) mixed (by kernel_rfl) (by kernel_rfl) (by kernel_rfl) ?_
 refine rTC ?_
 refine rt ?_
 exact kret_own 2 rfl rfl rfl Tryz.isAgg48 Tryz.sizeOf48 (by simp) (fun w hw => ⟨rfl, hp_below hw⟩)
theorem sm11 : sm2 1#64 1#64 = XI := by decide +kernel
theorem bytes_pre' {w : World} {b : Nat} {c : List Value} {bs : List (BitVec 8)} (h : w.rangeAt b 0 c) (ht : c.take bs.length = bs.map U8) : BytesAt w (some ⟨b, 0, none⟩) bs := BytesAt.range fun j v hv => h j v (by
 rw [← ht, List.getElem?_take] at hv
 split at hv
 ·exact hv
 ·cases hv)
theorem pow_six (b : Nat) (d : List Value) (cap : Nat) (w : World) (hw : Gt w) (h : w.rangeAt b 0 d) (hd : d.take SIX.length = SIX.map U8) : Calls Tryz.prog 127 [EV2 XI, .slice (some ⟨b, 0, none⟩) 48 cap].toArray w (fun r w' => r = .returned (EV2 GA) ∧ Grow w w') := by
 have k := r5pow_calls XI (some ⟨b, 0, none⟩) cap SIX (by decide) w hw (bytes_pre' h hd)
 rw [show SIX.length = 48 from rfl, SIX_n] at k
 exact k
theorem tfinal (x : W12) : Pure Tryz.prog Gt 77 [TT x] (TT (FINr UG x)) := by rw [← FINg_GA]; exact tfinal0 x XI GA (sm11 ▸ small5r 1#64 1#64) pow_six
def TO230 : Tb Tryz.prog Gt := TO229.add (wqTag_qTrd (g := fun x => FINr UG x) ent77 tfinal)
theorem l12_iff {x y : W12} : [x.1.1.1, x.1.1.2, x.2.1.1, x.2.1.2, x.1.2.1.1, x.1.2.1.2, x.2.2.1.1, x.2.2.1.2, x.1.2.2.1, x.1.2.2.2, x.2.2.2.1, x.2.2.2.2] = [y.1.1.1, y.1.1.2, y.2.1.1, y.2.1.2, y.1.2.1.1, y.1.2.1.2, y.2.2.1.1, y.2.2.1.2, y.1.2.2.1, y.1.2.2.2, y.2.2.2.1, y.2.2.2.2] ↔ x = y := ⟨fun h => by
 simp only [List.cons.injEq, and_true] at h
 obtain ⟨a, b, c, d, e, f, g, i, j, k, l, m⟩ := h
 exact Prod.ext (Prod.ext (Prod.ext a b) (Prod.ext (Prod.ext e f) (Prod.ext j k))) (Prod.ext (Prod.ext c d) (Prod.ext (Prod.ext g i) (Prod.ext l m))), fun h => by rw [h]⟩
theorem gone_y (a b : W12) (ha : a ≠ K12.zero) (hb : b ≠ K12.zero) (h : FINr UG (K12.mul a (iv12 b)) = K12.one) : Pure Tryz.prog Gt 23 [TT a, TT b] (.bool true) := (pcast (l2 (VT _) (VT _)) rfl (pE TO230 Tryz.func23 [.inl [a.1.1.1, a.1.1.2, a.2.1.1, a.2.1.2, a.1.2.1.1, a.1.2.1.2, a.2.2.1.1, a.2.2.1.2, a.1.2.2.1, a.1.2.2.2, a.2.2.2.1, a.2.2.2.2], .inl [b.1.1.1, b.1.1.2, b.2.1.1, b.2.1.2, b.1.2.1.1, b.1.2.1.2, b.2.2.1.1, b.2.2.1.2, b.1.2.2.1, b.1.2.2.2, b.2.2.2.1, b.2.2.2.2]] (.inl (.inr (.inl true))) (let t0 := iv12 b; let t1 := K12.mul a (((t0.1.1.1, t0.1.1.2), (t0.1.2.1.1, t0.1.2.1.2), (t0.1.2.2.1, t0.1.2.2.2)), ((t0.2.1.1, t0.2.1.2), (t0.2.2.1.1, t0.2.2.1.2), (t0.2.2.2.1, t0.2.2.2.2))); let t2 := FINr UG (((t1.1.1.1, t1.1.1.2), (t1.1.2.1.1, t1.1.2.1.2), (t1.1.2.2.1, t1.1.2.2.2)), ((t1.2.1.1, t1.2.1.2), (t1.2.2.1.1, t1.2.2.1.2), (t1.2.2.2.1, t1.2.2.2.2))); let t3 := K12.one; (.inl (.inr (.inl true)), [(!decide ([a.1.1.1, a.1.1.2, a.2.1.1, a.2.1.2, a.1.2.1.1, a.1.2.1.2, a.2.2.1.1, a.2.2.1.2, a.1.2.2.1, a.1.2.2.2, a.2.2.2.1, a.2.2.2.2] = [0, 0, 0, 0, 0, 0, 0, 0, 0, 0, 0, 0]), true), (!decide ([b.1.1.1, b.1.1.2, b.2.1.1, b.2.1.2, b.1.2.1.1, b.1.2.1.2, b.2.2.1.1, b.2.2.1.2, b.1.2.2.1, b.1.2.2.2, b.2.2.2.1, b.2.2.2.2] = [0, 0, 0, 0, 0, 0, 0, 0, 0, 0, 0, 0]), true), (decide ([t2.1.1.1, t2.1.1.2, t2.2.1.1, t2.2.1.2, t2.1.2.1.1, t2.1.2.1.2, t2.2.2.1.1, t2.2.2.1.2, t2.1.2.2.1, t2.1.2.2.2, t2.2.2.2.1, t2.2.2.2.2] = [t3.1.1.1, t3.1.1.2, t3.2.1.1, t3.2.1.2, t3.1.2.1.1, t3.1.2.1.2, t3.2.2.1.1, t3.2.2.1.2, t3.1.2.2.1, t3.1.2.2.2, t3.2.2.2.1, t3.2.2.2.2]), true)])) [some true, some true, some true] (by kernel_rfl) (ok_cons (nb_t fun e => ha (l12_iff (y := K12.zero) |>.1 e)) (ok_cons (nb_t fun e => hb (l12_iff (y := K12.zero) |>.1 e)) (ok_cons (decide_eq_true (l12_iff.2 h)) ok_nil))) rfl))
end Q6
end
section
open Go.RowKit
attribute [local simp] fe_len nm_len AS_len SS_len MONT_len RM_len FRs_len BYs_len by48_len PLl TWOl ONEl N1l IVPl HFPl RTPl FL_len SP_len fe2_len SP2_len FM_len J1.GL_len J2.GL_len Q6.FF_len
theorem rTD {Q P : Prop} (k : Q) (h : Q → P := by intro k; (refine LY.run ?_); (repeat (first | refine y_move rfl rfl rfl ?_ | refine y_assign rfl rfl rfl ?_ | ((refine ra52 rfl rfl ?_ rfl rfl ?_); (· simp)) | ((refine ra46 rfl rfl ?_ rfl rfl ?_); (· simp)) | ((refine ra48 rfl rfl ?_ rfl rfl ?_); (· simp)) | ((refine sa48 hGF rfl rfl rfl ?_ ?_ (one_u64 _) rfl ?_); (· simp); (· simp)) | ((refine sa46 hGF rfl rfl rfl ?_ ?_ (one_u64 _) rfl ?_); (· simp); (· simp)) | ((refine sa52 hGF rfl rfl rfl ?_ ?_ (one_u64 _) rfl ?_); (· simp); (· simp)) | refine y_ext rfl rfl rfl rfl ?_ | refine y_call (f := 49) rfl rfl ent49 (r9xy _) rfl rfl ?_ | refine y_call (f := 72) rfl rfl ent72 (tmul _ _) rfl rfl ?_ | refine y_call (f := 56) rfl rfl ent56 (r9at _ _) rfl rfl ?_ | refine y_call (f := 47) rfl rfl ent47 (tone) rfl rfl ?_ | refine y_call (f := 13) rfl rfl ent13 (r12line _ _ _ _) rfl rfl ?_ | refine y_pick rfl rfl rfl rfl rfl ?_)); (first | refine y_nil ?_ | refine LY.mk ?_); exact k) : P := h k
namespace Q6
def at1 (a : W2 × W2) : W6 := (a.1, a.2, on2)
def VS (x y : W2) (q : W6) (d : Bool) (st : W12 × W6) : W12 × W6 :=
 if d = true then (K12.mul (K12.mul (K12.mul st.1 st.1) (LNr st.2 st.2 x y).1) (LNr (at1 (XYJ (E1w.jdF st.2))) q x y).1, at1 (XYJ (E1w.jaF (at1 (XYJ (E1w.jdF st.2))) q)))
 else (K12.mul (K12.mul st.1 st.1) (LNr st.2 st.2 x y).1, at1 (XYJ (E1w.jdF st.2)))
def VK (x y : W2) (q : W6) : Nat → W12 × W6
 | 0 => (K12.one, q)
 | k + 1 => VS x y q (DGb k) (VK x y q k)
theorem VK_t (x y : W2) (q : W6) {k : Nat} (h : DGb k = true) : VK x y q (k + 1) = (K12.mul (K12.mul (K12.mul (VK x y q k).1 (VK x y q k).1) (LNr (VK x y q k).2 (VK x y q k).2 x y).1) (LNr (at1 (XYJ (E1w.jdF (VK x y q k).2))) q x y).1, at1 (XYJ (E1w.jaF (at1 (XYJ (E1w.jdF (VK x y q k).2))) q))) := if_pos h
theorem VK_f (x y : W2) (q : W6) {k : Nat} (h : DGb k = false) : VK x y q (k + 1) = (K12.mul (K12.mul (VK x y q k).1 (VK x y q k).1) (LNr (VK x y q k).2 (VK x y q k).2 x y).1, at1 (XYJ (E1w.jdF (VK x y q k).2))) := if_neg (by rw [h]; exact Bool.false_ne_true)
theorem r12val_p (p q : W6) (hp : p.2.2 = ze2) : Pure Tryz.prog Gt 21 [EV6 p, EV6 q] (TT K12.one) := by
 refine pure_X Tryz.func21 fun w hw hGF => ?_
 refine xs_plain (E := EE [71]) ?_
 refine lb fun b2 => ?_
 refine lb fun b3 => ?_
 refine la zv48 fun b4 => ?_
 refine lx_nil ?_
 refine xs_plain (E := EE [71]) ?_
 refine rTD ?_
 refine la zv48 fun b5 => ?_
 refine rTD ?_
 refine x_seq ?_
 refine xs_plain (E := EE [71]) ?_
 refine rTD ?_
 refine lx_callB true rfl rfl ent48 (r9none _) (decide_eq_true hp) rfl rfl ?_
 refine rTD ?_
 refine lx_skip rfl rfl rfl ?_
 refine lx_skip rfl rfl rfl ?_
 refine rTD ?_
 refine x_true rfl ?_
 refine xs_plain (E := EE [71]) ?_
 refine rTD ?_
 refine rt ?_
 exact kret_own 4 rfl rfl rfl Tryz.isAgg48 Tryz.sizeOf48 (by simp) (fun w hw => ⟨rfl, hp_below hw⟩)
theorem r12val_q (p q : W6) (hp : ¬ p.2.2 = ze2) (hq : q.2.2 = ze2) : Pure Tryz.prog Gt 21 [EV6 p, EV6 q] (TT K12.one) := by
 refine pure_X Tryz.func21 fun w hw hGF => ?_
 refine xs_plain (E := EE [71]) ?_
 refine lb fun b2 => ?_
 refine lb fun b3 => ?_
 refine la zv48 fun b4 => ?_
 refine lx_nil ?_
 refine xs_plain (E := EE [71]) ?_
 refine rTD ?_
 refine la zv48 fun b5 => ?_
 refine rTD ?_
 refine x_seq ?_
 refine xs_plain (E := EE [71]) ?_
 refine rTD ?_
 refine lx_callB false rfl rfl ent48 (r9none _) (decide_eq_false hp) rfl rfl ?_
 refine rTD ?_
 refine lx_callB true rfl rfl ent48 (r9none _) (decide_eq_true hq) rfl rfl ?_
 refine rTD ?_
 refine x_true rfl ?_
 refine xs_plain (E := EE [71]) ?_
 refine rTD ?_
 refine rt ?_
 exact kret_own 4 rfl rfl rfl Tryz.isAgg48 Tryz.sizeOf48 (by simp) (fun w hw => ⟨rfl, hp_below hw⟩)
theorem r12val_y (p q : W6) (hp : ¬ p.2.2 = ze2) (hq : ¬ q.2.2 = ze2) : Pure Tryz.prog Gt 21 [EV6 p, EV6 q] (TT (cj12 (VK (XYJ p).1 (XYJ p).2 (at1 (XYJ q)) 63).1)) := by
 refine pure_X Tryz.func21 fun w hw hGF => ?_
 refine xs_plain (E := EE [71]) ?_
 refine lb fun b2 => ?_
 refine lb fun b3 => ?_
 refine la zv48 fun b4 => ?_
 refine lx_nil ?_
 refine xs_plain (E := EE [71]) ?_
 refine rTD ?_
 refine la zv48 fun b5 => ?_
 refine rTD ?_
 refine x_seq ?_
 refine xs_plain (E := EE [71]) ?_
 refine rTD ?_
 refine lx_callB false rfl rfl ent48 (r9none _) (decide_eq_false hp) rfl rfl ?_
 refine rTD ?_
 refine lx_callB false rfl rfl ent48 (r9none _) (decide_eq_false hq) rfl rfl ?_
 refine rTD ?_
 refine x_false rfl ?_
 refine x_skip ?_
 refine xs_plain (E := EE [71]) ?_
 refine rTD ?_
 refine la zv46 fun b6 => ?_
 refine la zv46 fun b7 => ?_
 refine rTD ?_
 refine xs_plain (E := EE [71]) ?_
 refine rTD ?_
 refine la zv46 fun b8 => ?_
 refine la zv46 fun b9 => ?_
 refine rTD ?_
 refine xs_plain (E := EE [71]) ?_
 refine rTD ?_
 refine xs_plain (E := EE [71]) ?_
 refine rTD ?_
 refine la zv52 fun b10 => ?_
 refine rTD ?_
 refine xs_plain (E := EE [71]) ?_
 refine lx_callE rfl rfl ent71 rfl rfl (fun w' hw' => (r12digits w' (hGF.g _ _ _ hw')).mono fun e' w'' h => ?_)
 obtain ⟨bD, cD, capD, rfl, hg, hbD, hoD, hcD⟩ := h
 refine ⟨_, _, rfl, good_hp hGF, hw'.news rides_true hg [(50, bD, cD, 4)] ?_ inj_one, ?_⟩
 ·intro n' b' c' t' hl
  rcases lkB_cons hl with ⟨_, e⟩ | ⟨_, hl⟩
  ·cases e; exact ⟨hbD, hoD⟩
  ·cases hl
 clear hw' hg hbD hoD
 refine rTD ?_
 refine x_seq ?_
 refine xs_plain (E := EE [71]) ?_
 refine rTD ?_
 refine x_block ?_
 refine x_for (ι := { k : Nat // k ≤ 63 }) (fun y => [(3, .pointer (some ⟨b3, 0, none⟩)), (4, .pointer (some ⟨b4, 0, none⟩)), (5, .pointer (some ⟨b5, 0, none⟩)), (6, .pointer (some ⟨b6, 0, none⟩)), (7, .pointer (some ⟨b7, 0, none⟩)), (10, .pointer (some ⟨b10, 0, none⟩)), (11, .slice (some ⟨bD, 0, none⟩) 63 capD), (12, I (y.1 : Int))]) (fun y => [(3, b3, ((fe ((at1 (XYJ q)).1).1 ++ fe ((at1 (XYJ q)).1).2) ++ ((fe ((at1 (XYJ q)).2.1).1 ++ fe ((at1 (XYJ q)).2.1).2) ++ (fe ((at1 (XYJ q)).2.2).1 ++ fe ((at1 (XYJ q)).2.2).2))).map U64, 52), (4, b4, (FM (FF fun _ => ze2) 6).map U64, 48), (5, b5, (FM (FF (p12 ((VK (XYJ p).1 (XYJ p).2 (at1 (XYJ q)) y.1).1))) 6).map U64, 48), (6, b6, (fe ((XYJ p).1).1 ++ fe ((XYJ p).1).2).map U64, 46), (7, b7, (fe ((XYJ p).2).1 ++ fe ((XYJ p).2).2).map U64, 46), (10, b10, ((fe (((VK (XYJ p).1 (XYJ p).2 (at1 (XYJ q)) y.1).2).1).1 ++ fe (((VK (XYJ p).1 (XYJ p).2 (at1 (XYJ q)) y.1).2).1).2) ++ ((fe (((VK (XYJ p).1 (XYJ p).2 (at1 (XYJ q)) y.1).2).2.1).1 ++ fe (((VK (XYJ p).1 (XYJ p).2 (at1 (XYJ q)) y.1).2).2.1).2) ++ (fe (((VK (XYJ p).1 (XYJ p).2 (at1 (XYJ q)) y.1).2).2.2).1 ++ fe (((VK (XYJ p).1 (XYJ p).2 (at1 (XYJ q)) y.1).2).2.2).2))).map U64, 52), (50, bD, cD, 4)]) (fun y => 63 - y.1) ⟨0, by omega⟩ hGF ⟨rfl, rfl, rfl, rfl, rfl, rfl, rfl, rfl, trivial⟩ ⟨rfl, rfl, rfl, rfl, rfl, rfl, rfl, trivial⟩ ?_
 rintro ⟨k, hk⟩
 dsimp only
 refine x_seq ?_
 refine xs_plain (E := EE [71]) ?_
 refine rTD ?_
 refine lx_len rfl (fun _ => len_slice Tryz.underlying117 _ _ _ _) rfl rfl ?_
 refine lx_bin rfl rfl (fun _ => rfl) (fun _ => bin_lss_i _ _ _) rfl rfl ?_
 refine lx_nil ?_
 refine x_if rfl (fun hc => ?_) (fun hc => ?_)
 ·have hk2 : k < 63 := by simp at hc; omega
  refine x_skip ?_
  refine x_seq ?_
  refine x_block ?_
  refine xs_plain (E := EE [71]) ?_
  refine rTD ?_
  refine la zv48 fun b13 => ?_
  refine rTD ?_
  refine xs_drawn (E := EE [71]) mixed (by kernel_rfl) (by kernel_rfl) (by kernel_rfl) ?_
  refine rTD ?_
  refine xs_plain (E := EE [71]) ?_
  refine rTD ?_
  refine lc ent73 (r9double _) ?_
  refine rTD ?_
  refine la zv46 fun b15 => ?_
  refine la zv46 fun b16 => ?_
  refine rTD ?_
  refine xs_plain (E := EE [71]) ?_
  refine rTD ?_
  refine xs_plain (E := EE [71]) ?_
  refine rTD ?_
  refine lx_is1 k rfl rfl Tryz.underlying117 Tryz.sizeOf4 (by omega) (by omega) rfl rfl ?_
  refine lx_load (v := .bool (DGb k)) rfl Tryz.isAgg4 (fun w' h => hp_cell (n := 50) rfl (by rw [Nat.zero_add]; exact hcD k (by omega)) w' h) rfl rfl ?_
  refine lx_nil ?_
  refine x_if rfl (fun hc => ?_) (fun hc => ?_)
  ·skip
   refine xs_plain (E := EE [71]) ?_
   refine rTD ?_
   refine xs_plain (E := EE [71]) ?_
   refine rTD ?_
   refine xs_plain (E := EE [71]) ?_
   refine rTD ?_
   refine lc ent74 (r9add _ _) ?_
   refine rTD ?_
   refine x_plain (E := EE [71]) ?_
   refine rTD ?_
   refine x_plain (E := EE [71]) ?_
   refine rTD ?_
   refine lx_bin rfl rfl (fun _ => rfl) (fun _ => bin_add_i _ _ _ (by unfold inI; omega)) rfl rfl ?_
   refine rTD ?_
   repeat (refine kblk_n ?_)
   refine kseq_n ?_
   exact ⟨rfl, ⟨k + 1, by omega⟩, _, by show 63 - (k + 1) < 63 - k; omega, rfl, ⟨rfl, rfl, rfl, rfl, rfl, rfl, rfl, rfl, trivial⟩, ⟨rfl, rfl, by rw [VK_t _ _ _ hc]; rfl, rfl, rfl, by rw [VK_t _ _ _ hc]; rfl, rfl, trivial⟩⟩
  ·skip
   refine x_skip ?_
   refine x_plain (E := EE [71]) ?_
   refine rTD ?_
   refine lx_bin rfl rfl (fun _ => rfl) (fun _ => bin_add_i _ _ _ (by unfold inI; omega)) rfl rfl ?_
   refine rTD ?_
   repeat (refine kblk_n ?_)
   refine kseq_n ?_
   exact ⟨rfl, ⟨k + 1, by omega⟩, _, by show 63 - (k + 1) < 63 - k; omega, rfl, ⟨rfl, rfl, rfl, rfl, rfl, rfl, rfl, rfl, trivial⟩, ⟨rfl, rfl, by rw [VK_f _ _ _ hc]; rfl, rfl, rfl, by rw [VK_f _ _ _ hc]; rfl, rfl, trivial⟩⟩
 ·obtain rfl : k = 63 := by simp at hc; omega
  refine x_exit ?_
  refine xs_plain (E := EE [71]) ?_
  refine rTD ?_
  refine lc ent75 (tconj _) ?_
  refine rTD ?_
  refine rt ?_
  exact kret_own 4 rfl rfl rfl Tryz.isAgg48 Tryz.sizeOf48 (by simp) (fun w hw => ⟨rfl, hp_below hw⟩)
/-! ### Of points of the groups -/
theorem D63_pre (k : Nat) (hk : k ≤ 63) : 0 < bitsM (D63.take k) 1 ∧ bitsM (D63.take k) 1 < 2 ^ (k + 1) := by
 refine ⟨bitsM_pos _ _ Nat.one_pos, ?_⟩
 have h := bitsM_lt (D63.take k) 1
 rw [List.length_take, D63_len, Nat.min_eq_left hk] at h
 rw [Nat.pow_succ]
 omega
theorem pre_lt {k : Nat} (hk : k < 63) : 2 * bitsM (D63.take k) 1 + 1 < ORD := by
 have h := (D63_pre k (by omega)).2
 have h2 : 2 ^ (k + 1) ≤ 2 ^ 63 := Nat.pow_le_pow_right (by omega) (by omega)
 have h3 : 2 * 2 ^ 63 + 1 < ORD := by decide +kernel
 omega
theorem VK_ok (p : Zp × Zp) {q : W2 × W2} (hq : E2w.on q) (qr : E2w.times (some q) ORD = none) : ∀ k, k ≤ 63 → VK (re2 p.1) (re2 p.2) (at1 q) k = ((MLW p (some q) (D63.take k) (K12.one, some q)).1, RJ2 (MLW p (some q) (D63.take k) (K12.one, some q)).2) ∧ (MLW p (some q) (D63.take k) (K12.one, some q)).2 = E2w.times (some q) (bitsM (D63.take k) 1)
 | 0, _ => ⟨rfl, rfl⟩
 | k + 1, hk => by
  obtain ⟨ih, ih2⟩ := VK_ok p hq qr k (by omega)
  have hp := (D63_pre k (by omega)).1
  have hl := pre_lt (k := k) (by omega)
  rw [D63_take (by omega), MLW_app, bitsM_app]
  obtain ⟨st, hst⟩ : ∃ st, MLW p (some q) (D63.take k) (K12.one, some q) = st := ⟨_, rfl⟩
  rw [hst] at ih ih2 ⊢
  obtain ⟨m, hm⟩ : ∃ m, bitsM (D63.take k) 1 = m := ⟨_, rfl⟩
  rw [hm] at ih2 hp hl ⊢
  have hR : E2w.onP st.2 := by rw [ih2]; exact E2w.times_on (P := some q) hq m
  have e2 : E2w.ad st.2 st.2 = E2w.times (some q) (2 * m) := by rw [ih2]; exact E2w.dbl_times (P := some q) hq m
  obtain ⟨a, ha⟩ := some_of (tm_ne hq qr (m := 2 * m) (by omega) (by omega))
  have hd : E2w.jr (E2w.jdF (RJ2 st.2)) (some a) := by rw [← ha, ← e2]; exact E2w.jr_d hR (RJ2_jr st.2)
  have x1 : at1 (XYJ (E1w.jdF (RJ2 st.2))) = RJ2 (E2w.ad st.2 st.2) := by rw [jdF_12, XYJ_jr hd, e2, ha]; rfl
  have h2 : E2w.onP (E2w.ad st.2 st.2) := E2w.ad_on hR hR
  have l1 : (LNr (RJ2 st.2) (RJ2 st.2) (re2 p.1) (re2 p.2)).1 = LG st.2 st.2 p := congrArg Prod.fst (LNr_pt hR hR p.1 p.2)
  cases d : DGb k with
  | false =>
   refine ⟨?_, ?_⟩
   ·rw [VK_f _ _ _ d, ih]
    show (K12.mul (K12.mul st.1 st.1) (LNr (RJ2 st.2) (RJ2 st.2) (re2 p.1) (re2 p.2)).1, at1 (XYJ (E1w.jdF (RJ2 st.2)))) = _
    rw [l1, x1]; rfl
   ·exact e2
  | true =>
   have l2 : (LNr (RJ2 (E2w.ad st.2 st.2)) (at1 q) (re2 p.1) (re2 p.2)).1 = LG (E2w.ad st.2 st.2) (some q) p := congrArg Prod.fst (LNr_pt h2 (Q := some q) hq p.1 p.2)
   have e3 : E2w.ad (E2w.ad st.2 st.2) (some q) = E2w.times (some q) (2 * m + 1) := by rw [e2]; rfl
   obtain ⟨c, hc⟩ := some_of (tm_ne hq qr (m := 2 * m + 1) (by omega) (by omega))
   have hj : E2w.jr (E2w.jaF (RJ2 (E2w.ad st.2 st.2)) (at1 q)) (some c) := by rw [← hc, ← e3]; exact E2w.jr_a h2 (Q := some q) hq (RJ2_jr _) (jr2_at q)
   have x2 : at1 (XYJ (E1w.jaF (RJ2 (E2w.ad st.2 st.2)) (at1 q))) = RJ2 (E2w.ad (E2w.ad st.2 st.2) (some q)) := by rw [jaF_12, XYJ_jr hj, e3, hc]; rfl
   refine ⟨?_, ?_⟩
   ·rw [VK_t _ _ _ d, ih]
    show (K12.mul (K12.mul (K12.mul st.1 st.1) (LNr (RJ2 st.2) (RJ2 st.2) (re2 p.1) (re2 p.2)).1) (LNr (at1 (XYJ (E1w.jdF (RJ2 st.2)))) (at1 q) (re2 p.1) (re2 p.2)).1, at1 (XYJ (E1w.jaF (at1 (XYJ (E1w.jdF (RJ2 st.2)))) (at1 q)))) = _
    rw [l1, x1, l2, x2]; rfl
   ·exact e3
theorem r12value (P : J1.GP) (Q : J2.GP) (qr : E2w.times Q.P ORD = none) : Pure Tryz.prog Gt 21 [EV6 (RJ P.P), EV6 (RJ2 Q.P)] (TT (cj12 (ML L63 P.P Q.P))) := by
 obtain ⟨_, P, hP, _⟩ := P
 obtain ⟨_, Q, hQ, _⟩ := Q
 dsimp only at qr ⊢
 cases P with
 | none =>
  rw [ML_n1, cj12_one]
  exact r12val_p _ _ rfl
 | some p =>
  cases Q with
  | none =>
   rw [ML_n2, cj12_one]
   exact r12val_q _ _ on2_ne rfl
  | some q =>
   have k := r12val_y (re2 p.1, re2 p.2, on2) (at1 q) on2_ne on2_ne
   rw [show XYJ (re2 p.1, re2 p.2, on2) = (re2 p.1, re2 p.2) from XYJ_at (re2 p.1, re2 p.2), show XYJ (at1 q) = q from XYJ_at q, (VK_ok p hQ qr 63 (Nat.le_refl _)).1, List.take_of_length_le (by rw [D63_len]; exact Nat.le_refl _), D63_L] at k
   rw [ML_W L63 p (Q := some q) hQ, show RJ (some p) = (re2 p.1, re2 p.2, on2) from rfl, show RJ2 (some q) = at1 q from rfl]
   exact k
end Q6
end
end Go.Proofs.YthkmeodnlidpfaaGreatDoor
