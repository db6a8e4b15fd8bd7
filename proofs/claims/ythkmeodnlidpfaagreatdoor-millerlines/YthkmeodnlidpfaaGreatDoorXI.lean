/-
 The program's digits.
 The reference's digits; to the power of x; the sixth.
 The reference's sixth, the power of p, the long power; the laws' gone.
 The reference's value of a pair.
-/
import Derived.Test.YthkmeodnlidpfaaGreatDoorXH
import Derived.Test.YthkmeodnlidpfaaGreatDoorX3
import Derived.Test.YthkmeodnlidpfaaGreatDoorX5
import Derived.Test.YthkmeodnlidpfaaGreatDoorXA
set_option maxRecDepth 100000
set_option maxHeartbeats 1000000
namespace Go.Proofs.YthkmeodnlidpfaaGreatDoor
section
open Go.RowKit
attribute [local simp] fe_len nm_len AS_len SS_len MONT_len RM_len FRs_len BYs_len by48_len PLl TWOl ONEl N1l IVPl HFPl RTPl FL_len SP_len fe2_len SP2_len FM_len
theorem rTA {Q P : Prop} (k : Q) (h : Q → P := by intro k; (refine LY.run ?_); (repeat (first | refine y_move rfl rfl rfl ?_ | refine y_assign rfl rfl rfl ?_)); (first | refine y_nil ?_ | refine LY.mk ?_); exact k) : P := h k
theorem pTA {Q P : Prop} (k : Q) (h : Q → P := by intro k; (refine xp ?_); (refine rTA ?_); exact k) : P := h k
theorem ent80 : Enters Tryz.prog 80 := fun _ _ => by kernel_rfl
theorem len64u : Pure Tryz.prog Gt 80 [U64 15132376222941642752#64] (I 64) := by
 refine pure_X Tryz.func80 fun w hw hGF => ?_
 refine pTA ?_
 refine x_seq ?_
 refine pTA ?_
 refine lx_binB true rfl rfl (fun _ => rfl) (fun _ => bin_geq_u64 _ _ _) (by decide) rfl rfl ?_
 refine lx_nil ?_
 refine x_true rfl ?_
 refine pTA ?_
 refine lx_bin (v := U64 3523280896#64) rfl rfl (fun _ => rfl) (fun _ => (bin_shr_u64 _ _ 32#64).trans (by rfl)) rfl rfl ?_
 refine rTA ?_
 refine x_plain (E := EE []) ?_
 refine rTA ?_
 refine x_seq ?_
 refine pTA ?_
 refine lx_binB true rfl rfl (fun _ => rfl) (fun _ => bin_geq_u64 _ _ _) (by decide) rfl rfl ?_
 refine lx_nil ?_
 refine x_true rfl ?_
 refine pTA ?_
 refine lx_bin (v := U64 53761#64) rfl rfl (fun _ => rfl) (fun _ => (bin_shr_u64 _ _ 16#64).trans (by rfl)) rfl rfl ?_
 refine rTA ?_
 refine x_plain (E := EE []) ?_
 refine rTA ?_
 refine lx_bin (v := I 48) rfl rfl (fun _ => rfl) (fun _ => (bin_add_i _ _ _ (by unfold inI; decide)).trans (by rfl)) rfl rfl ?_
 refine rTA ?_
 refine x_seq ?_
 refine pTA ?_
 refine lx_binB true rfl rfl (fun _ => rfl) (fun _ => bin_geq_u64 _ _ _) (by decide) rfl rfl ?_
 refine lx_nil ?_
 refine x_true rfl ?_
 refine pTA ?_
 refine lx_bin (v := U64 210#64) rfl rfl (fun _ => rfl) (fun _ => (bin_shr_u64 _ _ 8#64).trans (by rfl)) rfl rfl ?_
 refine rTA ?_
 refine x_plain (E := EE []) ?_
 refine rTA ?_
 refine lx_bin (v := I 56) rfl rfl (fun _ => rfl) (fun _ => (bin_add_i _ _ _ (by unfold inI; decide)).trans (by rfl)) rfl rfl ?_
 refine rTA ?_
 refine pTA ?_
 refine lx_conv rfl rfl (fun _ => conv_u64_u8 Tryz.underlying24 Tryz.underlying5 _) rfl rfl ?_
 refine lx_idxs (n := 8#8) rfl rfl Tryz.underlying9 (by decide) (by kernel_rfl) rfl rfl ?_
 refine lx_conv rfl rfl (fun _ => conv_u8_i Tryz.underlying5 Tryz.underlying3 _) rfl rfl ?_
 refine lx_bin (v := I 64) rfl rfl (fun _ => rfl) (fun _ => (bin_add_i _ _ _ (by unfold inI; decide)).trans (by rfl)) rfl rfl ?_
 refine rTA ?_
 refine rt ?_
 exact kret_tmp rfl rfl (fun w hw => ⟨rfl, hp_below hw⟩)
theorem mdig_p : Pure Tryz.prog Gt 24 [] (.func (.func 79) #[] #[]) := by
 refine pure_X Tryz.func24 fun w hw hGF => ?_
 refine pTA ?_
 refine pTA ?_
 refine rt ?_
 exact kret_tmp rfl rfl (fun w hw => ⟨rfl, hp_below hw⟩)
def DGb (k : Nat) : Bool := 15132376222941642752#64 >>> (62 - k) &&& 1#64 == 1#64
def D63 : List Bool := (List.range 63).map DGb
theorem D63_len : D63.length = 63 := by rw [D63, List.length_map, List.length_range]
theorem D63_get {k : Nat} (h : k < 63) : D63[k]? = some (DGb k) := by rw [D63, List.getElem?_map, List.getElem?_range h]; rfl
def DGs : List (List Value) := D63.map fun d => [.bool d]
theorem DGs_len : DGs.length = 63 := by rw [DGs, List.length_map, D63_len]
theorem DGs_get {k : Nat} (h : k < 63) : DGs[k]? = some [.bool (DGb k)] := by rw [DGs, List.getElem?_map, D63_get h]; rfl
theorem DGs_at {k : Nat} {v : List Value} (h : DGs[k]? = some v) : k < 63 ∧ v = [.bool (DGb k)] := by
 have hk : k < 63 := by
  rcases Nat.lt_or_ge k 63 with hk | hk
  ·exact hk
  ·rw [List.getElem?_eq_none (by rw [DGs_len]; exact hk)] at h; cases h
 exact ⟨hk, (Option.some.inj ((DGs_get hk).symm.trans h)).symm⟩
theorem mdig_seq : SeqOk Tryz.prog Gt 79 [] DGs (fun _ => True) := by
 intro l J Jx hJ hJx hRd hGx hY w hj
 have okJ : ∀ k, BOk Gt (Bi w (fun Y => J Y k)) := fun k => ⟨fun _ _ _ h => (hRd _ _ _ h.rid).1, hJ k⟩
 have okX : ∀ k, BOk Gt (Bi w (fun Y => Jx Y k)) := fun k => ⟨fun _ _ _ h => hGx _ _ _ h.rid, hJx k⟩
 refine calls_of_X (G := Gt) Tryz.func79 rfl rfl (Hp (Bi w (fun Y => J Y 0)) []) (hp_refl (Bi w _) hj (hJ 0)) (good_hp (okJ 0)) ?_
 refine xp ?_
 refine lc ent80 (len64u) ?_
 refine lx_bin (v := I 62) rfl rfl (fun _ => rfl) (fun _ => (bin_sub_i _ _ _ (by unfold inI; decide)).trans (by rfl)) rfl rfl ?_
 refine rTA ?_
 refine x_block ?_
 refine x_forB (ι := { k : Nat // k ≤ 63 }) (fun x => [(0, .func (.yield l) #[] #[]), (2, I (62 - (x.1 : Int)))]) (fun x => Bi w (fun Y => J Y x.1)) (fun x => []) (fun x => 63 - x.1) ⟨0, Nat.zero_le _⟩ (fun _ => okJ _) rfl ⟨rfl, rfl, trivial⟩ trivial ?_
 rintro ⟨k, hk⟩
 dsimp only
 refine x_seq ?_
 refine pTA ?_
 refine lx_bin (v := .bool (decide (k < 63))) rfl rfl (fun _ => rfl) (fun _ => (bin_geq_i _ _ _).trans (by rw [show decide ((62 - (k : Int)) ≥ 0) = decide (k < 63) from decide_eq_decide.2 (by omega)])) rfl rfl ?_
 refine lx_nil ?_
 refine x_if rfl (fun hc => ?_) (fun hc => ?_)
 ·have hk2 : k < 63 := by simpa using hc
  refine x_skip ?_
  refine x_seq ?_
  refine x_block ?_
  refine pTA ?_
  refine lx_bin (v := U64 (15132376222941642752#64 >>> (62 - k))) rfl rfl (fun _ => rfl) (fun _ => (bin_shr_i_u64 _ _ _ (by omega)).trans (by rw [show (62 - (k : Int)).toNat = 62 - k by omega])) rfl rfl ?_
  refine lx_bin (v := U64 (15132376222941642752#64 >>> (62 - k) &&& 1#64)) rfl rfl (fun _ => rfl) (fun _ => bin_and_u64 _ _ 1#64) rfl rfl ?_
  refine lx_bin (v := .bool (DGb k)) rfl rfl (fun _ => rfl) (fun _ => bin_eql_u64 _ _ 1#64) rfl rfl ?_
  refine lx_yield (hY.b (k := k) (DGs_get hk2) w) (okJ _) (okX _) rfl rfl rfl rfl rfl ?_ ?_
  ·skip
   refine lx_un rfl (fun _ => un_not _) rfl rfl ?_
   refine lx_nil ?_
   refine x_false rfl ?_
   refine x_skip ?_
   refine x_plain (E := EE []) ?_
   refine rTA ?_
   refine lx_bin (v := I (62 - ((k + 1 : Nat) : Int))) rfl rfl (fun _ => rfl) (fun _ => (bin_sub_i _ _ _ (by unfold inI; omega)).trans (by rw [show 62 - (k : Int) - 1 = 62 - ((k + 1 : Nat) : Int) by omega])) rfl rfl ?_
   refine rTA ?_
   repeat (refine kblk_n ?_)
   refine kseq_n ?_
   exact ⟨rfl, ⟨k + 1, by omega⟩, _, by show 63 - (k + 1) < 63 - k; omega, rfl, ⟨rfl, rfl, trivial⟩, trivial⟩
  ·skip
   refine lx_un rfl (fun _ => un_not _) rfl rfl ?_
   refine lx_nil ?_
   refine x_true rfl ?_
   refine rt ?_
   repeat (first | refine kseq_x ?_ | refine kblk_x ?_ | refine kblk_p rfl ?_ | refine kseq_ret ?_ | refine kblk_ret ?_)
   exact kret_none rfl (fun w hw => ⟨⟨_, rfl⟩, .inr ⟨_, drop_yof (hJx _) hw.rid⟩⟩)
 ·obtain rfl : k = 63 := by simp at hc; omega
  refine x_exit ?_
  repeat (first | refine kseq_x ?_ | refine kblk_x ?_ | refine kblk_p rfl ?_ | refine kseq_ret ?_ | refine kblk_ret ?_)
  refine kend_none rfl (fun w hw => ⟨⟨_, rfl⟩, .inl ?_⟩)
  have := drop_yof (hJ _) hw.rid
  rw [DGs_len]
  exact this
end
section
open Go.RowKit
attribute [local simp] fe_len nm_len AS_len SS_len MONT_len RM_len FRs_len BYs_len by48_len PLl TWOl ONEl N1l IVPl HFPl RTPl FL_len SP_len fe2_len SP2_len FM_len J1.GL_len J2.GL_len Q6.FF_len
theorem OwnV.skip {L : Hl} {n : Nat} {e : TypeId} {a0 : Option Addr} {cap : Nat} {xs : List Value} (h : OwnV L n e a0 cap xs) (m : Nat) {x : Nat × List Value × TypeId} (hm : Nat.beq m n = false) : OwnV ((m, x) :: L) n e a0 cap xs := by
 rcases h with h | ⟨b, c, h1, h2, h3⟩
 ·exact .inl h
 ·exact .inr ⟨b, c, h1, by show (bif Nat.beq m n then some x else lkB L n) = _; rw [hm]; exact h2, h3⟩
namespace Q6
end Q6
end
section
open Go.RowKit
attribute [local simp] fe_len nm_len AS_len SS_len MONT_len RM_len FRs_len BYs_len by48_len PLl TWOl ONEl N1l IVPl HFPl RTPl FL_len SP_len fe2_len SP2_len FM_len J1.GL_len J2.GL_len Q6.FF_len
namespace Q6
end Q6
end
section
open Go.RowKit
attribute [local simp] fe_len nm_len AS_len SS_len MONT_len RM_len FRs_len BYs_len by48_len PLl TWOl ONEl N1l IVPl HFPl RTPl FL_len SP_len fe2_len SP2_len FM_len J1.GL_len J2.GL_len Q6.FF_len
namespace Q6
/-! ### Of points of the groups -/
end Q6
end
end Go.Proofs.YthkmeodnlidpfaaGreatDoor
