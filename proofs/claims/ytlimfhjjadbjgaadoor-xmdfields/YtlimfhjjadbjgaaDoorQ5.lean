/-
  Pairs; the document's pairs of numbers.
  The document's Fields.
  The law XmdFields.
-/
import Derived.Test.YtlimfhjjadbjgaaDoorQ4
import Derived.Test.YtlimfhjjadbjgaaDoorX9
import Derived.Test.YtlimfhjjadbjgaaDoorX5
import Derived.Test.YtlimfhjjadbjgaaDoorX3
namespace Go.Proofs.YtlimfhjjadbjgaaDoor
open Go.RowKit
set_option maxRecDepth 100000
set_option maxHeartbeats 1000000
attribute [local simp] fe_len nm_len AS_len SS_len MONT_len RM_len FRs_len BYs_len by48_len PLl TWOl ONEl N1l IVPl HFPl RTPl List.length_append WDs_len

theorem ent22 : Enters Tryd.prog 22 := fun _ _ => by kernel_rfl
theorem ent13 : Enters Tryd.prog 13 := fun _ _ => by kernel_rfl
theorem ent14 : Enters Tryd.prog 14 := fun _ _ => by kernel_rfl
theorem ent25 : Enters Tryd.prog 25 := fun _ _ => by kernel_rfl
theorem ent15 : Enters Tryd.prog 15 := fun _ _ => by kernel_rfl
/-- An element of fp2 as a value. -/
abbrev EV2 (x : W2) : Value := .agg ((fe x.1 ++ fe x.2).map U64).toArray
theorem zf50 (w : World) : (zeroValue 50).run Tryd.prog w = .ok (.agg ((fe 0).map U64).toArray) w := by rw [fe_0]; exact (Tryd.zeroValue50 w).trans (by rfl)
theorem zv52 (w : World) : (zeroValue 52).run Tryd.prog w = .ok (.agg ((fe 0 ++ fe 0).map U64).toArray) w := by rw [fe_0]; exact (Tryd.zeroValue52 w).trans (by rfl)
theorem two52 : Two Tryd.prog 52 ⟨ "C0", 50, 0, false, "", "", 0⟩ ⟨ "C1", 50, 6, false, "", "", 48⟩ 6 6 (fe 0) (fe 0) := ⟨Tryd.underlying52, rfl, rfl, Tryd.sizeOf50, Tryd.sizeOf50, zv52, fe_len 0, fe_len 0⟩
theorem zv47 (w : World) : (zeroValue 47).run Tryd.prog w = .ok (.agg ((fe 0 ++ fe 0).map U64).toArray) w := by rw [fe_0]; exact (Tryd.zeroValue47 w).trans (by rfl)
theorem two47 : Two Tryd.prog 47 ⟨ "A", 45, 0, false, "", "", 0⟩ ⟨ "B", 45, 6, false, "", "", 48⟩ 6 6 (fe 0) (fe 0) := ⟨Tryd.underlying47, rfl, rfl, Tryd.sizeOf45, Tryd.sizeOf45, zv47, fe_len 0, fe_len 0⟩
theorem eqf47 : EqF Tryd.prog 47 12 4 :=
  have h : EqF Tryd.prog 45 6 3 := eqf_one Tryd.underlying45 rfl (by decide) (by kernel_rfl) Tryd.isAgg43 Tryd.sizeOf43 (eqf_arr Tryd.underlying43 Tryd.underlying41 Tryd.sizeOf41 Tryd.isAgg41)
  eqf_two Tryd.underlying47 rfl rfl (by decide) (by decide) (by kernel_rfl) Tryd.isAgg45 Tryd.sizeOf45 h Tryd.isAgg45 Tryd.sizeOf45 h
theorem eqg47 (op : BinOp) (x y : Operand) (xs ys : Array Value) (w : World) : (eqGuard op 47 x y (.agg xs) (.agg ys)).run Tryd.prog w = .ok () w := run_eqGuard_agg w op 47 x y xs ys (by kernel_rfl)
theorem nev47 (xs ys : List (BitVec 64)) (h : xs.length = 12) (h' : ys.length = 12) (w : World) : (binOp .neq 47 (.agg (xs.map U64).toArray) (.agg (ys.map U64).toArray)).run Tryd.prog w = .ok (.bool (!decide (xs = ys))) w := bin_nef eqf47 (by decide) xs ys h h' w
namespace Xm
theorem rnum (p1 p2 : List (BitVec 8)) : Pure Tryd.prog Gt 22 [NV (WDs p1 PL p1.length), NV (WDs p2 PL p2.length)] (EV2 (ZB p1, ZB p2)) := by
  intro w hw
  have hGF : BOk Gt (pl w) := gt_low.plain hw
  refine calls_of_X (G := Gt) Tryd.func22 rfl rfl (Hp (pl w) []) (hp_refl (pl w) trivial rides_true) (good_hp hGF) ?_
  refine xs_plain (E := EE []) ?_
  refine lx_boxr 2 hGF rfl rfl rfl ?_
  intro b2
  refine lx_boxr 3 hGF rfl rfl rfl ?_
  intro b3
  refine lx_allocr 4 hGF zv47 rfl rfl ?_
  intro b4
  refine lx_nil ?_
  refine xs_drawn (E := EE []) mixed (by kernel_rfl) (by kernel_rfl) (by kernel_rfl) ?_
  refine lx_loada 2 rfl rfl Tryd.isAgg43 Tryd.sizeOf43 (by simp) rfl rfl ?_
  refine lx_call rfl rfl ent33 (rofW p1) rfl rfl ?_
  refine lx_loada 3 rfl rfl Tryd.isAgg43 Tryd.sizeOf43 (by simp) rfl rfl ?_
  refine lx_call rfl rfl ent33 (rofW p2) rfl rfl ?_
  refine lx_two two47 rfl rfl (by simp) (by simp) rfl rfl ?_
  refine lx_storea 4 hGF rfl rfl rfl Tryd.sizeOf47 (by simp) (by simp) (one_u64 _) rfl ?_
  refine lx_nil ?_
  refine x_ret ?_
  repeat (first | refine kseq_ret ?_ | refine kblk_ret ?_)
  exact kret_own 4 rfl rfl rfl Tryd.isAgg47 Tryd.sizeOf47 (by simp) (fun w hw => ⟨rfl, hp_below hw⟩)
theorem RM_two_nm' (x : Zp) : RM (nm x) TWO = fe x := by rw [RM_two _ (by rw [V_nm]; exact x.isLt), V_nm, zp_of]
theorem rofE (x : Zp) : Pure Tryd.prog Gt 33 [NV (nm x)] (EV x) := by
  have h := rof_pure (nm x) (by simp)
  rw [RM_two_nm'] at h
  exact h
theorem FRs_by48 (x : Zp) : FRs (by48 x) 48 = nm x := by
  have e := V_FRs (by48 x) (by rw [by48_len]; decide)
  rw [by48_len, BN_by48] at e
  exact nm_of (FRs_len _ _) (by rw [e]; exact x.isLt) (by rw [e, zp_of])
theorem rfromE (x : Zp) (b : Nat) (t : TypeId) (w : World) (hw : Gt w) (ho : OwnB w b ((by48 x).map U8) t) : Calls Tryd.prog 38 [.slice (some ⟨b, 0, none⟩) 48 48].toArray w (fun r w' => r = .returned (.tuple #[NV (nm x), .bool true]) ∧ Grow w w') := by
  have h := rfrom48 b t (by48 x) (by48_len x) w hw ho
  rw [FRs_by48] at h
  exact h
theorem part13 (x : Zp) : Pure Tryd.prog Gt 25 [EV x] (EV x) := by
  intro w hw
  have hGF : BOk Gt (pl w) := gt_low.plain hw
  refine calls_of_X (G := Gt) Tryd.func25 rfl rfl (Hp (pl w) []) (hp_refl (pl w) trivial rides_true) (good_hp hGF) ?_
  refine xs_plain (E := EE []) ?_
  refine lx_boxr 1 hGF rfl rfl rfl ?_
  intro b1
  refine lx_allocr 2 hGF zv45 rfl rfl ?_
  intro b2
  refine lx_nil ?_
  refine xs_plain (E := EE []) ?_
  refine lx_loada 1 rfl rfl Tryd.isAgg50 Tryd.sizeOf50 (by simp) rfl rfl ?_
  refine lx_call rfl rfl ent37 (fbytes_pure x) rfl rfl ?_
  refine lx_allocr 3 hGF zv88 rfl rfl ?_
  intro b3
  refine lx_storea 3 hGF rfl rfl rfl Tryd.sizeOf88 (by simp) (by simp) (one_u8 _) rfl ?_
  refine lx_nil ?_
  refine xs_plain (E := EE []) ?_
  refine lx_slarr1 (l := 0) (h' := 48) rfl Tryd.underlying88 Tryd.sizeOf5 rfl rfl (by omega) (by omega) rfl rfl ?_
  refine lx_callC rfl rfl ent38 (fun w' hC hG => rfromE x _ _ w' hG (hC.own 3 _ _ _ rfl).1) rfl rfl ?_
  refine lx_move rfl rfl rfl ?_
  refine lx_ext rfl rfl rfl rfl ?_
  refine lx_ext rfl rfl rfl rfl ?_
  refine lx_allocr 4 hGF zv43 rfl rfl ?_
  intro b4
  refine lx_storea 4 hGF rfl rfl rfl Tryd.sizeOf43 (by simp) (by simp) (one_u64 _) rfl ?_
  refine lx_assign rfl rfl rfl ?_
  refine lx_nil ?_
  refine xs_plain (E := EE []) ?_
  refine lx_loada 4 rfl rfl Tryd.isAgg43 Tryd.sizeOf43 (by simp) rfl rfl ?_
  refine lx_call rfl rfl ent33 (rofE x) rfl rfl ?_
  refine lx_storea 2 hGF rfl rfl rfl Tryd.sizeOf45 (by simp) (by simp) (one_u64 _) rfl ?_
  refine lx_nil ?_
  refine x_ret ?_
  repeat (first | refine kseq_ret ?_ | refine kblk_ret ?_)
  exact kret_own 2 rfl rfl rfl Tryd.isAgg45 Tryd.sizeOf45 (by simp) (fun w hw => ⟨rfl, hp_below hw⟩)
theorem ref13 (x : W2) : Pure Tryd.prog Gt 14 [EV2 x] (EV2 x) := by
  intro w hw
  have hGF : BOk Gt (pl w) := gt_low.plain hw
  refine calls_of_X (G := Gt) Tryd.func14 rfl rfl (Hp (pl w) []) (hp_refl (pl w) trivial rides_true) (good_hp hGF) ?_
  refine xs_plain (E := EE []) ?_
  refine lx_boxr 1 hGF rfl rfl rfl ?_
  intro b1
  refine lx_allocr 2 hGF zv47 rfl rfl ?_
  intro b2
  refine lx_nil ?_
  refine xs_drawn (E := EE []) mixed (by kernel_rfl) (by kernel_rfl) (by kernel_rfl) ?_
  refine lx_fak 0 rfl Tryd.underlying52 rfl Tryd.sizeOf50 (by decide) rfl rfl rfl ?_
  refine lx_loado 1 _ rfl rfl Tryd.isAgg50 Tryd.sizeOf50 (by simp) ld_l rfl rfl ?_
  refine lx_call rfl rfl ent25 (part13 x.1) rfl rfl ?_
  refine lx_fak 6 rfl Tryd.underlying52 rfl Tryd.sizeOf50 (by decide) rfl rfl rfl ?_
  refine lx_loado 1 _ rfl rfl Tryd.isAgg50 Tryd.sizeOf50 (by simp) (ld_r (by simp)) rfl rfl ?_
  refine lx_call rfl rfl ent25 (part13 x.2) rfl rfl ?_
  refine lx_two two47 rfl rfl (by simp) (by simp) rfl rfl ?_
  refine lx_storea 2 hGF rfl rfl rfl Tryd.sizeOf47 (by simp) (by simp) (one_u64 _) rfl ?_
  refine lx_nil ?_
  refine x_ret ?_
  repeat (first | refine kseq_ret ?_ | refine kblk_ret ?_)
  exact kret_own 2 rfl rfl rfl Tryd.isAgg47 Tryd.sizeOf47 (by simp) (fun w hw => ⟨rfl, hp_below hw⟩)
end Xm
end Go.Proofs.YtlimfhjjadbjgaaDoor

namespace Go.Proofs.YtlimfhjjadbjgaaDoor
open Go.RowKit
set_option maxRecDepth 100000
set_option maxHeartbeats 1000000
attribute [local simp] fe_len nm_len AS_len SS_len MONT_len RM_len FRs_len BYs_len by48_len PLl TWOl ONEl N1l IVPl HFPl RTPl List.length_append WDs_len RW_len
namespace Xm
attribute [local simp] Sh.SHA_len B0_len F_len R_len Xk_len O_len Sh.MK_len D_len

theorem RW_s {s : Nat} (f : Nat → List (BitVec 64)) (k : Nat) (h : (f k).length = s) : RW s f (k + 1) = RW s f k ++ f k := List.ext_getElem? fun m => by
  rcases Nat.eq_zero_or_pos s with h0 | h0
  · subst h0
    rw [List.length_eq_zero_iff.1 h, List.append_nil, List.length_eq_zero_iff.1 (show (RW 0 f (k + 1)).length = 0 by rw [RW_len]; omega), List.length_eq_zero_iff.1 (show (RW 0 f k).length = 0 by rw [RW_len]; omega)]
  by_cases h1 : m < s * k
  · rw [RW_get f (k + 1) m (by rw [Nat.mul_succ]; omega), List.getElem?_append_left (by rw [RW_len]; exact h1), RW_get f k m h1]
  · by_cases h2 : m < s * (k + 1)
    · have e : m = s * k + (m - s * k) := by omega
      have hlt : m - s * k < s := by rw [Nat.mul_succ] at h2; omega
      have d1 : m / s = k := by rw [e, Nat.mul_add_div h0, Nat.div_eq_of_lt hlt, Nat.add_zero]
      have d2 : m % s = m - s * k := by conv => lhs; rw [e, Nat.mul_add_mod, Nat.mod_eq_of_lt hlt]
      rw [RW_get f (k + 1) m h2, List.getElem?_append_right (by rw [RW_len]; omega), RW_len, d1, d2, List.getD_eq_getElem?_getD, List.getElem?_eq_getElem (by rw [h]; exact hlt)]; rfl
    · rw [List.getElem?_eq_none (by rw [RW_len]; omega), List.getElem?_eq_none (by rw [List.length_append, RW_len, h]; rw [Nat.mul_succ] at h2; omega)]
theorem OwnW_of {own L : Hl} {n : Nat} {e : TypeId} {s : Nat} {a0 : Option Addr} {cap nx : Nat} {xs : List Value} (h : OwnW own n e s a0 cap nx xs) (hl : lkB L n = lkB own n) : OwnW L n e s a0 cap nx xs := by
  unfold OwnW at *
  rw [hl]
  exact h
theorem tiE : TI Tryd.prog 47 (.agg ((List.replicate 12 (0#64)).map U64).toArray) 12 96 := ti_mk (by kernel_rfl)
/-- The i-th pair of numbers. -/
def N2 (bs : List (BitVec 8)) (i : Nat) : W2 := (ZB ((bs.drop (128 * i)).take 64), ZB ((bs.drop (128 * i + 64)).take 64))
def N2r (bs : List (BitVec 8)) (i : Nat) : List (BitVec 64) := fe (N2 bs i).1 ++ fe (N2 bs i).2
theorem N2r_len (bs : List (BitVec 8)) (i : Nat) : (N2r bs i).length = 12 := by rw [N2r, List.length_append, fe_len, fe_len]
theorem wide13 (e : Option Addr) (cap len : Nat) (bs : List (BitVec 8)) (hb : bs.length = len) (hlen : len ≤ 1000) (w : World) (hw : Gt w) (hby : BytesAt w e bs) : Calls Tryd.prog 23 [.slice e len cap, NV PL].toArray w (fun r w' => r = .returned (NV (WDs bs PL bs.length)) ∧ Grow w w') := by
  subst hb
  exact rwide_calls e cap bs PL rfl (by omega) w hw hby
/-- Pairs in a slice. -/
def At2 (w : World) (a : Option Addr) (n : Nat) (f : Nat → List (BitVec 64)) : Prop := n = 0 ∨ ∃ b, a = some ⟨b, 0, none⟩ ∧ w.rangeAt b 0 ((RW 12 (f) n).map U64)
def FBad (msg dst : List (BitVec 8)) (z : Int) : Prop := z < 0 ∨ 32 < z ∨ 255 < dst.length ∨ 65536 < msg.length
structure RFt (msg dst : List (BitVec 8)) (z : Int) (w : World) (v : Value) : Prop where
  bad : FBad msg dst z → v = .tuple #[.slice none 0 0, I 130]
  ok : ¬ FBad msg dst z → ∃ a cap, v = .tuple #[.slice a z.toNat cap, I 0] ∧ At2 w a z.toNat (N2r (E msg dst (128 * z.toNat)))
structure LfV (f : Nat → List (BitVec 64)) (m : Nat) where
  (k : Nat) (a0 : Option Addr) (cap : Nat) (own : Hl)
  hk : k ≤ m
  hs : OwnW own 50 47 12 a0 cap k ((RW 12 (f) k).map U64)
  ho : own = [] ∨ ∃ z, own = [(50, z)]
attribute [local simp] N2r_len
theorem rfd_0 (bm : Nat) (a1 : Option Addr) (cap1 : Nat) (msg : List (BitVec 8)) (a2 : Option Addr) (cap2 : Nat) (dst : List (BitVec 8)) (z : Int) (h : z < 0) (w : World) (hw : Gt w) : Calls Tryd.prog 13 [.pointer (some ⟨bm, 0, none⟩), .slice a1 msg.length cap1, .slice a2 dst.length cap2, I z].toArray w (fun e w' => e = .returned (.tuple #[.slice none 0 0, I 130]) ∧ Grow w w') := by
  have hGF : BOk Gt (pl w) := gt_low.plain hw
  refine calls_of_X (G := Gt) Tryd.func13 rfl rfl (Hp (pl w) []) (hp_refl (pl w) trivial rides_true) (good_hp hGF) ?_
  refine xs_plain (E := EE [8]) ?_
  refine lx_assign rfl rfl rfl ?_
  refine lx_assign rfl rfl rfl ?_
  refine lx_nil ?_
  refine x_seq ?_
  refine xs_plain (E := EE [8]) ?_
  refine lx_move rfl rfl rfl ?_
  refine lx_binB true rfl rfl (fun _ => rfl) (fun _ => bin_lss_i _ _ _) (decide_eq_true (by omega)) rfl rfl ?_
  refine lx_move rfl rfl rfl ?_
  refine lx_skip rfl rfl rfl ?_
  refine lx_skip rfl rfl rfl ?_
  refine lx_pick rfl rfl rfl rfl rfl ?_
  refine lx_nil ?_
  refine x_true rfl ?_
  refine xs_plain (E := EE [8]) ?_
  refine lx_assign rfl rfl rfl ?_
  refine lx_assign rfl rfl rfl ?_
  refine lx_nil ?_
  refine x_ret ?_
  repeat (first | refine kseq_ret ?_ | refine kblk_ret ?_)
  exact kret_tt rfl rfl rfl (fun w hw => ⟨rfl, hp_below hw⟩)
theorem rfd_1 (bm : Nat) (a1 : Option Addr) (cap1 : Nat) (msg : List (BitVec 8)) (a2 : Option Addr) (cap2 : Nat) (dst : List (BitVec 8)) (z : Int) (h : 32 < z) (w : World) (hw : Gt w) : Calls Tryd.prog 13 [.pointer (some ⟨bm, 0, none⟩), .slice a1 msg.length cap1, .slice a2 dst.length cap2, I z].toArray w (fun e w' => e = .returned (.tuple #[.slice none 0 0, I 130]) ∧ Grow w w') := by
  have hGF : BOk Gt (pl w) := gt_low.plain hw
  refine calls_of_X (G := Gt) Tryd.func13 rfl rfl (Hp (pl w) []) (hp_refl (pl w) trivial rides_true) (good_hp hGF) ?_
  refine xs_plain (E := EE [8]) ?_
  refine lx_assign rfl rfl rfl ?_
  refine lx_assign rfl rfl rfl ?_
  refine lx_nil ?_
  refine x_seq ?_
  refine xs_plain (E := EE [8]) ?_
  refine lx_move rfl rfl rfl ?_
  refine lx_binB false rfl rfl (fun _ => rfl) (fun _ => bin_lss_i _ _ _) (decide_eq_false (by omega)) rfl rfl ?_
  refine lx_move rfl rfl rfl ?_
  refine lx_move rfl rfl rfl ?_
  refine lx_binB true rfl rfl (fun _ => rfl) (fun _ => bin_gtr_i _ _ _) (decide_eq_true (by omega)) rfl rfl ?_
  refine lx_pick rfl rfl rfl rfl rfl ?_
  refine lx_nil ?_
  refine x_true rfl ?_
  refine xs_plain (E := EE [8]) ?_
  refine lx_assign rfl rfl rfl ?_
  refine lx_assign rfl rfl rfl ?_
  refine lx_nil ?_
  refine x_ret ?_
  repeat (first | refine kseq_ret ?_ | refine kblk_ret ?_)
  exact kret_tt rfl rfl rfl (fun w hw => ⟨rfl, hp_below hw⟩)
theorem rfd_2 (bm : Nat) (a1 : Option Addr) (cap1 : Nat) (msg : List (BitVec 8)) (a2 : Option Addr) (cap2 : Nat) (dst : List (BitVec 8)) (z : Int) (h0 : ¬ z < 0) (h1 : ¬ 32 < z) (hl : 255 < dst.length ∨ 65536 < msg.length) (w : World) (hw : Gt w) (ho : OwnB w bm (Sh.MK.map U32) 64) (hb1 : BytesAt w a1 msg) (hb2 : BytesAt w a2 dst) : Calls Tryd.prog 13 [.pointer (some ⟨bm, 0, none⟩), .slice a1 msg.length cap1, .slice a2 dst.length cap2, I z].toArray w (fun e w' => e = .returned (.tuple #[.slice none 0 0, I 130]) ∧ Grow w w') := by
  have hGF : BOk Gt (pl w) := gt_low.plain hw
  have hgw : Grow w w := Grow.refl w
  refine calls_of_X (G := Gt) Tryd.func13 rfl rfl (Hp (pl w) []) (hp_refl (pl w) trivial rides_true) (good_hp hGF) ?_
  refine xs_plain (E := EE [8]) ?_
  refine lx_assign rfl rfl rfl ?_
  refine lx_assign rfl rfl rfl ?_
  refine lx_nil ?_
  refine x_seq ?_
  refine xs_plain (E := EE [8]) ?_
  refine lx_move rfl rfl rfl ?_
  refine lx_binB false rfl rfl (fun _ => rfl) (fun _ => bin_lss_i _ _ _) (decide_eq_false (by omega)) rfl rfl ?_
  refine lx_move rfl rfl rfl ?_
  refine lx_move rfl rfl rfl ?_
  refine lx_binB false rfl rfl (fun _ => rfl) (fun _ => bin_gtr_i _ _ _) (decide_eq_false (by omega)) rfl rfl ?_
  refine lx_pick rfl rfl rfl rfl rfl ?_
  refine lx_nil ?_
  refine x_false rfl ?_
  refine x_skip ?_
  refine xs_plain (E := EE [8]) ?_
  refine lx_move rfl rfl rfl ?_
  refine lx_move rfl rfl rfl ?_
  refine lx_move rfl rfl rfl ?_
  refine lx_move rfl rfl rfl ?_
  refine lx_bin rfl rfl (fun _ => rfl) (fun _ => bin_mul_i _ _ _ (by unfold inI; omega)) rfl rfl ?_
  refine lx_callH rfl rfl ent8 rfl rfl gt_low (good_hp hGF) (fun w' hC hG => rexpand bm a1 cap1 msg a2 cap2 dst (128 * z) w' hG (own_grow ho (hgw.trans (hp_below hC))) (hb1.grow (hgw.trans (hp_below hC))) (hb2.grow (hgw.trans (hp_below hC)))) (fun w0 w1 v h0 hg hG1 hq => ?_)
  replace hgw := hgw.trans ((hp_below h0).trans hg)
  clear h0 hg hGF
  have hGF : BOk Gt (pl w1) := gt_low.plain hG1
  obtain rfl := hq.bad (hl.elim (fun h => .inr (.inr (.inl h))) fun h => .inr (.inr (.inr h)))
  refine lx_move rfl rfl rfl ?_
  refine lx_ext rfl rfl rfl rfl ?_
  refine lx_ext rfl rfl rfl rfl ?_
  refine lx_assign rfl rfl rfl ?_
  refine lx_assign rfl rfl rfl ?_
  refine lx_nil ?_
  refine x_seq ?_
  refine xs_plain (E := EE [8]) ?_
  refine lx_move rfl rfl rfl ?_
  refine lx_binB true rfl rfl (fun _ => rfl) (fun _ => bin_neq_i _ _ _) (rfl) rfl rfl ?_
  refine lx_nil ?_
  refine x_true rfl ?_
  refine xs_plain (E := EE [8]) ?_
  refine lx_move rfl rfl rfl ?_
  refine lx_assign rfl rfl rfl ?_
  refine lx_assign rfl rfl rfl ?_
  refine lx_nil ?_
  refine x_ret ?_
  repeat (first | refine kseq_ret ?_ | refine kblk_ret ?_)
  exact kret_tt rfl rfl rfl (fun w hw => ⟨rfl, hgw.trans (hp_below hw)⟩)
theorem rfd_ok (bm : Nat) (a1 : Option Addr) (cap1 : Nat) (msg : List (BitVec 8)) (a2 : Option Addr) (cap2 : Nat) (dst : List (BitVec 8)) (n : Nat) (hn : n ≤ 32) (hd : dst.length ≤ 255) (hm : msg.length ≤ 65536) (w : World) (hw : Gt w) (ho : OwnB w bm (Sh.MK.map U32) 64) (hb1 : BytesAt w a1 msg) (hb2 : BytesAt w a2 dst) : Calls Tryd.prog 13 [.pointer (some ⟨bm, 0, none⟩), .slice a1 msg.length cap1, .slice a2 dst.length cap2, I (n : Int)].toArray w (fun e w' => ∃ a cap, e = .returned (.tuple #[.slice a n cap, I 0]) ∧ Grow w w' ∧ At2 w' a n (N2r (E msg dst (128 * n)))) := by
  have hGF : BOk Gt (pl w) := gt_low.plain hw
  have hgw : Grow w w := Grow.refl w
  refine calls_of_X (G := Gt) Tryd.func13 rfl rfl (Hp (pl w) []) (hp_refl (pl w) trivial rides_true) (good_hp hGF) ?_
  refine xs_plain (E := EE [8]) ?_
  refine lx_assign rfl rfl rfl ?_
  refine lx_assign rfl rfl rfl ?_
  refine lx_nil ?_
  refine x_seq ?_
  refine xs_plain (E := EE [8]) ?_
  refine lx_move rfl rfl rfl ?_
  refine lx_binB false rfl rfl (fun _ => rfl) (fun _ => bin_lss_i _ _ _) (decide_eq_false (by omega)) rfl rfl ?_
  refine lx_move rfl rfl rfl ?_
  refine lx_move rfl rfl rfl ?_
  refine lx_binB false rfl rfl (fun _ => rfl) (fun _ => bin_gtr_i _ _ _) (decide_eq_false (by omega)) rfl rfl ?_
  refine lx_pick rfl rfl rfl rfl rfl ?_
  refine lx_nil ?_
  refine x_false rfl ?_
  refine x_skip ?_
  refine xs_plain (E := EE [8]) ?_
  refine lx_move rfl rfl rfl ?_
  refine lx_move rfl rfl rfl ?_
  refine lx_move rfl rfl rfl ?_
  refine lx_move rfl rfl rfl ?_
  refine lx_bin rfl rfl (fun _ => rfl) (fun _ => bin_mul_i _ _ _ (by unfold inI; omega)) rfl rfl ?_
  refine lx_callH rfl rfl ent8 rfl rfl gt_low (good_hp hGF) (fun w' hC hG => rexpand bm a1 cap1 msg a2 cap2 dst (128 * (n : Int)) w' hG (own_grow ho (hgw.trans (hp_below hC))) (hb1.grow (hgw.trans (hp_below hC))) (hb2.grow (hgw.trans (hp_below hC)))) (fun w0 w1 v h0 hg hG1 hq => ?_)
  replace hgw := hgw.trans ((hp_below h0).trans hg)
  clear h0 hg hGF
  have hGF : BOk Gt (pl w1) := gt_low.plain hG1
  obtain ⟨xa, xc, rfl, hx, hle⟩ := hq.ok (by rintro (h | h | h | h) <;> omega)
  rw [show ((128 : Int) * (n : Int)).toNat = 128 * n by omega] at *
  have hxc : 128 * n ≤ xc := by rw [E_len] at hle; exact hle
  refine lx_move rfl rfl rfl ?_
  refine lx_ext rfl rfl rfl rfl ?_
  refine lx_ext rfl rfl rfl rfl ?_
  refine lx_assign rfl rfl rfl ?_
  refine lx_assign rfl rfl rfl ?_
  refine lx_nil ?_
  refine x_seq ?_
  refine xs_plain (E := EE [8]) ?_
  refine lx_move rfl rfl rfl ?_
  refine lx_binB false rfl rfl (fun _ => rfl) (fun _ => bin_neq_i _ _ _) (rfl) rfl rfl ?_
  refine lx_nil ?_
  refine x_false rfl ?_
  refine x_skip ?_
  refine xs_plain (E := EE [8]) ?_
  refine lx_assign rfl rfl rfl ?_
  refine lx_nil ?_
  refine x_seq ?_
  refine xs_plain (E := EE [8]) ?_
  refine lx_assign rfl rfl rfl ?_
  refine lx_nil ?_
  refine x_block ?_
  refine x_for (ι := LfV (N2r (E msg dst (128 * n))) n) (fun z => [(3, I (n : Int)), (10, .slice xa (E msg dst (128 * n)).length xc), (12, .slice z.a0 z.k z.cap), (13, I (z.k : Int))]) (fun z => z.own) (fun z => n - z.k) ⟨0, none, 0, [], by omega, ownW_nil _ _ _ _, .inl rfl⟩ hGF ⟨rfl, rfl, rfl, rfl, trivial⟩ trivial ?_
  rintro ⟨k, a0, cap, own, hk, hs, hown⟩
  dsimp only at hs hown ⊢
  refine x_seq ?_
  refine xs_plain (E := EE [8]) ?_
  refine lx_move rfl rfl rfl ?_
  refine lx_move rfl rfl rfl ?_
  refine lx_bin rfl rfl (fun _ => rfl) (fun _ => bin_lss_i _ _ _) rfl rfl ?_
  refine lx_nil ?_
  refine x_if rfl (fun hc => ?_) (fun hc => ?_)
  · have hlt : k < n := by simp at hc; omega
    clear hc
    refine x_skip ?_
    refine x_seq ?_
    refine x_block ?_
    refine x_drawn (E := EE [8]) mixed (by kernel_rfl) (by kernel_rfl) (by kernel_rfl) ?_
    refine lx_move rfl rfl rfl ?_
    refine lx_move rfl rfl rfl ?_
    refine lx_move rfl rfl rfl ?_
    refine lx_bin (v := I ((128 * k : Nat) : Int)) rfl rfl (fun _ => rfl) (fun _ => (bin_mul_i _ _ _ (by unfold inI; omega)).trans (by rw [show (128 : Int) * (k : Int) = ((128 * k : Nat) : Int) by omega])) rfl rfl ?_
    refine lx_move rfl rfl rfl ?_
    refine lx_bin (v := I ((128 * k : Nat) : Int)) rfl rfl (fun _ => rfl) (fun _ => (bin_mul_i _ _ _ (by unfold inI; omega)).trans (by rw [show (128 : Int) * (k : Int) = ((128 * k : Nat) : Int) by omega])) rfl rfl ?_
    refine lx_bin (v := I ((128 * k + 64 : Nat) : Int)) rfl rfl (fun _ => rfl) (fun _ => (bin_add_i _ _ _ (by unfold inI; omega)).trans (by rfl)) rfl rfl ?_
    refine lx_slsl (l := 128 * k) (h' := 128 * k + 64) rfl Tryd.underlying22 Tryd.sizeOf5 rfl rfl (by omega) rfl rfl ?_
    refine lx_call rfl rfl ent24 (rp_pure) rfl rfl ?_
    refine lx_callC rfl rfl ent23 (fun w' hC hG => wide13 _ _ _ (((E msg dst (128 * n)).drop (128 * k)).take 64) (by rw [List.length_take, List.length_drop, E_len]; omega) (by omega) w' hG ((hx.cut (128 * k) 64 hle).grow (hp_below hC))) rfl rfl ?_
    refine lx_move rfl rfl rfl ?_
    refine lx_move rfl rfl rfl ?_
    refine lx_bin (v := I ((128 * k : Nat) : Int)) rfl rfl (fun _ => rfl) (fun _ => (bin_mul_i _ _ _ (by unfold inI; omega)).trans (by rw [show (128 : Int) * (k : Int) = ((128 * k : Nat) : Int) by omega])) rfl rfl ?_
    refine lx_bin (v := I ((128 * k + 64 : Nat) : Int)) rfl rfl (fun _ => rfl) (fun _ => (bin_add_i _ _ _ (by unfold inI; omega)).trans (by rfl)) rfl rfl ?_
    refine lx_move rfl rfl rfl ?_
    refine lx_bin (v := I ((128 * k : Nat) : Int)) rfl rfl (fun _ => rfl) (fun _ => (bin_mul_i _ _ _ (by unfold inI; omega)).trans (by rw [show (128 : Int) * (k : Int) = ((128 * k : Nat) : Int) by omega])) rfl rfl ?_
    refine lx_bin (v := I ((128 * k + 128 : Nat) : Int)) rfl rfl (fun _ => rfl) (fun _ => (bin_add_i _ _ _ (by unfold inI; omega)).trans (by rfl)) rfl rfl ?_
    refine lx_slsl (l := 128 * k + 64) (h' := 128 * k + 128) rfl Tryd.underlying22 Tryd.sizeOf5 rfl rfl (by omega) rfl rfl ?_
    refine lx_call rfl rfl ent24 (rp_pure) rfl rfl ?_
    refine lx_callC rfl rfl ent23 (fun w' hC hG => wide13 _ _ _ (((E msg dst (128 * n)).drop (128 * k + 64)).take 64) (by rw [List.length_take, List.length_drop, E_len]; omega) (by omega) w' hG ((hx.cut (128 * k + 64) 64 hle).grow (hp_below hC))) rfl rfl ?_
    refine lx_call rfl rfl ent22 (rnum (((E msg dst (128 * n)).drop (128 * k)).take 64) (((E msg dst (128 * n)).drop (128 * k + 64)).take 64)) rfl rfl ?_
    refine lx_bslW1 58 ((N2r (E msg dst (128 * n)) k).map U64) hGF rfl (by simp) (by decide) (by decide) Tryd.underlying38 Tryd.sizeOf47 zv47 rfl rfl ?_
    intro b58
    refine lx_appendW (s := 12) (nx := k) (ny := 1) (xs := (RW 12 ((N2r (E msg dst (128 * n)))) k).map U64) (ys := (N2r (E msg dst (128 * n)) k).map U64) 50 hGF rfl rfl Tryd.underlying38 Tryd.underlying38 tiE rfl (OwnW_of hs rfl) (by simp) (fun w' h => hp_row (n := 58) rfl w' h) (one_u64 _) (by decide) (by omega) (by omega) rfl rfl (fun bA cA capA eA lA tA => ?_)
    refine lx_assign rfl rfl rfl ?_
    refine lx_nil ?_
    refine x_plain (E := EE [8]) ?_
    refine lx_move rfl rfl rfl ?_
    refine lx_bin (v := I ((k + 1 : Nat) : Int)) rfl rfl (fun _ => rfl) (fun _ => (bin_add_i _ _ _ (by unfold inI; omega)).trans (by rfl)) rfl rfl ?_
    refine lx_assign rfl rfl rfl ?_
    refine lx_nil ?_
    repeat (first | refine kblk_n ?_ | refine kblk_x ?_)
    refine kseq_n ?_
    have eR : (RW 12 ((N2r (E msg dst (128 * n)))) (k + 1)).map U64 = (RW 12 ((N2r (E msg dst (128 * n)))) k).map U64 ++ (N2r (E msg dst (128 * n)) k).map U64 := by rw [RW_s _ k (N2r_len _ _), List.map_append]
    exact ⟨rfl, ⟨k + 1, some ⟨bA, 0, none⟩, capA, [(50, bA, cA, 47)], by omega, .inr ⟨bA, cA, rfl, rfl, eA, by omega, by simp; omega, by rw [eR]; exact tA⟩, .inr ⟨_, rfl⟩⟩, _, by show n - (k + 1) < n - k; omega, rfl, ⟨rfl, rfl, rfl, rfl, trivial⟩, ⟨rfl, trivial⟩⟩
  · obtain rfl : k = n := by simp at hc; omega
    clear hc
    refine x_exit ?_
    refine xs_plain (E := EE [8]) ?_
    refine lx_move rfl rfl rfl ?_
    refine lx_assign rfl rfl rfl ?_
    refine lx_assign rfl rfl rfl ?_
    refine lx_nil ?_
    refine x_ret ?_
    repeat (first | refine kseq_ret ?_ | refine kblk_ret ?_ | refine kng_ret ?_)
    rcases hs with ⟨rfl, _, rfl, _⟩ | ⟨b, c, rfl, hl, _, _, _, ht⟩
    · exact kret_tt rfl rfl rfl (fun w hw => ⟨_, _, rfl, hgw.trans (hp_below hw), .inl rfl⟩)
    · refine kret_tt rfl rfl rfl (fun w hw => ⟨_, _, rfl, hgw.trans (hp_below hw), .inr ⟨b, rfl, fun j v hv => ?_⟩⟩)
      rw [Nat.zero_add]
      refine hp_cell hl ?_ w hw
      rw [← ht, List.getElem?_take] at hv
      split at hv
      · exact hv
      · cases hv
end Xm
end Go.Proofs.YtlimfhjjadbjgaaDoor

namespace Go.Proofs.YtlimfhjjadbjgaaDoor
open Go.RowKit
set_option maxRecDepth 100000
set_option maxHeartbeats 1000000
attribute [local simp] fe_len nm_len AS_len SS_len MONT_len RM_len FRs_len BYs_len by48_len PLl TWOl ONEl N1l IVPl HFPl RTPl List.length_append WDs_len RW_len
namespace Xm
attribute [local simp] Sh.SHA_len B0_len F_len R_len Xk_len O_len Sh.MK_len D_len
attribute [local simp] N2r_len

theorem rfields (bm : Nat) (a1 : Option Addr) (cap1 : Nat) (msg : List (BitVec 8)) (a2 : Option Addr) (cap2 : Nat) (dst : List (BitVec 8)) (z : Int) (w : World) (hw : Gt w) (ho : OwnB w bm (Sh.MK.map U32) 64) (hb1 : BytesAt w a1 msg) (hb2 : BytesAt w a2 dst) : Calls Tryd.prog 13 [.pointer (some ⟨bm, 0, none⟩), .slice a1 msg.length cap1, .slice a2 dst.length cap2, I z].toArray w (fun e w' => ∃ v, e = .returned v ∧ Grow w w' ∧ RFt msg dst z w' v) := by
  have err : FBad msg dst z → ∀ {e : Ending} {w' : World}, e = .returned (.tuple #[.slice none 0 0, I 130]) ∧ Grow w w' → ∃ v, e = .returned v ∧ Grow w w' ∧ RFt msg dst z w' v := fun hb _ _ h => ⟨_, h.1, h.2, fun _ => rfl, fun hn => absurd hb hn⟩
  by_cases h0 : z < 0
  · exact (rfd_0 bm a1 cap1 msg a2 cap2 dst z h0 w hw).mono fun _ _ h => err (.inl h0) h
  by_cases h1 : 32 < z
  · exact (rfd_1 bm a1 cap1 msg a2 cap2 dst z h1 w hw).mono fun _ _ h => err (.inr (.inl h1)) h
  by_cases h2 : 255 < dst.length ∨ 65536 < msg.length
  · exact (rfd_2 bm a1 cap1 msg a2 cap2 dst z h0 h1 h2 w hw ho hb1 hb2).mono fun _ _ h => err (.inr (.inr h2)) h
  obtain ⟨n, rfl⟩ : ∃ n : Nat, z = (n : Int) := ⟨z.toNat, by omega⟩
  refine (rfd_ok bm a1 cap1 msg a2 cap2 dst n (by omega) (by omega) (by omega) w hw ho hb1 hb2).mono fun e w' ⟨a, cap, he, hg, hc⟩ => ⟨_, he, hg, fun hb => absurd hb ?_, fun _ => ⟨a, cap, rfl, hc⟩⟩
  rintro (h | h | h | h) <;> omega
theorem range_grow {w w' : World} {b : Nat} {cs : List Value} (h : w.rangeAt b 0 cs) (hg : Grow w w') : w'.rangeAt b 0 cs := fun j v hv => (hg.cell (block_lt_of_cell (h j v hv))).trans (h j v hv)
/-- What the program's Fields is asked for. -/
def PFC : Prop := ∀ (a1 : Option Addr) (cap1 : Nat) (msg : List (BitVec 8)) (a2 : Option Addr) (cap2 : Nat) (dst : List (BitVec 8)) (z : Int) (w : World), msg.length ≤ 100000 → msg.length ≤ cap1 → dst.length ≤ 100000 → dst.length ≤ cap2 → Gt w → BytesAt w a1 msg → BytesAt w a2 dst → Calls Tryd.prog 12 [.slice a1 msg.length cap1, .slice a2 dst.length cap2, I z].toArray w (fun e w' => ∃ v, e = .returned v ∧ Grow w w' ∧ RFt msg dst z w' v)
theorem fd_b0 (hK : ∀ w, Gt w → Calls Tryd.prog 6 [].toArray w (fun e w' => e = .returned (.bool true) ∧ Grow w w')) (a1 : Option Addr) (cap1 : Nat) (msg : List (BitVec 8)) (a2 : Option Addr) (cap2 : Nat) (dst : List (BitVec 8)) (z : Int) (h0 : 1000 < msg.length) (w : World) (hw : Gt w) : Calls Tryd.prog 5 [.slice a1 msg.length cap1, .slice a2 dst.length cap2, I z].toArray w (fun e w' => e = .returned (.bool true) ∧ Grow w w') := by
  have hGF : BOk Gt (pl w) := gt_low.plain hw
  have hgw : Grow w w := Grow.refl w
  refine calls_of_X (G := Gt) Tryd.func5 rfl rfl (Hp (pl w) []) (hp_refl (pl w) trivial rides_true) (good_hp hGF) ?_
  refine xs_plain (E := EE [12, 9, 13]) ?_
  refine lx_assign rfl rfl rfl ?_
  refine lx_nil ?_
  refine x_seq ?_
  refine xs_plain (E := EE [12, 9, 13]) ?_
  refine lx_callC rfl rfl ent6 (fun w' hC hG => hK w' hG) rfl rfl ?_
  refine lx_un rfl (fun _ => un_not _) rfl rfl ?_
  refine lx_nil ?_
  refine x_false rfl ?_
  refine x_skip ?_
  refine x_seq ?_
  refine xs_plain (E := EE [12, 9, 13]) ?_
  refine lx_move rfl rfl rfl ?_
  refine lx_len rfl (fun _ => len_slice Tryd.underlying22 _ _ _ _) rfl rfl ?_
  refine lx_binB true rfl rfl (fun _ => rfl) (fun _ => bin_gtr_i _ _ _) (decide_eq_true (by omega)) rfl rfl ?_
  refine lx_move rfl rfl rfl ?_
  refine lx_skip rfl rfl rfl ?_
  refine lx_skip rfl rfl rfl ?_
  refine lx_skip rfl rfl rfl ?_
  refine lx_pick rfl rfl rfl rfl rfl ?_
  refine lx_nil ?_
  refine x_true rfl ?_
  refine xs_plain (E := EE [12, 9, 13]) ?_
  refine lx_assign rfl rfl rfl ?_
  refine lx_nil ?_
  refine x_ret ?_
  repeat (first | refine kseq_ret ?_ | refine kblk_ret ?_ | refine kng_ret ?_)
  exact kret_tmp rfl rfl (fun w hw => ⟨rfl, hgw.trans (hp_below hw)⟩)
theorem fd_b1 (hK : ∀ w, Gt w → Calls Tryd.prog 6 [].toArray w (fun e w' => e = .returned (.bool true) ∧ Grow w w')) (a1 : Option Addr) (cap1 : Nat) (msg : List (BitVec 8)) (a2 : Option Addr) (cap2 : Nat) (dst : List (BitVec 8)) (z : Int) (h0 : ¬ 1000 < msg.length) (h1 : 600 < dst.length) (w : World) (hw : Gt w) : Calls Tryd.prog 5 [.slice a1 msg.length cap1, .slice a2 dst.length cap2, I z].toArray w (fun e w' => e = .returned (.bool true) ∧ Grow w w') := by
  have hGF : BOk Gt (pl w) := gt_low.plain hw
  have hgw : Grow w w := Grow.refl w
  refine calls_of_X (G := Gt) Tryd.func5 rfl rfl (Hp (pl w) []) (hp_refl (pl w) trivial rides_true) (good_hp hGF) ?_
  refine xs_plain (E := EE [12, 9, 13]) ?_
  refine lx_assign rfl rfl rfl ?_
  refine lx_nil ?_
  refine x_seq ?_
  refine xs_plain (E := EE [12, 9, 13]) ?_
  refine lx_callC rfl rfl ent6 (fun w' hC hG => hK w' hG) rfl rfl ?_
  refine lx_un rfl (fun _ => un_not _) rfl rfl ?_
  refine lx_nil ?_
  refine x_false rfl ?_
  refine x_skip ?_
  refine x_seq ?_
  refine xs_plain (E := EE [12, 9, 13]) ?_
  refine lx_move rfl rfl rfl ?_
  refine lx_len rfl (fun _ => len_slice Tryd.underlying22 _ _ _ _) rfl rfl ?_
  refine lx_binB false rfl rfl (fun _ => rfl) (fun _ => bin_gtr_i _ _ _) (decide_eq_false (by omega)) rfl rfl ?_
  refine lx_move rfl rfl rfl ?_
  refine lx_move rfl rfl rfl ?_
  refine lx_len rfl (fun _ => len_slice Tryd.underlying22 _ _ _ _) rfl rfl ?_
  refine lx_binB true rfl rfl (fun _ => rfl) (fun _ => bin_gtr_i _ _ _) (decide_eq_true (by omega)) rfl rfl ?_
  refine lx_pick rfl rfl rfl rfl rfl ?_
  refine lx_nil ?_
  refine x_true rfl ?_
  refine xs_plain (E := EE [12, 9, 13]) ?_
  refine lx_assign rfl rfl rfl ?_
  refine lx_nil ?_
  refine x_ret ?_
  repeat (first | refine kseq_ret ?_ | refine kblk_ret ?_ | refine kng_ret ?_)
  exact kret_tmp rfl rfl (fun w hw => ⟨rfl, hgw.trans (hp_below hw)⟩)
theorem fd_inb (hK : ∀ w, Gt w → Calls Tryd.prog 6 [].toArray w (fun e w' => e = .returned (.bool true) ∧ Grow w w')) (hP : PFC) (a1 : Option Addr) (cap1 : Nat) (msg : List (BitVec 8)) (a2 : Option Addr) (cap2 : Nat) (dst : List (BitVec 8)) (z : Int) (hc1 : msg.length ≤ cap1) (hc2 : dst.length ≤ cap2) (h0 : ¬ 1000 < msg.length) (h1 : ¬ 600 < dst.length) (h2 : 5 < z) (h3 : z ≤ 32) (hbad : FBad msg dst (z.tmod 6)) (w : World) (hw : Gt w) (hb1 : BytesAt w a1 msg) (hb2 : BytesAt w a2 dst) : Calls Tryd.prog 5 [.slice a1 msg.length cap1, .slice a2 dst.length cap2, I z].toArray w (fun e w' => e = .returned (.bool true) ∧ Grow w w') := by
  have hGF : BOk Gt (pl w) := gt_low.plain hw
  have hgw : Grow w w := Grow.refl w
  have h5 : 0 ≤ z.tmod 6 := Int.tmod_nonneg _ (by omega)
  have h6 : z.tmod 6 < 6 := Int.tmod_lt_of_pos z (by decide)
  refine calls_of_X (G := Gt) Tryd.func5 rfl rfl (Hp (pl w) []) (hp_refl (pl w) trivial rides_true) (good_hp hGF) ?_
  refine xs_plain (E := EE [12, 9, 13]) ?_
  refine lx_assign rfl rfl rfl ?_
  refine lx_nil ?_
  refine x_seq ?_
  refine xs_plain (E := EE [12, 9, 13]) ?_
  refine lx_callC rfl rfl ent6 (fun w' hC hG => hK w' hG) rfl rfl ?_
  refine lx_un rfl (fun _ => un_not _) rfl rfl ?_
  refine lx_nil ?_
  refine x_false rfl ?_
  refine x_skip ?_
  refine x_seq ?_
  refine xs_plain (E := EE [12, 9, 13]) ?_
  refine lx_move rfl rfl rfl ?_
  refine lx_len rfl (fun _ => len_slice Tryd.underlying22 _ _ _ _) rfl rfl ?_
  refine lx_binB false rfl rfl (fun _ => rfl) (fun _ => bin_gtr_i _ _ _) (decide_eq_false (by omega)) rfl rfl ?_
  refine lx_move rfl rfl rfl ?_
  refine lx_move rfl rfl rfl ?_
  refine lx_len rfl (fun _ => len_slice Tryd.underlying22 _ _ _ _) rfl rfl ?_
  refine lx_binB false rfl rfl (fun _ => rfl) (fun _ => bin_gtr_i _ _ _) (decide_eq_false (by omega)) rfl rfl ?_
  refine lx_pick rfl rfl rfl rfl rfl ?_
  refine lx_nil ?_
  refine x_false rfl ?_
  refine x_skip ?_
  refine x_seq ?_
  refine xs_plain (E := EE [12, 9, 13]) ?_
  refine lx_move rfl rfl rfl ?_
  refine lx_binB true rfl rfl (fun _ => rfl) (fun _ => bin_gtr_i _ _ _) (decide_eq_true (by omega)) rfl rfl ?_
  refine lx_move rfl rfl rfl ?_
  refine lx_move rfl rfl rfl ?_
  refine lx_binB true rfl rfl (fun _ => rfl) (fun _ => bin_leq_i _ _ _) (decide_eq_true (by omega)) rfl rfl ?_
  refine lx_pick rfl rfl rfl rfl rfl ?_
  refine lx_nil ?_
  refine x_true rfl ?_
  refine x_plain (E := EE [12, 9, 13]) ?_
  refine lx_move rfl rfl rfl ?_
  refine lx_bin (v := I (z.tmod 6)) rfl rfl (fun _ => rfl) (fun _ => bin_rem_i _ _ _ (by decide)) rfl rfl ?_
  refine lx_assign rfl rfl rfl ?_
  refine lx_nil ?_
  refine xs_plain (E := EE [12, 9, 13]) ?_
  refine lx_move rfl rfl rfl ?_
  refine lx_move rfl rfl rfl ?_
  refine lx_move rfl rfl rfl ?_
  refine lx_callH rfl rfl ent12 rfl rfl gt_low (good_hp hGF) (fun w' hC hG => hP a1 cap1 msg a2 cap2 dst (z.tmod 6) w' (by omega) hc1 (by omega) hc2 hG (hb1.grow (hgw.trans (hp_below hC))) (hb2.grow (hgw.trans (hp_below hC)))) (fun w0 w1 v h0 hg hG1 hq => ?_)
  replace hgw := hgw.trans ((hp_below h0).trans hg)
  clear h0 hg hGF
  have hGF : BOk Gt (pl w1) := gt_low.plain hG1
  obtain rfl := hq.bad hbad
  have hgp : Grow w1 w1 := Grow.refl w1
  refine lx_move rfl rfl rfl ?_
  refine lx_ext rfl rfl rfl rfl ?_
  refine lx_ext rfl rfl rfl rfl ?_
  refine lx_assign rfl rfl rfl ?_
  refine lx_assign rfl rfl rfl ?_
  refine lx_nil ?_
  refine xs_plain (E := EE [12, 9, 13]) ?_
  refine lx_callH rfl rfl ent9 rfl rfl gt_low (good_hp hGF) (fun w' hC hG => newc w' hG) (fun w0 w1 v h0 hg hG1 hq => ?_)
  replace hgw := hgw.trans ((hp_below h0).trans hg)
  replace hgp := hgp.trans ((hp_below h0).trans hg)
  clear h0 hg hGF
  have hGF : BOk Gt (pl w1) := gt_low.plain hG1
  obtain ⟨bm, rfl, hom⟩ := hq
  refine lx_move rfl rfl rfl ?_
  refine lx_move rfl rfl rfl ?_
  refine lx_move rfl rfl rfl ?_
  refine lx_callH rfl rfl ent13 rfl rfl gt_low (good_hp hGF) (fun w' hC hG => rfields bm a1 cap1 msg a2 cap2 dst (z.tmod 6) w' hG (own_grow hom (hp_below hC)) (hb1.grow (hgw.trans (hp_below hC))) (hb2.grow (hgw.trans (hp_below hC)))) (fun w0 w1 v h0 hg hG1 hq => ?_)
  replace hgw := hgw.trans ((hp_below h0).trans hg)
  replace hgp := hgp.trans ((hp_below h0).trans hg)
  clear h0 hg hGF
  have hGF : BOk Gt (pl w1) := gt_low.plain hG1
  obtain rfl := hq.bad hbad
  refine lx_move rfl rfl rfl ?_
  refine lx_ext rfl rfl rfl rfl ?_
  refine lx_ext rfl rfl rfl rfl ?_
  refine lx_assign rfl rfl rfl ?_
  refine lx_assign rfl rfl rfl ?_
  refine lx_nil ?_
  refine x_seq ?_
  refine xs_plain (E := EE [12, 9, 13]) ?_
  refine lx_move rfl rfl rfl ?_
  refine lx_move rfl rfl rfl ?_
  refine lx_binB false rfl rfl (fun _ => rfl) (fun _ => bin_neq_i _ _ _) (rfl) rfl rfl ?_
  refine lx_move rfl rfl rfl ?_
  refine lx_move rfl rfl rfl ?_
  refine lx_len rfl (fun _ => len_slice Tryd.underlying35 _ _ _ _) rfl rfl ?_
  refine lx_move rfl rfl rfl ?_
  refine lx_len rfl (fun _ => len_slice Tryd.underlying38 _ _ _ _) rfl rfl ?_
  refine lx_binB false rfl rfl (fun _ => rfl) (fun _ => bin_neq_i _ _ _) (by simp) rfl rfl ?_
  refine lx_pick rfl rfl rfl rfl rfl ?_
  refine lx_nil ?_
  refine x_false rfl ?_
  refine x_skip ?_
  refine x_seq ?_
  refine xs_plain (E := EE [12, 9, 13]) ?_
  refine lx_assign rfl rfl rfl ?_
  refine lx_nil ?_
  refine x_block ?_
  refine x_for (ι := { k : Nat // k ≤ 0 }) (fun y => [(7, .slice none 0 0), (9, .slice none 0 0), (11, I (y.1 : Int))]) (fun y => []) (fun y => 0 - y.1) ⟨0, by omega⟩ hGF ⟨rfl, rfl, rfl, trivial⟩ trivial ?_
  rintro ⟨k, hk⟩
  dsimp only
  refine x_seq ?_
  refine xs_plain (E := EE [12, 9, 13]) ?_
  refine lx_move rfl rfl rfl ?_
  refine lx_move rfl rfl rfl ?_
  refine lx_len rfl (fun _ => len_slice Tryd.underlying35 _ _ _ _) rfl rfl ?_
  refine lx_bin rfl rfl (fun _ => rfl) (fun _ => bin_lss_i _ _ _) rfl rfl ?_
  refine lx_nil ?_
  refine x_false (congrArg some (congrArg Value.bool (decide_eq_false (by omega)))) ?_
  refine x_exit ?_
  refine xs_plain (E := EE [12, 9, 13]) ?_
  refine lx_assign rfl rfl rfl ?_
  refine lx_nil ?_
  refine x_ret ?_
  repeat (first | refine kseq_ret ?_ | refine kblk_ret ?_ | refine kng_ret ?_)
  exact kret_tmp rfl rfl (fun w hw => ⟨rfl, hgw.trans (hp_below hw)⟩)
theorem fd_hib (hK : ∀ w, Gt w → Calls Tryd.prog 6 [].toArray w (fun e w' => e = .returned (.bool true) ∧ Grow w w')) (hP : PFC) (a1 : Option Addr) (cap1 : Nat) (msg : List (BitVec 8)) (a2 : Option Addr) (cap2 : Nat) (dst : List (BitVec 8)) (z : Int) (hc1 : msg.length ≤ cap1) (hc2 : dst.length ≤ cap2) (h0 : ¬ 1000 < msg.length) (h1 : ¬ 600 < dst.length) (h2 : 32 < z) (hbad : FBad msg dst z) (w : World) (hw : Gt w) (hb1 : BytesAt w a1 msg) (hb2 : BytesAt w a2 dst) : Calls Tryd.prog 5 [.slice a1 msg.length cap1, .slice a2 dst.length cap2, I z].toArray w (fun e w' => e = .returned (.bool true) ∧ Grow w w') := by
  have hGF : BOk Gt (pl w) := gt_low.plain hw
  have hgw : Grow w w := Grow.refl w
  refine calls_of_X (G := Gt) Tryd.func5 rfl rfl (Hp (pl w) []) (hp_refl (pl w) trivial rides_true) (good_hp hGF) ?_
  refine xs_plain (E := EE [12, 9, 13]) ?_
  refine lx_assign rfl rfl rfl ?_
  refine lx_nil ?_
  refine x_seq ?_
  refine xs_plain (E := EE [12, 9, 13]) ?_
  refine lx_callC rfl rfl ent6 (fun w' hC hG => hK w' hG) rfl rfl ?_
  refine lx_un rfl (fun _ => un_not _) rfl rfl ?_
  refine lx_nil ?_
  refine x_false rfl ?_
  refine x_skip ?_
  refine x_seq ?_
  refine xs_plain (E := EE [12, 9, 13]) ?_
  refine lx_move rfl rfl rfl ?_
  refine lx_len rfl (fun _ => len_slice Tryd.underlying22 _ _ _ _) rfl rfl ?_
  refine lx_binB false rfl rfl (fun _ => rfl) (fun _ => bin_gtr_i _ _ _) (decide_eq_false (by omega)) rfl rfl ?_
  refine lx_move rfl rfl rfl ?_
  refine lx_move rfl rfl rfl ?_
  refine lx_len rfl (fun _ => len_slice Tryd.underlying22 _ _ _ _) rfl rfl ?_
  refine lx_binB false rfl rfl (fun _ => rfl) (fun _ => bin_gtr_i _ _ _) (decide_eq_false (by omega)) rfl rfl ?_
  refine lx_pick rfl rfl rfl rfl rfl ?_
  refine lx_nil ?_
  refine x_false rfl ?_
  refine x_skip ?_
  refine x_seq ?_
  refine xs_plain (E := EE [12, 9, 13]) ?_
  refine lx_move rfl rfl rfl ?_
  refine lx_binB true rfl rfl (fun _ => rfl) (fun _ => bin_gtr_i _ _ _) (decide_eq_true (by omega)) rfl rfl ?_
  refine lx_move rfl rfl rfl ?_
  refine lx_move rfl rfl rfl ?_
  refine lx_binB false rfl rfl (fun _ => rfl) (fun _ => bin_leq_i _ _ _) (decide_eq_false (by omega)) rfl rfl ?_
  refine lx_pick rfl rfl rfl rfl rfl ?_
  refine lx_nil ?_
  refine x_false rfl ?_
  refine x_skip ?_
  refine xs_plain (E := EE [12, 9, 13]) ?_
  refine lx_move rfl rfl rfl ?_
  refine lx_move rfl rfl rfl ?_
  refine lx_move rfl rfl rfl ?_
  refine lx_callH rfl rfl ent12 rfl rfl gt_low (good_hp hGF) (fun w' hC hG => hP a1 cap1 msg a2 cap2 dst z w' (by omega) hc1 (by omega) hc2 hG (hb1.grow (hgw.trans (hp_below hC))) (hb2.grow (hgw.trans (hp_below hC)))) (fun w0 w1 v h0 hg hG1 hq => ?_)
  replace hgw := hgw.trans ((hp_below h0).trans hg)
  clear h0 hg hGF
  have hGF : BOk Gt (pl w1) := gt_low.plain hG1
  obtain rfl := hq.bad hbad
  have hgp : Grow w1 w1 := Grow.refl w1
  refine lx_move rfl rfl rfl ?_
  refine lx_ext rfl rfl rfl rfl ?_
  refine lx_ext rfl rfl rfl rfl ?_
  refine lx_assign rfl rfl rfl ?_
  refine lx_assign rfl rfl rfl ?_
  refine lx_nil ?_
  refine xs_plain (E := EE [12, 9, 13]) ?_
  refine lx_callH rfl rfl ent9 rfl rfl gt_low (good_hp hGF) (fun w' hC hG => newc w' hG) (fun w0 w1 v h0 hg hG1 hq => ?_)
  replace hgw := hgw.trans ((hp_below h0).trans hg)
  replace hgp := hgp.trans ((hp_below h0).trans hg)
  clear h0 hg hGF
  have hGF : BOk Gt (pl w1) := gt_low.plain hG1
  obtain ⟨bm, rfl, hom⟩ := hq
  refine lx_move rfl rfl rfl ?_
  refine lx_move rfl rfl rfl ?_
  refine lx_move rfl rfl rfl ?_
  refine lx_callH rfl rfl ent13 rfl rfl gt_low (good_hp hGF) (fun w' hC hG => rfields bm a1 cap1 msg a2 cap2 dst z w' hG (own_grow hom (hp_below hC)) (hb1.grow (hgw.trans (hp_below hC))) (hb2.grow (hgw.trans (hp_below hC)))) (fun w0 w1 v h0 hg hG1 hq => ?_)
  replace hgw := hgw.trans ((hp_below h0).trans hg)
  replace hgp := hgp.trans ((hp_below h0).trans hg)
  clear h0 hg hGF
  have hGF : BOk Gt (pl w1) := gt_low.plain hG1
  obtain rfl := hq.bad hbad
  refine lx_move rfl rfl rfl ?_
  refine lx_ext rfl rfl rfl rfl ?_
  refine lx_ext rfl rfl rfl rfl ?_
  refine lx_assign rfl rfl rfl ?_
  refine lx_assign rfl rfl rfl ?_
  refine lx_nil ?_
  refine x_seq ?_
  refine xs_plain (E := EE [12, 9, 13]) ?_
  refine lx_move rfl rfl rfl ?_
  refine lx_move rfl rfl rfl ?_
  refine lx_binB false rfl rfl (fun _ => rfl) (fun _ => bin_neq_i _ _ _) (rfl) rfl rfl ?_
  refine lx_move rfl rfl rfl ?_
  refine lx_move rfl rfl rfl ?_
  refine lx_len rfl (fun _ => len_slice Tryd.underlying35 _ _ _ _) rfl rfl ?_
  refine lx_move rfl rfl rfl ?_
  refine lx_len rfl (fun _ => len_slice Tryd.underlying38 _ _ _ _) rfl rfl ?_
  refine lx_binB false rfl rfl (fun _ => rfl) (fun _ => bin_neq_i _ _ _) (by simp) rfl rfl ?_
  refine lx_pick rfl rfl rfl rfl rfl ?_
  refine lx_nil ?_
  refine x_false rfl ?_
  refine x_skip ?_
  refine x_seq ?_
  refine xs_plain (E := EE [12, 9, 13]) ?_
  refine lx_assign rfl rfl rfl ?_
  refine lx_nil ?_
  refine x_block ?_
  refine x_for (ι := { k : Nat // k ≤ 0 }) (fun y => [(7, .slice none 0 0), (9, .slice none 0 0), (11, I (y.1 : Int))]) (fun y => []) (fun y => 0 - y.1) ⟨0, by omega⟩ hGF ⟨rfl, rfl, rfl, trivial⟩ trivial ?_
  rintro ⟨k, hk⟩
  dsimp only
  refine x_seq ?_
  refine xs_plain (E := EE [12, 9, 13]) ?_
  refine lx_move rfl rfl rfl ?_
  refine lx_move rfl rfl rfl ?_
  refine lx_len rfl (fun _ => len_slice Tryd.underlying35 _ _ _ _) rfl rfl ?_
  refine lx_bin rfl rfl (fun _ => rfl) (fun _ => bin_lss_i _ _ _) rfl rfl ?_
  refine lx_nil ?_
  refine x_false (congrArg some (congrArg Value.bool (decide_eq_false (by omega)))) ?_
  refine x_exit ?_
  refine xs_plain (E := EE [12, 9, 13]) ?_
  refine lx_assign rfl rfl rfl ?_
  refine lx_nil ?_
  refine x_ret ?_
  repeat (first | refine kseq_ret ?_ | refine kblk_ret ?_ | refine kng_ret ?_)
  exact kret_tmp rfl rfl (fun w hw => ⟨rfl, hgw.trans (hp_below hw)⟩)
theorem fd_lob (hK : ∀ w, Gt w → Calls Tryd.prog 6 [].toArray w (fun e w' => e = .returned (.bool true) ∧ Grow w w')) (hP : PFC) (a1 : Option Addr) (cap1 : Nat) (msg : List (BitVec 8)) (a2 : Option Addr) (cap2 : Nat) (dst : List (BitVec 8)) (z : Int) (hc1 : msg.length ≤ cap1) (hc2 : dst.length ≤ cap2) (h0 : ¬ 1000 < msg.length) (h1 : ¬ 600 < dst.length) (h2 : ¬ 5 < z) (hbad : FBad msg dst z) (w : World) (hw : Gt w) (hb1 : BytesAt w a1 msg) (hb2 : BytesAt w a2 dst) : Calls Tryd.prog 5 [.slice a1 msg.length cap1, .slice a2 dst.length cap2, I z].toArray w (fun e w' => e = .returned (.bool true) ∧ Grow w w') := by
  have hGF : BOk Gt (pl w) := gt_low.plain hw
  have hgw : Grow w w := Grow.refl w
  refine calls_of_X (G := Gt) Tryd.func5 rfl rfl (Hp (pl w) []) (hp_refl (pl w) trivial rides_true) (good_hp hGF) ?_
  refine xs_plain (E := EE [12, 9, 13]) ?_
  refine lx_assign rfl rfl rfl ?_
  refine lx_nil ?_
  refine x_seq ?_
  refine xs_plain (E := EE [12, 9, 13]) ?_
  refine lx_callC rfl rfl ent6 (fun w' hC hG => hK w' hG) rfl rfl ?_
  refine lx_un rfl (fun _ => un_not _) rfl rfl ?_
  refine lx_nil ?_
  refine x_false rfl ?_
  refine x_skip ?_
  refine x_seq ?_
  refine xs_plain (E := EE [12, 9, 13]) ?_
  refine lx_move rfl rfl rfl ?_
  refine lx_len rfl (fun _ => len_slice Tryd.underlying22 _ _ _ _) rfl rfl ?_
  refine lx_binB false rfl rfl (fun _ => rfl) (fun _ => bin_gtr_i _ _ _) (decide_eq_false (by omega)) rfl rfl ?_
  refine lx_move rfl rfl rfl ?_
  refine lx_move rfl rfl rfl ?_
  refine lx_len rfl (fun _ => len_slice Tryd.underlying22 _ _ _ _) rfl rfl ?_
  refine lx_binB false rfl rfl (fun _ => rfl) (fun _ => bin_gtr_i _ _ _) (decide_eq_false (by omega)) rfl rfl ?_
  refine lx_pick rfl rfl rfl rfl rfl ?_
  refine lx_nil ?_
  refine x_false rfl ?_
  refine x_skip ?_
  refine x_seq ?_
  refine xs_plain (E := EE [12, 9, 13]) ?_
  refine lx_move rfl rfl rfl ?_
  refine lx_binB false rfl rfl (fun _ => rfl) (fun _ => bin_gtr_i _ _ _) (decide_eq_false (by omega)) rfl rfl ?_
  refine lx_move rfl rfl rfl ?_
  refine lx_skip rfl rfl rfl ?_
  refine lx_skip rfl rfl rfl ?_
  refine lx_pick rfl rfl rfl rfl rfl ?_
  refine lx_nil ?_
  refine x_false rfl ?_
  refine x_skip ?_
  refine xs_plain (E := EE [12, 9, 13]) ?_
  refine lx_move rfl rfl rfl ?_
  refine lx_move rfl rfl rfl ?_
  refine lx_move rfl rfl rfl ?_
  refine lx_callH rfl rfl ent12 rfl rfl gt_low (good_hp hGF) (fun w' hC hG => hP a1 cap1 msg a2 cap2 dst z w' (by omega) hc1 (by omega) hc2 hG (hb1.grow (hgw.trans (hp_below hC))) (hb2.grow (hgw.trans (hp_below hC)))) (fun w0 w1 v h0 hg hG1 hq => ?_)
  replace hgw := hgw.trans ((hp_below h0).trans hg)
  clear h0 hg hGF
  have hGF : BOk Gt (pl w1) := gt_low.plain hG1
  obtain rfl := hq.bad hbad
  have hgp : Grow w1 w1 := Grow.refl w1
  refine lx_move rfl rfl rfl ?_
  refine lx_ext rfl rfl rfl rfl ?_
  refine lx_ext rfl rfl rfl rfl ?_
  refine lx_assign rfl rfl rfl ?_
  refine lx_assign rfl rfl rfl ?_
  refine lx_nil ?_
  refine xs_plain (E := EE [12, 9, 13]) ?_
  refine lx_callH rfl rfl ent9 rfl rfl gt_low (good_hp hGF) (fun w' hC hG => newc w' hG) (fun w0 w1 v h0 hg hG1 hq => ?_)
  replace hgw := hgw.trans ((hp_below h0).trans hg)
  replace hgp := hgp.trans ((hp_below h0).trans hg)
  clear h0 hg hGF
  have hGF : BOk Gt (pl w1) := gt_low.plain hG1
  obtain ⟨bm, rfl, hom⟩ := hq
  refine lx_move rfl rfl rfl ?_
  refine lx_move rfl rfl rfl ?_
  refine lx_move rfl rfl rfl ?_
  refine lx_callH rfl rfl ent13 rfl rfl gt_low (good_hp hGF) (fun w' hC hG => rfields bm a1 cap1 msg a2 cap2 dst z w' hG (own_grow hom (hp_below hC)) (hb1.grow (hgw.trans (hp_below hC))) (hb2.grow (hgw.trans (hp_below hC)))) (fun w0 w1 v h0 hg hG1 hq => ?_)
  replace hgw := hgw.trans ((hp_below h0).trans hg)
  replace hgp := hgp.trans ((hp_below h0).trans hg)
  clear h0 hg hGF
  have hGF : BOk Gt (pl w1) := gt_low.plain hG1
  obtain rfl := hq.bad hbad
  refine lx_move rfl rfl rfl ?_
  refine lx_ext rfl rfl rfl rfl ?_
  refine lx_ext rfl rfl rfl rfl ?_
  refine lx_assign rfl rfl rfl ?_
  refine lx_assign rfl rfl rfl ?_
  refine lx_nil ?_
  refine x_seq ?_
  refine xs_plain (E := EE [12, 9, 13]) ?_
  refine lx_move rfl rfl rfl ?_
  refine lx_move rfl rfl rfl ?_
  refine lx_binB false rfl rfl (fun _ => rfl) (fun _ => bin_neq_i _ _ _) (rfl) rfl rfl ?_
  refine lx_move rfl rfl rfl ?_
  refine lx_move rfl rfl rfl ?_
  refine lx_len rfl (fun _ => len_slice Tryd.underlying35 _ _ _ _) rfl rfl ?_
  refine lx_move rfl rfl rfl ?_
  refine lx_len rfl (fun _ => len_slice Tryd.underlying38 _ _ _ _) rfl rfl ?_
  refine lx_binB false rfl rfl (fun _ => rfl) (fun _ => bin_neq_i _ _ _) (by simp) rfl rfl ?_
  refine lx_pick rfl rfl rfl rfl rfl ?_
  refine lx_nil ?_
  refine x_false rfl ?_
  refine x_skip ?_
  refine x_seq ?_
  refine xs_plain (E := EE [12, 9, 13]) ?_
  refine lx_assign rfl rfl rfl ?_
  refine lx_nil ?_
  refine x_block ?_
  refine x_for (ι := { k : Nat // k ≤ 0 }) (fun y => [(7, .slice none 0 0), (9, .slice none 0 0), (11, I (y.1 : Int))]) (fun y => []) (fun y => 0 - y.1) ⟨0, by omega⟩ hGF ⟨rfl, rfl, rfl, trivial⟩ trivial ?_
  rintro ⟨k, hk⟩
  dsimp only
  refine x_seq ?_
  refine xs_plain (E := EE [12, 9, 13]) ?_
  refine lx_move rfl rfl rfl ?_
  refine lx_move rfl rfl rfl ?_
  refine lx_len rfl (fun _ => len_slice Tryd.underlying35 _ _ _ _) rfl rfl ?_
  refine lx_bin rfl rfl (fun _ => rfl) (fun _ => bin_lss_i _ _ _) rfl rfl ?_
  refine lx_nil ?_
  refine x_false (congrArg some (congrArg Value.bool (decide_eq_false (by omega)))) ?_
  refine x_exit ?_
  refine xs_plain (E := EE [12, 9, 13]) ?_
  refine lx_assign rfl rfl rfl ?_
  refine lx_nil ?_
  refine x_ret ?_
  repeat (first | refine kseq_ret ?_ | refine kblk_ret ?_ | refine kng_ret ?_)
  exact kret_tmp rfl rfl (fun w hw => ⟨rfl, hgw.trans (hp_below hw)⟩)
theorem fd_ink (hK : ∀ w, Gt w → Calls Tryd.prog 6 [].toArray w (fun e w' => e = .returned (.bool true) ∧ Grow w w')) (hP : PFC) (a1 : Option Addr) (cap1 : Nat) (msg : List (BitVec 8)) (a2 : Option Addr) (cap2 : Nat) (dst : List (BitVec 8)) (z : Int) (hc1 : msg.length ≤ cap1) (hc2 : dst.length ≤ cap2) (h0 : ¬ 1000 < msg.length) (h1 : ¬ 600 < dst.length) (h2 : 5 < z) (h3 : z ≤ 32) (hbad : ¬ FBad msg dst (z.tmod 6)) (w : World) (hw : Gt w) (hb1 : BytesAt w a1 msg) (hb2 : BytesAt w a2 dst) : Calls Tryd.prog 5 [.slice a1 msg.length cap1, .slice a2 dst.length cap2, I z].toArray w (fun e w' => e = .returned (.bool true) ∧ Grow w w') := by
  have hGF : BOk Gt (pl w) := gt_low.plain hw
  have hgw : Grow w w := Grow.refl w
  have h5 : 0 ≤ z.tmod 6 := Int.tmod_nonneg _ (by omega)
  have h6 : z.tmod 6 < 6 := Int.tmod_lt_of_pos z (by decide)
  refine calls_of_X (G := Gt) Tryd.func5 rfl rfl (Hp (pl w) []) (hp_refl (pl w) trivial rides_true) (good_hp hGF) ?_
  refine xs_plain (E := EE [12, 9, 13]) ?_
  refine lx_assign rfl rfl rfl ?_
  refine lx_nil ?_
  refine x_seq ?_
  refine xs_plain (E := EE [12, 9, 13]) ?_
  refine lx_callC rfl rfl ent6 (fun w' hC hG => hK w' hG) rfl rfl ?_
  refine lx_un rfl (fun _ => un_not _) rfl rfl ?_
  refine lx_nil ?_
  refine x_false rfl ?_
  refine x_skip ?_
  refine x_seq ?_
  refine xs_plain (E := EE [12, 9, 13]) ?_
  refine lx_move rfl rfl rfl ?_
  refine lx_len rfl (fun _ => len_slice Tryd.underlying22 _ _ _ _) rfl rfl ?_
  refine lx_binB false rfl rfl (fun _ => rfl) (fun _ => bin_gtr_i _ _ _) (decide_eq_false (by omega)) rfl rfl ?_
  refine lx_move rfl rfl rfl ?_
  refine lx_move rfl rfl rfl ?_
  refine lx_len rfl (fun _ => len_slice Tryd.underlying22 _ _ _ _) rfl rfl ?_
  refine lx_binB false rfl rfl (fun _ => rfl) (fun _ => bin_gtr_i _ _ _) (decide_eq_false (by omega)) rfl rfl ?_
  refine lx_pick rfl rfl rfl rfl rfl ?_
  refine lx_nil ?_
  refine x_false rfl ?_
  refine x_skip ?_
  refine x_seq ?_
  refine xs_plain (E := EE [12, 9, 13]) ?_
  refine lx_move rfl rfl rfl ?_
  refine lx_binB true rfl rfl (fun _ => rfl) (fun _ => bin_gtr_i _ _ _) (decide_eq_true (by omega)) rfl rfl ?_
  refine lx_move rfl rfl rfl ?_
  refine lx_move rfl rfl rfl ?_
  refine lx_binB true rfl rfl (fun _ => rfl) (fun _ => bin_leq_i _ _ _) (decide_eq_true (by omega)) rfl rfl ?_
  refine lx_pick rfl rfl rfl rfl rfl ?_
  refine lx_nil ?_
  refine x_true rfl ?_
  refine x_plain (E := EE [12, 9, 13]) ?_
  refine lx_move rfl rfl rfl ?_
  refine lx_bin (v := I (z.tmod 6)) rfl rfl (fun _ => rfl) (fun _ => bin_rem_i _ _ _ (by decide)) rfl rfl ?_
  refine lx_assign rfl rfl rfl ?_
  refine lx_nil ?_
  refine xs_plain (E := EE [12, 9, 13]) ?_
  refine lx_move rfl rfl rfl ?_
  refine lx_move rfl rfl rfl ?_
  refine lx_move rfl rfl rfl ?_
  refine lx_callH rfl rfl ent12 rfl rfl gt_low (good_hp hGF) (fun w' hC hG => hP a1 cap1 msg a2 cap2 dst (z.tmod 6) w' (by omega) hc1 (by omega) hc2 hG (hb1.grow (hgw.trans (hp_below hC))) (hb2.grow (hgw.trans (hp_below hC)))) (fun w0 w1 v h0 hg hG1 hq => ?_)
  replace hgw := hgw.trans ((hp_below h0).trans hg)
  clear h0 hg hGF
  have hGF : BOk Gt (pl w1) := gt_low.plain hG1
  obtain ⟨x1, c1, rfl, hx1⟩ := hq.ok hbad
  have hgp : Grow w1 w1 := Grow.refl w1
  refine lx_move rfl rfl rfl ?_
  refine lx_ext rfl rfl rfl rfl ?_
  refine lx_ext rfl rfl rfl rfl ?_
  refine lx_assign rfl rfl rfl ?_
  refine lx_assign rfl rfl rfl ?_
  refine lx_nil ?_
  refine xs_plain (E := EE [12, 9, 13]) ?_
  refine lx_callH rfl rfl ent9 rfl rfl gt_low (good_hp hGF) (fun w' hC hG => newc w' hG) (fun w0 w1 v h0 hg hG1 hq => ?_)
  replace hgw := hgw.trans ((hp_below h0).trans hg)
  replace hgp := hgp.trans ((hp_below h0).trans hg)
  clear h0 hg hGF
  have hGF : BOk Gt (pl w1) := gt_low.plain hG1
  obtain ⟨bm, rfl, hom⟩ := hq
  refine lx_move rfl rfl rfl ?_
  refine lx_move rfl rfl rfl ?_
  refine lx_move rfl rfl rfl ?_
  refine lx_callH rfl rfl ent13 rfl rfl gt_low (good_hp hGF) (fun w' hC hG => rfields bm a1 cap1 msg a2 cap2 dst (z.tmod 6) w' hG (own_grow hom (hp_below hC)) (hb1.grow (hgw.trans (hp_below hC))) (hb2.grow (hgw.trans (hp_below hC)))) (fun w0 w1 v h0 hg hG1 hq => ?_)
  replace hgw := hgw.trans ((hp_below h0).trans hg)
  replace hgp := hgp.trans ((hp_below h0).trans hg)
  clear h0 hg hGF
  have hGF : BOk Gt (pl w1) := gt_low.plain hG1
  obtain ⟨x2, c2, rfl, hx2⟩ := hq.ok hbad
  refine lx_move rfl rfl rfl ?_
  refine lx_ext rfl rfl rfl rfl ?_
  refine lx_ext rfl rfl rfl rfl ?_
  refine lx_assign rfl rfl rfl ?_
  refine lx_assign rfl rfl rfl ?_
  refine lx_nil ?_
  refine x_seq ?_
  refine xs_plain (E := EE [12, 9, 13]) ?_
  refine lx_move rfl rfl rfl ?_
  refine lx_move rfl rfl rfl ?_
  refine lx_binB false rfl rfl (fun _ => rfl) (fun _ => bin_neq_i _ _ _) (rfl) rfl rfl ?_
  refine lx_move rfl rfl rfl ?_
  refine lx_move rfl rfl rfl ?_
  refine lx_len rfl (fun _ => len_slice Tryd.underlying35 _ _ _ _) rfl rfl ?_
  refine lx_move rfl rfl rfl ?_
  refine lx_len rfl (fun _ => len_slice Tryd.underlying38 _ _ _ _) rfl rfl ?_
  refine lx_binB false rfl rfl (fun _ => rfl) (fun _ => bin_neq_i _ _ _) (by simp) rfl rfl ?_
  refine lx_pick rfl rfl rfl rfl rfl ?_
  refine lx_nil ?_
  refine x_false rfl ?_
  refine x_skip ?_
  refine x_seq ?_
  refine xs_plain (E := EE [12, 9, 13]) ?_
  refine lx_assign rfl rfl rfl ?_
  refine lx_nil ?_
  refine x_block ?_
  refine x_for (ι := { k : Nat // k ≤ (z.tmod 6).toNat }) (fun y => [(7, .slice x1 (z.tmod 6).toNat c1), (9, .slice x2 (z.tmod 6).toNat c2), (11, I (y.1 : Int))]) (fun y => []) (fun y => (z.tmod 6).toNat - y.1) ⟨0, by omega⟩ hGF ⟨rfl, rfl, rfl, trivial⟩ trivial ?_
  rintro ⟨k, hk⟩
  dsimp only
  refine x_seq ?_
  refine xs_plain (E := EE [12, 9, 13]) ?_
  refine lx_move rfl rfl rfl ?_
  refine lx_move rfl rfl rfl ?_
  refine lx_len rfl (fun _ => len_slice Tryd.underlying35 _ _ _ _) rfl rfl ?_
  refine lx_bin rfl rfl (fun _ => rfl) (fun _ => bin_lss_i _ _ _) rfl rfl ?_
  refine lx_nil ?_
  refine x_if rfl (fun hc => ?_) (fun hc => ?_)
  · have hlt : k < (z.tmod 6).toNat := by simp at hc; omega
    clear hc
    obtain ⟨b1, rfl, hr1⟩ := hx1.resolve_left (by omega)
    obtain ⟨b2, rfl, hr2⟩ := hx2.resolve_left (by omega)
    refine x_skip ?_
    refine x_seq ?_
    refine x_block ?_
    refine xs_drawn (E := EE [12, 9, 13]) mixed (by kernel_rfl) (by kernel_rfl) (by kernel_rfl) ?_
    refine lx_move rfl rfl rfl ?_
    refine lx_move rfl rfl rfl ?_
    refine lx_isW (s := 12) k rfl rfl Tryd.underlying35 Tryd.sizeOf52 (by omega) (by omega) rfl rfl ?_
    refine lx_loadr (cs := (N2r (E msg dst (128 * (z.tmod 6).toNat)) k).map U64) rfl Tryd.isAgg52 Tryd.sizeOf52 (by simp) (fun w' h => range_row (range_grow hr1 (hgp.trans (hp_below h))) (by omega) (N2r_len _ _)) rfl rfl ?_
    refine lx_call rfl rfl ent14 (ref13 (N2 (E msg dst (128 * (z.tmod 6).toNat)) k)) rfl rfl ?_
    refine lx_move rfl rfl rfl ?_
    refine lx_move rfl rfl rfl ?_
    refine lx_isW (s := 12) k rfl rfl Tryd.underlying38 Tryd.sizeOf47 (by omega) (by omega) rfl rfl ?_
    refine lx_loadr (cs := (N2r (E msg dst (128 * (z.tmod 6).toNat)) k).map U64) rfl Tryd.isAgg47 Tryd.sizeOf47 (by simp) (fun w' h => range_row (range_grow hr2 (hp_below h)) (by omega) (N2r_len _ _)) rfl rfl ?_
    refine lx_binB false rfl rfl (fun _ => eqg47 _ _ _ _ _ _) (fun w => nev47 _ _ (by simp) (by simp) w) (by rw [N2r, decide_eq_true rfl]; rfl) rfl rfl ?_
    refine lx_nil ?_
    refine x_false rfl ?_
    refine x_skip ?_
    refine x_plain (E := EE [12, 9, 13]) ?_
    refine lx_move rfl rfl rfl ?_
    refine lx_bin (v := I ((k + 1 : Nat) : Int)) rfl rfl (fun _ => rfl) (fun _ => (bin_add_i _ _ _ (by unfold inI; omega)).trans (by rfl)) rfl rfl ?_
    refine lx_assign rfl rfl rfl ?_
    refine lx_nil ?_
    repeat (first | refine kblk_n ?_ | refine kblk_x ?_)
    refine kseq_n ?_
    exact ⟨rfl, ⟨k + 1, by omega⟩, _, by show (z.tmod 6).toNat - (k + 1) < (z.tmod 6).toNat - k; omega, rfl, ⟨rfl, rfl, rfl, trivial⟩, trivial⟩
  · clear hc
    refine x_exit ?_
    refine xs_plain (E := EE [12, 9, 13]) ?_
    refine lx_assign rfl rfl rfl ?_
    refine lx_nil ?_
    refine x_ret ?_
    repeat (first | refine kseq_ret ?_ | refine kblk_ret ?_ | refine kng_ret ?_)
    exact kret_tmp rfl rfl (fun w hw => ⟨rfl, hgw.trans (hp_below hw)⟩)
theorem fd_lok (hK : ∀ w, Gt w → Calls Tryd.prog 6 [].toArray w (fun e w' => e = .returned (.bool true) ∧ Grow w w')) (hP : PFC) (a1 : Option Addr) (cap1 : Nat) (msg : List (BitVec 8)) (a2 : Option Addr) (cap2 : Nat) (dst : List (BitVec 8)) (z : Int) (hc1 : msg.length ≤ cap1) (hc2 : dst.length ≤ cap2) (h0 : ¬ 1000 < msg.length) (h1 : ¬ 600 < dst.length) (h2 : ¬ 5 < z) (hbad : ¬ FBad msg dst z) (w : World) (hw : Gt w) (hb1 : BytesAt w a1 msg) (hb2 : BytesAt w a2 dst) : Calls Tryd.prog 5 [.slice a1 msg.length cap1, .slice a2 dst.length cap2, I z].toArray w (fun e w' => e = .returned (.bool true) ∧ Grow w w') := by
  have hGF : BOk Gt (pl w) := gt_low.plain hw
  have hgw : Grow w w := Grow.refl w
  refine calls_of_X (G := Gt) Tryd.func5 rfl rfl (Hp (pl w) []) (hp_refl (pl w) trivial rides_true) (good_hp hGF) ?_
  refine xs_plain (E := EE [12, 9, 13]) ?_
  refine lx_assign rfl rfl rfl ?_
  refine lx_nil ?_
  refine x_seq ?_
  refine xs_plain (E := EE [12, 9, 13]) ?_
  refine lx_callC rfl rfl ent6 (fun w' hC hG => hK w' hG) rfl rfl ?_
  refine lx_un rfl (fun _ => un_not _) rfl rfl ?_
  refine lx_nil ?_
  refine x_false rfl ?_
  refine x_skip ?_
  refine x_seq ?_
  refine xs_plain (E := EE [12, 9, 13]) ?_
  refine lx_move rfl rfl rfl ?_
  refine lx_len rfl (fun _ => len_slice Tryd.underlying22 _ _ _ _) rfl rfl ?_
  refine lx_binB false rfl rfl (fun _ => rfl) (fun _ => bin_gtr_i _ _ _) (decide_eq_false (by omega)) rfl rfl ?_
  refine lx_move rfl rfl rfl ?_
  refine lx_move rfl rfl rfl ?_
  refine lx_len rfl (fun _ => len_slice Tryd.underlying22 _ _ _ _) rfl rfl ?_
  refine lx_binB false rfl rfl (fun _ => rfl) (fun _ => bin_gtr_i _ _ _) (decide_eq_false (by omega)) rfl rfl ?_
  refine lx_pick rfl rfl rfl rfl rfl ?_
  refine lx_nil ?_
  refine x_false rfl ?_
  refine x_skip ?_
  refine x_seq ?_
  refine xs_plain (E := EE [12, 9, 13]) ?_
  refine lx_move rfl rfl rfl ?_
  refine lx_binB false rfl rfl (fun _ => rfl) (fun _ => bin_gtr_i _ _ _) (decide_eq_false (by omega)) rfl rfl ?_
  refine lx_move rfl rfl rfl ?_
  refine lx_skip rfl rfl rfl ?_
  refine lx_skip rfl rfl rfl ?_
  refine lx_pick rfl rfl rfl rfl rfl ?_
  refine lx_nil ?_
  refine x_false rfl ?_
  refine x_skip ?_
  refine xs_plain (E := EE [12, 9, 13]) ?_
  refine lx_move rfl rfl rfl ?_
  refine lx_move rfl rfl rfl ?_
  refine lx_move rfl rfl rfl ?_
  refine lx_callH rfl rfl ent12 rfl rfl gt_low (good_hp hGF) (fun w' hC hG => hP a1 cap1 msg a2 cap2 dst z w' (by omega) hc1 (by omega) hc2 hG (hb1.grow (hgw.trans (hp_below hC))) (hb2.grow (hgw.trans (hp_below hC)))) (fun w0 w1 v h0 hg hG1 hq => ?_)
  replace hgw := hgw.trans ((hp_below h0).trans hg)
  clear h0 hg hGF
  have hGF : BOk Gt (pl w1) := gt_low.plain hG1
  obtain ⟨x1, c1, rfl, hx1⟩ := hq.ok hbad
  have hgp : Grow w1 w1 := Grow.refl w1
  refine lx_move rfl rfl rfl ?_
  refine lx_ext rfl rfl rfl rfl ?_
  refine lx_ext rfl rfl rfl rfl ?_
  refine lx_assign rfl rfl rfl ?_
  refine lx_assign rfl rfl rfl ?_
  refine lx_nil ?_
  refine xs_plain (E := EE [12, 9, 13]) ?_
  refine lx_callH rfl rfl ent9 rfl rfl gt_low (good_hp hGF) (fun w' hC hG => newc w' hG) (fun w0 w1 v h0 hg hG1 hq => ?_)
  replace hgw := hgw.trans ((hp_below h0).trans hg)
  replace hgp := hgp.trans ((hp_below h0).trans hg)
  clear h0 hg hGF
  have hGF : BOk Gt (pl w1) := gt_low.plain hG1
  obtain ⟨bm, rfl, hom⟩ := hq
  refine lx_move rfl rfl rfl ?_
  refine lx_move rfl rfl rfl ?_
  refine lx_move rfl rfl rfl ?_
  refine lx_callH rfl rfl ent13 rfl rfl gt_low (good_hp hGF) (fun w' hC hG => rfields bm a1 cap1 msg a2 cap2 dst z w' hG (own_grow hom (hp_below hC)) (hb1.grow (hgw.trans (hp_below hC))) (hb2.grow (hgw.trans (hp_below hC)))) (fun w0 w1 v h0 hg hG1 hq => ?_)
  replace hgw := hgw.trans ((hp_below h0).trans hg)
  replace hgp := hgp.trans ((hp_below h0).trans hg)
  clear h0 hg hGF
  have hGF : BOk Gt (pl w1) := gt_low.plain hG1
  obtain ⟨x2, c2, rfl, hx2⟩ := hq.ok hbad
  refine lx_move rfl rfl rfl ?_
  refine lx_ext rfl rfl rfl rfl ?_
  refine lx_ext rfl rfl rfl rfl ?_
  refine lx_assign rfl rfl rfl ?_
  refine lx_assign rfl rfl rfl ?_
  refine lx_nil ?_
  refine x_seq ?_
  refine xs_plain (E := EE [12, 9, 13]) ?_
  refine lx_move rfl rfl rfl ?_
  refine lx_move rfl rfl rfl ?_
  refine lx_binB false rfl rfl (fun _ => rfl) (fun _ => bin_neq_i _ _ _) (rfl) rfl rfl ?_
  refine lx_move rfl rfl rfl ?_
  refine lx_move rfl rfl rfl ?_
  refine lx_len rfl (fun _ => len_slice Tryd.underlying35 _ _ _ _) rfl rfl ?_
  refine lx_move rfl rfl rfl ?_
  refine lx_len rfl (fun _ => len_slice Tryd.underlying38 _ _ _ _) rfl rfl ?_
  refine lx_binB false rfl rfl (fun _ => rfl) (fun _ => bin_neq_i _ _ _) (by simp) rfl rfl ?_
  refine lx_pick rfl rfl rfl rfl rfl ?_
  refine lx_nil ?_
  refine x_false rfl ?_
  refine x_skip ?_
  refine x_seq ?_
  refine xs_plain (E := EE [12, 9, 13]) ?_
  refine lx_assign rfl rfl rfl ?_
  refine lx_nil ?_
  refine x_block ?_
  refine x_for (ι := { k : Nat // k ≤ z.toNat }) (fun y => [(7, .slice x1 z.toNat c1), (9, .slice x2 z.toNat c2), (11, I (y.1 : Int))]) (fun y => []) (fun y => z.toNat - y.1) ⟨0, by omega⟩ hGF ⟨rfl, rfl, rfl, trivial⟩ trivial ?_
  rintro ⟨k, hk⟩
  dsimp only
  refine x_seq ?_
  refine xs_plain (E := EE [12, 9, 13]) ?_
  refine lx_move rfl rfl rfl ?_
  refine lx_move rfl rfl rfl ?_
  refine lx_len rfl (fun _ => len_slice Tryd.underlying35 _ _ _ _) rfl rfl ?_
  refine lx_bin rfl rfl (fun _ => rfl) (fun _ => bin_lss_i _ _ _) rfl rfl ?_
  refine lx_nil ?_
  refine x_if rfl (fun hc => ?_) (fun hc => ?_)
  · have hlt : k < z.toNat := by simp at hc; omega
    clear hc
    obtain ⟨b1, rfl, hr1⟩ := hx1.resolve_left (by omega)
    obtain ⟨b2, rfl, hr2⟩ := hx2.resolve_left (by omega)
    refine x_skip ?_
    refine x_seq ?_
    refine x_block ?_
    refine xs_drawn (E := EE [12, 9, 13]) mixed (by kernel_rfl) (by kernel_rfl) (by kernel_rfl) ?_
    refine lx_move rfl rfl rfl ?_
    refine lx_move rfl rfl rfl ?_
    refine lx_isW (s := 12) k rfl rfl Tryd.underlying35 Tryd.sizeOf52 (by omega) (by omega) rfl rfl ?_
    refine lx_loadr (cs := (N2r (E msg dst (128 * z.toNat)) k).map U64) rfl Tryd.isAgg52 Tryd.sizeOf52 (by simp) (fun w' h => range_row (range_grow hr1 (hgp.trans (hp_below h))) (by omega) (N2r_len _ _)) rfl rfl ?_
    refine lx_call rfl rfl ent14 (ref13 (N2 (E msg dst (128 * z.toNat)) k)) rfl rfl ?_
    refine lx_move rfl rfl rfl ?_
    refine lx_move rfl rfl rfl ?_
    refine lx_isW (s := 12) k rfl rfl Tryd.underlying38 Tryd.sizeOf47 (by omega) (by omega) rfl rfl ?_
    refine lx_loadr (cs := (N2r (E msg dst (128 * z.toNat)) k).map U64) rfl Tryd.isAgg47 Tryd.sizeOf47 (by simp) (fun w' h => range_row (range_grow hr2 (hp_below h)) (by omega) (N2r_len _ _)) rfl rfl ?_
    refine lx_binB false rfl rfl (fun _ => eqg47 _ _ _ _ _ _) (fun w => nev47 _ _ (by simp) (by simp) w) (by rw [N2r, decide_eq_true rfl]; rfl) rfl rfl ?_
    refine lx_nil ?_
    refine x_false rfl ?_
    refine x_skip ?_
    refine x_plain (E := EE [12, 9, 13]) ?_
    refine lx_move rfl rfl rfl ?_
    refine lx_bin (v := I ((k + 1 : Nat) : Int)) rfl rfl (fun _ => rfl) (fun _ => (bin_add_i _ _ _ (by unfold inI; omega)).trans (by rfl)) rfl rfl ?_
    refine lx_assign rfl rfl rfl ?_
    refine lx_nil ?_
    repeat (first | refine kblk_n ?_ | refine kblk_x ?_)
    refine kseq_n ?_
    exact ⟨rfl, ⟨k + 1, by omega⟩, _, by show z.toNat - (k + 1) < z.toNat - k; omega, rfl, ⟨rfl, rfl, rfl, trivial⟩, trivial⟩
  · clear hc
    refine x_exit ?_
    refine xs_plain (E := EE [12, 9, 13]) ?_
    refine lx_assign rfl rfl rfl ?_
    refine lx_nil ?_
    refine x_ret ?_
    repeat (first | refine kseq_ret ?_ | refine kblk_ret ?_ | refine kng_ret ?_)
    exact kret_tmp rfl rfl (fun w hw => ⟨rfl, hgw.trans (hp_below hw)⟩)
end Xm
end Go.Proofs.YtlimfhjjadbjgaaDoor
