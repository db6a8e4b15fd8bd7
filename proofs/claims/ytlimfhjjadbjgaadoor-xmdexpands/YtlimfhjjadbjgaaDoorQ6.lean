/-
  The law XmdLengths.
  The chapter's examples.
  The three laws.
-/
import Derived.Test.YtlimfhjjadbjgaaDoorQ4
import Derived.Test.YtlimfhjjadbjgaaDoorQ5
import Derived.Test.YtlimfhjjadbjgaaDoorX3
namespace Go.Proofs.YtlimfhjjadbjgaaDoor
open Go.RowKit
set_option maxRecDepth 100000
set_option maxHeartbeats 1000000

namespace Xm
attribute [local simp] Sh.SHA_len B0_len F_len R_len Xk_len O_len Sh.MK_len D_len

theorem plc_n (z m : Int) (hm : 0 < m) (hm2 : m < 1000) (h5 : -m < z.tmod m) (h : z.tmod m < 0) : Pure Tryd.prog Gt 11 [I z, I m] (I (z.tmod m + m)) := by
  intro w hw
  have hGF : BOk Gt (pl w) := gt_low.plain hw
  refine calls_of_X (G := Gt) Tryd.func11 rfl rfl (Hp (pl w) []) (hp_refl (pl w) trivial rides_true) (good_hp hGF) ?_
  refine xs_plain (E := EE []) ?_
  refine lx_assign rfl rfl rfl ?_
  refine lx_nil ?_
  refine xs_plain (E := EE []) ?_
  refine lx_move rfl rfl rfl ?_
  refine lx_move rfl rfl rfl ?_
  refine lx_bin (v := I (z.tmod m)) rfl rfl (fun _ => rfl) (fun _ => bin_rem_i _ _ _ (by omega)) rfl rfl ?_
  refine lx_assign rfl rfl rfl ?_
  refine lx_nil ?_
  refine x_seq ?_
  refine xs_plain (E := EE []) ?_
  refine lx_move rfl rfl rfl ?_
  refine lx_binB true rfl rfl (fun _ => rfl) (fun _ => bin_lss_i _ _ _) (decide_eq_true (by omega)) rfl rfl ?_
  refine lx_nil ?_
  refine x_true rfl ?_
  refine x_plain (E := EE []) ?_
  refine lx_move rfl rfl rfl ?_
  refine lx_move rfl rfl rfl ?_
  refine lx_bin (v := I (z.tmod m + m)) rfl rfl (fun _ => rfl) (fun _ => bin_add_i _ _ _ (by unfold inI; omega)) rfl rfl ?_
  refine lx_assign rfl rfl rfl ?_
  refine lx_nil ?_
  refine xs_plain (E := EE []) ?_
  refine lx_move rfl rfl rfl ?_
  refine lx_assign rfl rfl rfl ?_
  refine lx_nil ?_
  refine x_ret ?_
  repeat (first | refine kseq_ret ?_ | refine kblk_ret ?_)
  exact kret_tmp rfl rfl (fun w hw => ⟨rfl, hp_below hw⟩)
theorem plc_p (z m : Int) (hm : 0 < m) (h : ¬ z.tmod m < 0) : Pure Tryd.prog Gt 11 [I z, I m] (I (z.tmod m)) := by
  intro w hw
  have hGF : BOk Gt (pl w) := gt_low.plain hw
  refine calls_of_X (G := Gt) Tryd.func11 rfl rfl (Hp (pl w) []) (hp_refl (pl w) trivial rides_true) (good_hp hGF) ?_
  refine xs_plain (E := EE []) ?_
  refine lx_assign rfl rfl rfl ?_
  refine lx_nil ?_
  refine xs_plain (E := EE []) ?_
  refine lx_move rfl rfl rfl ?_
  refine lx_move rfl rfl rfl ?_
  refine lx_bin (v := I (z.tmod m)) rfl rfl (fun _ => rfl) (fun _ => bin_rem_i _ _ _ (by omega)) rfl rfl ?_
  refine lx_assign rfl rfl rfl ?_
  refine lx_nil ?_
  refine x_seq ?_
  refine xs_plain (E := EE []) ?_
  refine lx_move rfl rfl rfl ?_
  refine lx_binB false rfl rfl (fun _ => rfl) (fun _ => bin_lss_i _ _ _) (decide_eq_false (by omega)) rfl rfl ?_
  refine lx_nil ?_
  refine x_false rfl ?_
  refine x_skip ?_
  refine xs_plain (E := EE []) ?_
  refine lx_move rfl rfl rfl ?_
  refine lx_assign rfl rfl rfl ?_
  refine lx_nil ?_
  refine x_ret ?_
  repeat (first | refine kseq_ret ?_ | refine kblk_ret ?_)
  exact kret_tmp rfl rfl (fun w hw => ⟨rfl, hp_below hw⟩)
theorem place (z : Int) (m : Nat) (hm : 0 < m) (hm2 : m < 1000) : ∃ p : Nat, p < m ∧ Pure Tryd.prog Gt 11 [I z, I (m : Int)] (I (p : Int)) := by
  have h2 := Int.tmod_lt_of_pos z (b := (m : Int)) (by omega)
  have h3 : -(m : Int) < z.tmod m := by
    rcases Int.le_total 0 z with hz | hz
    · have := Int.tmod_nonneg (m : Int) hz
      omega
    · have e := Int.neg_tmod z m
      have := Int.tmod_lt_of_pos (-z) (b := (m : Int)) (by omega)
      omega
  by_cases h : z.tmod m < 0
  · refine ⟨(z.tmod m + m).toNat, by omega, ?_⟩
    rw [Int.toNat_of_nonneg (by omega)]
    exact plc_n z m (by omega) (by omega) h3 h
  · refine ⟨(z.tmod m).toNat, by omega, ?_⟩
    rw [Int.toNat_of_nonneg (by omega)]
    exact plc_p z m (by omega) h
theorem made (k : Nat) : (madeCells (Value.int .u8 0).cells (k * 1)).toList = (List.replicate k 0#8).map U8 := by
  refine List.ext_getElem? fun i => ?_
  rw [Nat.mul_one, madeCells, Array.toList_map, List.getElem?_map, List.getElem?_map, Array.toList_range]
  by_cases h : i < k
  · rw [List.getElem?_range h, List.getElem?_replicate, if_pos h]
    show some ((Value.int .u8 0).cells[i % 1]!) = _
    rw [Nat.mod_one]; rfl
  · rw [List.getElem?_eq_none (by rw [List.length_range]; omega), List.getElem?_replicate, if_neg h]; rfl
theorem len1 {a1 a2 : Option Addr} {cap1 cap2 k : Nat} {msg : List (BitVec 8)} {z : Int} {w : World} (_ : PXC) (dst : List (BitVec 8)) (hk : dst.length = k) (h : Calls Tryd.prog 7 [.slice a1 msg.length cap1, .slice a2 dst.length cap2, I z].toArray w (fun e w' => ∃ v, e = .returned v ∧ Grow w w' ∧ RT msg dst z w' v)) : Calls Tryd.prog 7 [.slice a1 msg.length cap1, .slice a2 k cap2, I z].toArray w (fun e w' => ∃ v, e = .returned v ∧ Grow w w' ∧ RT msg dst z w' v) := by subst hk; exact h
theorem len2 {a1 a2 : Option Addr} {cap1 cap2 k : Nat} {dst : List (BitVec 8)} {z : Int} {w : World} (_ : PXC) (msg : List (BitVec 8)) (hk : msg.length = k) (h : Calls Tryd.prog 7 [.slice a1 msg.length cap1, .slice a2 dst.length cap2, I z].toArray w (fun e w' => ∃ v, e = .returned v ∧ Grow w w' ∧ RT msg dst z w' v)) : Calls Tryd.prog 7 [.slice a1 k cap1, .slice a2 dst.length cap2, I z].toArray w (fun e w' => ∃ v, e = .returned v ∧ Grow w w' ∧ RT msg dst z w' v) := by subst hk; exact h
end Xm
end Go.Proofs.YtlimfhjjadbjgaaDoor

namespace Go.Proofs.YtlimfhjjadbjgaaDoor
open Go.RowKit
set_option maxRecDepth 100000
set_option maxHeartbeats 1000000
attribute [local simp] fe_len nm_len AS_len SS_len MONT_len RM_len FRs_len BYs_len by48_len PLl TWOl ONEl N1l IVPl HFPl RTPl List.length_append WDs_len RW_len

namespace Xm
attribute [local simp] Sh.SHA_len B0_len F_len R_len Xk_len O_len Sh.MK_len D_len
attribute [local simp] N2r_len

def ABC : List (BitVec 8) := [97#8, 98#8, 99#8]
def QUX : List (BitVec 8) := [81#8, 85#8, 85#8, 88#8, 45#8, 86#8, 48#8, 49#8, 45#8, 67#8, 83#8, 48#8, 50#8, 45#8, 119#8, 105#8, 116#8, 104#8, 45#8, 101#8, 120#8, 112#8, 97#8, 110#8, 100#8, 101#8, 114#8, 45#8, 83#8, 72#8, 65#8, 50#8, 53#8, 54#8, 45#8, 49#8, 50#8, 56#8]
def EB1 : List (BitVec 8) := [216#8, 204#8, 171#8, 35#8, 181#8, 152#8, 92#8, 206#8, 168#8, 101#8, 198#8, 201#8, 123#8, 110#8, 91#8, 131#8, 80#8, 231#8, 148#8, 230#8, 3#8, 180#8, 185#8, 121#8, 2#8, 245#8, 58#8, 138#8, 13#8, 96#8, 86#8, 21#8]
def EB2 : List (BitVec 8) := [84#8, 155#8, 204#8, 5#8, 134#8, 138#8, 21#8, 250#8, 182#8, 39#8, 195#8, 71#8, 167#8, 132#8, 112#8, 111#8, 239#8, 208#8, 215#8, 36#8, 232#8, 187#8, 8#8, 216#8, 160#8, 223#8, 79#8, 96#8, 18#8, 200#8, 166#8, 70#8, 79#8, 88#8, 27#8, 239#8, 115#8, 9#8, 48#8, 38#8, 11#8, 197#8, 51#8, 66#8, 60#8, 32#8, 13#8, 16#8, 91#8, 156#8, 137#8, 158#8, 69#8, 210#8, 26#8, 193#8, 245#8, 68#8, 81#8, 125#8, 139#8, 250#8, 255#8, 215#8, 250#8, 229#8, 233#8, 24#8, 54#8, 148#8, 152#8, 223#8, 30#8, 1#8, 100#8, 200#8, 114#8, 83#8, 154#8, 138#8, 227#8, 241#8, 220#8, 218#8, 171#8, 83#8, 25#8, 99#8, 207#8, 161#8, 104#8, 180#8, 82#8, 49#8, 73#8, 206#8, 27#8, 109#8, 168#8, 84#8, 215#8, 160#8, 56#8, 204#8, 166#8, 253#8, 137#8, 138#8, 184#8, 44#8, 17#8, 226#8, 136#8, 16#8, 50#8, 80#8, 174#8, 212#8, 90#8, 248#8, 122#8, 238#8, 164#8, 192#8, 242#8, 24#8, 205#8, 224#8, 139#8, 5#8, 155#8, 208#8, 207#8, 36#8, 206#8, 61#8, 223#8, 153#8, 101#8, 159#8, 198#8, 185#8, 119#8, 126#8, 43#8, 167#8, 52#8, 212#8, 114#8, 240#8, 237#8, 36#8, 134#8, 0#8, 35#8, 163#8, 179#8, 110#8, 202#8, 117#8, 215#8, 62#8, 110#8, 32#8, 188#8, 160#8, 80#8, 5#8, 110#8, 100#8, 60#8, 18#8, 29#8, 251#8, 84#8, 232#8, 58#8, 22#8, 98#8, 172#8, 240#8, 65#8, 77#8, 160#8, 78#8, 52#8, 139#8, 86#8, 63#8, 184#8, 13#8, 21#8, 190#8, 80#8, 174#8, 110#8, 201#8, 189#8, 176#8, 231#8, 26#8, 39#8, 119#8, 250#8, 148#8, 85#8, 26#8, 175#8, 111#8, 141#8, 24#8, 52#8, 94#8, 215#8, 117#8, 30#8, 161#8, 118#8, 39#8, 65#8, 85#8, 195#8, 35#8, 169#8, 174#8, 106#8, 99#8, 172#8, 136#8, 9#8, 100#8, 19#8, 116#8, 203#8, 166#8, 216#8, 50#8, 88#8, 161#8, 71#8, 62#8, 95#8, 156#8, 182#8, 128#8, 56#8, 125#8, 113#8, 61#8, 61#8, 4#8, 141#8, 163#8, 130#8, 60#8, 55#8]
theorem kE1 : E ABC QUX 32 = EB1 := by kernel_rfl
theorem kE2 : E ABC [] 256 = EB2 := by kernel_rfl
theorem kne : (N2 EB2 0).1 ≠ (N2 EB2 1).1 := by decide +kernel
theorem e2ne (x y : W2) (h : ¬ x.1 = y.1) : Pure Tryd.prog Gt 15 [EV2 x, EV2 y] (.bool false) := by
  intro w hw
  have hGF : BOk Gt (pl w) := gt_low.plain hw
  refine calls_of_X (G := Gt) Tryd.func15 rfl rfl (Hp (pl w) []) (hp_refl (pl w) trivial rides_true) (good_hp hGF) ?_
  refine xs_plain (E := EE []) ?_
  refine lx_boxr 2 hGF rfl rfl rfl ?_
  intro b2
  refine lx_boxr 3 hGF rfl rfl rfl ?_
  intro b3
  refine lx_assign rfl rfl rfl ?_
  refine lx_nil ?_
  refine xs_plain (E := EE []) ?_
  refine lx_fak 0 rfl Tryd.underlying52 rfl Tryd.sizeOf50 (by decide) rfl rfl rfl ?_
  refine lx_loado 2 _ rfl rfl Tryd.isAgg50 Tryd.sizeOf50 (by simp) ld_l rfl rfl ?_
  refine lx_fak 0 rfl Tryd.underlying52 rfl Tryd.sizeOf50 (by decide) rfl rfl rfl ?_
  refine lx_loado 3 _ rfl rfl Tryd.isAgg50 Tryd.sizeOf50 (by simp) ld_l rfl rfl ?_
  refine lx_callB false rfl rfl ent26 (fequal_pure x.1 y.1) (decide_eq_false h) rfl rfl ?_
  refine lx_move rfl rfl rfl ?_
  refine lx_skip rfl rfl rfl ?_
  refine lx_skip rfl rfl rfl ?_
  refine lx_skip rfl rfl rfl ?_
  refine lx_skip rfl rfl rfl ?_
  refine lx_skip rfl rfl rfl ?_
  refine lx_pick rfl rfl rfl rfl rfl ?_
  refine lx_assign rfl rfl rfl ?_
  refine lx_nil ?_
  refine x_ret ?_
  repeat (first | refine kseq_ret ?_ | refine kblk_ret ?_)
  exact kret_tmp rfl rfl (fun w hw => ⟨rfl, hp_below hw⟩)
theorem knownX (hP : PXC) (hF : PFC) (w : World) (hw : Gt w) : Calls Tryd.prog 6 [].toArray w (fun e w' => e = .returned (.bool true) ∧ Grow w w') := by
  have hGF : BOk Gt (pl w) := gt_low.plain hw
  have hgw : Grow w w := Grow.refl w
  refine calls_of_X (G := Gt) Tryd.func6 rfl rfl (Hp (pl w) []) (hp_refl (pl w) trivial rides_true) (good_hp hGF) ?_
  refine xs_plain (E := EE [7, 12, 1000022]) ?_
  refine lx_assign rfl rfl rfl ?_
  refine lx_nil ?_
  refine xs_plain (E := EE [7, 12, 1000022]) ?_
  refine lx_bsl 8 ABC hGF rfl rfl rfl (by decide) (by decide) Tryd.underlying22 Tryd.sizeOf5 Tryd.zeroValue5 rfl rfl ?_
  intro b8
  refine lx_cvs 8 rfl hGF rfl rfl Tryd.underlying22 Tryd.underlying5 rfl rfl ?_
  refine lx_bsl 10 QUX hGF rfl rfl rfl (by decide) (by decide) Tryd.underlying22 Tryd.sizeOf5 Tryd.zeroValue5 rfl rfl ?_
  intro b10
  refine lx_cvs 10 rfl hGF rfl rfl Tryd.underlying22 Tryd.underlying5 rfl rfl ?_
  refine lx_callH rfl rfl ent7 rfl rfl gt_low (good_hp hGF) (fun w' hC hG => hP _ 3 ABC _ 38 QUX 32 w' (by decide) (by decide) (by decide) (by decide) hG (BytesAt.range (hp_row (n := 8) rfl w' hC)) (BytesAt.range (hp_row (n := 10) rfl w' hC))) (fun w0 w1 v h0 hg hG1 hq => ?_)
  replace hgw := hgw.trans ((hp_below h0).trans hg)
  clear h0 hg hGF
  have hGF : BOk Gt (pl w1) := gt_low.plain hG1
  obtain ⟨x1, c1, rfl, hx1, _⟩ := hq.ok (by rintro (h | h | h | h) <;> revert h <;> decide)
  rw [show (32 : Int).toNat = 32 from rfl, kE1] at *
  have hgp : Grow w1 w1 := Grow.refl w1
  refine lx_move rfl rfl rfl ?_
  refine lx_ext rfl rfl rfl rfl ?_
  refine lx_ext rfl rfl rfl rfl ?_
  refine lx_assign rfl rfl rfl ?_
  refine lx_assign rfl rfl rfl ?_
  refine lx_nil ?_
  refine xs_plain (E := EE [7, 12, 1000022]) ?_
  refine lx_callH rfl rfl ent7 rfl rfl gt_low (good_hp hGF) (fun w' hC hG => hP none 0 [] none 0 [] 8161 w' (by decide) (by decide) (by decide) (by decide) hG (fun j v hv => by simp at hv) (fun j v hv => by simp at hv)) (fun w0 w1 v h0 hg hG1 hq => ?_)
  replace hgw := hgw.trans ((hp_below h0).trans hg)
  replace hgp := hgp.trans ((hp_below h0).trans hg)
  clear h0 hg hGF
  have hGF : BOk Gt (pl w1) := gt_low.plain hG1
  obtain rfl := hq.bad (.inr (.inl (by decide)))
  refine lx_move rfl rfl rfl ?_
  refine lx_ext rfl rfl rfl rfl ?_
  refine lx_ext rfl rfl rfl rfl ?_
  refine lx_assign rfl rfl rfl ?_
  refine lx_assign rfl rfl rfl ?_
  refine lx_nil ?_
  refine xs_plain (E := EE [7, 12, 1000022]) ?_
  refine lx_bsl 20 ABC hGF rfl rfl rfl (by decide) (by decide) Tryd.underlying22 Tryd.sizeOf5 Tryd.zeroValue5 rfl rfl ?_
  intro b20
  refine lx_cvs 20 rfl hGF rfl rfl Tryd.underlying22 Tryd.underlying5 rfl rfl ?_
  refine lx_callH rfl rfl ent12 rfl rfl gt_low (good_hp hGF) (fun w' hC hG => hF _ 3 ABC none 0 [] 2 w' (by decide) (by decide) (by decide) (by decide) hG (BytesAt.range (hp_row (n := 20) rfl w' hC)) (fun j v hv => by simp at hv)) (fun w0 w1 v h0 hg hG1 hq => ?_)
  replace hgw := hgw.trans ((hp_below h0).trans hg)
  replace hgp := hgp.trans ((hp_below h0).trans hg)
  clear h0 hg hGF
  have hGF : BOk Gt (pl w1) := gt_low.plain hG1
  obtain ⟨x2, c2, rfl, hx2⟩ := hq.ok (by rintro (h | h | h | h) <;> revert h <;> decide)
  rw [show (2 : Int).toNat = 2 from rfl, show 128 * 2 = 256 from rfl, kE2] at *
  obtain ⟨b2, rfl, hr2⟩ := hx2.resolve_left (by decide)
  obtain ⟨ad, rfl, _⟩ := hx1 0 _ (gm U8 EB1 0 0 (by decide))
  refine lx_move rfl rfl rfl ?_
  refine lx_ext rfl rfl rfl rfl ?_
  refine lx_ext rfl rfl rfl rfl ?_
  refine lx_assign rfl rfl rfl ?_
  refine lx_assign rfl rfl rfl ?_
  refine lx_nil ?_
  refine xs_drawn (E := EE [7, 12, 1000022]) mixed (by kernel_rfl) (by kernel_rfl) (by kernel_rfl) ?_
  refine lx_move rfl rfl rfl ?_
  refine lx_binB true rfl rfl (fun _ => rfl) (fun _ => bin_eql_i _ _ _) (rfl) rfl rfl ?_
  refine lx_move rfl rfl rfl ?_
  refine lx_move rfl rfl rfl ?_
  refine lx_len rfl (fun _ => len_slice Tryd.underlying22 _ _ _ _) rfl rfl ?_
  refine lx_binB true rfl rfl (fun _ => rfl) (fun _ => bin_eql_i _ _ _) (rfl) rfl rfl ?_
  refine lx_pick rfl rfl rfl rfl rfl ?_
  refine lx_move rfl rfl rfl ?_
  refine lx_move rfl rfl rfl ?_
  refine lx_isA 0 rfl rfl Tryd.underlying22 Tryd.sizeOf5 rfl (by decide) rfl rfl ?_
  refine lx_load (v := U8 (EB1.getD 0 0)) rfl Tryd.isAgg5 (fun w' h => by obtain ⟨ad', e', hc'⟩ := (hx1.grow (hgp.trans (hp_below h))) 0 _ (gm U8 EB1 0 0 (by decide)); cases e'; exact hc') rfl rfl ?_
  refine lx_binB true rfl rfl (fun _ => rfl) (fun _ => bin_eql_u8 _ _ _) (rfl) rfl rfl ?_
  refine lx_pick rfl rfl rfl rfl rfl ?_
  refine lx_move rfl rfl rfl ?_
  refine lx_move rfl rfl rfl ?_
  refine lx_isA 1 rfl rfl Tryd.underlying22 Tryd.sizeOf5 rfl (by decide) rfl rfl ?_
  refine lx_load (v := U8 (EB1.getD 1 0)) rfl Tryd.isAgg5 (fun w' h => by obtain ⟨ad', e', hc'⟩ := (hx1.grow (hgp.trans (hp_below h))) 1 _ (gm U8 EB1 0 1 (by decide)); cases e'; exact hc') rfl rfl ?_
  refine lx_binB true rfl rfl (fun _ => rfl) (fun _ => bin_eql_u8 _ _ _) (rfl) rfl rfl ?_
  refine lx_pick rfl rfl rfl rfl rfl ?_
  refine lx_move rfl rfl rfl ?_
  refine lx_move rfl rfl rfl ?_
  refine lx_isA 31 rfl rfl Tryd.underlying22 Tryd.sizeOf5 rfl (by decide) rfl rfl ?_
  refine lx_load (v := U8 (EB1.getD 31 0)) rfl Tryd.isAgg5 (fun w' h => by obtain ⟨ad', e', hc'⟩ := (hx1.grow (hgp.trans (hp_below h))) 31 _ (gm U8 EB1 0 31 (by decide)); cases e'; exact hc') rfl rfl ?_
  refine lx_binB true rfl rfl (fun _ => rfl) (fun _ => bin_eql_u8 _ _ _) (rfl) rfl rfl ?_
  refine lx_pick rfl rfl rfl rfl rfl ?_
  refine lx_move rfl rfl rfl ?_
  refine lx_move rfl rfl rfl ?_
  refine lx_binB true rfl rfl (fun _ => rfl) (fun _ => bin_eql_i _ _ _) (rfl) rfl rfl ?_
  refine lx_pick rfl rfl rfl rfl rfl ?_
  refine lx_move rfl rfl rfl ?_
  refine lx_move rfl rfl rfl ?_
  refine lx_binB true rfl rfl (fun _ => rfl) (fun _ => bin_eql_i _ _ _) (rfl) rfl rfl ?_
  refine lx_pick rfl rfl rfl rfl rfl ?_
  refine lx_move rfl rfl rfl ?_
  refine lx_move rfl rfl rfl ?_
  refine lx_len rfl (fun _ => len_slice Tryd.underlying35 _ _ _ _) rfl rfl ?_
  refine lx_binB true rfl rfl (fun _ => rfl) (fun _ => bin_eql_i _ _ _) (rfl) rfl rfl ?_
  refine lx_pick rfl rfl rfl rfl rfl ?_
  refine lx_move rfl rfl rfl ?_
  refine lx_move rfl rfl rfl ?_
  refine lx_isW (s := 12) 0 rfl rfl Tryd.underlying35 Tryd.sizeOf52 (by decide) (by decide) rfl rfl ?_
  refine lx_loadr (cs := (N2r EB2 0).map U64) rfl Tryd.isAgg52 Tryd.sizeOf52 (by simp) (fun w' h => range_row (range_grow hr2 (hp_below h)) (by decide) (N2r_len _ _)) rfl rfl ?_
  refine lx_move rfl rfl rfl ?_
  refine lx_isW (s := 12) 1 rfl rfl Tryd.underlying35 Tryd.sizeOf52 (by decide) (by decide) rfl rfl ?_
  refine lx_loadr (cs := (N2r EB2 1).map U64) rfl Tryd.isAgg52 Tryd.sizeOf52 (by simp) (fun w' h => range_row (range_grow hr2 (hp_below h)) (by decide) (N2r_len _ _)) rfl rfl ?_
  refine lx_call rfl rfl ent15 (e2ne (N2 EB2 0) (N2 EB2 1) kne) rfl rfl ?_
  refine lx_un rfl (fun _ => un_not _) rfl rfl ?_
  refine lx_pick rfl rfl rfl rfl rfl ?_
  refine lx_assign rfl rfl rfl ?_
  refine lx_nil ?_
  refine x_ret ?_
  repeat (first | refine kseq_ret ?_ | refine kblk_ret ?_)
  exact kret_tmp rfl rfl (fun w hw => ⟨rfl, hgw.trans (hp_below hw)⟩)
end Xm
end Go.Proofs.YtlimfhjjadbjgaaDoor

namespace Go.Proofs.YtlimfhjjadbjgaaDoor
open Go.RowKit
set_option maxRecDepth 100000
set_option maxHeartbeats 1000000

namespace Xm
attribute [local simp] Sh.SHA_len B0_len F_len R_len Xk_len O_len Sh.MK_len D_len

theorem ex_law (hP : PXC) (hF : PFC) (a1 : Option Addr) (cap1 : Nat) (msg : List (BitVec 8)) (a2 : Option Addr) (cap2 : Nat) (dst : List (BitVec 8)) (z : Int) (hc1 : msg.length ≤ cap1) (hc2 : dst.length ≤ cap2) (w : World) (hw : Gt w) (hb1 : BytesAt w a1 msg) (hb2 : BytesAt w a2 dst) : Calls Tryd.prog 3 [.slice a1 msg.length cap1, .slice a2 dst.length cap2, I z].toArray w (fun e w' => e = .returned (.bool true) ∧ Grow w w') := by
  have hK := knownX hP hF
  by_cases h0 : 2000 < msg.length
  · exact ex_b0 hK a1 cap1 msg a2 cap2 dst z h0 w hw
  by_cases h1 : 600 < dst.length
  · exact ex_b1 hK a1 cap1 msg a2 cap2 dst z h0 h1 w hw
  by_cases h2 : 600 < z
  · by_cases h3 : z ≤ 8160
    · by_cases hbad : Bad msg dst (z.tmod 600 + 1)
      · exact ex_inb hK hP a1 cap1 msg a2 cap2 dst z hc1 hc2 h0 h1 h2 h3 hbad w hw hb1 hb2
      · exact ex_ink hK hP a1 cap1 msg a2 cap2 dst z hc1 hc2 h0 h1 h2 h3 hbad w hw hb1 hb2
    · exact ex_hib hK hP a1 cap1 msg a2 cap2 dst z hc1 hc2 h0 h1 (by omega) (.inr (.inl (by omega))) w hw hb1 hb2
  · by_cases hbad : Bad msg dst z
    · exact ex_lob hK hP a1 cap1 msg a2 cap2 dst z hc1 hc2 h0 h1 h2 hbad w hw hb1 hb2
    · exact ex_lok hK hP a1 cap1 msg a2 cap2 dst z hc1 hc2 h0 h1 h2 hbad w hw hb1 hb2
end Xm
end Go.Proofs.YtlimfhjjadbjgaaDoor
